import PyProof.Rows.All
import Wide.All
import OpenK.AllK
import Wide.FinOn
import Lean
import PyProof.EqAt
import PyProof.EqKinds
import PyProof.TupleCall
import PyProof.ListStr
import PyProof.TupleOfStr
import PyProof.ConsumeWalk
import PyProof.SliceStr2
import PyProof.CompUse
import PyProof.Rows.SetFrom
import PyProof.SetRoads
import PyProof.StrLawsIn
import PyProof.Rows.StrIndexOr
import PyProof.Rows.StrJoin2
import PyProof.Rows.SumAny
import PyProof.WalkInts
import PyProof.SeqI3
import PyProof.Draws
import PyProof.ZipIter
import PyProof.EnumMake
import Wide.Txt2
import PyProof.Rows.SortWalk
import PyProof.ListRange
import PyProof.Rows.Range3
import KE.KStateDown
import PyProof.ReprRoads
import PyProof.CallFns
import KE.KTryDeep
import PyProof.ExcBaseAll.ValueError
import KE.KTryMore
import KE.KIsNot
import PyProof.ExcAttrAll.ValueError
import PyProof.NsDelKeeps
import PySem.SetOps
import PyProof.SetScanFacts
import PyProof.Walks
import PyProof.CollectWalk
import KE.KRevIter
import PyProof.CollectIter
import PyProof.WalksS
import PyProof.DictItems
import KE.KPairComp
import PyProof.WalksMore
import PySem.Challenge.RW_nearreach_k45_whole_enough_and_least
set_option bootstrap.genMatcherCode false
set_option genSizeOf false
noncomputable section
set_option Elab.async false
set_option linter.all false
set_option maxRecDepth 100000
set_option maxHeartbeats 4000000
section
open PySem PySem.W PyProof.Rows
theorem K45.said:PySem.Challenge.rw_nearreach_k45_whole_enough_and_least.wellSaid=true:=by kernel_rfl
def K45.hq:Program:=view PySem.Challenge.pw_nearreach_k45_whole_enough_and_least [PySem.Challenge.pw_nearreach_k45_whole_enough_and_least.main.body.length - 1]
def K45.hl:List Str:=PySem.Challenge.pw_nearreach_k45_whole_enough_and_least.boundNames
local macro_rules | `(tactic| o_head $H) => `(tactic| refine PySem.W.holds_open (q:=K45.hq) (loose:=K45.hl) (Xt:=fun _=>true) (XP:=fun _ _=>True) (Yf:=Hook.obs $H) (Ya:=Hook.val $H) (YP:=Hook.says $H) (N:=20000) ?hl (Hook.of $H) (Hook.keeps $H) (fun _ _=>trivial) (fun _ _ _ _ _=>trivial) (by rfl) (by rfl) (by rfl) (fun _ _=>recFacts_nil rfl) (by rfl) (by assumption) (by decide +kernel) ⟨rfl,rfl,rfl,rfl,rfl,by decide +kernel⟩ ?hw ?hc)
set_option maxRecDepth 100000 in
set_option maxHeartbeats 0 in
theorem K45.A (hyp:∀ p:Prop,p):PySem.Challenge.rw_nearreach_k45_whole_enough_and_least.Holds:=by
 w_on;refine holds_law K45.said fun said=>?_;k_head
 all_goals exact hyp _
set_option maxRecDepth 100000 in
set_option maxHeartbeats 0 in
theorem K45.hlok:LeftO PySem.Challenge.rw_nearreach_k45_whole_enough_and_least.row.prog K45.hq K45.hl (fun _=>true) (Hook.obs (kHook K45.A.heap_1 [2,3,15,17,18,20,21,22,24,25,27,28,29,36,37,38,39,42,49,50,51,54,57,58,59,61,62,64,65,66,68,69,71,72,73,75,76,78,79,80,83,84,85,87,88,90,91,92,95,96,97,100,101,102,105,106,107,110,111,112,115,116,117,119,120,122,123,124,127,128,129,132,133,134,136,137,139,140,141,143,144,146,147,148,150,151,153,154,155,158,159,160,163,164,165,168,169,170,172,173,175,176,177,180,181,182,185,186,187,189,190,192,193,194,196,197,199,200,201,204,205,206,208,209,211,212,213,215,216,218,219,220,222,223,225,226,227,230,231,232,235,236,237,239,240,242,243,244,246,247,249,250,251,254,255,256,258,259,261,262,263,266,267,268,270,271,273,274,275,278,279] (fun _=>by kernel_rfl))) (Hook.val (kHook K45.A.heap_1 [2,3,15,17,18,20,21,22,24,25,27,28,29,36,37,38,39,42,49,50,51,54,57,58,59,61,62,64,65,66,68,69,71,72,73,75,76,78,79,80,83,84,85,87,88,90,91,92,95,96,97,100,101,102,105,106,107,110,111,112,115,116,117,119,120,122,123,124,127,128,129,132,133,134,136,137,139,140,141,143,144,146,147,148,150,151,153,154,155,158,159,160,163,164,165,168,169,170,172,173,175,176,177,180,181,182,185,186,187,189,190,192,193,194,196,197,199,200,201,204,205,206,208,209,211,212,213,215,216,218,219,220,222,223,225,226,227,230,231,232,235,236,237,239,240,242,243,244,246,247,249,250,251,254,255,256,258,259,261,262,263,266,267,268,270,271,273,274,275,278,279] (fun _=>by kernel_rfl))) 20000:=by
 intro w
 kernel_rfl
end
abbrev Fg:=PySem.W.Frag
def ag:=@List.getElem?_eq_getElem
def ah:=@List.getElem?_eq_some_iff
def ai:=@PySem.wpAny_bind
def ar:=@PySem.Heap.get?_push_of_some
def av:=@List.mem_singleton
def aw:=@List.length_append
def ax:=@List.length_map
def ay:=@Nat.le_refl
def aE:=@List.getElem?_map
def aI:=@List.mem_cons_of_mem
def aJ:=@PySem.wpAny_pure
def aK:=@decide_eq_true
def aL:=@List.getElem?_append_left
def aM:=@List.length_singleton
def aN:=@Eq.trans
def aO:=@PySem.Heap.get?_push_size
def aP:=@List.mem_cons
def aQ:=@congrArg
def aR:=@List.getElem?_append_right
def aS:=@Option.map_eq_some_iff
def aT:=@List.mem_cons_self
def aU:=@if_pos
def aV:=@List.size_toArray
def aW:=@List.mem_of_getElem?
def aX:=@PySem.Heap.lt_size
def aY:=@List.mem_range
def aZ:=@decide_eq_false
def b6:=@List.length_range
def b9:=@List.mem_append
def ba:=@Bool.and_eq_true
def bb:=@List.mem_append_right
def bg:=@List.map_cons
def bp:=@List.not_mem_nil
def bq:=@List.mem_map
def bA:=@if_neg
def bB:=@List.length_cons
def bC:=@Nat.lt_of_lt_of_le
def bD:=@List.any_eq_true
def bE:=@List.map_append
def bF:=@of_decide_eq_true
def bG:=@Array.length_toList
def bH:=@List.pairwise_iff_getElem
def bI:=@List.all_eq_true
def bJ:=@Bool.false_ne_true
def bK:=@List.mem_filter
def bL:=@List.getElem_mem
def bM:=@PySem.W.mg_none_of
def bN:=@List.mem_append_left
def bO:=@PySem.wpAny_mono
def bP:=@List.take_of_length_le
def bQ:=@List.getElem?_range
def bR:=@List.getElem?_of_mem
def bS:=@Option.some.inj
def bT:=@Nat.ne_of_lt
def bU:=@Nat.zero_le
def bV:=@List.map_map
def bW:=@Classical.byContradiction
def bX:=@List.append_nil
def bY:=@List.length_take
def bZ:=@List.nodup_append
def cb:=@PySem.Heap.size_push
def cc:=@List.getElem?_zip_eq_some
def cn:=@PySem.wpAny_call_entry
def cp:=@PyProof.Rows.callWith_type1
def cq:=@PyProof.Rows.slot_tuple_getitem
def cy:=@List.nil_append
def cA:=@List.getElem?_eq_none
def cB:=@PySem.wpAny_callSpecial?_slot
def cC:=@Nat.not_lt_zero
def cD:=@Array.getElem?_eq_getElem
def cE:=@Nat.mul_le_mul_right
def cF:=@List.drop_eq_nil_of_le
def cG:=@Bool.false_eq_true
def cH:=@or_false
def cI:=@beq_eq_false_iff_ne
def cJ:=@PySem.W.kia_one
def cK:=@PySem.mem_of_lookup
def cL:=@Int.eq_ofNat_of_zero_le
def cM:=@Nat.le_trans
def cN:=@List.nodup_cons
def cO:=@Nat.lt_irrefl
def cQ:=@List.take_append_of_le_length
def cR:=@List.replicate_succ
def cS:=@List.map_congr_left
def cT:=@PySem.wpAny_truthy_bool
def cU:=@PySem.wpAny_newObj_type
def cV:=@List.append_assoc
def cW:=@List.find?_cons
def cX:=@List.find?_eq_none
def cY:=@List.take_length_add_append
def cZ:=@List.length_drop
def d0:=@Option.getD_some
def da:=@List.getElem?_set_self
def de:=@List.filterMap_cons
def dv:=@PySem.Heap.SameBut.update
def dA:=@PySem.wpAny_setState_of
def dB:=@PySem.wpAny_standAt
def dC:=@List.drop_eq_getElem_cons
def dD:=@PySem.Heap.get?_update_self
def dE:=@Nat.succ_pos
def dF:=@Nat.zero_add
def dG:=@PySem.wpAny_Call_Name_kw
def dH:=@List.reverse_reverse
def dI:=@PySem.wpAny_holding
def dJ:=@List.getElem?_replicate
def dM:=@List.map_nil
def dN:=@Int.toNat_natCast
def dO:=@List.flatten_cons
def dP:=@Nat.le_of_lt_succ
def dQ:=@if_true
def dR:=@PySem.Heap.get?_update_other
def dS:=@PySem.F.slot_tuple_iterator_next
def dU:=@beq_self_eq_true
def dW:=@Int.emod_lt_of_pos
def dX:=@decide_eq_true_iff
def dY:=@PySem.wpAny_field
def dZ:=@List.getElem?_set_ne
def e8:=@PySem.wpAny_passesOwn
def e9:=@List.length_nil
def eA:=@not_true_eq_false
def eB:=@Nat.lt_trichotomy
def eC:=@Nat.lt_succ_of_lt
def eD:=@List.find?_range_eq_some
def eE:=@List.reverse_cons
def eF:=@List.getElem?_cons_zero
def eG:=@List.getElem_of_mem
def eI:=@Nat.add_sub_cancel_left
def eJ:=@List.length_reverse
def eK:=@PySem.Calls.callWith_builtin
def eO:=@PySem.tupleKind_room_in1
def eP:=@PySem.wpAny_setField_rec
def eQ:=@List.map_singleton
def eR:=@Nat.le_of_lt
def eS:=@PySem.sizeLine_eq
def eT:=@List.length_replicate
def eU:=@Int.emod_nonneg
def eV:=@if_false
def eX:=@List.all_cons
def eY:=@List.any_cons
def eZ:=@Bool.true_and
def ff:=@List.mem_of_mem_take
def fg:=@PySem.Heap.get?_push_cases
def fh:=@List.mem_iff_getElem
def fk:=@PySem.wpAny_seqItems
def fm:=@List.mem_of_find?_eq_some
def fq:=@Nat.le_of_not_lt
def fv:=@PySem.wpAny_askSetting
def fz:=@List.filter_cons
def fA:=@PySem.wpAny_of_eq
def fB:=@PySem.wpAny_rule
def fD:=@List.length_eq_zero_iff
def fE:=@List.getElem?_take
def fF:=@PySem.F.called_enumerate
def fG:=@PySem.wpAny_pyIter_rangeiter
def fH:=@Nat.lt_of_succ_lt_succ
def fI:=@Ne.symm
def fJ:=@PySem.wpAny_pyIter_list
def fK:=@Nat.le_succ
def fL:=@PySem.wpAny_pyIter_enum
def fM:=@Option.some.injEq
def fN:=@Nat.mod_lt
def fO:=@List.ext_getElem?
def fP:=@List.nodup_nil
def fQ:=@PySem.codeAny_mono
def fR:=@PySem.F.slot_dict_get
def fS:=@List.all_map
def fT:=@Array.mem_iff_getElem
def fU:=@PySem.F.slot_range_reversed
def fV:=@List.ext_getElem
def fW:=@Nat.lt_succ_self
def fX:=@PySem.Calls.evalArgs_plain
def fY:=@List.pairwise_append
def fZ:=@Array.getElem_toList
def g7:=@PySem.Around.under_plainId
def g9:=@List.mem_of_mem_drop
def gc:=@Bool.false_or
def gi:=@PySem.F.args_tuple_iterator_next_1
def gu:=@PySem.call_meets
def gy:=@Sum.inl.inj
def gz:=@PySem.wpAny_execs_nil
def gA:=@List.foldl_cons
def gB:=@List.range_succ
def gC:=@Nat.min_eq_left
def gD:=@PySem.F.entry_tuple_iterator_next
def gE:=@PySem.F.slot_zip_next
def gF:=@List.length_zip
def gG:=@PyProof.Rows.boot_enumerate
def gH:=@PySem.codeAny_of_tree
def gI:=@PySem.codeAny_builtin
def gJ:=@List.length_pos_iff
def gK:=@Int.fdiv_eq_ediv_of_nonneg
def gL:=@Array.getElem?_eq_some_iff
def gM:=@List.mem_filterMap
def gN:=@PySem.Calls.spliced_cons
def gO:=@PySem.wpAny_typeOf
def gP:=@List.getElem?_drop
def gQ:=@Nat.lt_or_gt_of_ne
def gR:=@List.any_map
def gS:=@PySem.W.sortI_perm
def gT:=@List.pairwise_cons
def gU:=@Nat.pow_succ
def gW:=@Nat.lt_or_eq_of_le
def gX:=@List.zip_cons_cons
def gY:=@Bool.and_false
def gZ:=@Option.isNone_iff_eq_none
def hG:=@PySem.isSubtype_type
def hJ:=@List.any_eq_false
def hR:=@PySem.W.kitx_dict
def hU:=@PySem.Calls.spliced_nil
def hV:=@Option.isSome_iff_exists
def hX:=@List.take_sublist
def hZ:=@PySem.F.args_tuple_add_2
def i3:=@Option.isSome_map
def i5:=@beq_iff_eq
def i6:=@PySem.StrLaws.found_one
def i7:=@List.filterMap_cons_none
def i8:=@List.filterMap_cons_some
def i9:=@Array.getElem_mem
def ia:=@PySem.Paired.length
def ic:=@PySem.F.entry_tuple_add
def ij:=@PySem.F.args_dict_get_2
def ip:=@PySem.F.plainAttrs_dict
def iq:=@PySem.wpAny_onRaise
def iA:=@PySem.wpAny_attempt
def iB:=@Nat.add_assoc
def iC:=@PySem.F.slot_dict_items
def iD:=@Nat.add_mul
def iE:=@Nat.le_mul_of_pos_right
def iF:=@PySem.noFill_tuple_add
def iG:=@Option.getD_none
def iH:=@List.lookup_cons
def iI:=@PySem.Around.in1_units
def iJ:=@List.mem_reverse
def iK:=@Nat.ne_of_gt
def iL:=@List.of_mem_zip
def iM:=@PySem.seqIndex_neg
def iN:=@List.length_set
def iO:=@Nat.add_comm
def iP:=@PySem.wpAny_specialOf
def iQ:=@Bool.or_eq_true
def iR:=@Nat.succ.inj
def iS:=@Option.map_some
def iT:=@List.find?_some
def iU:=@Bool.eq_iff_iff
def iV:=@PySem.typeIs_str
def iW:=@List.take_succ
def iX:=@List.take_take
def iY:=@PySem.seqIndex_of
def iZ:=@Nat.mod_mul
def j3:=@List.map_id
def ja:=@Bool.and_true
def jv:=@PySem.W.mg_of
open PySem PySem.Spec
namespace L2
open PyProof.Rows
abbrev Key:=Sum Int Str
def a6k:Key->Value->Bool
 |.inl k,v=>Value.isInt k v
 |.inr x,v=>Value.isStrOf x v
def b55(w:World):Key->Int
 |.inl k=>hashInt k
 |.inr x=>hashStr w x
theorem qb:∀{k:Key} {v:Value},a6k k v=true->(∃i t,k=Sum.inl i/\v=Value.int i t)\/(∃x t,k=Sum.inr x/\v=Value.str x t)
 |.inl i,v,h=>by
  obtain⟨t,e⟩:=Value.isInt_shape (k:=i) (v:=v) h;exact .inl ⟨i,t,rfl,e⟩
 |.inr x,v,h=>by
  obtain⟨t,e⟩:=Value.isStrOf_shape (x:=x) (v:=v) h;exact .inr ⟨x,t,rfl,e⟩
theorem ahc(i:Int)(t:Tok):a6k (.inl i) (.int i t)=true:=by simp[a6k,Value.isInt]
theorem ahd(x:Str)(t:Tok):a6k (.inr x) (.str x t)=true:=by simp[a6k,Value.isStrOf]
theorem awt(a b:Int):decide ((Sum.inl a:Key)=Sum.inl b)=(a == b):=by
 by_cases e:a=b
 .subst e;simp
 .have h:¬ (Sum.inl a:Key)=Sum.inl b:=λq=>e (gy q);rw[aZ h];exact(cI.mpr e).symm
theorem awu(a b:Str):decide ((Sum.inr a:Key)=Sum.inr b)=decide (a=b):=by
 by_cases e:a=b
 .subst e;simp
 .have h:¬ (Sum.inr a:Key)=Sum.inr b:=λq=>e (Sum.inr.inj q);rw[aZ h,aZ e]
theorem awv(a:Int)(b:Str):decide ((Sum.inl a:Key)=Sum.inr b)=false:=aZ (λq=>nomatch q)
theorem aww(a:Str)(b:Int):decide ((Sum.inr a:Key)=Sum.inl b)=false:=aZ (λq=>nomatch q)
noncomputable def kh(prog:Program)(w:World):PySem.KeyKind prog w Key where
 is:=a6k
 hash:=b55 w
 inj:=λv a b ha hb=>by
  rcases qb ha with⟨i,t,rfl,rfl⟩|⟨x,t,rfl,rfl⟩
  .rcases qb hb with⟨j,u,rfl,e⟩|⟨y,u,rfl,e⟩
   .injection e with e1 _;rw[e1]
   .exact nomatch e
  .rcases qb hb with⟨j,u,rfl,e⟩|⟨y,u,rfl,e⟩
   .exact nomatch e
   .injection e with e1 _;rw[e1]
 byValue:=λk v h=>by
  rcases qb h with⟨i,t,rfl,rfl⟩|⟨x,t,rfl,rfl⟩<;>rfl
 pyHash:=λhv h=>by
  rcases qb hv with⟨i,t,rfl,rfl⟩|⟨x,t,rfl,rfl⟩
  .exact wpAny_pyHash_int h
  .exact wpAny_pyHash_str h
 eqBool:=λhu hv h=>by
  rcases qb hu with⟨i,t,rfl,rfl⟩|⟨x,t,rfl,rfl⟩
  .rcases qb hv with⟨j,u,rfl,rfl⟩|⟨y,u,rfl,rfl⟩
   .rw[awt]at h;exact wpAny_eqBool_int h
   .rw[awv]at h;exact SeqAt.EqAt.int_str i t y u _ _ _ _ h
  .rcases qb hv with⟨j,u,rfl,rfl⟩|⟨y,u,rfl,rfl⟩
   .rw[aww]at h;exact SeqAt.EqAt.str_int x t j u _ _ _ _ h
   .rw[awu]at h;exact wpAny_eqBool_str h
 «strs»:=λk x t v h=>by
  rcases qb h with⟨i,u,rfl,e⟩|⟨y,u,rfl,e⟩
  .exact nomatch e
  .injection e with e1 _
   subst e1
   cases v<;>rfl
theorem afi(prog:Program)(w:World)(k:Key)(v:Value):(kh prog w).is k v=a6k k v:=rfl
theorem aca(prog:Program)(w:World)(i:Int)(t:Tok):(kh prog w).is (.inl i) (.int i t)=true:=ahc i t
theorem acb(prog:Program)(w:World)(x:Str)(t:Tok):(kh prog w).is (.inr x) (.str x t)=true:=ahd x t
inductive V where
 |non|bl (b:Bool)|int (i:Int)|str (x:Str)|byt (b:Array UInt8)|flt (b:UInt64)|ref (a:Addr)|ty (n:String)
 deriving DecidableEq
def RelV:V->Value->Prop
 |.non,u=>u=Value.none
 |.bl b,u=>u=Value.bool b
 |.int i,u=>∃t,u=Value.int i t
 |.str x,u=>∃t,u=Value.str x t
 |.byt b,u=>∃t,u=Value.bytes b t
 |.flt b,u=>∃t,u=Value.float b t
 |.ref a,u=>u=Value.ref a
 |.ty n,u=>u=Value.type n
abbrev Vals:List V->List Value->Prop:=Paired RelV
theorem Vals.length(r:Vals xs us):xs.length=us.length:=ia r
theorem Vals.get:∀{xs:List V} {us:List Value} {i:Nat} {x:V},Vals xs us->xs[i]? = some x->∃u,us[i]? = some u/\RelV x u
 |_,_,_,_,.nil,e=>by simp at e
 |_,_,0,_,.cons r _,e=>by simp at e;subst e;exact⟨_,rfl,r⟩
 |_,_,i+1,x,.cons _ t,e=>by
  obtain⟨u,h1,h2⟩:=Vals.get (i:=i) (x:=x) t (by simpa using e)
  exact⟨u,by simpa using h1,h2⟩
theorem Vals.set(r:RelV x u):∀{xs:List V} {us:List Value} (i:Nat),Vals xs us->Vals (xs.set i x) (us.set i u)
 |_,_,_,.nil=>.nil
 |_,_,0,.cons _ t=>.cons r t
 |_,_,i+1,.cons q t=>.cons q (Vals.set r i t)
theorem Vals.append:∀{xs ys:List V} {us ws:List Value},Vals xs us->Vals ys ws->Vals (xs++ys) (us++ws)
 |_,_,_,_,.nil,s=>s
 |_,_,_,_,.cons r t,s=>.cons r (Vals.append t s)
theorem Vals.take:∀{xs:List V} {us:List Value} (n:Nat),Vals xs us->Vals (xs.take n) (us.take n)
 |_,_,0,_=>.nil
 |_,_,_+1,.nil=>.nil
 |_,_,n+1,.cons r t=>.cons r (Vals.take n t)
theorem Vals.drop:∀{xs:List V} {us:List Value} (n:Nat),Vals xs us->Vals (xs.drop n) (us.drop n)
 |_,_,0,r=>r
 |_,_,_+1,.nil=>.nil
 |_,_,n+1,.cons _ t=>Vals.drop n t
def RelO:Option V->Option Value->Prop
 |some v,some u=>RelV v u
 |none,none=>True
 |_,_=>False
def KV{κ:Type}:List (κ×V)->List (κ×Value)->Prop:=Paired λ(p:κ×V) (q:κ×Value)=>p.1=q.1/\RelV p.2 q.2
def kV:Key->V
 |.inl i=>.int i
 |.inr x=>.str x
inductive HO where
 |lst (xs:List V)
 |tup (xs:List V)
 |dK (kvs:List (Key×V))|dT (kvs:List (List Key×V))
 |set (S:Int->Bool) (n:Nat)
 |ins (C dx:Addr) (fs:List (Str×V))
 |own (x:Addr)
 |xd (fs:List (Str×V))
 |met (f x:Addr)
 |rng (lo hi:Int)
 |frz (o:Obj) (u:HO)
 |tbl (ps:Array Value)
 |ext (φ:Heap->Prop)
abbrev Hp:=Addr->Option HO
def upd(H:Hp)(a:Addr)(o:HO):Hp:=λb=>if b=a then some o else H b
theorem m5:upd H a o a=some o:=by unfold upd;rw[aU rfl]
theorem ik(h:b≠a):upd H a o b=H b:=by unfold upd;rw[bA h]
theorem b2a{H:Hp}{a b:Addr}{o u:HO}(h:H a=some o)(h':H b=some u)(d:o≠u):a≠b:=by
 intro e;subst e;rw[h]at h';exact d (bS h')
theorem j5{H:Hp}{a b:Addr}{o:HO}(h:H a=some o)(h':H b=none):a≠b:=by
 intro e;subst e;rw[h]at h';cases h'
section
variable(P:Program)(w:World)
def ObjOk(H:Hp)(h:Heap)(a:Addr):HO->Prop
 |.lst xs=>xs.length<=sizeLine/\∃(its:List Value) (n:Nat),Vals xs its/\h.get? a=some {cls:=.type "list",data:=.seq its.toArray n}
 |.tup xs=>xs.length<=sizeLine/\∃its:List Value,Vals xs its/\IsTup h a its.toArray
 |.dK kvs=>kvs.length<=sizeLine/\(a == sysModules)=false/\∃vs,KV kvs vs/\h.DictOf (kh P w) a vs
 | .dT kvs=>kvs.length<=sizeLine/\(a == sysModules)=false/\∃xs:List (List Key×Addr×Value),
   Paired (λ(p:List Key×V) (q:List Key×Addr×Value)=>p.1=q.1/\H q.2.1=some (.tup (p.1.map kV))/\RelV p.2 q.2.2) kvs xs /\
   ∃o es ep,h.get? a=some o/\o.ExactDict/\o.data=.dict es ep/\es.toList=xs.map (entryOfKey (tupleKind (kh P w)))/\(xs.map (·.1)).Nodup
 |.set S n=>h.SetOf (intKind P w) a S n
 | .ins C dx fs=>H dx=some (.own a)/\fs.length<=1000/\dx≠a/\h.get? a=some (PySem.W.instObj C dx) /\
   ∃mA,h.Ns1 dx mA/\(∀f,RelO (fs.lookup f) (mA f))/\PySem.Within mA (fs.map (·.1))
 |.own _=>∃o,h.get? a=some o
 |.xd fs=>∃mA,h.Ns1 a mA/\∀f,RelO (fs.lookup f) (mA f)
 |.rng lo hi=>∃t u v,h.get? a=some {cls:=.type "range",data:=.fields #[.int lo t,.int hi u,.int 1 v]}
 |.frz o u=>h.get? a=some o/\ObjOk H h a u
 |.tbl ps=>h.get? a=some {cls:=.none,data:=.fields ps}
 |.met f x=>h.get? a=some (PySem.W.methodObj (.ref f) (.ref x))
 |.ext φ=>φ h/\(∃o,h.get? a=some o)/\∀h1 h2:Heap,φ h1->(∀o,h1.get? a=some o->h2.get? a=some o)->φ h2
def HOk(H:Hp)(h:Heap):Prop:=∀a o,H a=some o->ObjOk P w H h a o
end
section
variable{P:Program}{w:World}{H H':Hp}{h h':Heap}{a:Addr}{o:HO}
theorem ObjOk.lt(x:ObjOk P w H h a o):a<h.objs.size:=by
 cases o with
 |lst xs=>obtain⟨_,_,_,_,e⟩:=x;exact aX e
 |tup xs=>obtain⟨_,_,_,p⟩:=x;exact p.lt
 |dK kvs=>obtain⟨_,_,_,_,o,_,_,e,_⟩:=x;exact aX e
 |dT kvs=>obtain⟨_,_,_,_,o,_,_,e,_⟩:=x;exact aX e
 |set S n=>obtain⟨o,_,_,_,e,_⟩:=x;exact aX e
 |ins C dx fs=>obtain⟨_,_,_,e,_⟩:=x;exact aX e
 |own y=>obtain⟨_,e⟩:=x;exact aX e
 |xd fs=>obtain⟨_,⟨_,_,_,e,_⟩,_⟩:=x;exact aX e
 |rng lo hi=>obtain⟨_,_,_,e⟩:=x;exact aX e
 |frz ob u=>obtain⟨e,_⟩:=x;exact aX e
 |tbl ps=>exact aX (show h.get? a=some _ from x)
 |met f y=>exact aX (show h.get? a=some _ from x)
 |ext φ=>obtain⟨_,⟨_,e⟩,_⟩:=x;exact aX e
theorem Paired.mapP{α β:Type}{F G:α->β->Prop}:∀{l₁:List α} {l₂:List β},Paired F l₁ l₂->(∀a b,F a b->G a b)->Paired G l₁ l₂
 |_,_,.nil,_=>.nil
 |_,_,.cons r t,f=>.cons (f _ _ r) (Paired.mapP t f)
theorem ObjOk.stay(x:ObjOk P w H h a o)(k:∀b u,(b=a\/H b=some (.own a))->h.get? b=some u->h'.get? b=some u)
  (ho:∀b,H b=some (.own a)->H' b=some (.own a)) (ht:∀b xs,H b=some (.tup xs)->H' b=some (.tup xs)):ObjOk P w H' h' a o:=by
 induction o with
 |lst xs=>obtain⟨z,its,n,r,e⟩:=x;exact⟨z,its,n,r,k _ _ (.inl rfl) e⟩
 |tup xs=>obtain⟨z,its,r,ob,e,c⟩:=x;exact⟨z,its,r,ob,k _ _ (.inl rfl) e,c⟩
 |dK kvs=>obtain⟨z,y,vs,r,ob,es,ep,e,c⟩:=x;exact⟨z,y,vs,r,ob,es,ep,k _ _ (.inl rfl) e,c⟩
 |dT kvs =>
  obtain⟨z,y,xs,r,ob,es,ep,e,c⟩:=x;exact⟨z,y,xs,Paired.mapP r λp q z=>⟨z.1,ht _ _ z.2.1,z.2.2⟩,ob,es,ep,k _ _ (.inl rfl) e,c⟩
 |set S n=>obtain⟨ob,es,ep,t,e,c⟩:=x;exact⟨ob,es,ep,t,k _ _ (.inl rfl) e,c⟩
 |ins C dx fs =>
  obtain⟨d,z,ne,e,mA,⟨od,es,ep,e2,c⟩,r⟩:=x;exact⟨ho _ d,z,ne,k _ _ (.inl rfl) e,mA,⟨od,es,ep,k _ _ (.inr d) e2,c⟩,r⟩
 |own y=>obtain⟨ob,e⟩:=x;exact⟨ob,k _ _ (.inl rfl) e⟩
 |xd fs=>obtain⟨mA,⟨od,es,ep,e,c⟩,r⟩:=x;exact⟨mA,⟨od,es,ep,k _ _ (.inl rfl) e,c⟩,r⟩
 |rng lo hi=>obtain⟨t,u,v,e⟩:=x;exact⟨t,u,v,k _ _ (.inl rfl) e⟩
 |frz ob u ih=>obtain⟨e,q⟩:=x;exact⟨k _ _ (.inl rfl) e,ih q⟩
 |tbl ps =>
  have e:h.get? a=some {cls:=.none,data:=.fields ps}:=x;show h'.get? a=some {cls:=.none,data:=.fields ps};exact k a _ (.inl rfl) e
 |met f y =>
  have e:h.get? a=some (PySem.W.methodObj (.ref f) (.ref y)):=x;show h'.get? a=some (PySem.W.methodObj (.ref f) (.ref y));exact k a _ (.inl rfl) e
 |ext φ=>obtain⟨p,⟨o,e⟩,st⟩:=x;exact⟨st _ _ p λo q=>k _ _ (.inl rfl) q,⟨o,k _ _ (.inl rfl) e⟩,st⟩
theorem HOk.lt(x:HOk P w H h)(e:H a=some o):a<h.objs.size:=(x a o e).lt
theorem HOk.fresh(x:HOk P w H h)(e:h.objs.size<=a):H a=none:=by
 cases q:H a with
 |none=>rfl
 |some u=>exact absurd (bC (x.lt q) e) (cO _)
theorem HOk.kept(x:HOk P w H h)(k:∀b u,h.get? b=some u->h'.get? b=some u):HOk P w H h':=λa o e =>
 (x a o e).stay (λb u _ q=>k b u q) (λ_ q=>q) λ_ _ q=>q
theorem HOk.laid(x:HOk P w H h)(k:∀b u,h.get? b=some u->h'.get? b=some u)(hp:h.objs.size<=a)(new:ObjOk P w (upd H a o) h' a o):HOk P w (upd H a o) h':=λb u e=>by
 have hn:=x.fresh hp
 by_cases hb:b=a
 .subst hb;rw[m5]at e;cases e;exact new
 .rw[ik hb]at e;exact(x b u e).stay (λc v _ q=>k c v q) (λc q=>by rw[ik (j5 q hn)];exact q) λc xs q=>by rw[ik (j5 q hn)];exact q
end
def Rd(H:Hp)(a:Addr)(u:HO):Prop:=H a=some u\/∃o,H a=some (.frz o u)
theorem Rd.of(h:H a=some u):Rd H a u:=.inl h
theorem Rd.ok(r:Rd H a u)(x:HOk P w H h):ObjOk P w H h a u:=by
 rcases r with r|⟨o,r⟩
 .exact x a u r
 .obtain⟨_,q⟩:=x a _ r;exact q
def Mut:Option HO->Prop
 |some (.lst _)=>True
 |some (.dK _)=>True
 |some (.dT _)=>True
 |some (.set _ _)=>True
 |some (.ins _ _ _)=>True
 |some (.ext _)=>True
 |_=>False
section
variable{P:Program}{w:World}{H:Hp}{h h':Heap}{x e:Addr}{o':HO}
theorem HOk.write(ok:HOk P w H h)(mu:Mut (H x))(he:e=x\/H e=some (.own x))(k:∀b u,b≠e->h.get? b=some u->h'.get? b=some u)(heo:∃u,h'.get? e=some u)
  (new:ObjOk P w (upd H x o') h' x o'):HOk P w (upd H x o') h':=λb u q=>by
 have nown:∀c y,H c=some (.own y)->c≠x:=λc y r z=>by subst z;rw[r]at mu;exact mu
 have ntup:∀c xs,H c=some (.tup xs)->c≠x:=λc xs r z=>by subst z;rw[r]at mu;exact mu
 by_cases hb:b=x
 .subst hb;rw[m5]at q;cases q;exact new
 .rw[ik hb]at q
  by_cases hbe:b=e
  .have q':H b=some (.own x):=by
    rcases he with z|z
    .exact absurd (hbe.trans z) hb
    .rw[hbe];exact z
   rw[q]at q';cases q'
   obtain⟨v,hv⟩:=heo;exact⟨v,by rw[hbe];exact hv⟩
  .refine(ok b u q).stay (λc v hc r=>k c v ?_ r) (λc r=>by rw[ik (nown c b r)];exact r) λc xs r=>by rw[ik (ntup c xs r)];exact r
   rcases hc with rfl|hc
   .exact hbe
   .rintro rfl
    rcases he with z|z
    .exact nown c b hc z
    .rw[hc]at z;cases z;exact hb rfl
end
structure Un (fs ex:List Addr) (H H':Hp) (h h':Heap):Prop where
 keep:∀b o,h.get? b=some o->H b=none->b∉fs->b∉ex->h'.get? b=some o
 slot:∀b o,h.get? b=some o->H b=none->b∈fs->b∉ex->∃sl,h'.get? b=some {o with slots:=sl}
 free:∀b o,h.get? b=some o->H b=none->b∉ex->H' b=none
 there:∀b o,h.get? b=some o->b∉ex->∃o',h'.get? b=some o'
 tups:∀b xs,H b=some (.tup xs)->H' b=some (.tup xs)
 frzs:∀b o u,H b=some (.frz o u)->H' b=some (.frz o u)
 tbls:∀b ps,H b=some (.tbl ps)->∃more,H' b=some (.tbl (ps++more))
section
variable{fs fs' ex ex':List Addr}{H H1 H2:Hp}{h h1 h2 h':Heap}{a x e:Addr}{o:HO}
theorem Un.any(u:Un fs ex H H1 h h1)(q:h.get? b=some ob)(n:H b=none)(hx:b∉ex):∃sl,h1.get? b=some {ob with slots:=sl}:=by
 by_cases hb:b∈fs
 .exact u.slot b ob q n hb hx
 .exact⟨ob.slots,u.keep b ob q n hb hx⟩
theorem Un.kept(k:∀b u,h.get? b=some u->h'.get? b=some u):Un fs ex H H h h' :=
 ⟨λb ob q _ _ _=>k b ob q,λb ob q _ _ _=>⟨ob.slots,k b ob q⟩,λ_ _ _ n _=>n,λb ob q _=>⟨ob,k b ob q⟩,λ_ _ q=>q,λ_ _ _ q=>q,λ_ ps q=>⟨#[],by rw[q];simp⟩⟩
theorem Un.refl:Un fs ex H H h h:=Un.kept λ_ _ q=>q
theorem Un.laid(k:∀b u,h.get? b=some u->h'.get? b=some u)(hp:h.objs.size<=a)(hn:H a=none):Un fs ex H (upd H a o) h h' where
 keep:=λb u q _ _ _=>k b u q
 slot:=λb u q _ _ _=>⟨u.slots,k b u q⟩
 free:=λb u q n _=>by rw[ik (bT (bC (aX q) hp))];exact n
 there:=λb u q _=>⟨u,k b u q⟩
 tups:=λb xs q=>by rw[ik (j5 q hn)];exact q
 frzs:=λb u xs q=>by rw[ik (j5 q hn)];exact q
 tbls:=λb ps q=>⟨#[],by rw[ik (j5 q hn),q];simp⟩
theorem Un.write(mu:Mut (H x))(he:e=x\/H e=some (.own x))(k:∀b u,b≠e->h.get? b=some u->h'.get? b=some u)(heo:∃u,h'.get? e=some u):Un fs ex H (upd H x o) h h':=by
 have hx:∀b,H b=none->b≠x:=λb n z=>by subst z;rw[n]at mu;exact mu
 have hb:∀b,H b=none->b≠e:=λb n z=>by
  subst z
  rcases he with r|r
  .exact hx b n r
  .rw[n]at r;cases r
 have hm:∀b u,H b=some u->¬ Mut (some u)->b≠x:=λb u q nm z=>by subst z;rw[q]at mu;exact nm mu
 refine⟨λb u q n _ _=>k b u (hb b n) q,λb u q n _ _=>⟨u.slots,k b u (hb b n) q⟩,λb u q n _=>by rw[ik (hx b n)];exact n,λb u q _=>?_,
  λb xs q=>by rw[ik (hm b _ q λz=>z)];exact q,λb u xs q=>by rw[ik (hm b _ q λz=>z)];exact q,λb ps q=>⟨#[],by rw[ik (hm b _ q λz=>z),q];simp⟩⟩
 by_cases hbe:b=e
 .subst hbe;exact heo
 .exact⟨u,k b u hbe q⟩
end
def trk(h:Heap)(H:Hp):List Addr:=(List.range h.objs.size).filter λa=>(H a).isSome
def amr(h:Heap)(H:Hp):Heap:=PySem.W.hideAll h (trk h H)
theorem ahe(h:Heap)(H:Hp):(amr h H).objs.size=h.objs.size:=PySem.W.hideAll_size _ _
theorem ams{h:Heap}(e:h.get? b=some o)(n:H b=none):(amr h H).get? b=some o :=
 PySem.W.hideAll_get _ e λhm=>by
  have q:(H b).isSome=true:=(bK.mp hm).2;rw[n]at q;simp at q
theorem as9(e:(amr h H).get? b=some o):h.get? b=some o/\H b=none:=by
 have e':h.get? b=some o:=PySem.W.of_hideAll (trk h H) e;refine⟨e',?_⟩
 cases q:H b with
 |none=>rfl
 |some x =>
  have hm:b∈trk h H:=bK.mpr ⟨aY.mpr (aX e'),by simp[q]⟩
  have z:(amr h H).get? b=none:=PySem.W.hideAll_none (trk h H) hm;rw[z]at e;cases e
structure Mod (K:Fg) (mg:Str->Option Value) (base:Heap):Prop where
 kin:K.In base
 glob:base.Ns mainGlobals mg
 blt:∃mb,base.Ns builtinsNs mb/\∀x:Str,x ≠ "__name__"->mb x=bootBuiltins x
 nolimit:base.NoLimit
structure Cx where
 prog:Program
 w:World
 K:Fg
 mg:Str->Option Value
 base:Heap
 A:Around
 N:List Str
 s₀:Shared
 H₀:Hp
 env:Env
 outer:List Env
 stack:List Env
 ex:List Addr
 fn:Str->Bool
 calm:Bool
 pn:List (Addr×Obj)
 xe:Value->Shared->Prop
def frs(l:List Env):List Addr:=l.filterMap (·.frame)
abbrev Cx.fs(X:Cx):List Addr:=frs X.outer
def Vis(sc:Scope)(x:Str):Prop:=sc.names.lookup x=some .local\/sc.names.lookup x=some .cell\/sc.names.lookup x=some .free
def Loc(sc:Scope)(x:Str):Prop:=sc.names.lookup x=some .local\/sc.names.lookup x=some .cell
def Look(env:Env)(h:Heap)(m:Str->Option Value)(x:Str)(u:Value):Prop :=
 (env.kindOf x=some .local/\m x=some u)\/((env.kindOf x=some .cell\/env.kindOf x=some .free)/\∃c,env.cells.lookup x=some c/\h.IsCell c (some u))
structure Cx.Ok (X:Cx):Prop where
 mod:Mod X.K X.mg X.base
 kind:X.env.scope.kind=.function
 glob:X.env.globals=mainGlobals
 blt:X.env.builtins=builtinsNs
 above:X.s₀.heap.objs.size<=X.env.locals
 inj:∀x y c,X.env.cells.lookup x=some c->X.env.cells.lookup y=some c->x=y
 has:∀x,(X.env.kindOf x=some .cell\/X.env.kindOf x=some .free)->∃c,X.env.cells.lookup x=some c
 cab:∀x c,X.fn x=true->X.env.cells.lookup x=some c->X.s₀.heap.objs.size<=c
 hd:X.calm=true->X.A.handled=none
 frames:X.A.frames=some X.stack
 stk:X.stack=X.outer\/(X.stack=X.env::X.outer/\X.env.frame=some X.env.locals)
 exf:∀b∈X.ex,b≠X.env.locals/\∀x c,X.env.cells.lookup x=some c->c≠b
 bs:∀b o,X.base.get? b=some o->X.s₀.heap.get? b=some o/\X.H₀ b=none
 bsz:X.base.objs.size<=X.s₀.heap.objs.size
 noex:∀b o,X.base.get? b=some o->b∉X.ex
 exfs:∀b∈X.ex,b∉X.fs
 funs:X.s₀.heap.FunFrames X.base X.outer
 frf:∀b∈X.fs,X.H₀ b=none
structure Inv (X:Cx) (aA:List (Addr×Obj)) (Z:List (Option V)) (H:Hp) (s:Shared):Prop where
 ok:X.Ok
 os:s.os=X.s₀.os
 bare:AllBare s.gens
 base:Un X.fs X.ex X.H₀ H X.s₀.heap s.heap
 loc:∃m,s.heap.Ns X.env.locals m/\∀(i:Nat) (x:Str) (v:V),X.N[i]? = some x->Z[i]? = some (some v)->Vis X.env.scope x->∃u,RelV v u/\Look X.env s.heap m x u
 cell:∀x c,X.env.cells.lookup x=some c->∃v,s.heap.IsCell c v
 free:H X.env.locals=none
 freeC:∀x c,X.env.cells.lookup x=some c->H c=none
 pin:∀p∈X.pn++aA,s.heap.get? p.1=some p.2/\H p.1=none/\p.1≠X.env.locals/\p.1∉X.fs/\∀v,p.2.data≠.cell v
 hok:HOk X.prog X.w H s.heap
 len:Z.length=X.N.length
section
variable{X:Cx}{aA:List (Addr×Obj)}{Z:List (Option V)}{H H':Hp}{s:Shared}{h':Heap}
theorem Cx.Ok.nofr(ok:X.Ok)(e:X.base.get? b=some o):b∉X.fs:=λhb=>by
 have:=(ok.funs.mem hb).1
 rw[e]at this;cases this
theorem Inv.bs(I:Inv X aA Z H s):∀b o,X.base.get? b=some o->s.heap.get? b=some o/\H b=none:=λb o e =>
 ⟨I.base.keep b o (I.ok.bs b o e).1 (I.ok.bs b o e).2 (I.ok.nofr e) (I.ok.noex b o e),I.base.free b o (I.ok.bs b o e).1 (I.ok.bs b o e).2 (I.ok.noex b o e)⟩
theorem Inv.bk(I:Inv X aA Z H s):∀b o,X.base.get? b=some o->s.heap.get? b=some o:=λb o e=>(I.bs b o e).1
theorem Inv.mod(I:Inv X aA Z H s):Mod X.K X.mg X.base:=I.ok.mod
theorem Inv.kIn(I:Inv X aA Z H s):X.K.In s.heap:=I.ok.mod.kin.keeps I.bk
theorem Inv.lt(I:Inv X aA Z H s):X.env.locals<s.heap.objs.size:=let ⟨_,hn,_⟩:=I.loc;hn.lt
theorem Inv.sz(I:Inv X aA Z H s):X.s₀.heap.objs.size<=s.heap.objs.size:=cM I.ok.above (eR I.lt)
theorem Inv.nofs(I:Inv X aA Z H s)(h:s.heap.objs.size<=a):a∉X.fs:=λhb=>by
 obtain⟨_,o,ho,_⟩:=I.ok.funs.mem hb;exact absurd (bC (aX ho) (cM I.sz h)) (cO _)
theorem Inv.cne(I:Inv X aA Z H s):∀x c,X.env.cells.lookup x=some c->c≠X.env.locals:=λx c e z=>by
 obtain⟨v,o,ho,hd⟩:=I.cell x c e;obtain⟨m,⟨o',es,ep,ho',hd',_⟩,_⟩:=I.loc;rw[z,ho']at ho;cases ho;rw[hd']at hd;cases hd
theorem Inv.funs(I:Inv X aA Z H s):s.heap.FunFrames X.base X.outer:=by
 have all:∀(l:List Env),(∀b∈frs l,b∈X.fs)->X.s₀.heap.FunFrames X.base l->s.heap.FunFrames X.base l:=by
  intro l
  induction l with
  |nil=>intro _ _;trivial
  |cons env r ih =>
   intro hs hl
   obtain⟨hk,⟨L,o,hf,hn,ho,hd⟩,hr⟩:=hl;have hL:L∈X.fs:=hs L (by unfold frs;rw[de,hf];exact aT)
   obtain⟨sl,e⟩:=I.base.slot L o ho (I.ok.frf L hL) hL λz=>I.ok.exfs L z hL;exact⟨hk,⟨L,_,hf,hn,e,hd⟩,ih (λb hb=>hs b (by unfold frs;rw[de,hf];exact aI _ hb)) hr⟩
 exact all X.outer (λ_ hb=>hb) I.ok.funs
theorem Inv.stack(I:Inv X aA Z H s):s.heap.FunFrames X.base X.stack:=by
 rcases I.ok.stk with e|⟨e,hf⟩
 .rw[e];exact I.funs
 .rw[e];obtain⟨m,hn,_⟩:=I.loc;refine .cons (by rw[I.ok.kind];decide) hf hn ?_ I.funs
  exact Heap.get?_none_of_le (cM I.ok.bsz I.ok.above)
theorem Inv.stkSub(I:Inv X aA Z H s):∀b∈frs X.stack,b∈X.env.locals::X.fs:=λb hb=>by
 rcases I.ok.stk with e|⟨e,hf⟩
 .rw[e]at hb;exact aI _ hb
 .rw[e]at hb;unfold frs at hb;rw[de,hf]at hb;exact hb
theorem Inv.stkFree(I:Inv X aA Z H s):∀b∈frs X.stack,H b=none:=λb hb=>by
 rcases aP.mp (I.stkSub b hb) with e|hb
 .rw[e];exact I.free
 .obtain⟨_,o,ho,_⟩:=I.ok.funs.mem hb;exact I.base.free b o ho (I.ok.frf b hb) λz=>I.ok.exfs b z hb
theorem Inv.step{g':Array GenState}{t':Nat}{d':Drawn}{ch:List Addr}(I:Inv X aA Z H s)
  (hch:∀b∈ch,(b∈X.ex\/X.s₀.heap.objs.size<=b)/\b≠X.env.locals/\(∀x c,X.env.cells.lookup x=some c->c≠b)/\∀p∈X.pn++aA,p.1≠b)
  (keep:∀b o,b≠X.env.locals->b∉X.fs->b∉ch->s.heap.get? b=some o->H b=none->h'.get? b=some o)
  (slot:∀b o,b≠X.env.locals->b∈X.fs->b∉ch->s.heap.get? b=some o->H b=none->∃sl,h'.get? b=some {o with slots:=sl}) (free:∀b o,b∉ch->s.heap.get? b=some o->H b=none->H' b=none)
  (there:∀b o,b∉ch->s.heap.get? b=some o->∃o',h'.get? b=some o')
  (tups:∀b xs,H b=some (.tup xs)->H' b=some (.tup xs)) (frzs:∀b o u,H b=some (.frz o u)->H' b=some (.frz o u)) (tbls:∀b ps,H b=some (.tbl ps)->∃more,H' b=some (.tbl (ps++more)))
  (ns:∀m,s.heap.Ns X.env.locals m->h'.Ns X.env.locals m) (hok:HOk X.prog X.w H' h') (hg:AllBare g') :
  Inv X aA Z H' {s with heap:=h',gens:=g',drawn:=d',toks:=t' }:=by
 have neL:∀b o,X.s₀.heap.get? b=some o->b≠X.env.locals:=λb o e=>bT (bC (aX e) I.ok.above);have neC:∀b o,X.s₀.heap.get? b=some o->b∉X.ex->b∉ch:=λb o e hx hb=>by
  rcases(hch b hb).1 with z|z
  .exact hx z
  .exact absurd (bC (aX e) z) (cO _)
 have cellK:∀x c,X.env.cells.lookup x=some c->∀v,s.heap.IsCell c v->h'.IsCell c v:=λx c e v ⟨o,ho,hd⟩=>by
  have nch:c∉ch:=λz=>(hch c z).2.2.1 x c e rfl
  by_cases hc:c∈X.fs
  .obtain⟨sl,q⟩:=slot c o (I.cne x c e) hc nch ho (I.freeC x c e);exact⟨_,q,hd⟩
  .exact⟨o,keep c o (I.cne x c e) hc nch ho (I.freeC x c e),hd⟩
 refine⟨I.ok,I.os,hg,⟨λb o e n hb hx=>?_,λb o e n hb hx=>?_,λb o e n hx=>?_,λb o e hx=>?_,λb xs e=>tups b xs (I.base.tups b xs e),λb o xs e=>frzs b o xs (I.base.frzs b o xs e),λb ps e=>?_⟩,?_,λx c e=>?_,?_,λx c e=>?_,λp hp=>?_,hok,I.len⟩
 .exact keep b o (neL b o e) hb (neC b o e hx) (I.base.keep b o e n hb hx) (I.base.free b o e n hx)
 .obtain⟨sl,e1⟩:=I.base.slot b o e n hb hx;obtain⟨sl',e2⟩:=slot b _ (neL b o e) hb (neC b o e hx) e1 (I.base.free b o e n hx);exact⟨sl',e2⟩
 .obtain⟨o',e1⟩:=I.base.there b o e hx;exact free b o' (neC b o e hx) e1 (I.base.free b o e n hx)
 .obtain⟨o',e1⟩:=I.base.there b o e hx;exact there b o' (neC b o e hx) e1
 .obtain⟨m1,e1⟩:=I.base.tbls b ps e;obtain⟨m2,e2⟩:=tbls b _ e1;exact⟨m1++m2,by rw[e2,Array.append_assoc]⟩
 .obtain⟨m,hn,hl⟩:=I.loc;refine⟨m,ns m hn,λi x v e1 e2 e3=>?_⟩;obtain⟨u,r,l⟩:=hl i x v e1 e2 e3;refine⟨u,r,?_⟩
  rcases l with l|⟨k,c,e,z⟩
  .exact .inl l
  .exact .inr ⟨k,c,e,cellK x c e _ z⟩
 .obtain⟨v,z⟩:=I.cell x c e;exact⟨v,cellK x c e v z⟩
 .obtain⟨m,⟨o,_,_,ho,_⟩,_⟩:=I.loc;exact free _ o (λz=>(hch _ z).2.1 rfl) ho I.free
 .obtain⟨v,o,ho,hd⟩:=I.cell x c e;exact free c o (λz=>(hch c z).2.2.1 x c e rfl) ho (I.freeC x c e)
 .obtain⟨e,n,ne,nf,d⟩:=I.pin p hp;have nch:p.1∉ch:=λz=>(hch p.1 z).2.2.2 p hp rfl;exact⟨keep p.1 p.2 ne nf nch e n,free p.1 p.2 nch e n,ne,nf,d⟩
theorem Inv.un{t':Nat}(I:Inv X aA Z H s)(u:Un X.fs [] H H' s.heap h')(hok:HOk X.prog X.w H' h'):Inv X aA Z H' {s with heap:=h',toks:=t' }:=by
 obtain⟨m,⟨o,es,ep,ho,r⟩,_⟩:=id I.loc;obtain⟨sl,hL⟩:=u.any ho I.free (by simp)
 exact I.step (g':=s.gens) (d':=s.drawn) (ch:=[]) (λ_ z=>nomatch z) (λb o _ hb _ e n=>u.keep b o e n hb (by simp)) (λb o _ hb _ e n=>u.slot b o e n hb (by simp)) (λb o _ e n=>u.free b o e n (by simp)) (λb o _ e=>u.there b o e (by simp)) u.tups u.frzs u.tbls (λm' hm=>by
  obtain⟨o',es',ep',ho',r'⟩:=hm;rw[ho]at ho';cases ho'
  exact⟨_,es',ep',hL,r'⟩) hok I.bare
theorem Inv.call{g':Array GenState}{t':Nat}{d':Drawn}{ch:List Addr}(I:Inv X aA Z H s)(u:Un (frs X.stack) ch H H' s.heap h')(hok:HOk X.prog X.w H' h')(hg:AllBare g')
  (hch:∀b∈ch,(b∈X.ex\/X.s₀.heap.objs.size<=b)/\b≠X.env.locals/\(∀x c,X.env.cells.lookup x=some c->c≠b)/\∀p∈X.pn++aA,p.1≠b) :
  Inv X aA Z H' {s with heap:=h',gens:=g',drawn:=d',toks:=t' }:=by
 obtain⟨m,⟨o,es,ep,ho,r⟩,_⟩:=id I.loc;obtain⟨sl,hL⟩:=u.any ho I.free λz=>(hch _ z).2.1 rfl;exact I.step (ch:=ch) hch (λb o hL hb hc e n=>u.keep b o e n (λz=>(aP.mp (I.stkSub b z)).elim hL hb) hc) (λb o _ _ hc e n=>u.any e n hc) (λb o hc e n=>u.free b o e n hc) (λb o hc e=>u.there b o e hc) u.tups u.frzs u.tbls (λm' hm=>by
  obtain⟨o',es',ep',ho',r'⟩:=hm;rw[ho]at ho';cases ho'
  exact⟨_,es',ep',hL,r'⟩) hok hg
theorem Inv.turned{t':Nat}{it:Addr}(I:Inv X aA Z H s)(k:∀b o,b≠it->s.heap.get? b=some o->h'.get? b=some o)(hn:H it=none)(hL:it≠X.env.locals)
  (h1:it∈X.ex\/X.s₀.heap.objs.size<=it) (h2:∀x c,X.env.cells.lookup x=some c->c≠it) (h3:∀p∈X.pn++aA,p.1≠it):Inv X aA Z H {s with heap:=h',toks:=t' }:=by
 have nit:∀b u,H b=some u->b≠it:=λb u e z=>by rw[z,hn]at e;cases e
 refine I.step (g':=s.gens) (d':=s.drawn) (ch:=[it]) (λb hb=>?_) (λb o _ _ hc e _=>k b o (λz=>hc (by simp[z])) e) (λb o _ _ hc e _=>⟨o.slots,k b o (λz=>hc (by simp[z])) e⟩) (λ_ _ _ _ n=>n)
  (λb o hc e=>⟨o,k b o (λz=>hc (by simp[z])) e⟩) (λ_ _ e=>e) (λ_ _ _ e=>e) (λb ps e=>⟨#[],by rw[e];simp⟩) (λm hm=>?_) (λb u e=>?_) I.bare
 .have e:b=it:=by simpa using hb
  subst e;exact⟨h1,hL,h2,h3⟩
 .obtain⟨o,es,ep,ho,r⟩:=hm;exact⟨o,es,ep,k _ o (fI hL) ho,r⟩
 .refine(I.hok b u e).stay (λc v hc q=>k c v ?_ q) (λ_ q=>q) λ_ _ q=>q
  rcases hc with z|z
  .rw[z];exact nit b u e
  .exact nit c _ z
theorem Inv.tok(I:Inv X aA Z H s)(t:Nat):Inv X aA Z H {s with toks:=t}:=I.un (h':=s.heap) (t':=t) Un.refl I.hok
theorem Inv.kept(I:Inv X aA Z H s)(k:∀b u,s.heap.get? b=some u->h'.get? b=some u):Inv X aA Z H {s with heap:=h',toks:=t' }:=I.un (Un.kept k) (I.hok.kept k)
theorem Inv.laid(I:Inv X aA Z H s)(k:∀b u,s.heap.get? b=some u->h'.get? b=some u)(hp:s.heap.objs.size<=a)(new:ObjOk X.prog X.w (upd H a o) h' a o) :
  Inv X aA Z (upd H a o) {s with heap:=h',toks:=t' }:=I.un (Un.laid k hp (I.hok.fresh hp)) (I.hok.laid k hp new)
theorem Inv.write(I:Inv X aA Z H s)(mu:Mut (H x))(he:e=x\/H e=some (.own x))(k:∀b u,b≠e->s.heap.get? b=some u->h'.get? b=some u)(heo:∃u,h'.get? e=some u)
  (new:ObjOk X.prog X.w (upd H x o) h' x o):Inv X aA Z (upd H x o) {s with heap:=h',toks:=t' }:=I.un (Un.write mu he k heo) (I.hok.write mu he k heo new)
theorem Inv.weak{Z':List (Option V)}(I:Inv X aA Z H s)(hl:Z'.length=Z.length)(w:∀(i:Nat) v,Z'[i]? = some (some v)->Z[i]? = some (some v)):Inv X aA Z' H s :=
 ⟨I.ok,I.os,I.bare,I.base,let ⟨m,hn,hl'⟩:=I.loc; ⟨m,hn,λi x v e1 e2 e3=>hl' i x v e1 (w i v e2) e3⟩,I.cell,I.free,I.freeC,I.pin,I.hok,hl.trans I.len⟩
theorem Inv.pins_of(I:Inv X aA Z H s)(h:∀p∈pins',s.heap.get? p.1=some p.2/\H p.1=none/\p.1≠X.env.locals/\p.1∉X.fs/\∀v,p.2.data≠.cell v):Inv X pins' Z H s :=
 ⟨I.ok,I.os,I.bare,I.base,I.loc,I.cell,I.free,I.freeC,λp hp=>(b9.mp hp).elim (λz=>I.pin p (bN _ z)) (h p),I.hok,I.len⟩
theorem ado{N:List Str}(hN:N.Nodup){i j:Nat}(a:N[i]? = some x)(b:N[j]? = some x):i=j:=by
 obtain⟨h1,e1⟩:=ah.mp a;obtain⟨h2,e2⟩:=ah.mp b;exact(List.getElem_inj hN).mp (e1.trans e2.symm)
abbrev Hf(X:Cx)(x:Str):Prop:=X.fn x=true\/X.env.scope.names.lookup x=some .local
theorem aah{i:Nat}(I:Inv X aA Z H s)(hN:X.N.Nodup)(hi:X.N[i]? = some x)(hx:Loc X.env.scope x)(r:RelV v u)
  (h:∀s',Inv X aA (Z.set i (some v)) H s'->(∃a,Heap.SameBut a s.heap s'.heap/\(a=X.env.locals\/X.env.cells.lookup x=some a))->Q () s') (hf:Hf X x:=by first|exact .inl rfl|exact .inr rfl|assumption):wpAny M A (storeName X.env x u) Q E s:=by
 obtain⟨m,hn,hl⟩:=id I.loc;have hcls:(X.env.scope.kind == .class || (X.env.scope.kind == .module && X.env.locals != X.env.globals))=false:=by rw[I.ok.kind];rfl
 have hiZ:i<Z.length:=by rw[I.len];exact(ah.mp hi).1
 have cne:=I.cne;have tracked:∀{a:Addr} {h':Heap},(∃o,s.heap.get? a=some o/\H a=none)->Heap.SameBut a s.heap h'->HOk X.prog X.w H h':=λ{a h'} ha hs b ob e=>by
  obtain⟨_,_,hfree⟩:=ha;refine(I.hok b ob e).stay (λc w' hc q=>(hs.2 c ?_).trans q) (λ_ q=>q) λ_ _ q=>q
  rintro rfl
  rcases hc with rfl|hc
  .rw[hfree]at e;cases e
  .rw[hfree]at hc;cases hc
 rcases hx with hk|hk
 .refine wpAny_storeName_local hk hn (λh' hn' hs=>?_) hcls;obtain⟨oL,_,_,hoL,_⟩:=id hn;refine h _ ⟨I.ok,I.os,I.bare,⟨λb o e n hb hx=>?_,λb o e n hb hx=>?_,I.base.free,λb o e hx=>?_,I.base.tups,I.base.frzs,I.base.tbls⟩,⟨_,hn',λj y v' e1 e2 e3=>?_⟩,λy c e=>?_,I.free,I.freeC,λp hp=>?_,tracked ⟨oL,hoL,I.free⟩ hs,by simpa using I.len⟩ ⟨_,hs,.inl rfl⟩
  .exact(hs.2 b (bT (bC (aX e) I.ok.above))).trans (I.base.keep b o e n hb hx)
  .obtain⟨sl,e1⟩:=I.base.slot b o e n hb hx;exact⟨sl,(hs.2 b (bT (bC (aX e) I.ok.above))).trans e1⟩
  .obtain⟨o',e1⟩:=I.base.there b o e hx;exact⟨o',(hs.2 b (bT (bC (aX e) I.ok.above))).trans e1⟩
  .by_cases hj:j=i
   .subst hj;rw[hi]at e1;cases e1
    rw[da hiZ]at e2;cases e2
    exact⟨u,r,.inl ⟨hk,by simp⟩⟩
   .rw[dZ (fI hj)]at e2;obtain⟨u',r',q⟩:=hl j y v' e1 e2 e3;refine⟨u',r',?_⟩
    rcases q with⟨k,e⟩|⟨k,c,e,z⟩
    .refine .inl ⟨k,?_⟩;have:y≠x:=λe=>hj (ado hN e1 (e ▸ hi));simp[this,e]
    .exact .inr ⟨k,c,e,z.sameBut hs (cne y c e)⟩
  .obtain⟨w',z⟩:=I.cell y c e;exact⟨w',z.sameBut hs (cne y c e)⟩
  .obtain⟨e,n,ne,nf,d⟩:=I.pin p hp;exact⟨(hs.2 p.1 ne).trans e,n,ne,nf,d⟩
 .have hfn:X.fn x=true:=by
   rcases hf with z|z
   .exact z
   .rw[z]at hk;cases hk
  obtain⟨c,hc⟩:=I.ok.has x (.inl hk);obtain⟨w',z⟩:=I.cell x c hc;refine wpAny_storeName_cell I.ok.kind hk hc z (λh' hc' hs=>?_);obtain⟨oc,hoc,hocd⟩:=id z;refine h {s with heap:=h' } ⟨I.ok,I.os,I.bare,⟨λb o e n hb hx=>?_,λb o e n hb hx=>?_,I.base.free,λb o e hx=>?_,I.base.tups,I.base.frzs,I.base.tbls⟩,⟨m,hn.sameBut hs (fI (cne x c hc)),λj y v' e1 e2 e3=>?_⟩,λy c' e=>?_,I.free,I.freeC,λp hp=>?_,tracked ⟨oc,hoc,I.freeC x c hc⟩ hs,by simpa using I.len⟩ ⟨c,hs,.inr hc⟩
  .exact(hs.2 b (bT (bC (aX e) (I.ok.cab x c hfn hc)))).trans (I.base.keep b o e n hb hx)
  .obtain⟨sl,e1⟩:=I.base.slot b o e n hb hx;exact⟨sl,(hs.2 b (bT (bC (aX e) (I.ok.cab x c hfn hc)))).trans e1⟩
  .obtain⟨o',e1⟩:=I.base.there b o e hx;exact⟨o',(hs.2 b (bT (bC (aX e) (I.ok.cab x c hfn hc)))).trans e1⟩
  .by_cases hj:j=i
   .subst hj;rw[hi]at e1;cases e1
    rw[da hiZ]at e2;cases e2
    exact⟨u,r,.inr ⟨.inl hk,c,hc,hc'⟩⟩
   .rw[dZ (fI hj)]at e2;obtain⟨u',r',q⟩:=hl j y v' e1 e2 e3;refine⟨u',r',?_⟩
    rcases q with q|⟨k,c',e,z'⟩
    .exact .inl q
    .refine .inr ⟨k,c',e,z'.sameBut hs ?_⟩
     rintro rfl
     exact hj (ado hN e1 (I.ok.inj _ _ _ e hc ▸ hi))
  .by_cases hcc:c'=c
   .subst hcc;exact⟨_,hc'⟩
   .obtain⟨w2,z2⟩:=I.cell y c' e;exact⟨w2,z2.sameBut hs hcc⟩
  .obtain⟨e,n,ne,nf,d⟩:=I.pin p hp;refine⟨(hs.2 p.1 ?_).trans e,n,ne,nf,d⟩
   intro q
   rw[q,hoc]at e;have q':oc=p.2:=bS e;exact d w' (by rw[<-q'];exact hocd)
theorem a8m(I:Inv X aA Z H s)(hN:X.N.Nodup)(hi:X.N[i]? = some x)(hx:Loc X.env.scope x)(r:RelV v u)
  (h:∀s',Inv X aA (Z.set i (some v)) H s'->Q () s') (hf:Hf X x:=by first|exact .inl rfl|exact .inr rfl|assumption):wpAny M A (storeName X.env x u) Q E s :=
 aah I hN hi hx r (λs' I' _=>h s' I') hf
end
abbrev XK:=Value->Option Addr->Hp->Prop
abbrev St:=List (Option V)
abbrev VK:=V->Hp->Prop
abbrev TE:=St->Hp->VK->Prop
abbrev TT:=St->Hp->(Bool->Hp->Prop)->Prop
abbrev TA:=St->Hp->(List V->Hp->Prop)->Prop
structure Ends where
 nx:St->Hp->Prop
 rt:VK
 bk:St->Hp->Prop:=λ_ _=>False
 ct:St->Hp->Prop:=λ_ _=>False
abbrev TS:=Ends->St->Hp->Prop
def EP(X:Cx)(aA:List (Addr×Obj))(Z:St)(Q:VK)(u:Value)(s':Shared):Prop:=∃v H',Inv X aA Z H' s'/\RelV v u/\Q v H'
def TP(X:Cx)(aA:List (Addr×Obj))(Z:St)(Q:Bool->Hp->Prop)(b:Bool)(s':Shared):Prop:=∃H',Inv X aA Z H' s'/\Q b H'
def AP(X:Cx)(aA:List (Addr×Obj))(Z:St)(Q:List V->Hp->Prop)(us:List Value)(s':Shared):Prop:=∃vs H',Inv X aA Z H' s'/\Vals vs us/\Q vs H'
def SP(X:Cx)(aA:List (Addr×Obj))(D:Ends)(f:Flow)(s':Shared):Prop :=
 match f with
 |.next=>∃Z' H',Inv X aA Z' H' s'/\D.nx Z' H'
 |.brk=>∃Z' H',Inv X aA Z' H' s'/\D.bk Z' H'
 |.cont=>∃Z' H',Inv X aA Z' H' s'/\D.ct Z' H'
 |.ret u=>∃v Z' H',Inv X aA Z' H' s'/\RelV v u/\D.rt v H'
def PE(X:Cx)(e:Expr)(t:TE):Prop :=
 ∀(aA:List (Addr×Obj)) (s:Shared) (Z:St) (H:Hp) (Q:VK),Inv X aA Z H s->t Z H Q->wpAny (model X.prog X.w) X.A (eval e X.env) (EP X aA Z Q) X.xe s
def PT(X:Cx)(e:Expr)(t:TT):Prop :=
 ∀(aA:List (Addr×Obj)) (s:Shared) (Z:St) (H:Hp) (Q:Bool->Hp->Prop),Inv X aA Z H s->t Z H Q->wpAny (model X.prog X.w) X.A (isTrue e X.env (eval e X.env)) (TP X aA Z Q) X.xe s
def PW(X:Cx)(e:Expr)(t:TT):Prop :=
 ∀(whole:Sem Value) (aA:List (Addr×Obj)) (s:Shared) (Z:St) (H:Hp) (Q:Bool->Hp->Prop),Inv X aA Z H s->t Z H Q->wpAny (model X.prog X.w) X.A (isTrue e X.env whole) (TP X aA Z Q) X.xe s
theorem PW.pt(h:PW X e t):PT X e t:=h _
def PA(X:Cx)(es:List Expr)(t:TA):Prop :=
 ∀(pos:Pos) (aA:List (Addr×Obj)) (s:Shared) (Z:St) (H:Hp) (Q:List V->Hp->Prop),Inv X aA Z H s->t Z H Q->wpAny (model X.prog X.w) X.A (spliced (backTo pos (starEach es X.env))) (AP X aA Z Q) X.xe s
def PS(X:Cx)(st:Stmt)(t:TS):Prop :=
 ∀(aA:List (Addr×Obj)) (s:Shared) (Z:St) (H:Hp) (D:Ends),Inv X aA Z H s->t D Z H->wpAny (model X.prog X.w) X.A (exec st X.env) (SP X aA D) X.xe s
def PSs(X:Cx)(st:List Stmt)(t:TS):Prop :=
 ∀(aA:List (Addr×Obj)) (s:Shared) (Z:St) (H:Hp) (D:Ends),Inv X aA Z H s->t D Z H->wpAny (model X.prog X.w) X.A (execs st X.env) (SP X aA D) X.xe s
theorem thn{α:Type}{t:Sem α}{Q Q':α->Shared->Prop}{M:Model}{A:Around}{E:Value->Shared->Prop}{s:Shared}(h:wpAny M A t Q E s)(hQ:∀a s,Q a s->Q' a s):wpAny M A t Q' E s:=bO h hQ λ_ _ x=>x
section
variable{X:Cx}
def b56(i:Nat):TE:=λZ H Q=>∃v,Z[i]? = some (some v)/\Q v H
def tC(v:V):TE:=λ_ H Q=>Q v H
theorem awx(hN:X.N[i]? = some x)(hv:Vis X.env.scope x)(hd:(x == ("__debug__" : Str))=false:=by decide)(hcd:(x == ("__classdict__" : Str))=false:=by decide):PE X (.Name x pos) (b56 i):=by
 intro aA s Z H Q I h
 obtain⟨v,e,h⟩:=h;obtain⟨m,hn,hl⟩:=I.loc;obtain⟨u,r,l⟩:=hl i x v hN e hv;have fin:EP X aA Z Q u s:=⟨v,H,I,r,h⟩
 rcases l with⟨hk,hm⟩|⟨hk,c,hc,hcell⟩
 .exact wpAny_Name (wpAny_loadName_local I.ok.kind hk hn hm fin) hd
 .rcases hk with hk|hk
  .exact wpAny_Name (wpAny_loadName_cell I.ok.kind hk hc hcell fin) hd
  .exact wpAny_Name (wpAny_loadName_free I.ok.kind hk hc hcell fin hcd) hd
theorem awy{i j pos}:PE X (.Constant (.int i) j pos) (tC (.int i)):=λ_ _ _ H _ I h=>wpAny_Constant_int ⟨.int i,H,I.tok _,⟨_,rfl⟩,h⟩
theorem b2b{b j pos}:PE X (.Constant (.bool b) j pos) (tC (.bl b)):=λ_ _ _ H _ I h=>Constant_bool ⟨.bl b,H,I,rfl,h⟩
theorem awz{j pos}:PE X (.Constant .none j pos) (tC .non):=λ_ _ _ H _ I h=>Constant_none ⟨.non,H,I,rfl,h⟩
theorem ax0{x j pos}:PE X (.Constant (.str x) j pos) (tC (.str x)):=λ_ _ _ H _ I h=>Calls.Constant_str ⟨.str x,H,I.tok _,⟨_,rfl⟩,h⟩
def Gl(X:Cx)(x:Str):Prop:=X.env.kindOf x=some .globalImplicit
theorem ahf(I:Inv X aA Z H s)(hg:Gl X x)(hm:X.mg x=some u)(h:Q u s)
  (hd:(x == ("__debug__" : Str))=false:=by decide):wpAny (model X.prog X.w) X.A (eval (.Name x pos) X.env) Q E s :=
 Calls.Name_function_global I.ok.kind hg (Calls.loadGlobal_global (by rw[I.ok.glob];exact I.mod.glob.keeps I.bk) hm h) hd
theorem a3j(I:Inv X aA Z H s)(hg:Gl X x)(hm:X.mg x=none)(hv:bootBuiltins x=some u)(h:Q u s)
  (hn:x ≠ "__name__":=by decide) (hd:(x == ("__debug__" : Str))=false:=by decide):wpAny (model X.prog X.w) X.A (eval (.Name x pos) X.env) Q E s:=by
 obtain⟨mb,h1,h2⟩:=I.mod.blt;exact Calls.Name_function_global I.ok.kind hg (Calls.loadGlobal_builtin (by rw[I.ok.glob];exact I.mod.glob.keeps I.bk) hm (by rw[I.ok.blt];exact h1.keeps I.bk) ((h2 x hn).trans hv) h) hd
theorem asa(hg:Gl X x)(hm:X.mg x=none)(hv:bootBuiltins x=some u)(r:RelV v u)(hn:x ≠ "__name__":=by decide)(hd:(x == ("__debug__" : Str))=false:=by decide):PE X (.Name x pos) (tC v) :=
 λ_ _ _ H _ I h=>a3j I hg hm hv ⟨v,H,I,r,h⟩ hn hd
variable{a b:Expr}{ta tb:TE}{pos:Pos}
variable{tA tB':TT}{aG:List Expr}
def b57(t u:TT):TT:=λZ H Q=>t Z H λc H1=>if c=true then u Z H1 Q else Q false H1
def tOr(t u:TT):TT:=λZ H Q=>t Z H λc H1=>if c=true then Q true H1 else u Z H1 Q
def b58(t:TT):TT:=λZ H Q=>t Z H λc H1=>Q (!c) H1
theorem asb(ha:PT X a tA):PW X (.BoolOp .And [a] pos) tA:=by
 intro wh aA s Z H Q I h
 refine isTrue_and (thn (ha aA s Z H Q I h) λc s1 e=>?_)
 cases c with
 |true=>exact isTrue_and_nil e
 |false=>exact e
theorem ax1(ha:PT X a tA):PW X (.BoolOp .Or [a] pos) tA:=by
 intro wh aA s Z H Q I h
 refine isTrue_or (thn (ha aA s Z H Q I h) λc s1 e=>?_)
 cases c with
 |false=>exact isTrue_or_nil e
 |true=>exact e
theorem ax2(ha:PT X a tA)(hb:PW X (.BoolOp .And (b::aG) pos) tB'):PW X (.BoolOp .And (a::b::aG) pos) (b57 tA tB'):=by
 intro wh aA s Z H Q I h
 refine isTrue_and (thn (ha aA s Z H _ I h) λc s1 ⟨H1,I1,q1⟩=>?_)
 cases c with
 |true=>exact hb wh aA s1 Z H1 Q I1 q1
 |false=>exact⟨H1,I1,q1⟩
theorem b2c(ha:PT X a tA)(hb:PW X (.BoolOp .Or (b::aG) pos) tB'):PW X (.BoolOp .Or (a::b::aG) pos) (tOr tA tB'):=by
 intro wh aA s Z H Q I h
 refine isTrue_or (thn (ha aA s Z H _ I h) λc s1 ⟨H1,I1,q1⟩=>?_)
 cases c with
 |true=>exact⟨H1,I1,q1⟩
 |false=>exact hb wh aA s1 Z H1 Q I1 q1
theorem ax3(ha:PT X a tA):PT X (.UnaryOp .Not a pos) (b58 tA):=by
 intro aA s Z H Q I h
 exact isTrue_not (ha aA s Z H (λc H1=>Q (!c) H1) I h)
noncomputable def b2d(ta tb:TE):TE:=λZ H Q=>ta Z H λx H1=>∃c,x=.bl c/\if c=true then tb Z H1 Q else Q (.bl false) H1
def b2e(ta:TE):TE:=λZ H Q=>ta Z H λx H1=>∃c,x=.bl c/\Q (.bl (!c)) H1
theorem ax4{op}(h:PE X a t):PE X (.BoolOp op [a] pos) t:=λaA s Z H Q I hw=>BoolOp_one (h aA s Z H Q I hw)
theorem ax5(ha:PE X a ta)(hb:PE X (.BoolOp .And (b::aG) pos) tb):PE X (.BoolOp .And (a::b::aG) pos) (b2d ta tb):=by
 intro aA s Z H Q I h
 refine BoolOp_and (thn (ha aA s Z H _ I h) λv s1 ⟨x,H1,I1,r1,q1⟩=>?_);obtain⟨c,rfl,q1⟩:=q1;cases r1
 refine cT ?_
 cases c with
 |true=>exact hb aA s1 Z H1 Q I1 q1
 |false=>exact⟨.bl false,H1,I1,rfl,q1⟩
theorem ax6(ha:PE X a ta):PE X (.UnaryOp .Not a pos) (b2e ta):=by
 intro aA s Z H Q I h
 refine UnaryOp_ (thn (ha aA s Z H _ I h) λv s1 ⟨x,H1,I1,r1,q1⟩=>?_);obtain⟨c,rfl,q1⟩:=q1;cases r1
 exact not_of (cT ⟨.bl (!c),H1,I1,rfl,q1⟩)
def tIf(t:TT)(ta tb:TE):TE:=λZ H Q=>t Z H λc H1=>if c=true then ta Z H1 Q else tb Z H1 Q
theorem amt{c:Expr}(hc:PT X c tA)(ha:PE X a ta)(hb:PE X b tb):PE X (.IfExp c a b pos) (tIf tA ta tb):=by
 intro aA s Z H Q I h
 refine wpAny_IfExp (thn (hc aA s Z H _ I h) λd s1 ⟨H1,I1,q1⟩=>?_)
 cases d with
 |true=>exact ha aA s1 Z H1 Q I1 q1
 |false=>exact hb aA s1 Z H1 Q I1 q1
end
def SqL(K:Fg)(H:Hp)(a:Addr)(xs:List V):Prop :=
 Rd H a (.lst xs) \/
  ∃(o:Obj) (its:Array Value) (n:Nat),K.lookup a=some o/\o.cls=.type "list"/\o.dict=none/\o.data=.seq its n/\its.size<=sizeLine/\Vals xs its.toList
def SqT(K:Fg)(H:Hp)(a:Addr)(xs:List V):Prop :=
 Rd H a (.tup xs) \/
  ∃(o:Obj) (its:Array Value) (n:Nat),K.lookup a=some o/\o.cls=.type "tuple"/\o.data=.seq its n/\its.size<=sizeLine/\Vals xs its.toList
noncomputable def b59:Value->Option V
 |.none=>some .non
 |.bool b=>some (.bl b)
 |.int i _=>some (.int i)
 |.str x _=>some (.str x)
 |.bytes b _=>some (.byt b)
 |.float b _=>some (.flt b)
 |.ref a=>some (.ref a)
 |.type n=>some (.ty n)
 |_=>none
theorem RelV.abs(r:RelV x u):b59 u=some x:=by
 cases x with
 |non=>cases r;rfl
 |bl _=>cases r;rfl
 |int _=>obtain⟨t,rfl⟩:=r;rfl
 |str _=>obtain⟨t,rfl⟩:=r;rfl
 |byt _=>obtain⟨t,rfl⟩:=r;rfl
 |flt _=>obtain⟨t,rfl⟩:=r;rfl
 |ref _=>cases r;rfl
 |ty _=>cases r;rfl
theorem RelV.inj(r:RelV x u)(q:RelV y u):x=y:=bS (r.abs.symm.trans q.abs)
theorem Vals.inj:∀{xs ys:List V} {us:List Value},Vals xs us->Vals ys us->xs=ys
 |_,_,_,.nil,.nil=>rfl
 |_,_,_,.cons r t,.cons r' t'=>by rw[r.inj r',Vals.inj t t']
section
variable{X:Cx}{aA:List (Addr×Obj)}{Z:St}{H:Hp}{s:Shared}{a:Addr}{xs ys:List V}
theorem SqL.of{K:Fg}(h:H a=some (.lst xs)):SqL K H a xs:=.inl (.inl h)
theorem SqT.of{K:Fg}(h:H a=some (.tup xs)):SqT K H a xs:=.inl (.inl h)
theorem Inv.list(I:Inv X aA Z H s)(h:SqL X.K H a xs):∃its:List Value,Vals xs its/\PlainL s.heap a its.toArray/\xs.length<=sizeLine:=by
 rcases h with h|⟨o,its,n,hk,hc,hd,hs,hz,r⟩
 .obtain⟨z,its,n,r,e⟩:=h.ok I.hok;exact⟨its,r,⟨_,n,e,rfl,rfl,rfl⟩,z⟩
 .refine⟨its.toList,r,⟨o,n,I.kIn a o hk,hc,hd,by simpa using hs⟩,?_⟩
  have e:=r.length;simp only[bG]at e;omega
theorem Inv.tuple(I:Inv X aA Z H s)(h:SqT X.K H a xs):∃its:List Value,Vals xs its/\IsTup s.heap a its.toArray/\xs.length<=sizeLine:=by
 rcases h with h|⟨o,its,n,hk,hc,hs,hz,r⟩
 .obtain⟨z,its,r,p⟩:=h.ok I.hok;exact⟨its,r,p,z⟩
 .refine⟨its.toList,r,⟨o,I.kIn a o hk,hc,n,by simpa using hs⟩,?_⟩
  have e:=r.length;simp only[bG]at e;omega
theorem Inv.list_inj(I:Inv X aA Z H s)(h:SqL X.K H a xs)(h':SqL X.K H a ys):xs=ys:=by
 obtain⟨its,r,⟨o,n,e,_,_,d⟩,_⟩:=I.list h;obtain⟨its',r',⟨o',n',e',_,_,d'⟩,_⟩:=I.list h';rw[e]at e';cases e'
 rw[d]at d'
 injection d' with d1 _
 have:its=its':=by simpa using aQ Array.toList d1
 subst this;exact r.inj r'
theorem Inv.tuple_inj(I:Inv X aA Z H s)(h:SqT X.K H a xs)(h':SqT X.K H a ys):xs=ys:=by
 obtain⟨its,r,⟨o,e,_,n,d⟩,_⟩:=I.tuple h;obtain⟨its',r',⟨o',e',_,n',d'⟩,_⟩:=I.tuple h';rw[e]at e';cases e'
 rw[d]at d'
 injection d' with d1 _
 have:its=its':=by simpa using aQ Array.toList d1
 subst this;exact r.inj r'
end
abbrev Cx.wish(X:Cx)(E:Value->Shared->Prop):Cx:={X with xe:=E}
abbrev Cx.nox(X:Cx):Cx:=X.wish λ_ _=>False
theorem Cx.Ok.wish{X:Cx}(ok:X.Ok)(E:Value->Shared->Prop):(X.wish E).Ok :=
 ⟨ok.mod,ok.kind,ok.glob,ok.blt,ok.above,ok.inj,ok.has,ok.cab,ok.hd,ok.frames,ok.stk,ok.exf,ok.bs,ok.bsz,ok.noex,ok.exfs,ok.funs,ok.frf⟩
theorem Cx.Ok.unwish{X:Cx}(ok:(X.wish E).Ok):X.Ok :=
 ⟨ok.mod,ok.kind,ok.glob,ok.blt,ok.above,ok.inj,ok.has,ok.cab,ok.hd,ok.frames,ok.stk,ok.exf,ok.bs,ok.bsz,ok.noex,ok.exfs,ok.funs,ok.frf⟩
section
variable{X:Cx}{aA:List (Addr×Obj)}{Z:St}{H:Hp}{s:Shared}{E:Value->Shared->Prop}
theorem Inv.wish(I:Inv X aA Z H s)(E:Value->Shared->Prop):Inv (X.wish E) aA Z H s:=⟨I.ok.wish E,I.os,I.bare,I.base,I.loc,I.cell,I.free,I.freeC,I.pin,I.hok,I.len⟩
theorem Inv.unwish(I:Inv (X.wish E) aA Z H s):Inv X aA Z H s:=⟨I.ok.unwish,I.os,I.bare,I.base,I.loc,I.cell,I.free,I.freeC,I.pin,I.hok,I.len⟩
theorem SP.unwish(h:SP (X.wish E) aA D f s'):SP X aA D f s':=by
 cases f with
 |next=>obtain⟨Z',H',I,q⟩:=h;exact⟨Z',H',I.unwish,q⟩
 |brk=>obtain⟨Z',H',I,q⟩:=h;exact⟨Z',H',I.unwish,q⟩
 |cont=>obtain⟨Z',H',I,q⟩:=h;exact⟨Z',H',I.unwish,q⟩
 |ret u=>obtain⟨v,Z',H',I,r,q⟩:=h;exact⟨v,Z',H',I.unwish,r,q⟩
theorem PSs.nox{st:List Stmt}{t:TS}(h:PSs X.nox st t):PSs X st t:=λaA s Z H D I hw =>
 bO (h aA s Z H D (I.wish _) hw) (λ_ _ q=>q.unwish) λ_ _ z=>False.elim z
end
section
variable{X:Cx}{st:Stmt}{aG:List Stmt}{t u:TS}{e:Expr}{te:TE}{pos:Pos}
def b2f:TS:=λD Z H=>D.nx Z H
def b5a(t u:TS):TS:=λD Z H=>t {D with nx:=u D} Z H
theorem asd:PSs X [] b2f:=λ_ _ Z H _ I h=>gz ⟨Z,H,I,h⟩
theorem amu(h1:PS X st t)(h2:PSs X aG u):PSs X (st::aG) (b5a t u):=by
 intro aA s Z H D I h
 refine wpAny_execs_cons (thn (h1 aA s Z H {D with nx:=u D} I h) λf s1 q=>?_)
 cases f with
 |next =>
  obtain⟨Z',H',I',q⟩:=q;exact h2 aA s1 Z' H' D I' q
 |ret v=>exact q
 |brk=>exact q
 |cont=>exact q
theorem ase(h1:PS X st t):PSs X [st] t:=by
 intro aA s Z H D I h
 refine wpAny_execs_cons (thn (h1 aA s Z H D I h) λf s1 q=>?_)
 cases f with
 |next=>exact gz q
 |ret v=>exact q
 |brk=>exact q
 |cont=>exact q
theorem Inv.quiet(I:Inv X aA Z H s):interactive X.env=false:=by simp[interactive,I.ok.kind]
def b2g(te:TE):TS:=λD Z H=>te Z H λ_ H1=>D.nx Z H1
theorem asf(he:PE X e te)(hs:swapsWith e none pos.line X.env=pure false:=by rfl):PS X (.Expr e pos) (b2g te):=by
 intro aA s Z H D I h
 exact wpAny_Expr_any (thn (he aA s Z H _ I h) λv s1 ⟨x,H1,I1,r1,q1⟩=>⟨Z,H1,I1,q1⟩) I.quiet hs
def b5b(te:TE):TS:=λD Z H=>te Z H D.rt
theorem ax7(he:PE X e te):PS X (.Return (some e) pos) (b5b te):=by
 intro aA s Z H D I h
 exact wpAny_Return_some (thn (he aA s Z H _ I h) λv s1 ⟨x,H1,I1,r1,q1⟩=>⟨x,Z,H1,I1,r1,q1⟩)
def b5c(c:TT)(t u:TS):TS:=λD Z H=>c Z H λb H1=>if b=true then t D Z H1 else u D Z H1
theorem b2h{c:Expr}{a b:List Stmt}{tc:TT}(hc:PT X c tc)(ha:PSs X a t)(hb:PSs X b u):PS X (.If c a b pos) (b5c tc t u):=by
 intro aA s Z H D I h
 refine wpAny_If (thn (hc aA s Z H _ I h) λd s1 ⟨H1,I1,q1⟩=>?_)
 cases d with
 |true=>exact ha aA s1 Z H1 D I1 q1
 |false=>exact hb aA s1 Z H1 D I1 q1
end
abbrev TG:=V->St->Hp->(St->Hp->Prop)->Prop
abbrev TGs:=List V->St->Hp->(St->Hp->Prop)->Prop
def PG(X:Cx)(target:Expr)(t:TG):Prop :=
 ∀(aA:List (Addr×Obj)) (s:Shared) (Z:St) (H:Hp) (v:V) (u:Value) (Q:St->Hp->Prop),Inv X aA Z H s->RelV v u->t v Z H Q->
  wpAny (model X.prog X.w) X.A (assign target X.env u) (λ_ s'=>∃Z' H',Inv X aA Z' H' s'/\Q Z' H') X.xe s
def PGs(X:Cx)(ts:List Expr)(t:TGs):Prop :=
 ∀(aA:List (Addr×Obj)) (s:Shared) (Z:St) (H:Hp) (vs:List V) (us:List Value) (Q:St->Hp->Prop),Inv X aA Z H s->Vals vs us->t vs Z H Q->
  wpAny (model X.prog X.w) X.A (assignInOrder ((assignEach ts X.env).map (·.2)) us) (λ_ s'=>∃Z' H',Inv X aA Z' H' s'/\Q Z' H') X.xe s
abbrev ax8:=V->V->V->Hp->(Hp->Prop)->Prop
def b2j(X:Cx)(t:ax8):Prop :=
 ∀(aA:List (Addr×Obj)) (s:Shared) (Z:St) (H:Hp) (o i v:V) (ov iv u:Value) (Q:Hp->Prop),Inv X aA Z H s->RelV o ov->RelV i iv->RelV v u->t o i v H Q->
  wpAny (model X.prog X.w) X.A (setItem ov iv u) (λ_ s'=>∃H',Inv X aA Z H' s'/\Q H') X.xe s
abbrev TIp:=V->V->Hp->VK->Prop
def PIp(X:Cx)(op:Operator)(t:TIp):Prop :=
 ∀(aA:List (Addr×Obj)) (s:Shared) (Z:St) (H:Hp) (x y:V) (v u:Value) (Q:VK),Inv X aA Z H s->RelV x v->RelV y u->t x y H Q->
  wpAny (model X.prog X.w) X.A (inplaceOp op v u) (EP X aA Z Q) X.xe s
section
variable{X:Cx}{pos:Pos}
def a3p(i:Nat):TG:=λv Z H Q=>Q (Z.set i (some v)) H
theorem acd(hN:X.N.Nodup)(hi:X.N[i]? = some x)(hx:Loc X.env.scope x)(hf:Hf X x:=by first|exact .inl rfl|exact .inr rfl|assumption):PG X (.Name x pos) (a3p i):=by
 intro aA s Z H v u Q I r h
 exact wpAny_assign_Name (a8m I hN hi hx r (λs' I'=>⟨_,H,I',h⟩) hf)
def b4h:TGs:=λvs Z H Q=>vs=[]/\Q Z H
def amv(t:TG)(u:TGs):TGs:=λvs Z H Q=>∃v r,vs=v::r/\t v Z H λZ' H'=>u r Z' H' Q
theorem a8n:PGs X [] b4h:=by
 intro aA s Z H vs us Q I r h
 obtain⟨e,h⟩:=h;subst e;cases r
 exact assignInOrder_nil ⟨Z,H,I,h⟩
theorem a1v{e:Expr}{es:List Expr}{t:TG}{u:TGs}(h1:PG X e t)(h2:PGs X es u)
  (hs:(assignEach (e::es) X.env).map (·.2)=assign e X.env::(assignEach es X.env).map (·.2):=by rfl):PGs X (e::es) (amv t u):=by
 intro aA s Z H vs us Q I r h
 obtain⟨v,vr,e1,h⟩:=h;subst e1
 cases r with
 |cons r rr =>
  rw[hs];refine assignInOrder_cons (thn (h1 aA s Z H _ _ _ I r h) λ_ s1 ⟨Z1,H1,I1,q1⟩=>?_);exact h2 aA s1 Z1 H1 _ _ Q I1 rr q1
def a0r(K:Fg)(n:Nat)(t:TGs):TG:=λv Z H Q=>∃a xs,v=.ref a/\SqT K H a xs/\xs.length=n/\t xs Z H Q
theorem adp(hc:X.calm=true)(h:PGs X es t)
  (hn:(assignEach es X.env).length=n:=by rfl) (hst:(assignEach es X.env).findIdx? (·.1)=none:=by rfl):PG X (.Tuple es k pos) (a0r X.K n t):=by
 intro aA s Z H v u Q I r hw
 obtain⟨a,xs,e1,hq,hl,hw⟩:=hw;subst e1;cases r
 obtain⟨its,rv,ht,hz⟩:=I.tuple hq;refine assign_Tuple_tuple (I.ok.hd hc) ht (by simp[hn,<-hl,rv.length]) hst λh' hx=>?_
 have I1:Inv X aA Z H {s with heap:=h' }:=I.kept (t':=s.toks) λb o e=>hx b o (bT (aX e)) e
 exact h aA _ Z H xs _ Q I1 (by simpa using rv) hw
def afj(to ti:TE)(t:ax8):TG:=λv Z H Q=>to Z H λo H1=>ti Z H1 λi H2=>t o i v H2 λH3=>Q Z H3
theorem ax9{o i:Expr}{to ti:TE}{t:ax8}(ho:PE X o to)(hi:PE X i ti)(hs:b2j X t)
  (ha:∀v,assign (.Subscript o i pos) X.env v=(do
   let ov <-holding [v] (eval o X.env)
   let iv <-holding [v,ov] (eval i X.env)
   standAt pos
   holding [v,ov,iv] (setItem ov iv v)
   release [v,ov,iv] []):=by intro _;rfl):PG X (.Subscript o i pos) (afj to ti t):=by
 intro aA s Z H v u Q I r h
 rw[ha];refine ai (dI (thn (ho aA s Z H _ I h) λov s1 ⟨x,H1,I1,r1,q1⟩=>?_));refine ai (dI (thn (hi aA s1 Z H1 _ I1 q1) λiv s2 ⟨y,H2,I2,r2,q2⟩=>?_));refine ai (dB (ai (dI (thn (hs aA s2 Z H2 x y v ov iv u _ I2 r1 r2 r q2) λ_ s3 ⟨H3,I3,q3⟩=>?_))));exact wpAny_release ⟨Z,H3,I3,q3⟩
def b1t(te:TE)(g:TG):TS:=λD Z H=>te Z H λx H1=>g x Z H1 D.nx
theorem aq5{tg e:Expr}{te:TE}{g:TG}(he:PE X e te)(hg:PG X tg g)(hs:swapsWithSole [tg] e pos.line X.env=pure false:=by rfl)(hw:swappedStores [tg] e X.env=pure none:=by rfl)
  (h1:(assignEach [tg] X.env).map (·.2)=[assign tg X.env]:=by rfl):PS X (.Assign [tg] e pos) (b1t te g):=by
 intro aA s Z H D I h
 refine wpAny_Assign_stores (thn (he aA s Z H _ I h) λv s1 ⟨x,H1,I1,r1,q1⟩=>?_) hs hw;rw[h1];exact thn (hg aA s1 Z H1 x v _ I1 r1 q1) λ_ s2 q=>q
theorem axa{i:Nat}{x:Str}{e:Expr}{te:TE}{pos':Pos}(hN:X.N.Nodup)(hi:X.N[i]? = some x)(hx:Loc X.env.scope x)(he:PE X e te)(hs:swapsWith e (some (.Name x pos')) pos.line X.env=pure false:=by rfl)(hf:Hf X x:=by first|exact .inl rfl|exact .inr rfl|assumption) :
  PS X (.Assign [.Name x pos'] e pos) (b1t te (a3p i)):=by
 intro aA s Z H D I h
 refine wpAny_Assign_Name (thn (he aA s Z H _ I h) λv s1 ⟨y,H1,I1,r1,q1⟩=>?_) hs;exact a8m I1 hN hi hx r1 (λs2 I2=>⟨_,H1,I2,q1⟩) hf
noncomputable def b5d(i:Nat)(te:TE)(ti:TIp):TS:=λD Z H=>∃x,Z[i]? = some (some x)/\te Z H λy H1=>ti x y H1 λz H2=>D.nx (Z.set i (some z)) H2
theorem axb{i:Nat}{x:Str}{e:Expr}{te:TE}{op:Operator}{ti:TIp}{pos':Pos}(hN:X.N.Nodup)(hi:X.N[i]? = some x)(hx:Loc X.env.scope x)(he:PE X e te)(ho:PIp X op ti)(hf:Hf X x:=by first|exact .inl rfl|exact .inr rfl|assumption) :
  PS X (.AugAssign (.Name x pos') op e pos) (b5d i te ti):=by
 intro aA s Z H D I h
 obtain⟨v,e1,h⟩:=h;obtain⟨m,hn,hl⟩:=I.loc;have vis:Vis X.env.scope x:=by rcases hx with k|k;exact .inl k;exact .inr (.inl k)
 obtain⟨u,r,l⟩:=hl i x v hi e1 vis;refine wpAny_AugAssign_Name ?_;have go:wpAny (model X.prog X.w) X.A (eval e X.env) (λw s₂=>wpAny (model X.prog X.w) X.A (inplaceOp op u w) (λr s₃=>wpAny (model X.prog X.w) X.A (storeName X.env x r) (λ_=>SP X aA D .next) X.xe s₃) X.xe s₂) X.xe s:=by
  refine thn (he aA s Z H _ I h) ?_
  rintro w s1 ⟨y,H1,I1,r1,q1⟩
  refine thn (ho aA s1 Z H1 v y u w _ I1 r r1 q1) ?_
  rintro z s2 ⟨zv,H2,I2,r2,q2⟩
  exact a8m I2 hN hi hx r2 (λs3 I3=>⟨_,H2,I3,q2⟩) hf
 rcases l with⟨hk,hm⟩|⟨hk,c,hc,hcell⟩
 .exact wpAny_loadName_local I.ok.kind hk hn hm go
 .rcases hk with hk|hk
  .exact wpAny_loadName_cell I.ok.kind hk hc hcell go
  .rcases hx with k|k
   .have:X.env.scope.names.lookup x=some .free:=hk
    rw[k]at this;cases this
   .have:X.env.scope.names.lookup x=some .free:=hk
    rw[k]at this;cases this
def b2k(to ti te:TE)(tget:V->V->Hp->VK->Prop)(tip:TIp)(tset:ax8):TS:=λD Z H=>to Z H λo H1=>ti Z H1 λi H2=>tget o i H2 λx H3=>te Z H3 λy H4=>tip x y H4 λz H5=>tset o i z H5 λH6=>D.nx Z H6
def b4i(X:Cx)(t:V->V->Hp->VK->Prop):Prop :=
 ∀(aA:List (Addr×Obj)) (s:Shared) (Z:St) (H:Hp) (o i:V) (ov iv:Value) (Q:VK),Inv X aA Z H s->RelV o ov->RelV i iv->t o i H Q->
  wpAny (model X.prog X.w) X.A (getItem ov iv) (EP X aA Z Q) X.xe s
theorem ash{o i e:Expr}{to ti te:TE}{tget:V->V->Hp->VK->Prop}{tip:TIp}{tset:ax8}{op:Operator}{tpos:Pos}(ho:PE X o to)(hi:PE X i ti)(hg:b4i X tget)(he:PE X e te)(hp:PIp X op tip)(hs:b2j X tset)
  (ha:∀ov iv new,augStore i ov iv new=(do holding [new,ov,iv] (setItem ov iv new);release [new,ov,iv] [];pure .next):=by intros;rfl):PS X (.AugAssign (.Subscript o i tpos) op e pos) (b2k to ti te tget tip tset):=by
 intro aA s Z H D I h
 refine wpAny_AugAssign_SubscriptAny (thn (ho aA s Z H _ I h) λov s1 ⟨x1,H1,I1,r1,q1⟩=>?_) ha;refine thn (hi aA s1 Z H1 _ I1 q1) ?_
 rintro iv s2 ⟨x2,H2,I2,r2,q2⟩
 refine thn (hg aA s2 Z H2 x1 x2 ov iv _ I2 r1 r2 q2) ?_
 rintro old s3 ⟨x3,H3,I3,r3,q3⟩
 refine thn (he aA s3 Z H3 _ I3 q3) ?_
 rintro v s4 ⟨x4,H4,I4,r4,q4⟩
 refine thn (hp aA s4 Z H4 x3 x4 old v _ I4 r3 r4 q4) ?_
 rintro new s5 ⟨x5,H5,I5,r5,q5⟩
 exact thn (hs aA s5 Z H5 x1 x2 x5 ov iv new _ I5 r1 r2 r5 q5) λ_ s6 ⟨H6,I6,q6⟩=>⟨Z,H6,I6,q6⟩
end
section
variable{X:Cx}{pos:Pos}
def axc(c:TT)(tb:TS):TS:=λD Z H=>∃W:Nat->St->Hp->Prop,(∃m,W m Z H)/\∀m Z H,W m Z H->
 c Z H λb H1=>if b=true then ∃N:St->Hp->Prop,(∀Z' H',N Z' H'->∃m',m'<m/\W m' Z' H')/\tb {D with nx:=N,ct:=N,bk:=D.nx} Z H1 else D.nx Z H1
theorem amw{c:Expr}{body:List Stmt}{tc:TT}{tb:TS}(hp:PassesOwn (model X.prog X.w) X.A X.env X.xe)(hc:PT X c tc)(hb:PSs X body tb):PS X (.While c body [] pos) (axc tc tb):=by
 intro aA s Z H D I h
 obtain⟨W,⟨m0,w0⟩,turn⟩:=h;refine wpAny_While (codeAny_whileLoop (λn s'=>∃Z' H',Inv X aA Z' H' s'/\W n Z' H') ?_ m0 ⟨Z,H,I,w0⟩)
 rintro n s1 ⟨Z1,H1,I1,w1⟩
 refine e8 hp (thn (hc aA s1 Z1 H1 _ I1 (turn n Z1 H1 w1)) λb s2 ⟨H2,I2,q2⟩=>?_)
 cases b with
 |true =>
  obtain⟨N,hN,q2⟩:=q2;rw[aU rfl];refine e8 hp (thn (hb aA s2 Z1 H2 _ I2 q2) λf s3 q3=>?_)
  cases f with
  |next =>
   obtain⟨Z3,H3,I3,n3⟩:=q3;obtain⟨m',hm,w3⟩:=hN Z3 H3 n3;exact⟨m',hm,Z3,H3,I3,w3⟩
  |cont =>
   obtain⟨Z3,H3,I3,n3⟩:=q3;obtain⟨m',hm,w3⟩:=hN Z3 H3 n3;exact⟨m',hm,Z3,H3,I3,w3⟩
  |brk=>exact q3
  |ret v=>exact q3
 |false =>
  rw[bA bJ];exact gz ⟨Z1,H2,I2,q2⟩
end
structure It where
 go:Nat->Hp->Prop
 yld:Nat->Hp->V->Hp->Prop
 stop:Nat->Hp->Prop
def FpOk(X:Cx)(aA:List (Addr×Obj))(H:Hp)(b:Addr):Prop :=
 H b=none/\b≠X.env.locals/\b∉X.fs/\(b∈X.ex\/X.s₀.heap.objs.size<=b)/\(∀x c,X.env.cells.lookup x=some c->c≠b)/\∀p∈X.pn++aA,p.1≠b
theorem Inv.fpOk(I:Inv X aA Z H s)(hb:s.heap.objs.size<=b)(hn:H' b=none):FpOk X aA H' b:=by
 refine⟨hn,iK (bC I.lt hb),I.nofs hb,.inr (cM I.sz hb),λx c e z=>?_,λp hp z=>?_⟩
 .obtain⟨v,q⟩:=I.cell x c e;exact absurd (bC q.lt (by rw[z];exact hb)) (cO _)
 .exact absurd (bC (aX (I.pin p hp).1) (by rw[z];exact hb)) (cO _)
structure Turn (P:Program) (w:World) (K:Fg) (tg:Expr) (J:It) (fp:List Addr) (it:Addr) (tn:Nat->Heap->Prop):Prop where
 mem:it∈fp
 obj:∀i h,tn i h->∀b∈fp,∃o,h.get? b=some o/\∀v,o.data≠.cell v
 keep:∀i h h',tn i h->(∀b∈fp,∀o,h.get? b=some o->h'.get? b=some o)->tn i h'
 item:∀(X:Cx),X.prog=P->X.w=w->X.K=K->X.calm=true->∀(i:Nat) (aA:List (Addr×Obj)) (s:Shared) (Z:St) (H:Hp) (E:Value->Shared->Prop),Inv X aA Z H s->(∀b∈fp,FpOk X aA H b)->tn i s.heap->J.go i H->
  wpAny (model P w) X.A (pyNext (.ref it)) (λr s1=>∃u,r=some u /\
   wpAny (model P w) X.A (letOwnedTupleGo tg (.ref it) u) (λ_ s2=>∃x H',Inv X aA Z H' s2/\RelV x u/\J.yld i H x H'/\tn (i+1) s2.heap/\∀b∈fp,H' b=none) E s1) E s
 done:∀(X:Cx),X.prog=P->X.w=w->X.K=K->X.calm=true->∀(i:Nat) (aA:List (Addr×Obj)) (s:Shared) (Z:St) (H:Hp) (E:Value->Shared->Prop),Inv X aA Z H s->(∀b∈fp,FpOk X aA H b)->tn i s.heap->J.stop i H->
  wpAny (model P w) X.A (pyNext (.ref it)) (λr s1=>r=none/\Inv X aA Z H s1) E s
 self:∀(A:Around) (i:Nat) (s:Shared) (Q:Value->Shared->Prop) (E:Value->Shared->Prop),tn i s.heap->Q (.ref it) s->wpAny (model P w) A (pyIter (.ref it)) Q E s
abbrev TI:=St->Hp->(It->Hp->Prop)->Prop
def PIE(X:Cx)(aA:List (Addr×Obj))(Z:St)(tg:Expr)(R:It->Hp->Prop)(itv:Value)(s2:Shared):Prop :=
 ∃(it:Addr) (fp:List Addr) (tn:Nat->Heap->Prop) (J:It) (H':Hp),itv=.ref it/\Inv X aA Z H' s2/\Turn X.prog X.w X.K tg J fp it tn/\tn 0 s2.heap/\(∀b∈fp,FpOk X aA H' b)/\R J H'
def PI(X:Cx)(tg aF:Expr)(wi:TI):Prop :=
 ∀(aA:List (Addr×Obj)) (s:Shared) (Z:St) (H:Hp) (R:It->Hp->Prop),Inv X aA Z H s->wi Z H R->
  wpAny (model X.prog X.w) X.A (eval aF X.env) (λv s1=>wpAny (model X.prog X.w) X.A (pyIter v) (PIE X aA Z tg R) X.xe s1) X.xe s
theorem ahg{s:Shared}(ho:s.heap.get? it=some o)(hc:o.cls=.type n)(hd:o.data=.fields vs)
  (hn:["enumerate","zip","dict_itemiterator","dict_reverseitemiterator","odict_iterator","itertools.zip_longest","itertools.pairwise"].contains n=false) (hQ:Q () s):wpAny M A (letOwnedTupleGo tg (.ref it) u) Q E s:=by
 unfold letOwnedTupleGo
 cases tg<;>first
  |exact aJ hQ
  | (cases u<;>first
    |exact aJ hQ
    | (refine ai (wpAny_load ho ?_)
       rw[hc,hd];show wpAny M A (if (["enumerate","zip","dict_itemiterator","dict_reverseitemiterator","odict_iterator","itertools.zip_longest","itertools.pairwise"].contains n && vs[0]? == some (rawInt _))=true then _ else _) Q E s
       rw[bA (by intro h;rw[hn,Bool.false_and]at h;cases h)]
       exact aJ hQ))
noncomputable def Itl(K:Fg)(a:Addr):It :=
 ⟨λi H=>∃xs x,SqL K H a xs/\xs[i]? = some x,λi H x H'=>H'=H/\∀xs,SqL K H a xs->xs[i]? = some x,λi H=>∃xs,SqL K H a xs/\xs.length<=i⟩
noncomputable def Itt(K:Fg)(a:Addr):It :=
 ⟨λi H=>∃xs x,SqT K H a xs/\xs[i]? = some x,λi H x H'=>H'=H/\∀xs,SqT K H a xs->xs[i]? = some x,λi H=>∃xs,SqT K H a xs/\xs.length<=i⟩
def Itr(lo:Int)(n:Nat):It:=⟨λi _=>i<n,λi H x H'=>H'=H/\x=.int (lo+i),λi _=>n<=i⟩
theorem ahh{P:Program}{w:World}{K:Fg}{tg:Expr}(a it:Addr):Turn P w K tg (Itl K a) [it] it (λi h=>h.IsListIter it a i) where
 mem:=by simp
 obj:=λi h st b hb=>by
  have e:b=it:=by simpa using hb
  subst e;obtain⟨o,e,c,d⟩:=st;exact⟨o,e,λv z=>by rw[d]at z;cases z⟩
 keep:=λi h h' st k=>st.at λo e=>k it (by simp) o e
 item:=by
  intro X hP hw hK hc i aA s Z H E I hf st hg
  subst hP hw hK;obtain⟨xs,x,hq,hx⟩:=hg;obtain⟨its,rv,p,hz⟩:=I.list hq;obtain⟨u,hu,ru⟩:=rv.get hx;obtain⟨f0,f1,f2,f3,f4,f5⟩:=hf it (by simp)
  refine wpAny_pyNext_list_item st p.isList (x:=u) (by simpa using hu) λh' st' sb=>?_
  have I1:Inv X aA Z H {s with heap:=h' }:=I.turned (t':=s.toks) (λb o hb e=>(sb.2 b hb).trans e) f0 f1 f3 f4 f5
  obtain⟨o,e,c,d⟩:=id st';exact⟨u,rfl,ahg (s:={s with heap:=h' }) e c d (by decide) ⟨x,H,I1,ru,⟨rfl,λys hy=>by rw[I.list_inj hy hq];exact hx⟩,st',λb hb=>(hf b hb).1⟩⟩
 done:=by
  intro X hP hw hK hc i aA s Z H E I hf st hg
  subst hP hw hK;obtain⟨xs,hq,hx⟩:=hg;obtain⟨its,rv,p,hz⟩:=I.list hq;obtain⟨f0,f1,f2,f3,f4,f5⟩:=hf it (by simp)
  have hl:=rv.length;exact wpAny_pyNext_list_end (I.ok.hd hc) st p.isList (by simp;omega) λh' eb=>⟨rfl,I.turned (t':=s.toks) (λb o hb e=>eb b o hb e) f0 f1 f3 f4 f5⟩
 self:=λ_ _ _ _ _ st h=>wpAny_pyIter_listiter st h
theorem afk{P:Program}{w:World}{K:Fg}{tg:Expr}(a it:Addr):Turn P w K tg (Itt K a) [it] it (λi h=>h.IsTupleIter it a i) where
 mem:=by simp
 obj:=λi h st b hb=>by
  have e:b=it:=by simpa using hb
  subst e;obtain⟨o,e,c,d⟩:=st;exact⟨o,e,λv z=>by rw[d]at z;cases z⟩
 keep:=λi h h' st k=>st.at λo e=>k it (by simp) o e
 item:=by
  intro X hP hw hK hc i aA s Z H E I hf st hg
  subst hP hw hK;obtain⟨xs,x,hq,hx⟩:=hg;obtain⟨its,rv,p,hz⟩:=I.tuple hq;obtain⟨u,hu,ru⟩:=rv.get hx;obtain⟨f0,f1,f2,f3,f4,f5⟩:=hf it (by simp)
  refine wpAny_pyNext_tuple_item st (show s.heap.IsTuple a its.toArray from p) (x:=u) (by simpa using hu) λh' st' sb=>?_
  have I1:Inv X aA Z H {s with heap:=h' }:=I.turned (t':=s.toks) (λb o hb e=>(sb.2 b hb).trans e) f0 f1 f3 f4 f5
  obtain⟨o,e,c,d⟩:=id st';exact⟨u,rfl,ahg (s:={s with heap:=h' }) e c d (by decide) ⟨x,H,I1,ru,⟨rfl,λys hy=>by rw[I.tuple_inj hy hq];exact hx⟩,st',λb hb=>(hf b hb).1⟩⟩
 done:=by
  intro X hP hw hK hc i aA s Z H E I hf st hg
  subst hP hw hK;obtain⟨xs,hq,hx⟩:=hg;obtain⟨its,rv,p,hz⟩:=I.tuple hq;obtain⟨f0,f1,f2,f3,f4,f5⟩:=hf it (by simp)
  have hl:=rv.length;exact wpAny_pyNext_tuple_end (I.ok.hd hc) st (show s.heap.IsTuple a its.toArray from p) (by simp;omega) λh' eb=>⟨rfl,I.turned (t':=s.toks) (λb o hb e=>eb b o hb e) f0 f1 f3 f4 f5⟩
 self:=λ_ _ _ _ _ st h=>wpAny_pyIter_tupleiter st h
theorem afl{P:Program}{w:World}{K:Fg}{tg:Expr}(it:Addr)(lo:Int)(n:Nat):Turn P w K tg (Itr lo n) [it] it (λi h=>IsRangeIter h it (lo+(i:Nat)*1) ((n:Int)-(i:Nat)) 1) where
 mem:=by simp
 obj:=λi h st b hb=>by
  have e:b=it:=by simpa using hb
  subst e;exact⟨_,st,λv z=>by
   have z':Data.fields _=Data.cell v:=z
   cases z'⟩
 keep:=λi h h' st k=>k it (by simp) _ st
 item:=by
  intro X hP hw hK hc i aA s Z H E I hf st hg
  subst hP hw hK;obtain⟨f0,f1,f2,f3,f4,f5⟩:=hf it (by simp)
  have W:=Walks.range (prog:=X.prog) (w:=X.w) (I.ok.hd hc) it lo 1 n;refine W.item i s _ _ hg st λv h' tk hv st' kk=>?_;obtain⟨t,rfl⟩:=hv;have I1:Inv X aA Z H {s with heap:=h',toks:=tk}:=I.turned (λb o hb e=>kk b o (by simpa using hb) e) f0 f1 f3 f4 f5
  refine⟨_,rfl,ahg (s:={s with heap:=h',toks:=tk}) (n := "range_iterator") st' rfl rfl (by decide) ⟨.int (lo+i),H,I1,⟨t,?_⟩,⟨rfl,rfl⟩,st',λb hb=>(hf b hb).1⟩⟩
  rw[Int.mul_one]
 done:=by
  intro X hP hw hK hc i aA s Z H E I hf st hg
  subst hP hw hK;obtain⟨f0,f1,f2,f3,f4,f5⟩:=hf it (by simp)
  exact wpAny_pyNext_range_end (I.ok.hd hc) st (by have:n<=i:=hg;omega) λh' eb=>⟨rfl,I.turned (t':=s.toks) (λb o hb e=>eb b o hb e) f0 f1 f3 f4 f5⟩
 self:=λ_ _ _ _ _ st h=>fG st h
section
variable{X:Cx}{tg:Expr}
def b2l(K:Fg)(tl:TE):TI:=λZ H R=>tl Z H λx H1=>∃a,x=.ref a/\(∃xs,SqL K H1 a xs)/\R (Itl K a) H1
def b5e(K:Fg)(tl:TE):TI:=λZ H R=>tl Z H λx H1=>∃a,x=.ref a/\(∃xs,SqT K H1 a xs)/\R (Itt K a) H1
theorem ahi{l:Expr}{tl:TE}(hl:PE X l tl):PI X tg l (b2l X.K tl):=by
 intro aA s Z H R I h
 refine thn (hl aA s Z H _ I h) ?_
 rintro v s1 ⟨x,H1,I1,r1,q1⟩
 obtain⟨a,e,⟨xs,hq⟩,q⟩:=q1;subst e;cases r1
 obtain⟨its,rv,p,hz⟩:=I1.list hq;refine fJ p.isList ?_;refine⟨s1.heap.objs.size,[s1.heap.objs.size],_,_,H1,rfl,I1.kept (t':=s1.toks) λb o e=>ar _ e,ahh a _,⟨_,aO _ rfl,rfl,rfl⟩,λb hb=>?_,q⟩;have e:b=s1.heap.objs.size:=by simpa using hb
 subst e;exact I1.fpOk (ay _) (I1.hok.fresh (ay _))
theorem axd{l:Expr}{tl:TE}(hl:PE X l tl):PI X tg l (b5e X.K tl):=by
 intro aA s Z H R I h
 refine thn (hl aA s Z H _ I h) ?_
 rintro v s1 ⟨x,H1,I1,r1,q1⟩
 obtain⟨a,e,⟨xs,hq⟩,q⟩:=q1;subst e;cases r1
 obtain⟨its,rv,p,hz⟩:=I1.tuple hq;refine wpAny_pyIter_tuple (show s1.heap.IsTuple a its.toArray from p) ?_
 refine⟨s1.heap.objs.size,[s1.heap.objs.size],_,_,H1,rfl,I1.kept (t':=s1.toks) λb o e=>ar _ e,afk a _,⟨_,aO _ rfl,rfl,rfl⟩,λb hb=>?_,q⟩;have e:b=s1.heap.objs.size:=by simpa using hb
 subst e;exact I1.fpOk (ay _) (I1.hok.fresh (ay _))
theorem adq{s:Shared}{lo hi:Int}{tk:Nat}(I:Inv X aA Z H s)(h1 : -(2^62)<=lo)(h2:lo<2^62)(h3 : -(2^62)<=hi)(h4:hi<2^62)
  (q:R (Itr lo (hi-lo).toNat) H):wpAny (model X.prog X.w) X.A (pyIter (.ref s.heap.objs.size)) (PIE X aA Z tg R) E {s with heap:=s.heap.push {cls:=.type "range",data:=.fields #[.int lo t,.int hi u,.int 1 v]},toks:=tk}:=by
 refine wpAny_pyIter_range (IsRange.new ..) (small_one h1 h2 h3 h4) ?_;have I1:Inv X aA Z H {s with heap:=s.heap.push {cls:=.type "range",data:=.fields #[.int lo t,.int hi u,.int 1 v]},toks:=tk}:=I.kept λb o e=>ar _ e
 refine⟨(s.heap.push {cls:=.type "range",data:=.fields #[.int lo t,.int hi u,.int 1 v]}).objs.size,[(s.heap.push {cls:=.type "range",data:=.fields #[.int lo t,.int hi u,.int 1 v]}).objs.size],_,_,H,rfl,
  I1.kept (t':=tk) λb o e=>ar _ e,afl _ lo (hi-lo).toNat,?_,λb hb=>?_,q⟩
 .have e1:lo+((0:Nat):Int)*1=lo:=by simp
  have e2:(((hi-lo).toNat:Nat):Int)-((0:Nat):Int)=Builtin.Range.rangeSize lo hi 1:=by rw[rangeSize_one];split<;>omega
  show IsRangeIter _ _ (lo+((0:Nat):Int)*1) ((((hi-lo).toNat:Nat):Int)-((0:Nat):Int)) 1;rw[e1,e2];exact aO _ rfl
 .have e:b=(s.heap.push {cls:=.type "range",data:=.fields #[.int lo t,.int hi u,.int 1 v]}).objs.size:=by simpa using hb
  subst e;exact I1.fpOk (ay _) (I1.hok.fresh (ay _))
noncomputable def b2m(ta:TA):TI:=λZ H R=>ta Z H λvs H1=>∃j:Int,vs=[.int j] /\ -(2^62)<=j/\j<2^62/\R (Itr 0 j.toNat) H1
noncomputable def b2n(ta:TA):TI:=λZ H R=>ta Z H λvs H1=>∃i j:Int,vs=[.int i,.int j]/\(-(2^62)<=i/\i<2^62 /\ -(2^62)<=j/\j<2^62)/\R (Itr i (j-i).toNat) H1
theorem ahj{a:Expr}{ta:TA}{p pos:Pos}(hg:Gl X "range")(hm:X.mg "range" = none)(ha:PA X [a] ta)(hs:starEach [a] X.env=[(false,eval a X.env)]:=by rfl):PI X tg (.Call (.Name "range" p) [a] [] pos) (b2m ta):=by
 intro aA s Z H R I h
 refine Call_ (a3j I hg hm boot_range (cp (thn (ha pos aA s Z H _ I h) λus s1 ⟨vs,H1,I1,r1,q1⟩=>?_) hs rfl));obtain⟨j,e,q1,q2,q⟩:=q1;subst e
 cases r1 with
 |cons r rr =>
  cases rr
  obtain⟨t,rfl⟩:=r;exact call_range_1 (adq I1 (by omega) (by omega) q1 q2 (by simpa using q))
theorem ahk{a b:Expr}{ta:TA}{p pos:Pos}(hg:Gl X "range")(hm:X.mg "range" = none)(ha:PA X [a,b] ta)(hs:starEach [a,b] X.env=[(false,eval a X.env),(false,eval b X.env)]:=by rfl)(hs2:starEach [b] X.env=[(false,eval b X.env)]:=by rfl) :
  PI X tg (.Call (.Name "range" p) [a,b] [] pos) (b2n ta):=by
 intro aA s Z H R I h
 refine Call_ (a3j I hg hm boot_range (cp (thn (ha pos aA s Z H _ I h) λus s1 ⟨vs,H1,I1,r1,q1⟩=>?_) (by rw[hs,hs2]) (by rw[hs2];rfl)))
 obtain⟨i,j,e,⟨q1,q2,q3,q4⟩,q⟩:=q1;subst e
 cases r1 with
 |cons r rr =>
  cases rr with
  |cons r' rr =>
   cases rr
   obtain⟨t,rfl⟩:=r;obtain⟨t',rfl⟩:=r';exact call_range_2 (adq I1 q1 q2 q3 q4 q)
def b5f(wi:TI)(g:TG)(tb:TS):TS:=λD Z H=>wi Z H λJ H1=>∃W:Nat->Nat->St->Hp->Prop,(∃m,W 0 m Z H1)/\∀i m Z H,W i m Z H->
 (J.stop i H/\D.nx Z H)\/(J.go i H/\∃N:St->Hp->Prop,(∀Z' H',N Z' H'->∃m',m'<m/\W (i+1) m' Z' H')/\∀x H',J.yld i H x H'->g x Z H' λZ2 H2=>tb {D with nx:=N,ct:=N,bk:=D.nx} Z2 H2)
def xr(fp:List Addr)(h:Heap):List (Addr×Obj):=fp.filterMap λb=>(h.get? b).map λo=>(b,o)
theorem mz{h:Heap}(hb:b∈fp)(e:h.get? b=some o):(b,o)∈xr fp h:=gM.mpr ⟨b,hb,by rw[e];rfl⟩
theorem aai(hp:p∈xr fp h):p.1∈fp/\h.get? p.1=some p.2:=by
 obtain⟨b,hb,e⟩:=gM.mp hp
 cases q:h.get? b with
 |none=>rw[q]at e;cases e
 |some o =>
  rw[q]at e;have e':(b,o)=p:=bS e;subst e';exact⟨hb,q⟩
theorem Inv.pinned(I:Inv X aA Z H s)(hf:∀b∈fp,FpOk X aA H b)(ho:∀b∈fp,∃o,s.heap.get? b=some o/\∀v,o.data≠.cell v):Inv X (aA++xr fp s.heap) Z H s :=
 I.pins_of λp hp=>(b9.mp hp).elim (λz=>I.pin p (bb _ z)) λz=>by
  obtain⟨hb,e⟩:=aai z;obtain⟨f0,f1,f2,_⟩:=hf p.1 hb;obtain⟨o,e',d⟩:=ho p.1 hb;rw[e]at e';cases e'
  exact⟨e,f0,f1,f2,d⟩
theorem Inv.unpinned(I:Inv X (aA++pl) Z H s):Inv X aA Z H s:=I.pins_of λp hp=>I.pin p (bb _ (bN _ hp))
theorem axe{aF:Expr}{body:List Stmt}{wi:TI}{g:TG}{tb:TS}{pos:Pos}(hp:PassesOwn (model X.prog X.w) X.A X.env X.xe)(hc:X.calm=true)(hi:PI X tg aF wi)(hg:PG X tg g)(hb:PSs X body tb)
  (hs:∀x,foldedSetIterable aF X.env x=pure x:=by intro _;rfl):PS X (.For tg aF body [] pos) (b5f wi g tb):=by
 intro aA s Z H D I h
 refine wpAny_For (thn (hi aA s Z H _ I h) λv s1 h1=>thn h1 λitv s2 h2=>?_) hs;obtain⟨it,fp,tn,J,H2,e,I2,T,st2,f2,W,⟨m0,w0⟩,turn⟩:=h2;subst e;have stat:∀{H':Hp},(∀b∈fp,H' b=none)->∀b∈fp,FpOk X aA H' b:=λhn b hb=>⟨hn b hb,(f2 b hb).2⟩;refine codeAny_forLoop_any (λn s'=>∃i Z' H',Inv X aA Z' H' s'/\tn i s'.heap/\(∀b∈fp,H' b=none)/\W i n Z' H') ?_ m0 ⟨0,Z,H2,I2,st2,λb hb=>(f2 b hb).1,w0⟩
 rintro n s3 ⟨i,Z3,H3,I3,st3,fr3,w3⟩
 rcases turn i n Z3 H3 w3 with⟨stop,qn⟩|⟨go,N,hN,step⟩
 .refine e8 hp (thn (T.done X rfl rfl rfl hc i aA s3 Z3 H3 X.xe I3 (stat fr3) st3 stop) λr s4 ⟨hr,I4⟩=>?_);subst hr;exact gz ⟨Z3,H3,I4,qn⟩
 .refine e8 hp (thn (T.item X rfl rfl rfl hc i aA s3 Z3 H3 X.xe I3 (stat fr3) st3 go) λr s4 ⟨u,hr,h4⟩=>?_);subst hr;refine e8 hp (thn h4 λ_ s5 ⟨x,H5,I5,r5,y5,st5,fr5⟩=>?_);have I5':=I5.pinned (stat fr5) (T.obj _ _ st5);refine e8 hp (thn (hg _ s5 Z3 H5 x u _ I5' r5 (step x H5 y5)) λ_ s6 ⟨Z6,H6,I6,q6⟩=>?_);refine e8 hp (thn (hb _ s6 Z6 H6 _ I6 q6) λf s7 q7=>?_);have again:∀{Z7:St} {H7:Hp},Inv X (aA++xr fp s5.heap) Z7 H7 s7->N Z7 H7->∃m,m<n/\∃i Z' H',Inv X aA Z' H' s7/\tn i s7.heap/\(∀b∈fp,H' b=none)/\W i m Z' H':=λ{Z7 H7} I7 n7=>by
   obtain⟨m',hm,w7⟩:=hN Z7 H7 n7;refine⟨m',hm,i+1,Z7,H7,I7.unpinned,T.keep _ _ _ st5 λb hb o e=>(I7.pin (b,o) (bb _ (bb _ (mz hb e)))).1,λb hb=>?_,w7⟩;obtain⟨o,e,d⟩:=T.obj _ _ st5 b hb;exact(I7.pin (b,o) (bb _ (bb _ (mz hb e)))).2.1
  cases f with
  |next=>obtain⟨Z7,H7,I7,n7⟩:=q7;exact again I7 n7
  |cont=>obtain⟨Z7,H7,I7,n7⟩:=q7;exact again I7 n7
  |brk=>obtain⟨Z7,H7,I7,q7⟩:=q7;exact⟨Z7,H7,I7.unpinned,q7⟩
  |ret v=>obtain⟨x7,Z7,H7,I7,r7,q7⟩:=q7;exact⟨x7,Z7,H7,I7.unpinned,r7,q7⟩
end
abbrev R2:=V->V->Hp->VK->Prop
def OpR(X:Cx)(f:Value->Value->Sem Value)(r:R2):Prop :=
 ∀(aA:List (Addr×Obj)) (s:Shared) (Z:St) (H:Hp) (x y:V) (v u:Value) (Q:VK),Inv X aA Z H s->RelV x v->RelV y u->r x y H Q->
  wpAny (model X.prog X.w) X.A (f v u) (EP X aA Z Q) X.xe s
def UnR(X:Cx)(f:Value->Sem Value)(r:V->Hp->VK->Prop):Prop :=
 ∀(aA:List (Addr×Obj)) (s:Shared) (Z:St) (H:Hp) (x:V) (v:Value) (Q:VK),Inv X aA Z H s->RelV x v->r x H Q->
  wpAny (model X.prog X.w) X.A (f v) (EP X aA Z Q) X.xe s
def CallR(X:Cx)(f:Value)(r:List V->Hp->VK->Prop):Prop :=
 ∀(aA:List (Addr×Obj)) (s:Shared) (Z:St) (H:Hp) (xs:List V) (us:List Value) (Q:VK),Inv X aA Z H s->Vals xs us->r xs H Q->
  wpAny (model X.prog X.w) X.A (call f us) (EP X aA Z Q) X.xe s
def b5g(X:Cx)(r:V->Hp->(Bool->Hp->Prop)->Prop):Prop :=
 ∀(aA:List (Addr×Obj)) (s:Shared) (Z:St) (H:Hp) (x:V) (v:Value) (Q:Bool->Hp->Prop),Inv X aA Z H s->RelV x v->r x H Q->
  wpAny (model X.prog X.w) X.A (truthy v) (TP X aA Z Q) X.xe s
def tOp(r:R2)(ta tb:TE):TE:=λZ H Q=>ta Z H λx H1=>tb Z H1 λy H2=>r x y H2 Q
def tUn(r:V->Hp->VK->Prop)(ta:TE):TE:=λZ H Q=>ta Z H λx H1=>r x H1 Q
def rI(C:Int->Int->Prop)(g:Int->Int->V):R2:=λx y H Q=>∃i j,x=.int i/\y=.int j/\C i j/\Q (g i j) H
def rI0(g:Int->Int->V):R2:=λx y H Q=>∃i j,x=.int i/\y=.int j/\Q (g i j) H
def rU(g:Int->V):V->Hp->VK->Prop:=λx H Q=>∃i,x=.int i/\Q (g i) H
section
variable{X:Cx}{a b c:Expr}{ta tb tc:TE}{pos:Pos}
theorem b2o(ha:PE X a ta)(hb:PE X b tb){aA:List (Addr×Obj)}{s:Shared}{Z:St}{H:Hp}{R:V->V->Hp->Prop}(I:Inv X aA Z H s)
  (h:ta Z H λx H1=>tb Z H1 λy H2=>R x y H2) {Q:Value->Shared->Prop} {f:Value->Value->Sem Value}
  (hf:∀v u s2 x y H2,Inv X aA Z H2 s2->RelV x v->RelV y u->R x y H2->wpAny (model X.prog X.w) X.A (f v u) Q X.xe s2) :
  wpAny (model X.prog X.w) X.A (eval a X.env) (λv s₁=>wpAny (model X.prog X.w) X.A (eval b X.env) (λu s₂=>wpAny (model X.prog X.w) X.A (f v u) Q X.xe s₂) X.xe s₁) X.xe s:=by
 refine thn (ha aA s Z H _ I h) ?_
 rintro v s1 ⟨x,H1,I1,r1,q1⟩
 refine thn (hb aA s1 Z H1 _ I1 q1) ?_
 rintro u s2 ⟨y,H2,I2,r2,q2⟩
 exact hf v u s2 x y H2 I2 r1 r2 q2
theorem b2p{op:Operator}{r:R2}(ho:OpR X (binaryOp op) r)(ha:PE X a ta)(hb:PE X b tb):PE X (.BinOp a op b pos) (tOp r ta tb):=by
 intro aA s Z H Q I h
 exact wpAny_BinOp (b2o ha hb I h λv u s2 x y H2 I2 rx ry q=>ho aA s2 Z H2 x y v u Q I2 rx ry q)
theorem b2q{op:UnaryOp}{r:V->Hp->VK->Prop}(ho:UnR X (unaryOp op) r)(ha:PE X a ta):PE X (.UnaryOp op a pos) (tUn r ta):=by
 intro aA s Z H Q I h
 exact UnaryOp_ (thn (ha aA s Z H _ I h) λv s1 ⟨x,H1,I1,r1,q1⟩=>ho aA s1 Z H1 x v Q I1 r1 q1)
theorem opI{f:Value->Value->Sem Value}{C:Int->Int->Prop}{g:Int->Int->Int}
  (rule:∀(i j:Int) (t u:Tok) (s:Shared) (Q:Value->Shared->Prop) (E:Value->Shared->Prop),C i j->Q (.int (g i j) s.toks) {s with toks:=s.toks+1}->wpAny (model X.prog X.w) X.A (f (.int i t) (.int j u)) Q E s) :
  OpR X f (rI C λi j=>.int (g i j)):=by
 intro aA s Z H x y v u Q I rx ry h
 obtain⟨i,j,rfl,rfl,hc,q⟩:=h;obtain⟨t,rfl⟩:=rx;obtain⟨t',rfl⟩:=ry;exact rule i j t t' s _ _ hc ⟨.int (g i j),H,I.tok _,⟨_,rfl⟩,q⟩
theorem b2r{f:Value->Value->Sem Value}{g:Int->Int->Int}
  (rule:∀(i j:Int) (t u:Tok) (s:Shared) (Q:Value->Shared->Prop) (E:Value->Shared->Prop),Q (.int (g i j) s.toks) {s with toks:=s.toks+1}->wpAny (model X.prog X.w) X.A (f (.int i t) (.int j u)) Q E s) :
  OpR X f (rI0 λi j=>.int (g i j)):=by
 intro aA s Z H x y v u Q I rx ry h
 obtain⟨i,j,rfl,rfl,q⟩:=h;obtain⟨t,rfl⟩:=rx;obtain⟨t',rfl⟩:=ry;exact rule i j t t' s _ _ ⟨.int (g i j),H,I.tok _,⟨_,rfl⟩,q⟩
theorem b1u{f:Value->Value->Sem Value}{g:Int->Int->Bool}
  (rule:∀(i j:Int) (t u:Tok) (s:Shared) (Q:Value->Shared->Prop) (E:Value->Shared->Prop),Q (.bool (g i j)) s->wpAny (model X.prog X.w) X.A (f (.int i t) (.int j u)) Q E s) :
  OpR X f (rI0 λi j=>.bl (g i j)):=by
 intro aA s Z H x y v u Q I rx ry h
 obtain⟨i,j,rfl,rfl,q⟩:=h;obtain⟨t,rfl⟩:=rx;obtain⟨t',rfl⟩:=ry;exact rule i j t t' s _ _ ⟨.bl (g i j),H,I,rfl,q⟩
def b2s(i j:Int):Prop:=0<j/\j<1073741824
def b4j(i j:Int):Prop:=0<=j/\j<=1000000/\i.natAbs<2^64
def CMul(i j:Int):Prop:=(-(2^64)<i/\i<2^64)\/(-(2^64)<j/\j<2^64)
theorem CMul.ok(h:CMul i j):IntMulOk i j:=by
 rcases h with⟨h1,h2⟩|⟨h1,h2⟩
 .exact .of_left (intBits_le_64 h1 h2)
 .exact .of_right (intBits_le_64 h1 h2)
theorem axf:OpR X (binaryOp .Add) (rI0 λi j=>.int (i+j)):=b2r λ_ _ _ _ _ _ _ q=>add_int q
theorem axg:OpR X (binaryOp .Sub) (rI0 λi j=>.int (i-j)):=b2r λ_ _ _ _ _ _ _ q=>sub_int q
theorem axh:OpR X (binaryOp .Mult) (rI CMul λi j=>.int (i*j)):=opI λ_ _ _ _ _ _ _ hc q=>mul_int q hc.ok
theorem asi:OpR X (binaryOp .FloorDiv) (rI b2s λi j=>.int (i / j)):=opI λi j _ _ _ _ _ hc q=>by
 have h1:(0:Int)<j:=hc.1;have h2:j<1073741824:=hc.2;exact floordiv_int (by omega) (by rw[gK i (by omega)];exact q) (.inl (PyProof.noPylong_small (by omega)))
theorem axi:OpR X (binaryOp .Mod) (rI (λ_ j=>0<j) λi j=>.int (i%j)):=opI λi j _ _ _ _ _ hc q=>by
 have h1:(0:Int)<j:=hc;exact mod_int' (by omega) (by rw[Int.fmod_eq_emod_of_nonneg i (by omega)];exact q)
theorem axj:OpR X (binaryOp .Pow) (rI b4j λi j=>.int (i^j.toNat)):=opI λ_ _ _ _ _ _ _ hc q=>pow_int_small hc.1 hc.2.1 hc.2.2 q
theorem ahl:OpR X (inplaceOp .Add) (rI0 λi j=>.int (i+j)):=b2r λ_ _ _ _ _ _ _ q=>iadd_int q
theorem amx:OpR X (inplaceOp .FloorDiv) (rI b2s λi j=>.int (i / j)):=opI λi j _ _ _ _ _ hc q=>by
 have h1:(0:Int)<j:=hc.1;have h2:j<1073741824:=hc.2;exact ifloordiv_int (by omega) (by rw[gK i (by omega)];exact q) (.inl (PyProof.noPylong_small (by omega)))
theorem unI{f:Value->Sem Value}{g:Int->Int}
  (rule:∀(i:Int) (t:Tok) (s:Shared) (Q:Value->Shared->Prop) (E:Value->Shared->Prop),Q (.int (g i) s.toks) {s with toks:=s.toks+1}->wpAny (model X.prog X.w) X.A (f (.int i t)) Q E s) :
  UnR X f (rU λi=>.int (g i)):=by
 intro aA s Z H x v Q I rx h
 obtain⟨i,rfl,q⟩:=h;obtain⟨t,rfl⟩:=rx;exact rule i t s _ _ ⟨.int (g i),H,I.tok _,⟨_,rfl⟩,q⟩
theorem axk:UnR X (unaryOp .USub) (rU λi=>.int (-i)):=unI λ_ _ _ _ _ q=>neg_int q
end
section
variable{X:Cx}{a b c:Expr}{ta tb tc:TE}{pos:Pos}
theorem a5x(I:Inv X aA Z H s)(q:Q (.bl k) H)(e:k=k'):EP X aA Z Q (.bool k') s:=by
 subst e;exact⟨.bl k,H,I,rfl,q⟩
theorem axl:OpR X (compareOp .Lt) (rI0 λi j=>.bl (decide (i<j))):=b1u λ_ _ _ _ _ _ _ q=>lt_int q
theorem ahm:OpR X (compareOp .LtE) (rI0 λi j=>.bl (decide (i<=j))):=b1u λ_ _ _ _ _ _ _ q=>le_int q
theorem axm:OpR X (compareOp .Gt) (rI0 λi j=>.bl (decide (j<i))):=b1u λ_ _ _ _ _ _ _ q=>gt_int q
theorem axn:OpR X (compareOp .GtE) (rI0 λi j=>.bl (decide (j<=i))):=b1u λ_ _ _ _ _ _ _ q=>ge_int q
theorem aaj:OpR X (compareOp .Lt) (λx y H Q=>∃i j,x=.str i/\y=.str j/\Q (.bl (decide (i.cps.toList<j.cps.toList))) H):=by
 intro aA s Z H x y v u Q I rx ry h
 obtain⟨i,j,rfl,rfl,q⟩:=h;obtain⟨t,rfl⟩:=rx;obtain⟨t',rfl⟩:=ry;exact lt_str (a5x I q rfl)
theorem ahn:OpR X (compareOp .In) (λx y H Q=>∃i j,x=.str i/\y=.str j/\Q (.bl (!(Builtin.Str.occurrences j i 0 j.length 1).isEmpty)) H):=by
 intro aA s Z H x y v u Q I rx ry h
 obtain⟨i,j,rfl,rfl,q⟩:=h;obtain⟨t,rfl⟩:=rx;obtain⟨t',rfl⟩:=ry;exact in_str (a5x I q rfl)
theorem aq6:OpR X (compareOp .Is) (λx y H Q=>y=.non/\Q (.bl (decide (x=.non))) H):=by
 intro aA s Z H x y v u Q I rx ry h
 obtain⟨rfl,q⟩:=h;cases ry
 refine is_none_gen (a5x I q ?_)
 cases x<;>first
  |(cases rx;rfl)
  |(obtain⟨t,rfl⟩:=rx;rfl)
theorem aho:OpR X (compareOp .IsNot) (λx y H Q=>y=.non/\Q (.bl (!decide (x=.non))) H):=by
 intro aA s Z H x y v u Q I rx ry h
 obtain⟨rfl,q⟩:=h;cases ry
 refine isnot_none_gen (a5x I q ?_)
 cases x<;>first
  |(cases rx;rfl)
  |(obtain⟨t,rfl⟩:=rx;rfl)
theorem aak:OpR X (compareOp .NotIn) (λx y H Q=>∃i j,x=.str i/\y=.str j/\Q (.bl (!(!(Builtin.Str.occurrences j i 0 j.length 1).isEmpty))) H):=by
 intro aA s Z H x y v u Q I rx ry h
 obtain⟨i,j,rfl,rfl,q⟩:=h;obtain⟨t,rfl⟩:=rx;obtain⟨t',rfl⟩:=ry;exact notIn_str (a5x I q rfl)
theorem OpR.or(h:OpR X f r)(h':OpR X f r'):OpR X f (λx y H Q=>r x y H Q\/r' x y H Q):=by
 intro aA s Z H x y v u Q I rx ry q
 rcases q with q|q
 .exact h aA s Z H x y v u Q I rx ry q
 .exact h' aA s Z H x y v u Q I rx ry q
theorem a4g(b:Expr)(h:op≠.In:=by decide)(h2:op≠.NotIn:=by decide):behindInMarks op b=false:=by
 have e1:(op == CmpOp.In)=false:=by cases op<;>first|rfl|exact absurd rfl h
 have e2:(op == CmpOp.NotIn)=false:=by cases op<;>first|rfl|exact absurd rfl h2
 cases b<;>simp[behindInMarks,e1,e2]
theorem asj(ho:OpR X (compareOp op) r)(ha:PE X a ta)(hb:PE X b tb)(hm:behindInMarks op b=false):PE X (.Compare a [op] [b] pos) (tOp r ta tb):=by
 intro aA s Z H Q I h
 exact wpAny_Compare1 (b2o ha hb I h λv u s2 x y H2 I2 rx ry q=>ho aA s2 Z H2 x y v u Q I2 rx ry q) hm
def asl(t:TE):TT:=λZ H Q=>t Z H λx H'=>∃k,x=.bl k/\Q k H'
theorem asm{op:CmpOp}{r:R2}(ho:OpR X (compareOp op) r)(ha:PE X a ta)(hb:PE X b tb)(hm:behindInMarks op b=false):PT X (.Compare a [op] [b] pos) (asl (tOp r ta tb)):=by
 intro aA s Z H Q I h
 refine wpAny_isTrue_Compare1 (thn (ha aA s Z H _ I h) λv s1 ⟨x,H1,I1,r1,q1⟩=>thn (hb aA s1 Z H1 _ I1 q1) λu s2 ⟨y,H2,I2,r2,q2⟩ =>
  thn (ho aA s2 Z H2 x y v u _ I2 r1 r2 q2) λc s3 ⟨z,H3,I3,r3,k,e,q3⟩=>?_) hm
 subst e;cases r3
 exact cT ⟨H3,I3,q3⟩
noncomputable def ahp(r r':R2)(ta tb tc:TE):TE:=λZ H Q=>ta Z H λx H1=>tb Z H1 λy H2=>r x y H2 λz H3=>∃k,z=.bl k /\
 (if k=true then tc Z H3 λw' H4=>r' y w' H4 Q else Q (.bl false) H3)
theorem amy{op op':CmpOp}{r r':R2}(ho:OpR X (compareOp op) r)(ho':OpR X (compareOp op') r')(ha:PE X a ta)(hb:PE X b tb)(hc:PE X c tc)
  (hm:lastMarks [op,op'] [b,c]=false:=by with_unfolding_all rfl):PE X (.Compare a [op,op'] [b,c] pos) (ahp r r' ta tb tc):=by
 intro aA s Z H Q I h
 refine Compare_chain (thn (ha aA s Z H _ I h) λv s1 ⟨x,H1,I1,r1,q1⟩=>chain_link (thn (hb aA s1 Z H1 _ I1 q1) λu s2 ⟨y,H2,I2,r2,q2⟩ =>
  thn (ho aA s2 Z H2 x y v u _ I2 r1 r2 q2) λd s3 ⟨z,H3,I3,r3,k,e,q3⟩=>?_)) hm
 subst e;cases r3
 refine cT ?_
 cases k with
 |false=>exact ite_ff ⟨.bl false,H3,I3,rfl,q3⟩
 |true=>exact ite_tt (chain_last (thn (hc aA s3 Z H3 _ I3 q3) λw' s4 ⟨z',H4,I4,r4,q4⟩=>ho' aA s4 Z H4 y z' u w' Q I4 r2 r4 q4))
theorem amz{op op':CmpOp}{r r':R2}(ho:OpR X (compareOp op) r)(ho':OpR X (compareOp op') r')(ha:PE X a ta)(hb:PE X b tb)(hc:PE X c tc)
  (hm:lastMarks [op,op'] [b,c]=false:=by with_unfolding_all rfl):PT X (.Compare a [op,op'] [b,c] pos) (asl (ahp r r' ta tb tc)):=by
 intro aA s Z H Q I h
 refine isTrue_chain (thn (ha aA s Z H _ I h) λv s1 ⟨x,H1,I1,r1,q1⟩=>test_link (thn (hb aA s1 Z H1 _ I1 q1) λu s2 ⟨y,H2,I2,r2,q2⟩ =>
  thn (ho aA s2 Z H2 x y v u _ I2 r1 r2 q2) λd s3 ⟨z,H3,I3,r3,k,e,q3⟩=>?_)) hm
 subst e;cases r3
 refine cT ?_
 cases k with
 |false =>
  obtain⟨k',e',q'⟩:=q3
  cases e'
  exact ite_ff ⟨H3,I3,q'⟩
 |true =>
  refine ite_tt (test_last (thn (hc aA s3 Z H3 _ I3 q3) λw' s4 ⟨z',H4,I4,r4,q4⟩=>thn (ho' aA s4 Z H4 y z' u w' _ I4 r2 r4 q4) λd' s5 ⟨z2,H5,I5,r5,k2,e2,q5⟩=>?_));subst e2;cases r5
  exact cT ⟨H5,I5,q5⟩
def b2t(K:Fg)(x:V)(H:Hp)(k:Bool):Prop :=
 match x with
 |.non=>k=false
 |.bl b=>k=b
 |.int i=>k=(i != 0)
 |.str y=>y.length<=sizeLine/\k=((y.length:Int) != 0)
 |.byt y=>y.size<=sizeLine/\k=((y.size:Int) != 0)
 |.ref p=>(∃xs,SqL K H p xs/\k = !xs.isEmpty)\/(∃xs,SqT K H p xs/\k = !xs.isEmpty)\/∃kvs,H p=some (.dK kvs)/\k = !kvs.isEmpty
 |_=>False
theorem afm{κ:Type}{kvs:List (κ×V)}{vs:List (κ×Value)}(r:KV kvs vs):(!vs.isEmpty) = !kvs.isEmpty:=by
 cases r<;>rfl
theorem a7s(r:Vals xs its):(!its.toArray.isEmpty) = !xs.isEmpty:=by
 cases r<;>simp
theorem a5y:(sizeLine:Nat)<2^63:=by rw[eS];decide
theorem axo:b5g X (λx H Q=>∃k,b2t X.K x H k/\Q k H):=by
 intro aA s Z H x v Q I rx h
 obtain⟨k,e,q⟩:=h;have hl:=a5y;have hs:sizeLine=16777216:=eS
 cases x with
 |non =>
  cases rx
  have e':k=false:=e;subst e';exact truthy_none ⟨H,I,q⟩
 |bl b =>
  cases rx
  have e':k=b:=e;subst e';exact cT ⟨H,I,q⟩
 |int i =>
  obtain⟨t,rfl⟩:=rx;have e':k=(i != 0):=e;subst e';exact PySem.P.truthy_int ⟨H,I,q⟩
 |str y =>
  obtain⟨t,rfl⟩:=rx;obtain⟨hy,e'⟩:y.length<=sizeLine/\k=((y.length:Int) != 0):=e;subst e';exact PySem.P.truthy_str (by omega) ⟨H,I.tok _,q⟩
 |byt y =>
  obtain⟨t,rfl⟩:=rx;obtain⟨hy,e'⟩:y.size<=sizeLine/\k=((y.size:Int) != 0):=e;subst e';exact PySem.W.truthy_bytes (by omega) ⟨H,I.tok _,q⟩
 |ref p =>
  cases rx
  have e':(∃xs,SqL X.K H p xs/\k = !xs.isEmpty)\/(∃xs,SqT X.K H p xs/\k = !xs.isEmpty)\/∃kvs,H p=some (.dK kvs)/\k = !kvs.isEmpty:=e
  rcases e' with⟨xs,hx,e'⟩|⟨xs,hx,e'⟩|⟨kvs,hx,e'⟩
  .subst e';obtain⟨its,r,pl,hz⟩:=I.list hx;have aH:=r.length;exact wpAny_truthy_list pl.isList (by simp only[aV];omega) ⟨H,I.tok _,by rw[a7s r];exact q⟩
  .subst e';obtain⟨its,r,pl,hz⟩:=I.tuple hx;have aH:=r.length;exact truthy_tuple pl (by simp only[aV];omega) ⟨H,I.tok _,by rw[a7s r];exact q⟩
  .subst e';obtain⟨hz,hS,vs,r,m⟩:kvs.length<=sizeLine/\(p == sysModules)=false/\∃vs,KV kvs vs/\s.heap.DictOf (kh X.prog X.w) p vs:=I.hok p _ hx;have aH:kvs.length=vs.length:=ia r;exact wpAny_truthy_dict hS m (by omega) ⟨H,I.tok _,by rw[afm r];exact q⟩
 |_=>exact(show False from e).elim
theorem an0(ha:PE X a ta)(he:∀whole,isTrue a X.env whole=(do let v <-whole;standAt a.pos;holding [v] (truthy v))) :
  PT X a (λZ H Q=>ta Z H λx H'=>∃k,b2t X.K x H' k/\Q k H'):=by
 intro aA s Z H Q I h
 exact isTrue_plain (thn (ha aA s Z H _ I h) λv s1 ⟨x,H1,I1,r1,q1⟩=>axo aA s1 Z H1 x v Q I1 r1 q1) (he _)
theorem afn:OpR X (binaryOp .Add) (λx y H Q=>∃i j,x=.str i/\y=.str j/\i.length+j.length<=sizeLine/\Q (.str (i++j)) H):=by
 intro aA s Z H x y v u Q I rx ry h
 obtain⟨i,j,rfl,rfl,hz,q⟩:=h;obtain⟨t,rfl⟩:=rx;obtain⟨t',rfl⟩:=ry;exact add_str (λt' tk=>⟨.str (i++j),H,I.tok _,⟨_,rfl⟩,q⟩) hz
theorem a6l:OpR X (inplaceOp .Add) (λx y H Q=>∃i j,x=.str i/\y=.str j/\i.length+j.length<=sizeLine/\Q (.str (i++j)) H):=by
 intro aA s Z H x y v u Q I rx ry h
 obtain⟨i,j,rfl,rfl,hz,q⟩:=h;obtain⟨t,rfl⟩:=rx;obtain⟨t',rfl⟩:=ry;exact iadd_str (λt' tk=>⟨.str (i++j),H,I.tok _,⟨_,rfl⟩,q⟩) hz
theorem vals1(r:Vals [x] us):∃u,us=[u]/\RelV x u:=by
 cases r with
 |cons r1 r2=>cases r2;exact⟨_,rfl,r1⟩
theorem vals2(r:Vals [x,y] us):∃u w',us=[u,w']/\RelV x u/\RelV y w':=by
 cases r with
 |cons r1 r2 =>
  cases r2 with
  |cons r3 r4=>cases r4;exact⟨_,_,rfl,r1,r3⟩
theorem an1:CallR X (.builtin "abs") (λxs H Q=>∃i,xs=[.int i]/\Q (.int (if i<0 then -i else i)) H):=by
 intro aA s Z H xs us Q I r h
 obtain⟨i,rfl,q⟩:=h;obtain⟨u,rfl,t,rfl⟩:=vals1 r;exact call_abs_int λu tk=>⟨.int (if i<0 then -i else i),H,I.tok _,⟨_,rfl⟩,q⟩
theorem ahq(hc:X.calm=true):CallR X (.builtin "min") (λxs H Q=>∃i j,xs=[.int i,.int j]/\Q (.int (if j<i then j else i)) H):=by
 intro aA s Z H xs us Q I r h
 obtain⟨i,j,rfl,q⟩:=h;obtain⟨u,w',rfl,⟨t,rfl⟩,⟨t',rfl⟩⟩:=vals2 r;refine min_two_ints (I.ok.hd hc) λh' tk k=>⟨_,H,I.kept k,?_,q⟩
 by_cases hj:j<i
 .rw[aU hj,aU hj];exact⟨_,rfl⟩
 .rw[bA hj,bA hj];exact⟨_,rfl⟩
theorem ahr:CallR X (.type "int") (λxs H Q=>(∃i,xs=[.int i]/\Q (.int i) H)\/∃k,xs=[.bl k]/\Q (.int (if k then 1 else 0)) H):=by
 intro aA s Z H xs us Q I r h
 rcases h with⟨i,rfl,q⟩|⟨k,rfl,q⟩
 .obtain⟨u,rfl,t,rfl⟩:=vals1 r;exact call_int_int ⟨.int i,H,I,⟨_,rfl⟩,q⟩
 .obtain⟨u,rfl,r1⟩:=vals1 r;cases r1
  exact call_int_bool ⟨.int (if k then 1 else 0),H,I.tok _,⟨_,rfl⟩,q⟩
end
structure ObjM (h:Heap) (x dx C:Addr) (mA:Str->Option Value):Prop where
 obj:h.get? x=some (PySem.W.instObj C dx)
 ns:h.Ns1 dx mA
 ne:dx≠x
theorem ahs{h:Heap}(n:h.Ns1 dx mA):∃od,h.get? dx=some od/\∀name,PySem.W.lookIn name od=some (mA name):=by
 obtain⟨o,es,ep,ho,hd,hk,_,hm⟩:=n;refine⟨o,ho,λname=>?_⟩;have e:=hm name;unfold nsFind findBy at e;rw[<-Array.find?_toList]at e;unfold PySem.W.lookIn;rw[hd];dsimp only
 split
 .rename_i y q;rw[q]at e;exact aQ some e
 .rename_i q;rw[q]at e;have a:es.toList.any (·.refKey)=false:=by
   rw[hJ]
   intro y hy
   obtain⟨z,t,hkey⟩:=hk y (Array.mem_toList_iff.mp hy);simp[DictEntry.refKey,hkey]
  have a':¬ es.toList.any (·.refKey)=true:=by rw[a];exact bJ
  rw[bA a'];exact aQ some e
theorem ObjM.look(I:ObjM h x dx C mA):∃od,PySem.W.InstAt h x (PySem.W.instObj C dx) C (some od)/\∀name,PySem.W.lookIn name od=some (mA name) :=
 let ⟨od,ho,hl⟩:=ahs I.ns
 ⟨od,⟨I.obj,rfl,rfl,ho⟩,hl⟩
theorem RelO.some_of(r:RelO (some v) o):∃u,o=some u/\RelV v u:=by
 cases o with
 |none=>exact(show False from r).elim
 |some u=>exact⟨u,rfl,r⟩
section
variable{P:Program}{w:World}{H H':Hp}{h h':Heap}{a C dx:Addr}{fs fs':List (Str×V)}
theorem asn(hok:HOk P w H h)(e:H a=some (.ins C dx fs)):∃mA,ObjM h a dx C mA/\(∀f,RelO (fs.lookup f) (mA f))/\PySem.Within mA (fs.map (·.1))/\fs.length<=1000/\H dx=some (.own a):=by
 obtain⟨d,z,ne,ob,mA,n,r,q⟩:=(show ObjOk P w H h a (.ins C dx fs) from hok a _ e)
 exact⟨mA,⟨ob,n,ne⟩,r,q,z,d⟩
end
structure Cls (K:Fg) (C:Addr):Prop where
 pg:PySem.W.plainGet K C Str.empty=true
 hd:PySem.W.hasDictIn K C=true
 po:PySem.W.plainOver K C=true
 sa:PySem.W.findIn K (.ref C) "__setattr__" = some (some (.builtin "object.__setattr__"))
theorem Cls.get{K:Fg}{C:Addr}(c:Cls K C)(f:Str):PySem.W.plainGet K C f=true:=c.pg
section
variable{X:Cx}{aA:List (Addr×Obj)}{Z:St}{H:Hp}{s:Shared}{A:Around}{E:Value->Shared->Prop}{Q:Value->Shared->Prop}{c:Value}{b:Bool}
inductive TyOf (K:Fg) (H:Hp):V->Value->Prop where
 |non:TyOf K H .non (.type "NoneType")
 |bl (x:Bool):TyOf K H (.bl x) (.type "bool")
 |int (i:Int):TyOf K H (.int i) (.type "int")
 |str (x:Str):TyOf K H (.str x) (.type "str")
 |flt (x:UInt64):TyOf K H (.flt x) (.type "float")
 |lst {a:Addr} {xs:List V} (e:H a=some (.lst xs)):TyOf K H (.ref a) (.type "list")
 |frz {a:Addr} {o:Obj} {xs:List V} (e:H a=some (.frz o (.lst xs))):TyOf K H (.ref a) (.type "list")
 |tup {a:Addr} {xs:List V} (e:H a=some (.tup xs)):TyOf K H (.ref a) (.type "tuple")
 |dK {a:Addr} {kvs:List (Key×V)} (e:H a=some (.dK kvs)):TyOf K H (.ref a) (.type "dict")
 |dT {a:Addr} {kvs:List (List Key×V)} (e:H a=some (.dT kvs)):TyOf K H (.ref a) (.type "dict")
 | ins {a C dx:Addr} {fs:List (Str×V)} (e:H a=some (.ins C dx fs)) (cl:Cls K C) (ha:PySem.W.findIn K (.ref C) "__class__" = some (some (.builtin "object.__class__")))
   (hn:PySem.W.specialIn K (.builtin "object.__class__") "__get__" = some (some (.builtin "getset_descriptor.__get__"))) (htk:PySem.W.takesIn K (.builtin "object.__class__")=some true)
   (hm:PySem.W.mroIn K C (.type "object")=some true):TyOf K H (.ref a) (.ref C)
theorem aht(I:Inv X aA Z H s)(rx:RelV x u)(ty:TyOf X.K H x t)(e:PySem.W.kitOne X.K t c=some b)(h:∀tk,Q (.bool b) {s with toks:=tk}) :
  wpAny (model X.prog X.w) A (call (.builtin "isinstance") [u,c]) Q E s:=by
 cases ty with
 |non=>cases (show u=Value.none from rx);exact cJ PySem.W.kitx_none I.kIn True.intro e (λz=>nomatch z) h
 |bl y=>cases (show u=Value.bool y from rx);exact cJ PySem.W.kitx_bool I.kIn True.intro e (λz=>nomatch z) h
 |int i=>obtain⟨t,q⟩:=(show ∃t,u=Value.int i t from rx);cases q;exact cJ PySem.W.kitx_int I.kIn True.intro e (λz=>nomatch z) h
 |str y=>obtain⟨t,q⟩:=(show ∃t,u=Value.str y t from rx);cases q;exact cJ PySem.W.kitx_str I.kIn True.intro e (λz=>nomatch z) h
 |flt y=>obtain⟨t,q⟩:=(show ∃t,u=Value.float y t from rx);cases q;exact cJ PySem.W.kitx_float I.kIn True.intro e (λz=>nomatch z) h
 |@lst a xs ea =>
  cases (show u=Value.ref a from rx)
  obtain⟨_,_,n,_,h1⟩:=(show ObjOk X.prog X.w H s.heap a (.lst xs) from I.hok a _ ea)
  exact cJ PySem.W.kitx_list I.kIn ⟨_,h1,rfl⟩ e (λz=>nomatch z) h
 |@frz a ob xs ea =>
  cases (show u=Value.ref a from rx)
  obtain⟨_,_,_,n,_,h1⟩:=(show ObjOk X.prog X.w H s.heap a (.frz ob (.lst xs)) from I.hok a _ ea)
  exact cJ PySem.W.kitx_list I.kIn ⟨_,h1,rfl⟩ e (λz=>nomatch z) h
 |@tup a xs ea =>
  cases (show u=Value.ref a from rx)
  obtain⟨_,_,_,p⟩:=(show ObjOk X.prog X.w H s.heap a (.tup xs) from I.hok a _ ea)
  obtain⟨o,h1,h2,_⟩:=p;exact cJ PySem.W.kitx_tuple I.kIn ⟨o,h1,h2⟩ e (λz=>nomatch z) h
 |@dK a kvs ea =>
  cases (show u=Value.ref a from rx)
  obtain⟨_,_,vs,_,p⟩:=(show ObjOk X.prog X.w H s.heap a (.dK kvs) from I.hok a _ ea)
  obtain⟨o,es,ep,h1,h2,_⟩:=p;exact cJ hR I.kIn ⟨o,h1,h2.1⟩ e (λz=>nomatch z) h
 |@dT a kvs ea =>
  cases (show u=Value.ref a from rx)
  obtain⟨_,_,xs,_,o,es,ep,h1,h2,_⟩:=(show ObjOk X.prog X.w H s.heap a (.dT kvs) from I.hok a _ ea)
  exact cJ hR I.kIn ⟨o,h1,h2.1⟩ e (λz=>nomatch z) h
 |@ins a C dx fs ea cl ha hn htk hm =>
  cases (show u=Value.ref a from rx)
  obtain⟨mA,O,_⟩:=asn I.hok ea;obtain⟨od,J,_⟩:=O.look;exact cJ (PySem.W.kitx_own (cl.get _) cl.hd ha hn htk hm) I.kIn J e (λz=>nomatch z) h
end
structure Room (k:Nat) (A:Around):Prop where
 hd:A.handled=none
 dp:A.depth+3*k+5<recursionLimit
 un:A.units+16*k+200<cLine
 gd:A.guards=some []
theorem Room.mono(r:Room k A)(h:j<=k):Room j A:=⟨r.hd,by have:=r.dp;omega,by have:=r.un;omega,r.gd⟩
theorem Room.deeper(r:Room (k+1) A)(env:Env):Room k (A.deeper env) :=
 ⟨r.hd,by have:=r.dp;show A.depth+1+3*k+5<_;omega,by have:=r.un;show A.units+3+16*k+200<_;omega,r.gd⟩
theorem Room.depth(r:Room k A):A.depth<recursionLimit:=by have:=r.dp;omega
theorem Room.units(r:Room k A):A.units+64<cLine:=by have:=r.un;omega
def b2u:TA:=λ_ H Q=>Q [] H
def axp(ta:TE)(tr:TA):TA:=λZ H Q=>ta Z H λx H1=>tr Z H1 λxs H2=>Q (x::xs) H2
section
variable{X:Cx}{e:Expr}{es:List Expr}{te:TE}{t:TA}{pos:Pos}
theorem aal:PA X [] b2u:=λ_ _ _ _ H Q I h=>hU ⟨[],H,I,.nil,h⟩
theorem a5n(ha:PE X e te)(hr:PA X es t)(hs:starEach (e::es) X.env=(false,eval e X.env)::starEach es X.env:=by rfl):PA X (e::es) (axp te t):=by
 intro pos aA s Z H Q I h
 rw[hs];show wpAny _ _ (spliced ((false,eval e X.env)::backTo pos (starEach es X.env))) _ _ s;refine gN (thn (ha aA s Z H _ I h) λu s1 ⟨x,H1,I1,r1,q1⟩=>?_);exact thn (hr pos aA s1 Z H1 _ I1 q1) λus s2 ⟨xs,H2,I2,r2,q2⟩=>⟨x::xs,H2,I2,.cons r1 r2,q2⟩
noncomputable def b5h(t:TA):TE:=λZ H Q=>t Z H λxs H1=>xs.length<=sizeLine/\∀p,H1 p=none->Q (.ref p) (upd H1 p (.tup xs))
noncomputable def b5i(t:TA):TE:=λZ H Q=>t Z H λxs H1=>xs.length<=sizeLine/\∀p,H1 p=none->Q (.ref p) (upd H1 p (.lst xs))
theorem axq{x1}(h:PA X es t):PE X (.Tuple es x1 pos) (b5h t):=by
 intro aA s Z H Q I hq
 refine wpAny_Tuple_spliced (thn (h pos aA s Z H _ I hq) λus s1 ⟨xs,H1,I1,r,z,q⟩=>⟨by rw[<-r.length];exact z,?_⟩)
 have hf:H1 s1.heap.objs.size=none:=I1.hok.fresh (ay _);refine⟨.ref s1.heap.objs.size,upd H1 s1.heap.objs.size (.tup xs),I1.laid (t':=s1.toks) (λb u e=>ar _ e) (ay _) ?_,rfl,q _ hf⟩;exact⟨z,us,r,⟨_,aO _ rfl,rfl,_,rfl⟩⟩
theorem axr(h:PA X es t):PE X (.List es pos) (b5i t):=by
 intro aA s Z H Q I hq
 refine wpAny_List_spliced (thn (h pos aA s Z H _ I hq) λus s1 ⟨xs,H1,I1,r,z,q⟩=>⟨by rw[<-r.length];exact z,?_⟩)
 have hf:H1 s1.heap.objs.size=none:=I1.hok.fresh (ay _);refine⟨.ref s1.heap.objs.size,upd H1 s1.heap.objs.size (.lst xs),I1.laid (t':=s1.toks) (λb u e=>ar _ e) (ay _) ?_,rfl,q _ hf⟩;exact⟨z,us,0,r,aO _ rfl⟩
end
abbrev Sp:=List V->Hp->VK->XK->Prop
abbrev CXT:=List Env->Hp->Shared->XK->Value->Shared->Prop
structure Env0 (P:Program) (w:World) (K:Fg) (mg:Str->Option Value) (base:Heap) (A:Around) (outer:List Env) (s:Shared) (H:Hp):Prop where
 frames:A.frames=some outer
 mod:Mod K mg base
 bs:∀b o,base.get? b=some o->s.heap.get? b=some o/\H b=none
 bsz:base.objs.size<=s.heap.objs.size
 funs:s.heap.FunFrames base outer
 frf:∀b∈frs outer,H b=none
 hok:HOk P w H s.heap
 bare:AllBare s.gens
def CE(outer:List Env)(P:Program)(w:World)(H:Hp)(s:Shared)(Q:VK)(u:Value)(s':Shared):Prop :=
 ∃v H',s'.os=s.os/\AllBare s'.gens/\Un (frs outer) [] H H' s.heap s'.heap/\HOk P w H' s'.heap/\RelV v u/\Q v H'
def CR(CX:CXT)(outer:List Env)(P:Program)(w:World)(H:Hp)(s:Shared)(Q:VK)(E:XK)(r:Result)(s':Shared):Prop :=
 match r with
 |.ok (.ret u)=>CE outer P w H s Q u s'
 |.ok _=>False
 |.error e=>CX outer H s E e s'
structure FnOk (P:Program) (w:World) (K:Fg) (mg:Str->Option Value) (base:Heap) (CX:CXT) (k:Nat) (f:Addr) (fd:FuncData) (ps:List Str) (sp:Sp):Prop where
 len:∀vs H Q E,sp vs H Q E->vs.length=ps.length
 run:∀(A:Around) (outer:List Env) (s:Shared) (H:Hp) (args:Args) (us:List Value) (vs:List V) (Q:VK) (E:XK),Room k A->Env0 P w K mg base A outer s H->BindsTo s fd args (ps.zip us)->Vals vs us->sp vs H Q E->
  codeAny (model P w) A (.call (.ref f) args) (CR CX outer P w H s Q E) s
theorem FnOk.imp{P:Program}{w:World}{K:Fg}{mg:Str->Option Value}{base:Heap}{CX:CXT}{k:Nat}{f:Addr}{fd:FuncData}{ps:List Str}{sp sp':Sp}(F:FnOk P w K mg base CX k f fd ps sp)
  (h:∀vs H Q E,sp' vs H Q E->sp vs H Q E):FnOk P w K mg base CX k f fd ps sp' :=
 ⟨λvs H Q E q=>F.len vs H Q E (h _ _ _ _ q),λA outer s H args us vs Q E hr he hb hv hs=>F.run A outer s H args us vs Q E hr he hb hv (h _ _ _ _ hs)⟩
section
variable{X:Cx}{aA:List (Addr×Obj)}{Z:St}{H:Hp}{s s':Shared}
theorem Inv.env0(I:Inv X aA Z H s):Env0 X.prog X.w X.K X.mg X.base X.A X.stack s H :=
 ⟨I.ok.frames,I.ok.mod,I.bs,cM I.ok.bsz I.sz,I.stack,I.stkFree,I.hok,I.bare⟩
theorem Inv.after(I:Inv X aA Z H s)(h:CE X.stack X.prog X.w H s Q u s'):EP X aA Z Q u s':=by
 obtain⟨v,H',os,bare,un,hok,r,q⟩:=h;obtain⟨hh,g,d,t,os'⟩:=s';obtain rfl:os'=s.os:=os;exact⟨v,H',I.call (h':=hh) (g':=g) (d':=d) (t':=t) (ch:=[]) un hok bare (λb z=>absurd z (by simp)),r,q⟩
end
def axs(sp:Sp)(dvs:List V)(E:XK)(t:TA):TE:=λZ H Q=>t Z H λvs H1=>sp (vs++dvs) H1 Q E
def Binds(K:Fg)(fd:FuncData)(ps:List Str)(ds:List Value):Prop :=
 ∀(s:Shared) (us:List Value),K.In s.heap->(us++ds).length=ps.length->BindsTo s fd ⟨us,[]⟩ (ps.zip (us++ds))
theorem Binds.all{K:Fg}{fd:FuncData}{ps:List Str}(h:∀us:List Value,us.length=ps.length->bindArgs fd ⟨us,[]⟩=pure (ps.zip us)):Binds K fd ps []:=λs us _ hl=>by
 rw[bX]at hl ⊢;exact .of_eq (h us hl)
def adt(CX:CXT)(X:Cx)(E:XK):Prop:=∀(aA:List (Addr×Obj)) (Z:St) (H:Hp) (s:Shared) (e:Value) (s':Shared),Inv X aA Z H s->CX X.stack H s E e s'->X.xe e s'
section
variable{X:Cx}{CX:CXT}{k:Nat}{f C:Addr}{fd:FuncData}{ps:List Str}{sp:Sp}{dvs:List V}{ds:List Value}{E:XK}{x m:Str}{p pos apos:Pos}{e o:Expr}{es:List Expr}{ta:TE}{t:TA}
theorem aq7(F:FnOk X.prog X.w X.K X.mg X.base CX k f fd ps sp)(hr:Room k X.A)(hb:Binds X.K fd ps ds)(hd:Vals dvs ds)(hx:adt CX X E)
  (I:Inv X aA Z H s) (r:Vals vs us) (h:sp (vs++dvs) H Q E):wpAny (model X.prog X.w) X.A (call (.ref f) us) (EP X aA Z Q) X.xe s:=by
 have r2:Vals (vs++dvs) (us++ds):=r.append hd;have hl:(us++ds).length=ps.length:=by rw[<-r2.length];exact F.len _ _ _ _ h
 refine wpAny_call (fQ (F.run X.A X.stack s H ⟨us,[]⟩ (us++ds) (vs++dvs) Q E hr I.env0 (hb s us I.kIn hl) r2 h) λr s' hq=>?_)
 cases r with
 |error e=>exact hx aA Z H s e s' I hq
 |ok fl =>
  cases fl with
  |ret u=>exact I.after hq
  |next=>exact False.elim hq
  |brk=>exact False.elim hq
  |cont=>exact False.elim hq
theorem aso(F:FnOk X.prog X.w X.K X.mg X.base CX k f fd ps sp)(hr:Room k X.A)(hg:Gl X x)(hm:X.mg x=some (.ref f))(hk:PySem.W.keepIn X.K (.ref f)=true)(hb:Binds X.K fd ps ds)(hd:Vals dvs ds)(hx:adt CX X E)
  (ha:PA X (e::es) t) (hdb:(x == ("__debug__" : Str))=false:=by decide) (he:starEach (e::es) X.env=(false,eval e X.env)::starEach es X.env:=by rfl) (hpl:(backTo pos (starEach es X.env)).any (·.1)=false:=by rfl) :
  PE X (.Call (.Name x p) (e::es) [] pos) (axs sp dvs E t):=by
 intro aA s Z H Q I h
 refine dG (ahf I hg hm ?_ hdb);refine PySem.W.callWith_K (h₀:=X.base) I.ok.mod.kin hk (thn (ha pos aA s Z H _ I h) λus s1 ⟨vs,H1,I1,r,q⟩=>⟨I1.kIn,?_⟩) he hpl;exact aq7 F hr hb hd hx I1 r q
theorem an2(F:FnOk X.prog X.w X.K X.mg X.base CX k f fd ps sp)(hr:Room k X.A)(hg:Gl X x)(hm:X.mg x=some (.ref f))(hk:PySem.W.keepIn X.K (.ref f)=true)(hb:Binds X.K fd ps ds)(hd:Vals dvs ds)(hx:adt CX X E)
  (hdb:(x == ("__debug__" : Str))=false:=by decide):PE X (.Call (.Name x p) [] [] pos) (axs sp dvs E b2u):=by
 intro aA s Z H Q I h
 refine dG (ahf I hg hm ?_ hdb);exact PySem.W.callWith_K0 I.kIn hk (aq7 (us:=[]) F hr hb hd hx I .nil h)
end
def PK(X:Cx)(kws:List Keyword)(t:TA):Prop :=
 ∀(pos:Pos) (aA:List (Addr×Obj)) (s:Shared) (Z:St) (H:Hp) (Q:List V->Hp->Prop),Inv X aA Z H s->t Z H Q->wpAny (model X.prog X.w) X.A (evalAll ((backToKw pos (keywordEach kws X.env)).map (·.2))) (AP X aA Z Q) X.xe s
section
variable{X:Cx}{CX:CXT}{k:Nat}{f C:Addr}{fd:FuncData}{ps ks:List Str}{sp:Sp}{E:XK}{x m:Str}{p pos apos kpos:Pos}{e o:Expr}{es:List Expr}{kws:List Keyword}{te ta:TE}{t tk:TA}{nm:Option Str}
theorem axt:PK X [] b2u:=λ_ _ _ _ H Q I h=>wpAny_evalAll_nil ⟨[],H,I,.nil,h⟩
theorem asp(ha:PE X e te)(hr:PK X kws t):PK X (⟨nm,e,kpos⟩::kws) (axp te t):=by
 intro pos aA s Z H Q I h
 show wpAny _ _ (evalAll ((do let v <-eval e X.env;standAt pos;pure v)::(backToKw pos (keywordEach kws X.env)).map (·.2))) _ _ s
 refine wpAny_evalAll_cons (ai (thn (ha aA s Z H _ I h) λu s1 ⟨x,H1,I1,r1,q1⟩=>ai (dB (aJ ?_))));exact thn (hr pos aA s1 Z H1 _ I1 q1) λus s2 ⟨xs,H2,I2,r2,q2⟩=>⟨x::xs,H2,I2,.cons r1 r2,q2⟩
variable{g:List Value->List Value->List Value}{gV:List V->List V->List V}
end
structure FnScope (N P:List Str) (sc:Scope):Prop where
 kind:sc.kind=.function
 co:sc.isCoroutine=false
 gen:sc.isGenerator=false
 nd:N.Nodup
 pre:N.take P.length=P
 par:∀x∈P,sc.names.lookup x=some .local\/sc.names.lookup x=some .cell
 nofree:∀y∈sc.names,y.2≠.free
theorem aam{kindOf:Str->Option NameKind}{x:Str}:∀{binds:List (Str×Value)} {m:Str->Option Value},(∀v,(x,v)∉binds)->bindL kindOf binds m x=m x
 |[],_,_=>rfl
 |(n,v)::r,m,h=>by
  unfold bindL;rw[aam λw hw=>h w (aI _ hw)]
  split
  .have:x≠n:=by rintro rfl;exact h v aT
   simp[this]
  .rfl
theorem aan{kindOf:Str->Option NameKind}{x:Str}:∀{binds:List (Str×Value)} {m:Str->Option Value},(∀v,(x,v)∉binds)->bindC kindOf binds m x=m x
 |[],_,_=>rfl
 |(n,v)::r,m,h=>by
  unfold bindC;rw[aan λw hw=>h w (aI _ hw)]
  split
  .rfl
  .have:x≠n:=by rintro rfl;exact h v aT
   simp[this]
theorem aao{kindOf:Str->Option NameKind}{x:Str}{v:Value}:∀{P:List Str} {vs:List Value} {i:Nat} {m:Str->Option Value},P.Nodup->P[i]? = some x->vs[i]? = some v->kindOf x=some .local->
  bindL kindOf (P.zip vs) m x=some v
 |[],_,_,_,_,h,_,_=>by simp at h
 |_::_,[],_,_,_,_,h,_=>by simp at h
 |p::P,w::vs,0,m,nd,h1,h2,hk=>by
  simp at h1 h2;subst h1;subst h2
  show bindL kindOf ((p,w)::P.zip vs) m p=_;unfold bindL;rw[aam λv hv=>(cN.mp nd).1 (iL hv).1,aU hk];simp
 |p::P,w::vs,i+1,m,nd,h1,h2,hk=>by
  show bindL kindOf ((p,w)::P.zip vs) m x=_;unfold bindL;exact aao (i:=i) (cN.mp nd).2 (by simpa using h1) (by simpa using h2) hk
theorem aap{kindOf:Str->Option NameKind}{x:Str}{v:Value}:∀{P:List Str} {vs:List Value} {i:Nat} {m:Str->Option Value},P.Nodup->P[i]? = some x->vs[i]? = some v->kindOf x≠some .local->
  bindC kindOf (P.zip vs) m x=some v
 |[],_,_,_,_,h,_,_=>by simp at h
 |_::_,[],_,_,_,_,h,_=>by simp at h
 |p::P,w::vs,0,m,nd,h1,h2,hk=>by
  simp at h1 h2;subst h1;subst h2
  show bindC kindOf ((p,w)::P.zip vs) m p=_;unfold bindC;rw[aan λv hv=>(cN.mp nd).1 (iL hv).1,bA hk];simp
 |p::P,w::vs,i+1,m,nd,h1,h2,hk=>by
  show bindC kindOf ((p,w)::P.zip vs) m x=_;unfold bindC;exact aap (i:=i) (cN.mp nd).2 (by simpa using h1) (by simpa using h2) hk
def start(N:List Str)(vs:List V):St:=vs.map some++List.replicate (N.length-vs.length) none
noncomputable def ame(CX:CXT)(P:Program)(w:World)(K:Fg)(mg:Str->Option Value)(base:Heap)(N:List Str)(qual:Str)(aB:Scope)(f:Addr)(cd:Value)(A:Around)(outer:List Env)(s:Shared)(H:Hp)(E:XK):Cx where
 prog:=P
 w:=w
 K:=K
 mg:=mg
 base:=base
 A:=A.deeper (envOfC qual aB s.heap.objs.size f cd)
 N:=N
 s₀:=s
 H₀:=H
 env:=envOfC qual aB s.heap.objs.size f cd
 outer:=outer
 stack:=envOfC qual aB s.heap.objs.size f cd::outer
 ex:=[]
 calm:=true
 fn:=λ_=>true
 pn:=[]
 xe:=λe s'=>wpAny (model P w) (A.deeper (envOfC qual aB s.heap.objs.size f cd)) (leaving (envOfC qual aB s.heap.objs.size f cd) e) (λ_ s''=>CX outer H s E e s'') (λe' s''=>CX outer H s E e' s'') s'
theorem adu{sc:Scope}(h:sc.names.lookup x=some .cell):∃c,(cellsFrom n sc.names []).lookup x=some c:=by
 have q:=PySem.W.cellsFrom_some sc.names n [] (.inl h);exact hV.mp q
theorem ahu{CX:CXT}{P:Program}{w:World}{K:Fg}{mg:Str->Option Value}{base:Heap}{N ps:List Str}{qual:Str}{aB:Scope}{f:Addr}{cd:Value}{A:Around}{outer:List Env}{s s1:Shared}{H:Hp}{E:XK}{us:List Value}{vs:List V}
  (S:FnScope N ps aB) (hd:A.handled=none) (e0:Env0 P w K mg base A outer s H) (hl:vs.length=ps.length) (r:Vals vs us)
  (x:InCallC s s.heap.objs.size (bindL (envOfC qual aB s.heap.objs.size f cd).kindOf (ps.zip us) λ_=>none) (cellsFrom (s.heap.objs.size+1) aB.names []) (bindC (envOfC qual aB s.heap.objs.size f cd).kindOf (ps.zip us) λ_=>none) s1) :
  Inv (ame CX P w K mg base N qual aB f cd A outer s H E) [] (start N vs) H s1:=by
 have hpl:ps.length<=N.length:=by have:=aQ List.length S.pre;rw[bY]at this;omega
 obtain⟨h1,tk,rfl,hk⟩:=x.done;have noA:∀b:Addr,b∉(ame CX P w K mg base N qual aB f cd A outer s H E).ex:=λb z=>absurd (show b∈([]:List Addr) from z) (by simp)
 refine⟨⟨e0.mod,S.kind,rfl,rfl,ay _,λy z c h1 h2=>?_,λy hy=>?_,λy c _ h=>?_,λ_=>hd,Around.frames_deeper e0.frames,.inr ⟨rfl,rfl⟩,λb z=>absurd z (noA b),e0.bs,e0.bsz,λb _ _=>noA b,λb z=>absurd z (noA b),e0.funs,e0.frf⟩,
  rfl,e0.bare,Un.kept hk,⟨_,x.toInCall.ns,λi y v h1 h2 h3=>?_⟩,λy c h=>⟨_,x.cell y c h⟩,e0.hok.fresh (ay _),λy c h=>?_,λp hp=>absurd (show p∈([]:List (Addr×Obj)) from hp) (by simp),e0.hok.kept hk,?_⟩
 .exact name_of_addr x.apart (cK h1) (cK h2)
 .have hy:aB.names.lookup y=some .cell\/aB.names.lookup y=some .free:=hy
  rcases hy with hy|hy
  .exact adu hy
  .exact absurd rfl (S.nofree _ (cK hy))
 .exact eR (x.above y c (cK h))
 .have hi:i<vs.length:=by
   unfold start at h2
   by_cases hi:i<vs.length
   .exact hi
   .rw[aR (by simpa using hi)]at h2
    rw[dJ]at h2
    split at h2<;>cases h2
  have ha:vs[i]? = some v:=by
   unfold start at h2;rw[aL (by simpa using hi),aE]at h2
   cases e:vs[i]? with
   |none=>rw[e]at h2;cases h2
   |some a=>rw[e]at h2;cases h2;rfl
  obtain⟨u,hu,rv⟩:=r.get ha;have hp:ps[i]? = some y:=by
   rw[<-S.pre,List.getElem?_take_of_lt (by omega)];exact h1
  have ndP:ps.Nodup:=by rw[<-S.pre];exact S.nd.sublist (hX _ _)
  refine⟨u,rv,?_⟩
  rcases S.par y (aW hp) with k|k
  .exact .inl ⟨k,aao ndP hp hu k⟩
  .obtain⟨c,e⟩:=adu (n:=s.heap.objs.size+1) k;refine .inr ⟨.inl k,c,e,?_⟩;have q:=x.cell y c e;rw[aap ndP hp hu (by show aB.names.lookup y≠_;rw[k];decide)]at q
   exact q
 .exact e0.hok.fresh (eR (x.above y c (cK h)))
 .unfold start;show _=N.length;rw[aw,ax,eT];omega
theorem b2v{CX:CXT}{P:Program}{w:World}{K:Fg}{mg:Str->Option Value}{base:Heap}{k:Nat}{f:Addr}{name qual:Str}{params:Arguments}{body:List Stmt}{aB:Scope}{dV kV doc pm cdv ct oc:Value}{an od:Option Addr}
  {osl:Array (Option Value)} {N ps:List Str} {sp:Sp} (lk:K.lookup f=some ⟨oc,od,.func (PySem.W.fnOf name qual params body aB dV kV doc pm an cdv ct),osl⟩) (hcd:PySem.W.codeIn K cdv qual=true) (S:FnScope N ps aB)
  (len:∀vs H Q E,sp vs H Q E->vs.length=ps.length)
  (hbody:∀(A:Around) (outer:List Env) (s:Shared) (H:Hp) (vs:List V) (Q:VK) (E:XK),Room k (A.deeper (envOfC qual aB s.heap.objs.size f cdv))->sp vs H Q E->
   ∃t,PSs (ame CX P w K mg base N qual aB f cdv A outer s H E) body t/\t {nx:=λ_ H'=>Q .non H',rt:=Q} (start N vs) H) :
  FnOk P w K mg base CX (k+1) f (PySem.W.fnOf name qual params body aB dV kV doc pm an cdv ct) ps sp:=by
 refine⟨len,λA outer s H args us vs Q E hr e0 hb r hsp=>?_⟩;have hl:=len _ _ _ _ hsp;have KX:K.In s.heap:=e0.mod.kin.keeps λb o e=>(e0.bs b o e).1;have lim:s.heap.NoLimit:=e0.mod.nolimit.keeps λb o e=>(e0.bs b o e).1;have hkind:∀y∈ps.zip us,aB.names.lookup y.1=some .local\/(aB.names.lookup y.1=some .cell/\((cellsFrom (s.heap.objs.size+1) aB.names []).lookup y.1).isSome=true):=λ⟨n,v⟩ hy=>by
  rcases S.par n (iL hy).1 with q|q
  .exact .inl q
  .exact .inr ⟨q,PySem.W.cellsFrom_some _ _ _ (.inl q)⟩
 refine codeAny_call_function hr.depth (KX _ _ lk) rfl S.co S.gen rfl (PySem.W.codeRec_of KX hcd) (hb _ _ _ _ ?_);refine wpAny_newFunctionEnv_cells S.kind hkind λenv he s1 x=>?_;subst he;refine⟨lim.keeps x.toInCall.keep,codeAny_func ?_⟩;obtain⟨t,ht,hq⟩:=hbody A outer s H vs Q E (hr.deeper _) hsp;have I:Inv (ame CX P w K mg base N qual aB f cdv A outer s H E) [] (start N vs) H s1:=ahu S hr.hd e0 hl r x;refine bO (ht [] s1 (start N vs) H _ I hq) (λfl s' hs=>?_) λe s' hs=>hs;have fin:∀{Z':St} {H':Hp} {v:V} {u:Value},Inv (ame CX P w K mg base N qual aB f cdv A outer s H E) [] Z' H' s'->RelV v u->Q v H'->CE outer P w H s Q u s' :=
  λ{Z' H' v u} J rv q=>⟨v,H',J.os,J.bare,J.base,J.hok,rv,q⟩
 cases fl with
 |ret u =>
  obtain⟨v,Z',H',J,rv,q⟩:=hs;exact fin J rv q
 |next =>
  obtain⟨Z',H',J,q⟩:=hs;exact fin (v:=V.non) (u:=Value.none) J rfl q
 |brk =>
  obtain⟨_,_,_,q⟩:=hs;exact False.elim q
 |cont =>
  obtain⟨_,_,_,q⟩:=hs;exact False.elim q
section
variable{X:Cx}{x:Str}{p pos:Pos}{e:Expr}{es:List Expr}{t:TA}{id T:String}{r:List V->Hp->VK->Prop}
def tCB(r:List V->Hp->VK->Prop)(t:TA):TE:=λZ H Q=>t Z H λvs H1=>r vs H1 Q
theorem adv(hc:CallR X (.builtin id) r)(hg:Gl X x)(hm:X.mg x=none)(hv:bootBuiltins x=some (.builtin id))(ha:PA X (e::es) t)(hn:x ≠ "__name__":=by decide)(hdb:(x == ("__debug__" : Str))=false:=by decide)
  (he:starEach (e::es) X.env=(false,eval e X.env)::starEach es X.env:=by rfl) (hpl:(backTo pos (starEach es X.env)).any (·.1)=false:=by rfl):PE X (.Call (.Name x p) (e::es) [] pos) (tCB r t):=by
 intro aA s Z H Q I h
 refine dG (a3j I hg hm hv ?_ hn hdb);exact PyProof.Rows.callWith_builtin1 (thn (ha pos aA s Z H _ I h) λus s1 ⟨vs,H1,I1,r1,q1⟩=>hc aA s1 Z H1 vs us Q I1 r1 q1) he hpl
theorem ahv(hc:CallR X (.type T) r)(hg:Gl X x)(hm:X.mg x=none)(hv:bootBuiltins x=some (.type T))(ha:PA X (e::es) t)(hn:x ≠ "__name__":=by decide)(hdb:(x == ("__debug__" : Str))=false:=by decide)
  (he:starEach (e::es) X.env=(false,eval e X.env)::starEach es X.env:=by rfl) (hpl:(backTo pos (starEach es X.env)).any (·.1)=false:=by rfl):PE X (.Call (.Name x p) (e::es) [] pos) (tCB r t):=by
 intro aA s Z H Q I h
 refine dG (a3j I hg hm hv ?_ hn hdb);exact cp (thn (ha pos aA s Z H _ I h) λus s1 ⟨vs,H1,I1,r1,q1⟩=>hc aA s1 Z H1 vs us Q I1 r1 q1) he hpl
end
end L2
namespace HT
open PyProof.Rows
section
variable{prog:Program}{w:World}{A:Around}{E:Value->Shared->Prop}{s:Shared}
theorem asq{vs ws:List Value}(ht:IsTup s.heap t vs.toArray)(hb:IsTup s.heap b ws.toArray)(hv:vs≠[])
  (h1:ws=[]->Q (.ref t) s) (h2:ws≠[]->Q (.ref s.heap.objs.size) {s with heap:=s.heap.push {cls:=.type "tuple",data:=.seq (vs++ws).toArray} })
  (hsz:vs.length+ws.length<=sizeLine):wpAny (model prog w) A (binaryOp .Add (.ref t) (.ref b)) Q E s:=by
 obtain⟨⟨cls,dd,data,sl⟩,ho,hc,n,hd⟩:=id ht;obtain⟨⟨cls2,dd2,data2,sl2⟩,ho2,hc2,n2,hd2⟩:=id hb;simp only at hc hd hc2 hd2;subst hc hd hc2 hd2;have e:vs.toArray++ws.toArray=(vs++ws).toArray:=by simp
 by_cases hw:ws=[]
 .exact concat_meets ⟨_,ho,rfl⟩ ⟨_,ho2,rfl⟩ iF seq_tuple_add PySem.F.slot_tuple_add ic (hZ _ _)
   (tuple_addW1 t b vs.toArray ws.toArray n n2 dd dd2 sl sl2 (by simpa using hv) (by simp[hw])) ⟨ho,ho2,h1 hw⟩
 .refine concat_meets ⟨_,ho,rfl⟩ ⟨_,ho2,rfl⟩ iF seq_tuple_add PySem.F.slot_tuple_add ic (hZ _ _)
   (tuple_addW2 t b vs.toArray ws.toArray n n2 dd dd2 sl sl2 (by simpa using hv) (by simpa using hw) (by rw[aV,aV];exact hsz)) ⟨ho,ho2,?_⟩
  rw[e];exact h2 hw
noncomputable def sIx(n d:Nat):Option Int->Nat
 |none=>d
 |some v=>if v<0 then (v+(n:Int)).toNat else min v.toNat n
theorem adw(n d:Nat):sIx n d none=d:=rfl
theorem ahw(n d k:Nat):sIx n d (some (k:Int))=min k n:=by
 show(if (k:Int)<0 then ((k:Int)+(n:Int)).toNat else min (k:Int).toNat n)=min k n
 rw[bA (by omega),dN]
theorem ahx(n d:Nat)(hd:d<=n)(o:Option Int):sIx n d o<=n:=by
 cases o with
 |none=>exact hd
 |some v =>
  show(if v<0 then (v+(n:Int)).toNat else min v.toNat n)<=n
  by_cases hv:v<0
  .rw[aU hv];omega
  .rw[bA hv];exact Nat.min_le_right _ _
theorem ahy(v:Int)(n d:Nat):(if v<0 then max (v+(n:Int)) 0 else min v (n:Int))=((sIx n d (some v):Nat):Int):=by
 show(if v<0 then max (v+(n:Int)) 0 else min v (n:Int))=(((if v<0 then (v+(n:Int)).toNat else min v.toNat n):Nat):Int)
 by_cases hv:v<0
 .simp only[aU hv];omega
 .simp only[bA hv];omega
theorem afo(lo hi:Option Int)(n:Nat):Builtin.Slice.sliceAdjust lo hi 1 (n:Int)=(((sIx n 0 lo:Nat):Int),((sIx n n hi:Nat):Int)):=by
 have h1:¬ ((1:Int)<0):=by omega
 unfold Builtin.Slice.sliceAdjust;simp only[h1,eV];refine Prod.ext ?_ ?_
 .cases lo with
  |none=>rfl
  |some v=>exact ahy v n 0
 .cases hi with
  |none=>rfl
  |some v=>exact ahy v n n
theorem afp(i j:Nat):Builtin.Slice.slicePlaces (i:Int) (j:Int) 1=j-i:=by
 unfold Builtin.Slice.slicePlaces;have h1:(1:Int) > 0:=by omega
 simp only[h1,dQ,Int.ediv_one]
 split<;>omega
theorem a7t(p:IsPart v o)(h:Q o s):wpAny (model prog w) A (Builtin.Slice.slicePartIndex v) Q E s:=by
 cases p with
 |none=>exact slicePart_none h
 |int i t=>exact slicePart_int h
theorem a2l{sl:Addr}{vl vu:Value}{lo hi:Option Int}{n:Nat}{Q:Int×Int×Nat->Shared->Prop}(hs:s.heap.IsSliceOf sl vl vu .none)(pl:IsPart vl lo)(pu:IsPart vu hi)
  (h:Q (((sIx n 0 lo:Nat):Int),1,sIx n n hi-sIx n 0 lo) s):wpAny (model prog w) A (Builtin.Slice.sliceApplied (.ref sl) (pure (n:Int))) Q E s:=by
 obtain⟨os,hos,hcs,hds⟩:=id hs;unfold Builtin.Slice.sliceApplied Builtin.Slice.sliceFields;refine ai (ai (dY hos hds (x:=vl) rfl (ai (dY hos hds (x:=vu) rfl (ai (dY hos hds (x:=.none) rfl (aJ ?_)))))));refine ai (slicePart_none ?_);show wpAny _ _ (if ((1:Int) == 0)=true then _ else _) _ _ s
 rw[bA (by decide)]
 refine ai (a7t pl (ai (a7t pu (ai (aJ ?_)))));show wpAny _ _ (match Builtin.Slice.sliceAdjust lo hi 1 (n:Int) with|(lo,hi)=>pure (lo,(1:Int),Builtin.Slice.slicePlaces lo hi 1)) _ _ s
 rw[afo lo hi n];show wpAny _ _ (pure (((sIx n 0 lo:Nat):Int),(1:Int),Builtin.Slice.slicePlaces ((sIx n 0 lo:Nat):Int) ((sIx n n hi:Nat):Int) 1)) _ _ s;rw[afp];exact aJ h
theorem an3(xs:Array Value)(i k:Nat):((List.range k).filterMap λ(m:Nat)=>xs[((i:Int)+(m:Int)*1).toNat]?).toArray=((xs.toList.drop i).take k).toArray:=by
 have e:(λ(m:Nat)=>xs[((i:Int)+(m:Int)*1).toNat]?)=λm=>xs[i+m]?:=by
  funext m
  have:((i:Int)+(m:Int)*1).toNat=i+m:=by omega
  rw[this]
 rw[e];have:=pick_run xs i k;rw[List.filterMap_map]at this;have e2:((λx=>xs[x]?) ∘ λx=>i+x)=λm=>xs[i+m]?:=rfl;rw[e2]at this;rw[this]
theorem a5o{t sl:Addr}{aC:Array Value}{vl vu:Value}{lo hi:Option Int}{Q:Value->Shared->Prop}(ht:IsTup s.heap t aC)(hs:s.heap.IsSliceOf sl vl vu .none)(pl:IsPart vl lo)(pu:IsPart vu hi)
  (hw:¬ (sIx aC.size 0 lo=0/\sIx aC.size aC.size hi=aC.size))
  (h:Q (.ref s.heap.objs.size) {s with heap:=s.heap.push {cls:=.type "tuple",data:=.seq ((aC.toList.drop (sIx aC.size 0 lo)).take (sIx aC.size aC.size hi-sIx aC.size 0 lo)).toArray} })
  (hsz:aC.size<=sizeLine):wpAny (model prog w) A (getItem (.ref t) (.ref sl)) Q E s:=by
 have htake:sizeOk (.seq ((aC.toList.drop (sIx aC.size 0 lo)).take (sIx aC.size aC.size hi-sIx aC.size 0 lo)).toArray):=by
  show((aC.toList.drop (sIx aC.size 0 lo)).take (sIx aC.size aC.size hi-sIx aC.size 0 lo)).toArray.size<=sizeLine;rw[aV,bY,cZ,bG];omega
 have hj:sIx aC.size aC.size hi<=aC.size:=ahx _ _ (ay _) hi;obtain⟨os,hos,hcs,hds⟩:=id hs;have hTs:s.TypeIs (.ref sl) "slice":=⟨os,hos,hcs⟩;unfold getItem
 try with_reducible refine dI ?_
 first|refine ai (aJ ?_)|skip
 refine ai (wpAny_sequenceKey ht.typeIs (by decide) ?_)
 refine ai (cB (name:=Str.ofString "__getitem__") ht.typeIs cq
  (cn cq ht.typeIs entry_tuple_getitem ?_ (args_tuple_getitem _ _)))
 show wpAny _ _ (Builtin.Tuple.tupleItemsOf (.ref t)>>=_) _ _ s;refine ai (tupleItemsOf_ ht ?_);refine ai (gO hTs ?_);rw[aU (by decide)]
 refine ai (a2l hs pl pu ?_);have hno:¬ ((((sIx aC.size 0 lo:Nat):Int) == 0 && (1:Int) == 1 && (sIx aC.size aC.size hi-sIx aC.size 0 lo) == aC.size)=true):=by
  intro q
  rw[ba,ba]at q;have q1:((sIx aC.size 0 lo:Nat):Int)=0:=eq_of_beq q.1.1;have q2:sIx aC.size aC.size hi-sIx aC.size 0 lo=aC.size:=eq_of_beq q.2;exact hw ⟨by omega,by omega⟩
 show wpAny _ _ (if (((sIx aC.size 0 lo:Nat):Int) == 0 && (1:Int) == 1 && (sIx aC.size aC.size hi-sIx aC.size 0 lo) == aC.size)=true then _ else _) _ _ s
 rw[bA hno,an3]
 first
  |exact ai (m:=Builtin.Tuple.tupleExact _) (cU (aJ ⟨_,rfl,aJ h⟩) htake)
  |exact ai (m:=Builtin.Tuple.tupleExact _) (cU (ai (aJ (aJ ⟨_,rfl,aJ h⟩))) htake)
  |exact ai (ai (m:=Builtin.Tuple.tupleExact _) (cU (aJ (aJ ⟨_,rfl,aJ h⟩)) htake))
  |exact ai (ai (m:=Builtin.Tuple.tupleExact _) (cU (aJ ⟨_,rfl,aJ h⟩) htake))
end
end HT
namespace L2
open PyProof.Rows
abbrev TO:=St->Hp->(Option Int->Hp->Prop)->Prop
def PO(X:Cx)(e:Option Expr)(t:TO):Prop :=
 ∀(aA:List (Addr×Obj)) (s:Shared) (Z:St) (H:Hp) (Q:Option Int->Hp->Prop),Inv X aA Z H s->t Z H Q->
  wpAny (model X.prog X.w) X.A (evalPart e X.env) (λu s'=>∃o H',Inv X aA Z H' s'/\IsPart u o/\Q o H') X.xe s
def asr:TO:=λ_ H Q=>Q none H
def b2w(t:TE):TO:=λZ H Q=>t Z H λx H1=>∃i,x=.int i/\Q (some i) H1
theorem intsAre_of{ns:List Int}:∀{us:List Value},Vals (ns.map V.int) us->IntsAre us ns:=by
 induction ns with
 |nil=>intro us r;rw[dM]at r;cases r;exact .nil
 |cons n ns ih =>
  intro us r
  rw[bg]at r
  cases r with
  |cons r1 r2 =>
   obtain⟨t,e⟩:=r1;subst e;exact .cons n t (ih r2)
section
variable{X:Cx}{e:Expr}{te:TE}{lo hi:Option Expr}{tl th:TO}{pos p2:Pos}
theorem ass:PO X none asr:=by
 intro aA s Z H Q I h
 rw[evalPart_none];exact aJ ⟨none,H,I,.none,h⟩
theorem asu(h:PE X e te):PO X (some e) (b2w te):=by
 intro aA s Z H Q I hw
 rw[evalPart_some];refine thn (h aA s Z H _ I hw) ?_
 rintro u s1 ⟨x,H1,I1,r1,q1⟩
 obtain⟨i,rfl,q⟩:=q1;obtain⟨t,rfl⟩:=r1;exact⟨some i,H1,I1,.int i t,q⟩
def SlR(X:Cx)(r:V->Option Int->Option Int->Hp->VK->Prop):Prop :=
 ∀(aA:List (Addr×Obj)) (s:Shared) (Z:St) (H:Hp) (x:V) (v vl vu:Value) (lo hi:Option Int) (sl:Addr) (Q:VK),Inv X aA Z H s->RelV x v->s.heap.IsSliceOf sl vl vu .none->IsPart vl lo->IsPart vu hi->r x lo hi H Q->
  ∃T id,typeLookup (.type T) "__getitem__" = pure (some (.builtin id))/\s.TypeIs v T/\wpAny (model X.prog X.w) X.A (getItem v (.ref sl)) (EP X aA Z Q) X.xe s
theorem SlR.or(h:SlR X r)(h':SlR X r'):SlR X (λx lo hi H Q=>r x lo hi H Q\/r' x lo hi H Q):=by
 intro aA s Z H x v vl vu lo hi sl Q I rx hs pl pu q
 rcases q with q|q
 .exact h aA s Z H x v vl vu lo hi sl Q I rx hs pl pu q
 .exact h' aA s Z H x v vl vu lo hi sl Q I rx hs pl pu q
def tSl(r:V->Option Int->Option Int->Hp->VK->Prop)(te:TE)(tl th:TO):TE:=λZ H Q=>te Z H λx H1=>tl Z H1 λl H2=>th Z H2 λu H3=>r x l u H3 Q
theorem an4(hr:SlR X r)(he:PE X e te)(hl:PO X lo tl)(hu:PO X hi th):PE X (.Subscript e (.Slice lo hi none p2) pos) (tSl r te tl th):=by
 intro aA s Z H Q I h
 refine Subscript_ (thn (he aA s Z H _ I h) λv s1 ⟨x,H1,I1,r1,q1⟩=>?_);refine wpAny_Slice (thn (hl aA s1 Z H1 _ I1 q1) λvl s2 ⟨l,H2,I2,pl,q2⟩=>thn (hu aA s2 Z H2 _ I2 q2) λvu s3 ⟨u,H3,I3,pu,q3⟩=>?_);rw[evalPart_none];refine aJ ?_;have I4:Inv X aA Z H3 {s3 with heap:=s3.heap.push {cls:=.type "slice",data:=.fields #[vl,vu,.none]} }:=I3.kept (t':=s3.toks) λb ob q=>ar _ q
 obtain⟨T,id,hT,ht,hg⟩:=hr aA {s3 with heap:=s3.heap.push {cls:=.type "slice",data:=.fields #[vl,vu,.none]} } Z H3 x v vl vu l u s3.heap.objs.size Q I4 r1 (Heap.IsSliceOf.new ..) pl pu q3
 show wpAny (model X.prog X.w) X.A (subscriptTail e (.Slice lo hi none p2) v (.ref s3.heap.objs.size)) (EP X aA Z Q) X.xe {s3 with heap:=s3.heap.push {cls:=.type "slice",data:=.fields #[vl,vu,.none]} }
 exact tail_any (ops:=[.ref s3.heap.objs.size,v]) ht hT hg (by with_unfolding_all rfl)
noncomputable def aq8(xs:List V)(lo hi:Option Int):List V:=(xs.drop (HT.sIx xs.length 0 lo)).take (HT.sIx xs.length xs.length hi-HT.sIx xs.length 0 lo)
theorem a6m(xs:List V)(lo hi:Option Int):(aq8 xs lo hi).length<=xs.length:=by
 unfold aq8;rw[bY,cZ];omega
def b2x(K:Fg):V->Option Int->Option Int->Hp->VK->Prop:=λx lo hi H Q=>∃a xs,x=.ref a/\SqT K H a xs /\
 ¬ (HT.sIx xs.length 0 lo=0/\HT.sIx xs.length xs.length hi=xs.length)/\∀p,H p=none->Q (.ref p) (upd H p (.tup (aq8 xs lo hi)))
theorem axu:SlR X (b2x X.K):=by
 intro aA s Z H x v vl vu lo hi sl Q I rx hs pl pu h
 obtain⟨a,xs,rfl,hx,hw,q⟩:=h;cases rx
 obtain⟨its,r,ht,hz⟩:=I.tuple hx;have aH:its.toArray.size=xs.length:=by rw[aV];exact r.length.symm
 refine⟨"tuple",_,cq.lookup,ht.typeIs,?_⟩;refine HT.a5o ht hs pl pu (by rw[aH];exact hw) ?_ (by rw[aH];exact hz)
 rw[aH];refine⟨.ref s.heap.objs.size,_,I.laid (t':=s.toks) (o:=.tup (aq8 xs lo hi)) (λb ob q=>ar _ q) (ay _) ?_,rfl,q _ (I.hok.fresh (ay _))⟩;exact⟨cM (a6m xs lo hi) hz,_,(r.drop (HT.sIx xs.length 0 lo)).take (HT.sIx xs.length xs.length hi-HT.sIx xs.length 0 lo),IsTup.new _ _⟩
noncomputable def axv(K:Fg):R2:=λx y H Q=>∃a b xs ys,x=.ref a/\y=.ref b/\SqT K H a xs/\SqT K H b ys/\xs≠[]/\xs.length+ys.length<=sizeLine /\
 (ys=[]->Q (.ref a) H)/\(ys≠[]->∀p,H p=none->Q (.ref p) (upd H p (.tup (xs++ys))))
theorem Vals.nil_iff(r:Vals xs us):us=[]↔xs=[]:=by
 cases r with
 |nil=>simp
 |cons _ _=>simp
theorem asv:OpR X (binaryOp .Add) (axv X.K):=by
 intro aA s Z H x y v u Q I rx ry h
 obtain⟨a,b,xs,ys,rfl,rfl,ha,hb,hx,hz,q1,q2⟩:=h;cases rx
 cases ry
 obtain⟨its,r1,p1,_⟩:=I.tuple ha;obtain⟨its2,r2,p2,_⟩:=I.tuple hb;refine HT.asq p1 p2 (λz=>hx (r1.nil_iff.mp z)) (λz=>⟨.ref a,H,I,rfl,q1 (r2.nil_iff.mp z)⟩) (λz=>?_) (by rw[<-r1.length,<-r2.length];exact hz)
 refine⟨.ref s.heap.objs.size,_,I.laid (t':=s.toks) (o:=.tup (xs++ys)) (λb ob q=>ar _ q) (ay _) ?_,rfl,q2 (λw=>z (r2.nil_iff.mpr w)) _ (I.hok.fresh (ay _))⟩;exact⟨by rw[aw];exact hz,_,r1.append r2,IsTup.new _ _⟩
end
noncomputable def ixN(n:Nat)(i:Int):Option Nat:=if 0<=i then (if i<n then some i.toNat else none) else if -(n:Int)<=i then some (i+n).toNat else none
def atI{α:Type}(xs:List α)(i:Int):Option α:=(ixN xs.length i).bind λj=>xs[j]?
theorem ahz(h:ixN n i=some j):seqIndex? i n=some j/\j<n /\ -(n:Int)<=i/\i<n:=by
 unfold ixN at h
 by_cases h0:0<=i
 .rw[aU h0]at h
  by_cases h1:i<n
  .rw[aU h1]at h;have e:i.toNat=j:=bS h;exact⟨by rw[iY h0 h1,e],by omega,by omega,h1⟩
  .rw[bA h1]at h;cases h
 .rw[bA h0]at h
  by_cases h1 : -(n:Int)<=i
  .rw[aU h1]at h;have e:(i+n).toNat=j:=bS h;exact⟨by rw[iM (by omega) h1,e],by omega,h1,by omega⟩
  .rw[bA h1]at h;cases h
theorem a8o{α:Type}{xs:List α}{i:Int}{v:α}(h:atI xs i=some v):∃j,seqIndex? i xs.length=some j/\xs[j]? = some v/\j<xs.length /\ -(xs.length:Int)<=i/\i<xs.length:=by
 unfold atI at h
 cases e:ixN xs.length i with
 |none=>rw[e]at h;cases h
 |some j =>
  rw[e]at h;obtain⟨h1,h2,h3,h4⟩:=ahz e;exact⟨j,h1,h,h2,h3,h4⟩
theorem yf{α:Type}{xs:List α}{j:Nat}{v:α}(h:xs[j]? = some v):atI xs (j:Int)=some v:=by
 have hj:j<xs.length:=(ah.mp h).1;have e:ixN xs.length (j:Int)=some j:=by
  unfold ixN;rw[aU (by omega),aU (by omega)];simp
 unfold atI;rw[e];exact h
def a8p(b:Expr):Prop:=∀o i,subscripted b false o i=operate [o,i] (getItem o i)
def IxR(X:Cx)(r:R2):Prop :=
 ∀(value slice:Expr) (aA:List (Addr×Obj)) (s:Shared) (Z:St) (H:Hp) (x y:V) (v u:Value) (Q:VK),Inv X aA Z H s->RelV x v->RelV y u->r x y H Q->
  subscripted slice false v u=operate [v,u] (getItem v u)->wpAny (model X.prog X.w) X.A (subscriptTail value slice v u) (EP X aA Z Q) X.xe s
def MtR(X:Cx)(id:String)(r:V->List V->Hp->VK->Prop):Prop :=
 ∀(aA:List (Addr×Obj)) (s:Shared) (Z:St) (H:Hp) (x:V) (xs:List V) (v:Value) (us:List Value) (Q:VK),Inv X aA Z H s->RelV x v->Vals xs us->r x xs H Q->
  wpAny (model X.prog X.w) X.A (call (.builtin id) (v::us)) (EP X aA Z Q) X.xe s
section
variable{X:Cx}{a b:Expr}{ta tb:TE}{pos:Pos}
theorem IxR.or(h:IxR X r)(h':IxR X r'):IxR X (λx y H Q=>r x y H Q\/r' x y H Q):=by
 intro value slice aA s Z H x y v u Q I rx ry q hs
 rcases q with q|q
 .exact h value slice aA s Z H x y v u Q I rx ry q hs
 .exact h' value slice aA s Z H x y v u Q I rx ry q hs
theorem b2y(hr:IxR X r)(ha:PE X a ta)(hb:PE X b tb)(hs:a8p b):PE X (.Subscript a b pos) (tOp r ta tb):=by
 intro aA s Z H Q I h
 exact Subscript_ (b2o ha hb I h λv u s2 x y H2 I2 rx ry q=>hr a b aA s2 Z H2 x y v u Q I2 rx ry q (hs _ _))
def b1v(K:Fg):R2:=λx y H Q=>∃p xs i v,x=.ref p/\y=.int i/\SqL K H p xs/\atI xs i=some v/\Q v H
def b4k(K:Fg):R2:=λx y H Q=>∃p xs i v,x=.ref p/\y=.int i/\SqT K H p xs/\atI xs i=some v/\Q v H
noncomputable def b4l:R2:=λx y H Q=>∃z i c,x=.str z/\y=.int i/\z.length<=sizeLine/\atI z.cps.toList i=some c/\Q (.str ⟨#[c]⟩) H
theorem asw:IxR X (b1v X.K):=by
 intro value slice aA s Z H x y v u Q I rx ry h hs
 obtain⟨p,xs,i,z,rfl,rfl,hq,he,q⟩:=h;cases rx
 obtain⟨t,rfl⟩:=ry;obtain⟨its,r,pl,hz⟩:=I.list hq;obtain⟨j,h1,h2,h3,h4,h5⟩:=a8o he;obtain⟨w,ew,rw'⟩:=r.get h2;have hl:=r.length;have hn:=a5y;have fin:EP X aA Z Q w s:=⟨z,H,I,rw',q⟩
 by_cases h0:0<=i
 .have hj:i.toNat=j:=by
   rw[iY h0 h5]at h1;exact bS h1
  exact item_listR pl.isList h0 (by omega) (by rw[hj];simpa using ew) fin hs
 .have hj:(i+(its.toArray.size:Int)).toNat=j:=by
   rw[iM (by omega) h4]at h1
   rw[aV,<-hl];exact bS h1
  exact subscriptTail_builtinR (x:=w) pl.isList.typeIs slot_list_getitem.lookup
   (wpAny_getItem_list_neg (Q:=λr s'=>r=w/\EP X aA Z Q r s') pl.isList (by omega) (by rw[aV]<;>omega) (by omega) (by rw[hj];simpa using ew) ⟨rfl,fin⟩) hs
theorem a6n:IxR X (b4k X.K):=by
 intro value slice aA s Z H x y v u Q I rx ry h hs
 obtain⟨p,xs,i,z,rfl,rfl,hq,he,q⟩:=h;cases rx
 obtain⟨t,rfl⟩:=ry;obtain⟨its,r,pl,hz⟩:=I.tuple hq;obtain⟨j,h1,h2,h3,h4,h5⟩:=a8o he;obtain⟨w,ew,rw'⟩:=r.get h2;have hl:=r.length;have hn:=a5y;have fin:EP X aA Z Q w s:=⟨z,H,I,rw',q⟩;exact subscriptTail_builtinR (x:=w) pl.typeIs slot_tuple_getitem.lookup
  (getItem_tuple (j:=j) (Q:=λr s'=>r=w/\EP X aA Z Q r s') pl (by omega) (by omega) (by rw[aV,<-hl];exact h1) (by simpa using ew) ⟨rfl,fin⟩) hs
theorem axw:IxR X b4l:=by
 intro value slice aA s Z H x y v u Q I rx ry h hs
 obtain⟨z,i,c,rfl,rfl,hz,he,q⟩:=h;obtain⟨t,rfl⟩:=rx;obtain⟨t',rfl⟩:=ry;obtain⟨j,h1,h2,h3,h4,h5⟩:=a8o he;have hl:z.cps.toList.length=z.length:=by simp[Str.length]
 rw[hl]at h1 h4 h5;have hn:=a5y;exact tail_any (iV s z t) slot_str_getitem.lookup (getItem_str (c:=c) (by
  have e1:decide (i < -(2^63:Int))=false:=aZ (by omega)
  have e2:decide (i≥2^63)=false:=aZ (by omega)
  rw[e1,e2,Bool.or_false]) (by rw[h1];simpa using h2) ⟨.str ⟨#[c]⟩,H,I.tok _,⟨_,rfl⟩,q⟩) hs
def rIx(K:Fg):R2:=λx y H Q=>b1v K x y H Q\/b4k K x y H Q\/b4l x y H Q
theorem axx:IxR X (rIx X.K):=asw.or (a6n.or axw)
theorem afq(its:List Value)(n j:Nat)(u:Value):Obj.mapSeq (·.setIfInBounds j u) {cls:=.type "list",data:=.seq its.toArray n}={cls:=.type "list",data:=.seq (its.set j u).toArray n}:=by
 simp[Obj.mapSeq]
theorem Inv.lst{aA:List (Addr×Obj)}{Z:St}{H:Hp}{s:Shared}{p:Addr}{xs:List V}(I:Inv X aA Z H s)(h:H p=some (.lst xs)) :
  ∃(its:List Value) (n:Nat),Vals xs its/\s.heap.get? p=some {cls:=.type "list",data:=.seq its.toArray n}/\xs.length<=sizeLine:=by
 obtain⟨z,its,n,r,e⟩:=I.hok p _ h;exact⟨its,n,r,e,z⟩
theorem Inv.lstUpd{its its':List Value}(I:Inv X aA Z H s)(h:H p=some (.lst xs))
  (ho:s.heap.get? p=some {cls:=.type "list",data:=.seq its.toArray n}) (hf:f {cls:=.type "list",data:=.seq its.toArray n}={cls:=.type "list",data:=.seq its'.toArray n' }) (r:Vals ys its') (hz:ys.length<=sizeLine) (t:Nat) :
  Inv X aA Z (upd H p (.lst ys)) {s with heap:=s.heap.update p f,toks:=t}:=by
 have e:(s.heap.update p f).get? p=some {cls:=.type "list",data:=.seq its'.toArray n' }:=by
  rw[dD f ho (by rw[hf]<;>rfl),hf]
 refine I.write (x:=p) (e:=p) (by rw[h];trivial) (.inl rfl) (λb u hb q=>(dR _ _ (fI hb)).trans q) ⟨_,e⟩ ?_
 exact⟨hz,its',n',r,e⟩
def axy:V->V->V->Hp->(Hp->Prop)->Prop:=λo i v H Q=>∃p xs k j,o=.ref p/\i=.int k/\H p=some (.lst xs)/\ixN xs.length k=some j/\Q (upd H p (.lst (xs.set j v)))
theorem set_list:b2j X axy:=by
 intro aA s Z H o i v ov iv u Q I ro ri rv h
 obtain⟨p,xs,k,j,rfl,rfl,hp,hj,q⟩:=h;cases ro
 obtain⟨t,rfl⟩:=ri;obtain⟨its,n,r,ho,hz⟩:=I.lst hp;obtain⟨h1,h2,h3,h4⟩:=ahz hj;have hl:=r.length;have hn:=a5y;have I':Inv X aA Z (upd H p (.lst (xs.set j v))) {s with heap:=s.heap.update p (Obj.mapSeq (·.setIfInBounds j u))} :=
  I.lstUpd hp ho (afq its n j u) (r.set rv j) (by rw[iN];exact hz) s.toks
 by_cases h0:0<=k
 .have hk:k.toNat=j:=by
   rw[iY h0 h4]at h1;exact bS h1
  exact PySem.W.ki_setAt ho h0 (by omega) (by rw[aV,<-hl];exact h4) (by rw[hk];exact⟨_,I',q⟩)
 .have hk:(k+(its.toArray.size:Int)).toNat=j:=by
   rw[iM (by omega) h3]at h1
   rw[aV,<-hl];exact bS h1
  exact PySem.W.ki_setBack ho (by omega) (by rw[aV,<-hl];exact h3) (by omega) (by rw[hk];exact⟨_,I',q⟩)
theorem aaq(lo hi:Option Int)(n:Nat):(sliceBounds lo hi none n).1=((HT.sIx n 0 lo:Nat):Int)/\(sliceBounds lo hi none n).2.1=((HT.sIx n n hi:Nat):Int)/\(sliceBounds lo hi none n).2.2=1:=by
 refine⟨?_,?_,rfl⟩
 .cases lo with
  |none=>simp[sliceBounds,HT.sIx]
  |some i =>
   simp only[sliceBounds,HT.sIx,iG,show(1:Int) > 0 by decide,dQ]
   by_cases h:i<0
   .simp only[h,dQ]<;>omega
   .simp only[h,eV]<;>omega
 .cases hi with
  |none=>simp[sliceBounds,HT.sIx]
  |some i =>
   simp only[sliceBounds,HT.sIx,iG,show(1:Int) > 0 by decide,dQ]
   by_cases h:i<0
   .simp only[h,dQ]<;>omega
   .simp only[h,eV]<;>omega
theorem a8q(its:List Value)(lo hi:Option Int):slicePick its.toArray lo hi none=((its.drop (HT.sIx its.length 0 lo)).take (HT.sIx its.length its.length hi-HT.sIx its.length 0 lo)).toArray:=by
 obtain⟨h1,h2,h3⟩:=aaq lo hi its.toArray.size;unfold slicePick;rw[h1,h2,h3];simp only[sliceRange_one,pick_run,aV]<;>rfl
def b2z(K:Fg):V->Option Int->Option Int->Hp->VK->Prop:=λx lo hi H Q=>∃a xs,x=.ref a/\SqL K H a xs/\∀p,H p=none->Q (.ref p) (upd H p (.lst (aq8 xs lo hi)))
theorem asx:SlR X (b2z X.K):=by
 intro aA s Z H x v vl vu lo hi sl Q I rx hs pl pu h
 obtain⟨a,xs,rfl,hx,q⟩:=h;cases rx
 obtain⟨its,r,ht,hz⟩:=I.list hx;have aH:=r.length;refine⟨"list",_,slot_list_getitem.lookup,ht.isList.typeIs,?_⟩;refine wpAny_getItem_list_slice ht.isList hs pl pu .none (by simp) ?_ (by rw[aV]<;>omega)
 rw[a8q,<-aH];refine⟨.ref s.heap.objs.size,_,I.laid (t':=s.toks) (o:=.lst (aq8 xs lo hi)) (λb ob q=>ar _ q) (ay _) ?_,rfl,q _ (I.hok.fresh (ay _))⟩;exact⟨cM (a6m xs lo hi) hz,_,0,(r.drop (HT.sIx xs.length 0 lo)).take (HT.sIx xs.length xs.length hi-HT.sIx xs.length 0 lo),aO _ rfl⟩
def a3q:V->Bool
 |.non=>true
 |.bl _=>true
 |.int _=>true
 |.str _=>true
 |_=>false
noncomputable def eqV:V->V->Bool
 |.non,.non=>true
 |.bl a,.bl b=>a == b
 |.bl a,.int b=>(if a then 1 else 0) == b
 |.int a,.bl b=>a == (if b then 1 else 0)
 |.int a,.int b=>a == b
 |.str a,.str b=>a == b
 |_,_=>false
theorem ai0(ry:RelV y u)(rx:RelV x v)(fy:a3q y=true)(fx:a3q x=true):SeqAt.EqAt A s u v (eqV y x):=by
 cases y with
 |non =>
  cases ry
  cases x with
  |non=>cases rx;exact SeqAt.EqAt.same _
  |bl b=>cases rx;exact SeqAt.EqAt.none_bool b
  |int b=>obtain⟨t,rfl⟩:=rx;exact SeqAt.EqAt.none_int b t
  |str b=>obtain⟨t,rfl⟩:=rx;exact SeqAt.EqAt.none_str b t
  |_=>exact absurd (show false=true from fx) bJ
 |bl a =>
  cases ry
  cases x with
  |non=>cases rx;exact SeqAt.EqAt.bool_none a
  |bl b=>cases rx;exact SeqAt.EqAt.bool_bool a b
  |int b=>obtain⟨t,rfl⟩:=rx;exact SeqAt.EqAt.bool_int a b t
  |str b=>obtain⟨t,rfl⟩:=rx;exact SeqAt.EqAt.bool_str a b t
  |_=>exact absurd (show false=true from fx) bJ
 |int a =>
  obtain⟨t',rfl⟩:=ry
  cases x with
  |non=>cases rx;exact SeqAt.EqAt.int_none a t'
  |bl b=>cases rx;exact SeqAt.EqAt.int_bool a t' b
  |int b=>obtain⟨t,rfl⟩:=rx;exact SeqAt.EqAt.int_int a t' b t
  |str b=>obtain⟨t,rfl⟩:=rx;exact SeqAt.EqAt.int_str a t' b t
  |_=>exact absurd (show false=true from fx) bJ
 |str a =>
  obtain⟨t',rfl⟩:=ry
  cases x with
  |non=>cases rx;exact SeqAt.EqAt.str_none a t'
  |bl b=>cases rx;exact SeqAt.EqAt.str_bool a t' b
  |int b=>obtain⟨t,rfl⟩:=rx;exact SeqAt.EqAt.str_int a t' b t
  |str b=>obtain⟨t,rfl⟩:=rx;exact SeqAt.EqAt.str_str a t' b t
  |_=>exact absurd (show false=true from fx) bJ
 |_=>exact absurd (show false=true from fy) bJ
noncomputable def eqU(x:V)(u:Value):Bool:=match u with
 |.none=>eqV .non x
 |.bool b=>eqV (.bl b) x
 |.int i _=>eqV (.int i) x
 |.str z _=>eqV (.str z) x
 |_=>false
theorem aq9(r:RelV y u)(f:a3q y=true):eqU x u=eqV y x:=by
 cases y with
 |non=>cases r;rfl
 |bl b=>cases r;rfl
 |int i=>obtain⟨t,rfl⟩:=r;rfl
 |str z=>obtain⟨t,rfl⟩:=r;rfl
 |_=>exact absurd (show false=true from f) bJ
theorem a6o:∀{xs:List V} {us:List Value},Vals xs us->xs.all a3q=true->us.any (eqU x)=xs.any λy=>eqV y x
 |_,_,.nil,_=>rfl
 |y::xs,u::us,.cons r t,f=>by
  rw[eX,ba]at f;rw[eY,eY,aq9 r f.1,a6o t f.2]
theorem a4h(rx:RelV x v)(fx:a3q x=true):∀{xs:List V} {us:List Value},Vals xs us->xs.all a3q=true->∀u∈us,SeqAt.EqAt A s u v (eqU x u)
 |_,_,.nil,_=>λu hu=>by cases hu
 |y::xs,u::us,.cons r t,f=>λu' hu=>by
  rw[eX,ba]at f
  rcases aP.mp hu with rfl|hu
  .rw[aq9 r f.1];exact ai0 r rx f.1 fx
  .exact a4h rx fx t f.2 u' hu
def inV(x:V)(xs:List V):Bool:=xs.any λy=>eqV y x
noncomputable def rIn(K:Fg)(neg:Bool):R2:=λx y H Q=>∃p xs,y=.ref p/\(SqL K H p xs\/SqT K H p xs)/\a3q x=true/\xs.all a3q=true/\Q (.bl (if neg then !inV x xs else inV x xs)) H
theorem ai1:OpR X (compareOp .In) (rIn X.K false):=by
 intro aA s Z H x y v u Q I rx ry h
 obtain⟨p,xs,rfl,hq,fx,fs,q⟩:=h;cases ry
 rcases hq with hq|hq
 .obtain⟨its,r,pl,hz⟩:=I.list hq;refine SeqAt.in_listAt (eqU x) pl.isList (λw hw=>a4h rx fx r fs w (by simpa using hw)) ⟨.bl _,H,I,rfl,?_⟩
  rw[show its.toArray.any (eqU x)=its.any (eqU x) by simp,a6o r fs]
  exact q
 .obtain⟨its,r,pl,hz⟩:=I.tuple hq;refine SeqAt.in_tupleAt (eqU x) pl (λw hw=>a4h rx fx r fs w (by simpa using hw)) ⟨.bl _,H,I,rfl,?_⟩
  rw[show its.toArray.any (eqU x)=its.any (eqU x) by simp,a6o r fs]
  exact q
theorem aar:OpR X (compareOp .NotIn) (rIn X.K true):=by
 intro aA s Z H x y v u Q I rx ry h
 obtain⟨p,xs,rfl,hq,fx,fs,q⟩:=h;cases ry
 rcases hq with hq|hq
 .obtain⟨its,r,pl,hz⟩:=I.list hq;refine SeqAt.notIn_listAt (eqU x) pl.isList (λw hw=>a4h rx fx r fs w (by simpa using hw)) ⟨.bl _,H,I,rfl,?_⟩
  rw[show its.toArray.any (eqU x)=its.any (eqU x) by simp,a6o r fs]
  exact q
 .obtain⟨its,r,pl,hz⟩:=I.tuple hq;refine SeqAt.notIn_tupleAt (eqU x) pl (λw hw=>a4h rx fx r fs w (by simpa using hw)) ⟨.bl _,H,I,rfl,?_⟩
  rw[show its.toArray.any (eqU x)=its.any (eqU x) by simp,a6o r fs]
  exact q
theorem aas:CallR X (.builtin "len") (λxs H Q=>∃p ys,xs=[.ref p]/\(SqL X.K H p ys\/SqT X.K H p ys)/\Q (.int ys.length) H):=by
 intro aA s Z H xs us Q I r h
 obtain⟨p,ys,rfl,hq,q⟩:=h;obtain⟨u,rfl,rx⟩:=vals1 r;cases rx
 have hn:=a5y
 rcases hq with hq|hq
 .obtain⟨its,r',pl,hz⟩:=I.list hq;have aH:=r'.length;exact Calls.call_len_list pl.isList (by simp only[aV]<;>omega) ⟨.int ys.length,H,I.tok _,⟨s.toks+1,by rw[aV,aH]⟩,q⟩
 .obtain⟨its,r',pl,hz⟩:=I.tuple hq;have aH:=r'.length;exact len_tuple pl (by simp only[aV]<;>omega) ⟨.int ys.length,H,I.tok _,⟨s.toks+1,by rw[aV,aH]⟩,q⟩
theorem aat:CallR X (.builtin "len") (λxs H Q=>∃z,xs=[.str z]/\z.length<=sizeLine/\Q (.int z.length) H):=by
 intro aA s Z H xs us Q I r h
 obtain⟨z,rfl,hz,q⟩:=h;obtain⟨u,rfl,t,rfl⟩:=vals1 r;have hn:=a5y;exact len_str (by omega) ⟨.int z.length,H,I.tok _,⟨_,rfl⟩,q⟩
theorem CallR.or(h:CallR X f r)(h':CallR X f r'):CallR X f (λxs H Q=>r xs H Q\/r' xs H Q):=by
 intro aA s Z H xs us Q I rs q
 rcases q with q|q
 .exact h aA s Z H xs us Q I rs q
 .exact h' aA s Z H xs us Q I rs q
theorem a8r:CallR X (.type "tuple") (λxs H Q=>∃p ys,xs=[.ref p]/\((SqL X.K H p ys/\∀l,H l=none->Q (.ref l) (upd H l (.tup ys)))\/(SqT X.K H p ys/\Q (.ref p) H))):=by
 intro aA s Z H xs us Q I r h
 obtain⟨p,ys,rfl,h⟩:=h;obtain⟨u,rfl,rx⟩:=vals1 r;cases rx
 rcases h with⟨hq,q⟩|⟨hq,q⟩
 .obtain⟨its,r',pl,hz⟩:=I.list hq;have aH:=r'.length;refine call_tuple_list pl.isList (λh' kp=>?_) (by simp only[aV]<;>omega)
  have I1:Inv X aA Z H {s with heap:=h' }:=I.kept (t':=s.toks) kp
  have I2:Inv X aA Z (upd H h'.objs.size (.tup ys)) {s with heap:=h'.push {cls:=.type "tuple",data:=.seq its.toArray} } :=
   I1.laid (t':=s.toks) (λb o e=>ar _ e) (ay _) (show ObjOk X.prog X.w _ _ _ (.tup ys) from ⟨hz,its,r',IsTup.new _ _⟩)
  exact⟨.ref h'.objs.size,_,I2,rfl,q _ (I1.hok.fresh (ay _))⟩
 .obtain⟨its,r',pl,hz⟩:=I.tuple hq;exact call_tuple_same pl ⟨.ref p,H,I,rfl,q⟩
def tyV(K:Fg)(T:String)(x:V)(H:Hp):Prop:=match x with
 |.str _=>T = "str"
 |.int _=>T = "int"
 | .ref p=>(T = "list"/\∃xs,SqL K H p xs)\/(T = "tuple"/\∃o,K.lookup p=some o/\o.cls=.type "tuple"/\o.dict=none) \/
   (T = "dict"/\((∃kvs,H p=some (.dK kvs))\/∃kvs,H p=some (.dT kvs)))\/(T = "set"/\∃S n,H p=some (.set S n))
 |_=>False
theorem aqa(I:Inv X aA Z H s)(r:RelV x v)(ty:tyV X.K T x H) :
  s.TypeIs v T/\∀a,v=.ref a->∃ob,s.heap.get? a=some ob/\ob.dict=none:=by
 cases x with
 |str z =>
  obtain⟨t,rfl⟩:=r
  cases (show T = "str" from ty)
  exact⟨iV s z t,λ_ e=>nomatch e⟩
 |int i =>
  obtain⟨t,rfl⟩:=r
  cases (show T = "int" from ty)
  exact⟨typeIs_int s i t,λ_ e=>nomatch e⟩
 |ref p =>
  cases r
  rcases ty with⟨rfl,xs,hq⟩|⟨rfl,o,hk,hc,hd⟩|⟨rfl,hk⟩|⟨rfl,S,n,hk⟩
  .obtain⟨its,_,pl,_⟩:=I.list hq;refine⟨pl.isList.typeIs,λa e=>?_⟩;cases e
   obtain⟨o,n,e,c,hd,_⟩:=pl;exact⟨o,e,hd⟩
  .refine⟨⟨o,I.kIn p o hk,hc⟩,λa e=>?_⟩;cases e
   exact⟨o,I.kIn _ o hk,hd⟩
  .have z:∃o,s.heap.get? p=some o/\o.ExactDict:=by
    rcases hk with⟨kvs,hk⟩|⟨kvs,hk⟩
    .obtain⟨_,_,_,_,o,_,_,e,ex,_⟩:=I.hok p _ hk;exact⟨o,e,ex⟩
    .obtain⟨_,_,_,_,o,_,_,e,ex,_⟩:=I.hok p _ hk;exact⟨o,e,ex⟩
   obtain⟨o,e,ex⟩:=z;refine⟨⟨o,e,ex.1⟩,λa e2=>?_⟩;cases e2
   exact⟨o,e,ex.2.1⟩
  .obtain⟨o,_,_,_,e,ex,_⟩:=I.hok p _ hk;refine⟨⟨o,e,ex.1⟩,λa e2=>?_⟩;cases e2
   exact⟨o,e,ex.2.1⟩
 |_=>exact False.elim ty
def tBM(K:Fg)(T:String)(r:V->List V->Hp->VK->Prop)(to:TE)(t:TA):TE:=λZ H Q=>to Z H λx H1=>tyV K T x H1/\t Z H1 λxs H2=>r x xs H2 Q
variable{o e:Expr}{es:List Expr}{to:TE}{t:TA}{name:Str}{apos cpos:Pos}{T id:String}{r:V->List V->Hp->VK->Prop}
theorem b30(pa:PlainAttrs T)(slot:Slot T name id)(hty:typeOf (.builtin id)=pure (.type "method_descriptor"))(hm:MtR X id r)(ho:PE X o to)(ha:PA X (e::es) t)
  (hbase:attributeBase o name X.env (eval o X.env)=eval o X.env:=by rfl)
  (hfew:((backTo cpos (starEach (e::es) X.env)).all (λx => !x.1) && (backToKw cpos (keywordEach [] X.env)).all (λx=>x.1.isSome)
   && decide ((e::es).length+([]:List Keyword).length+(if ([]:List Keyword).isEmpty then 0 else 1)<30))=true:=by rfl)
  (hline:(apos.endLine == cpos.line)=true:=by rfl) (hs:starEach (e::es) X.env=(false,eval e X.env)::starEach es X.env:=by rfl) (hplain:(backTo cpos (starEach es X.env)).any (·.1)=false:=by rfl) :
  PE X (.Call (.Attribute o name apos) (e::es) [] cpos) (tBM X.K T r to t):=by
 intro aA s Z H Q I h
 refine wpAny_Call_method_late hbase hfew hline rfl (thn (ho aA s Z H _ I h) λv s1 ⟨x,H1,I1,r1,ty,q1⟩=>?_);obtain⟨h1,h2⟩:=aqa I1 r1 ty;refine⟨T,id,pa,slot,hty,h1,h2,?_⟩;have hA:=ha cpos aA s1 Z H1 _ I1 q1;rw[hs]at hA ⊢;refine eK (by show(false || (backTo cpos (starEach es X.env)).any (·.1))=false;rw[hplain]<;>rfl) (fX ?_)
 exact thn hA λus s2 ⟨vs,H2,I2,r2,q2⟩=>hm aA s2 Z H2 x vs v us Q I2 r1 r2 q2
end
def MtM(X:Cx)(id:String)(r:V->List V->Hp->VK->Prop):Prop :=
 ∀(aA:List (Addr×Obj)) (s:Shared) (Z:St) (H:Hp) (x:V) (xs:List V) (v:Value) (us:List Value) (Q:VK),Inv X aA Z H s->RelV x v->Vals xs us->r x xs H Q->
  wpAny (model X.prog X.w) X.A (call (.builtin id) (v::us)) (EP X aA Z Q) X.xe s
theorem Vals.one:∀{x:V} {us:List Value},Vals [x] us->∃u,us=[u]/\RelV x u
 |_,_,.cons r .nil=>⟨_,rfl,r⟩
theorem Vals.rep(h:Vals xs us):∀k:Nat,Vals (List.replicate k xs).flatten (List.replicate k us).flatten
 |0=>.nil
 |k+1=>by
  rw[cR,cR,dO,dO];exact Vals.append h (Vals.rep h k)
theorem foldl_rep(its:List Value):∀(k:Nat) (acc:List Value),
  List.foldl (λx1 x2=>x1++x2) acc.toArray (List.replicate k its.toArray)=(acc++(List.replicate k its).flatten).toArray
 |0,acc=>by simp
 |k+1,acc=>by
  have e:acc.toArray++its.toArray=(acc++its).toArray:=by simp
  have e2:(acc++its)++(List.replicate k its).flatten=acc++(List.replicate (k+1) its).flatten:=by
   rw[cR,dO,cV]
  rw[<-e2,<-foldl_rep its k (acc++its),<-e,cR,gA]
section
variable{X:Cx}{aA:List (Addr×Obj)}{Z:St}{H:Hp}{s:Shared}{l b:Addr}{xs ys zs:List V}
theorem Inv.lset{its its':List Value}(I:Inv X aA Z H s)(hH:H l=some (.lst xs))
  (e:s.heap.get? l=some {cls:=.type "list",data:=.seq its.toArray n}) (hf:f its.toArray=its'.toArray) (hv:Vals ys its') (hz:ys.length<=sizeLine) :
  Inv X aA Z (upd H l (.lst ys)) {s with heap:=s.heap.update l (Obj.mapSeq f),toks:=t' }:=by
 have q:=PySem.IsL.update e f;rw[hf]at q;refine I.write (x:=l) (e:=l) (by rw[hH];exact trivial) (.inl rfl) (λb' u hb hu=>(dR s.heap (Obj.mapSeq f) (fI hb)).trans hu) ⟨_,q⟩ ?_
 exact⟨hz,its',_,hv,q⟩
theorem Inv.lnew(I:Inv X aA Z H s)(hv:Vals ys its)(hz:ys.length<=sizeLine) :
  Inv X aA Z (upd H s.heap.objs.size (.lst ys)) {s with heap:=s.heap.push {cls:=.type "list",data:=.seq its.toArray},toks:=t' } :=
 I.laid (λ_ _ q=>ar _ q) (ay _) ⟨hz,its,0,hv,aO _ rfl⟩
theorem Inv.fresh(I:Inv X aA Z H s):H s.heap.objs.size=none:=I.hok.fresh (ay _)
theorem Inv.lstM(I:Inv X aA Z H s)(hH:H l=some (.lst xs)):xs.length<=sizeLine/\∃(its:List Value) (n:Nat),Vals xs its/\xs.length=its.length/\s.heap.get? l=some {cls:=.type "list",data:=.seq its.toArray n}:=by
 obtain⟨z,its,n,r,e⟩:=I.hok l _ hH;exact⟨z,its,n,r,r.length,e⟩
theorem an5(h:n<=sizeLine):Builtin.List.listTooLong n=false:=by
 unfold Builtin.List.listTooLong;exact aZ (by omega)
end
section
variable{X:Cx}
def ai2:V->List V->Hp->VK->Prop:=λx vs H Q=>∃l xs y,x=.ref l/\vs=[y]/\H l=some (.lst xs)/\xs.length<sizeLine/\Q .non (upd H l (.lst (xs++[y])))
theorem ai3:MtM X "list.append" ai2:=by
 intro aA s Z H x vs v us Q I rx rv h
 obtain⟨l,xs,y,rfl,rfl,hH,hz,q⟩:=h;cases rx
 obtain⟨u,rfl,ru⟩:=rv.one;obtain⟨z,its,n,r,hl,e⟩:=I.lstM hH;refine gu F.slot_list_append ⟨_,e,rfl⟩ F.entry_list_append (F.args_list_append_2 _ _) (PySem.list_append l its.toArray n u (by rw[aV];omega)) ⟨e,?_⟩
 refine⟨.non,_,I.lset (its':=its++[u]) hH e (by simp) (r.append (.cons ru .nil)) ?_,rfl,q⟩
 rw[aw,aM];omega
theorem len_rep{α:Type}(xs:List α)(k:Nat):(List.replicate k xs).flatten.length=k*xs.length:=by
 induction k with
 |zero=>simp
 |succ k ih=>rw[cR,dO,aw,ih,Nat.succ_mul,iO]
end
end L2
namespace Att
open PySem.W PySem.Calls PyProof.Rows
theorem a6p:∀(ns:List Int) (vs:List Value),WellAll P h vs (ns.map WData.int)->IntsAre vs ns:=by
 intro ns
 induction ns with
 |nil =>
  intro vs w
  rw[dM]at w;cases w
  exact .nil
 |cons n ns ih =>
  intro vs w
  rw[bg]at w
  cases w with
  |cons a b =>
   cases a
   exact .cons _ _ (ih _ b)
theorem ai4{l:OpenLaw}(hn:l.most=some n)
  (hpre:l.row.toRowW.claim.pre args=true) (hwl:WellAll P h vals args) :
  ∃a vs ns,vals=[Value.ref a]/\args=[WData.list (ns.map WData.int)]/\h.get? a=some {cls:=.type "list",data:=.seq vs.toArray}/\IntsAre vs ns/\ns.length<=n:=by
 have hsh:WShape.hasAll [] args [.list .int]=true:=(pre_splitW hpre).1;have hc:l.pre.holds [] {args:=args}=true:=(pre_splitW hpre).2;obtain⟨d,r,rfl,h1,h2⟩:=hasAllW_cons hsh;obtain rfl:=hasAllW_nil h2;obtain⟨xs,rfl,h3⟩:=hasW_list h1;obtain⟨ns,rfl⟩:=items_int h3;have aH:ns.length<=n:=by
  unfold OpenLaw.pre at hc;have h4:(WTm.not (.lt (.lit (.int (n:Int))) (.len (.arg 0)))).holds [] {args:=[.list (ns.map .int)]}=true:=by
   have h4:=(holds_andW hc).1;rw[hn]at h4;exact h4
  have h5:=condW_of h4 (w_not (w_lt w_lit (w_len_list (w_arg rfl))));rw[ax]at h5;refine fq λq=>?_;have q':(n:Int)<((ns.length:Nat):Int):=by omega
  first
   |(rw[aK q']at h5;exact absurd h5 (by decide))
   |(simp at h5;omega)
 cases hwl with
 |cons w1 w2 =>
  cases w2
  cases w1 with
  |list ho hall=>exact⟨_,_,ns,rfl,rfl,ho,a6p ns _ hall,aH⟩
theorem ai5(l:OpenLaw)(args:List WData):l.row.toRowW.claim.post args (.bool true) args=true :=
 postW_of (r:=l.row.toRowW) (X:=(true == true))
  (show WShape.has [] (.bool true) .bool=true by first|rfl|decide|simp[WShape.has,WShape.arms,WShape.armsAll])
  (show(WTm.eq .res (.lit (.bool true))).value [] {args:=args,res:=some (.bool true),after:=args}=some (.bool (true == true)) from w_eq_bool (w_res rfl) w_lit) rfl
theorem ace{l:OpenLaw}{d:DefRec}
  (hn:l.most=some n) (hdf:d.params.defaults=[])
  (call:∀(w:World) (s₀ s₁:Shared) (mg mb:Str->Option Value) (fa:Addr) (o:Obj) (pm cd doc:Value) (a:Addr) (vs:List Value) (ns:List Int),
   Ground q loose [] XP w s₀ mg mb s₁.heap->YP w s₁.heap->
   s₁.heap.get? fa=some o->o.data=.func (docDef d.name d.params d.body d.scope pm cd doc)->s₁.heap.CodeRec cd d.name->mg d.name=some (.ref fa)->
   s₁.heap.get? a=some {cls:=.type "list",data:=.seq vs.toArray}->IntsAre vs ns->ns.length<=n->s₁.gens = #[]->
   codeAny (model l.prog w) callerA (.call (.ref fa) ⟨[.ref a],[]⟩) (λr s'=>r=.ok (.ret (.bool true))/\OldK s₁.heap s'.heap/\s'.os=s₁.os/\AllBare s'.gens) s₁) :
  WalkO q loose XP YP l.row.toRowW d [] (λf vs=>PySem.call f vs):=by
 intro w s₀ s₁ mg mb G Y fa o pm cd doc dV kV ho hd hcd hD hmg hg args vals as hpre hlay hrd hwl hlo
 obtain rfl:dV=.none:=Dflts.none hD hdf
 obtain rfl:kV=.none:=Dflts.noKw hD
 obtain⟨a,vs,ns,rfl,rfl,hobj,hints,aH⟩:=ai4 hn hpre hwl;refine enter_call (fQ (call w s₀ s₁ mg mb fa o pm cd doc a vs ns G Y ho (fd_plain hd) hcd hmg hobj hints aH hg) λr s' hq=>?_);obtain⟨rfl,h2,h3,h4⟩:=hq;exact⟨.inl ⟨.bool true,.bool true,[],rfl,λ_=>rfl,.bool true,ai5 l _,λ_=>⟨List.Pairwise.nil,λ_ hm=>(nomatch hm)⟩⟩,h2,h3,h4⟩
end Att
namespace L2
open PyProof.Rows
theorem a4i:∀{vs:List Value} {ns:List Int},IntsAre vs ns->Vals (ns.map V.int) vs
 |_,_,.nil=>.nil
 |_,_,.cons n t h=>.cons ⟨t,rfl⟩ (a4i h)
def Only(H:Hp):Prop:=∀b,H b=none\/∃o xs,H b=some (.frz o (.lst xs))
theorem an6{K:Fg}{s₁:Shared}{vs:List Value}
  (KX:K.In s₁.heap) (hns:s₁.heap.Ns mainGlobals mg) (hb:s₁.heap.Ns builtinsNs mb) (hbb:∀x:Str,x ≠ "__name__"->mb x=bootBuiltins x) (hlim:s₁.heap.NoLimit) (hg:s₁.gens = #[])
  (ha:s₁.heap.get? a=some {cls:=.type "list",data:=.seq vs.toArray}) (hi:IntsAre vs ns) (hl:ns.length<=sizeLine) (hr:Room k callerA)
  (F:∀base:Heap,K.In base->base.Ns mainGlobals mg->FnOk P w K mg base CX k fa fd [x] sp) (hbind:∀(s:Shared) (u:Value),BindsTo s fd ⟨[u],[]⟩ [(x,u)])
  (hsp:∀H:Hp,Only H->SqL K H a (ns.map V.int)->sp [.ref a] H (λv _=>v=.bl true) λ_ _ _=>False)
  (hCX:∀H e s',CX [] H s₁ (λ_ _ _=>False) e s'->False) :
  codeAny (model P w) callerA (.call (.ref fa) ⟨[.ref a],[]⟩) (λr s'=>r=.ok (.ret (.bool true))/\OldK s₁.heap s'.heap/\s'.os=s₁.os/\AllBare s'.gens) s₁:=by
 have rv:=a4i hi;have lenV:=hi.length;have core:∀H:Hp,Only H->SqL K H a (ns.map V.int)->HOk P w H s₁.heap->(∀b,H b≠none->b=a)->(H a≠none->K.lookup a=none)->
   codeAny (model P w) callerA (.call (.ref fa) ⟨[.ref a],[]⟩) (λr s'=>r=.ok (.ret (.bool true))/\OldK s₁.heap s'.heap/\s'.os=s₁.os/\AllBare s'.gens) s₁:=by
  intro H hO hS hok hA hK
  have base_of:∀{b:Addr} {o:Obj},s₁.heap.get? b=some o->H b=none->(amr s₁.heap H).get? b=some o:=λe n=>ams e n;have noA:∀{b:Addr} {o:Obj} {es:Array DictEntry} {ep:Nat},s₁.heap.get? b=some o->o.data=.dict es ep->H b=none:=λ{b o es ep} e d=>by
   cases q:H b with
   |none=>rfl
   |some u =>
    have e':b=a:=hA b (by rw[q];simp)
    subst e';rw[ha]at e;cases e
    have d':Data.seq vs.toArray _=Data.dict es ep:=d
    cases d'
  have nsK:∀{b:Addr} {m:Str->Option Value},s₁.heap.Ns b m->(amr s₁.heap H).Ns b m:=λ{b m} ⟨o,es,ep,e,d,r⟩=>⟨o,es,ep,base_of e (noA e d),d,r⟩;have hKb:K.In (amr s₁.heap H):=λb o e=>base_of (KX b o e) (by
   cases q:H b with
   |none=>rfl
   |some u =>
    have e':b=a:=hA b (by rw[q];simp)
    subst e';rw[hK (by rw[q];simp)]at e;cases e)
  have hM:Mod K mg (amr s₁.heap H):=⟨hKb,nsK hns,⟨mb,nsK hb,hbb⟩,let ⟨mc,h1,h2⟩:=hlim; ⟨mc,nsK h1,h2⟩⟩;have e0:Env0 P w K mg (amr s₁.heap H) callerA [] s₁ H:=⟨rfl,hM,λb o e=>as9 e,Nat.le_of_eq (ahe _ _),trivial,λb hb=>absurd (show b∈([]:List Addr) from hb) (by simp),hok,.of_eq hg⟩
  refine fQ ((F _ hKb (nsK hns)).run callerA [] s₁ H ⟨[.ref a],[]⟩ [.ref a] [.ref a] _ _ hr e0 (hbind s₁ (.ref a)) (.cons rfl .nil) (hsp H hO hS)) λr s' h=>?_
  cases r with
  |error e=>exact(hCX H e s' h).elim
  |ok fl =>
   cases fl with
   |next=>exact False.elim h
   |brk=>exact False.elim h
   |cont=>exact False.elim h
   |ret u =>
    obtain⟨v,H',os,bare,un,hok',r',q⟩:=h;have q':v=.bl true:=q;subst q';obtain rfl:u=Value.bool true:=r';refine⟨rfl,OldK.of_keep λb o e=>?_,os,bare⟩
    cases q:H b with
    |none=>exact un.keep b o e q (by intro z;exact absurd (show b∈([]:List Addr) from z) (by simp)) (by simp)
    |some u =>
     rcases hO b with z|⟨ob,xs,z⟩
     .rw[q]at z;cases z
     .have z2:=un.frzs b ob _ z;obtain⟨e1,_⟩:=hok b _ z;obtain⟨e2,_⟩:=hok' b _ z2;rw[e]at e1;cases e1
      exact e2
 cases hk:K.lookup a with
 |some o =>
  have e:=KX a o hk;rw[ha]at e;cases e
  refine core (λ_=>none) (λ_=>.inl rfl) (.inr ⟨_,vs.toArray,_,hk,rfl,rfl,rfl,by rw[aV,lenV];exact hl,by simpa using rv⟩) (λb u z=>by have z':(none:Option HO)=some u:=z;cases z') (λb z=>absurd rfl z) λz=>absurd rfl z
 |none =>
  refine core (λb=>if b=a then some (.frz {cls:=.type "list",data:=.seq vs.toArray} (.lst (ns.map V.int))) else none) (λb=>?_) (.inl (.inr ⟨{cls:=.type "list",data:=.seq vs.toArray},aU rfl⟩)) (λb u z=>?_) (λb z=>?_) λ_=>hk
  .by_cases hb:b=a
   .exact .inr ⟨_,_,aU hb⟩
   .exact .inl (bA hb)
  .by_cases hb:b=a
   .have z':=(aU hb).symm.trans z
    cases z'
    subst hb;exact⟨ha,by rw[ax];exact hl,vs,_,rv,ha⟩
   .have z':=(bA hb).symm.trans z
    cases z'
  .by_cases hb:b=a
   .exact hb
   .exact absurd (bA hb) z
theorem asy{l:PySem.W.OpenLaw}{n k:Nat}{q:Program}{loose:List Str}{XP:(Str->Option Value)->Heap->Prop}{YP:World->Heap->Prop}{d:DefRec}{K:Params->Fg}{CX:World->CXT}{sp:World->Sp}{x:Str}
  (hn:l.most=some n) (hn2:n<=sizeLine) (hdf:d.params.defaults=[]) (hr:Room k callerA)
  (hY:∀(w:World) (h:Heap),YP w h->(K w.params).In h)
  (F:∀(w:World) (mg:Str->Option Value) (fa:Addr) (h:Heap),(K w.params).In h->h.Ns mainGlobals mg->mg d.name=some (.ref fa)->
   ∃fd:FuncData,(∀(s:Shared) (u:Value),BindsTo s fd ⟨[u],[]⟩ [(x,u)]) /\
    ∀base:Heap,(K w.params).In base->base.Ns mainGlobals mg->FnOk l.prog w (K w.params) mg base (CX w) k fa fd [x] (sp w))
  (hsp:∀(w:World) (H:Hp) (a:Addr) (ns:List Int),ns.length<=n->Only H->SqL (K w.params) H a (ns.map V.int)->sp w [.ref a] H (λv _=>v=.bl true) λ_ _ _=>False)
  (hCX:∀(w:World) (H:Hp) (s:Shared) (e:Value) (s':Shared),CX w [] H s (λ_ _ _=>False) e s'->False) :
  PySem.W.WalkO q loose XP YP l.row.toRowW d [] (λf vs=>PySem.call f vs):=by
 refine Att.ace hn hdf λw s₀ s₁ mg mb fa o pm cd doc a vs ns G Y ho hd hcd hmg hobj hints aH hg=>?_;have KX:=hY w _ Y;obtain⟨fd,hb,hF⟩:=F w mg fa _ KX G.T.g hmg;exact an6 KX G.T.g G.T.b G.T.builtins G.T.nolimit hg hobj hints (cM aH hn2) hr hF hb (λH hO hS=>hsp w H a ns aH hO hS) λH e s'=>hCX w H s₁ e s'
noncomputable def a3r(s:Stmt):Arguments:=match s with
 |.FunctionDef _ a _ _ _ _ _ _ _ _=>a
 |_=>{posonlyargs:=[],args:=[],vararg:=none,kwonlyargs:=[],kw_defaults:=[],kwarg:=none,defaults:=[]}
def a02(s:Stmt):List Stmt:=match s with
 |.FunctionDef _ _ b _ _ _ _ _ _ _=>b
 |_=>[]
noncomputable def jm(s:Stmt):Scope:=match s with
 |.FunctionDef _ _ _ _ _ _ sc _ _ _=>sc
 |_=>{kind:=.function,names:=[],isGenerator:=false,isCoroutine:=false}
abbrev CX0:CXT:=λ_ _ _ _ _ _=>False
abbrev E0:XK:=λ_ _ _=>False
theorem axz:adt CX0 X E0:=λ_ _ _ _ _ _ _ h=>h.elim
structure Fun (K:Fg) (x qual:Str) (st:Stmt) (f:Addr) (fd:FuncData):Prop where
 ex:∃(oc:Value) (od:Option Addr) (kV doc pm:Value) (an:Option Addr) (cdv ct:Value) (osl:Array (Option Value)),
  fd=PySem.W.fnOf x qual (a3r st) (a02 st) (jm st) .none kV doc pm an cdv ct/\K.lookup f=some ⟨oc,od,.func fd,osl⟩/\PySem.W.codeIn K cdv qual=true
 kp:PySem.W.keepIn K (.ref f)=true
section
variable{P:Program}{w:World}{K:Fg}{mg:Str->Option Value}{base:Heap}
theorem Fun.ok{x qual:Str}{st:Stmt}{f:Addr}{fd:FuncData}{N ps:List Str}{k:Nat}{sp:Sp}(F:Fun K x qual st f fd)(S:FnScope N ps (jm st))(len:∀vs H Q E,sp vs H Q E->vs.length=ps.length)
  (hbody:∀(cdv:Value) (A:Around) (outer:List Env) (s:Shared) (H:Hp) (vs:List V) (Q:VK) (E:XK),Room k (A.deeper (envOfC qual (jm st) s.heap.objs.size f cdv))->sp vs H Q E->
   ∃t,PSs (ame CX0 P w K mg base N qual (jm st) f cdv A outer s H E).nox (a02 st) t/\t {nx:=λ_ H'=>Q .non H',rt:=Q} (start N vs) H):FnOk P w K mg base CX0 (k+1) f fd ps sp:=by
 obtain⟨oc,od,kV,doc,pm,an,cdv,ct,osl,rfl,lk,hcd⟩:=F.ex;refine b2v lk hcd S len λA outer s H vs Q E hr hsp=>?_;obtain⟨t,h,q⟩:=hbody cdv A outer s H vs Q E hr hsp;exact⟨t,h.nox,q⟩
theorem Fun.binds{x qual:Str}{st:Stmt}{f:Addr}{fd:FuncData}{ps:List Str}(F:Fun K x qual st f fd)
  (h:∀(kV doc pm:Value) (an:Option Addr) (cdv ct:Value) (us:List Value),us.length=ps.length->bindArgs (PySem.W.fnOf x qual (a3r st) (a02 st) (jm st) .none kV doc pm an cdv ct) ⟨us,[]⟩=pure (ps.zip us)):Binds K fd ps []:=by
 obtain⟨oc,od,kV,doc,pm,an,cdv,ct,osl,rfl,lk,hcd⟩:=F.ex;exact .all (h kV doc pm an cdv ct)
theorem ay0{x qual:Str}{st:Stmt}{f:Addr}{oc:Value}{od an:Option Addr}{osl:Array (Option Value)}{kV doc pm cdv ct:Value}(l:K.lookup f=some ⟨oc,od,.func (PySem.W.fnOf x qual (a3r st) (a02 st) (jm st) .none kV doc pm an cdv ct),osl⟩)
  (c:PySem.W.codeIn K cdv qual=true) (k:PySem.W.keepIn K (.ref f)=true):Fun K x qual st f (PySem.W.fnOf x qual (a3r st) (a02 st) (jm st) .none kV doc pm an cdv ct):=⟨⟨oc,od,kV,doc,pm,an,cdv,ct,osl,rfl,l,c⟩,k⟩
end
section
variable{κ:Type}[DecidableEq κ]
def adx(kvs:List (κ×V))(k:κ):Option V:=(kvs.find? λkv=>decide (kv.1=k)).map (·.2)
noncomputable def putK(kvs:List (κ×V))(k:κ)(v:V):List (κ×V) :=
 if (kvs.any λkv=>decide (kv.1=k))=true then kvs.map (λkv=>if kv.1=k then (kv.1,v) else kv) else kvs++[(k,v)]
theorem a8s{p:κ×V}{r:List (κ×V)}{k:κ}(e:p.1=k):adx (p::r) k=some p.2:=by simp[adx,cW,e]
theorem a8t{p:κ×V}{r:List (κ×V)}{k:κ}(e:¬ p.1=k):adx (p::r) k=adx r k:=by simp[adx,cW,e]
theorem ady(k:κ):∀kvs:List (κ×V),(kvs.any λkv=>decide (kv.1=k))=(adx kvs k).isSome
 |[]=>rfl
 |p::r=>by
  rw[eY]
  by_cases e:p.1=k
  .simp only[a8s e,aK e,Bool.true_or,Option.isSome_some]
  .rw[a8t e,aZ e,gc];exact ady k r
theorem a3s(kvs:List (κ×V))(k:κ)(v:V):(putK kvs k v).length<=kvs.length+1:=by
 unfold putK
 split
 .rw[ax];omega
 .rw[aw,bB,e9];omega
theorem RelO.isSome_eq{o:Option V}{u:Option Value}(r:RelO o u):o.isSome=u.isSome:=by
 cases o with
 |none=>cases u with
  |none=>rfl
  |some _=>exact(show False from r).elim
 |some _=>cases u with
  |none=>exact(show False from r).elim
  |some _=>rfl
theorem RelO.getD{o:Option V}{u:Option Value}{d:V}{d':Value}(r:RelO o u)(rd:RelV d d'):RelV (o.getD d) (u.getD d'):=by
 cases o with
 |none=>cases u with
  |none=>exact rd
  |some _=>exact(show False from r).elim
 |some _=>cases u with
  |none=>exact(show False from r).elim
  |some _=>exact r
theorem KV.val{kvs:List (κ×V)}{vs:List (κ×Value)}(r:KV kvs vs)(k:κ):RelO (adx kvs k) (valueAt vs k):=by
 unfold KV at r
 induction r with
 |nil=>exact True.intro
 |@cons p q ps qs h t ih =>
  obtain⟨h1,h2⟩:=h
  by_cases e:p.1=k
  .have e':q.1=k:=h1.symm.trans e;have b:valueAt (q::qs) k=some q.2:=by simp[valueAt,cW,e']
   rw[a8s e,b];exact h2
  .have e':¬ q.1=k:=λz=>e (h1.trans z);have b:valueAt (q::qs) k=valueAt qs k:=by simp[valueAt,cW,e']
   rw[a8t e,b];exact ih
theorem KV.any{kvs:List (κ×V)}{vs:List (κ×Value)}(r:KV kvs vs)(k:κ):(kvs.any λkv=>decide (kv.1=k))=vs.any λkv=>decide (kv.1=k):=by
 unfold KV at r
 induction r with
 |nil=>rfl
 |cons h t ih=>rw[eY,eY,ih,h.1]
theorem KV.repl{kvs:List (κ×V)}{vs:List (κ×Value)}(r:KV kvs vs)(k:κ){y:V}{u:Value}(ry:RelV y u) :
  KV (kvs.map λkv=>if kv.1=k then (kv.1,y) else kv) (vs.map λkv=>if kv.1=k then (kv.1,u) else kv):=by
 unfold KV at r ⊢
 induction r with
 |nil=>exact .nil
 |@cons p q ps qs h t ih =>
  rw[bg,bg];refine .cons ?_ ih;obtain⟨h1,h2⟩:=h
  by_cases e:p.1=k
  .rw[aU e,aU (h1.symm.trans e)];exact⟨h1,ry⟩
  .rw[bA e,bA (λz=>e (h1.trans z))];exact⟨h1,h2⟩
theorem KV.put{kvs:List (κ×V)}{vs:List (κ×Value)}(r:KV kvs vs)(k:κ){y:V}{u:Value}(ry:RelV y u):KV (putK kvs k y) (stored vs k u):=by
 unfold putK stored;rw[r.any k]
 by_cases e:(vs.any λkv=>decide (kv.1=k))=true
 .rw[aU e,aU e];exact r.repl k ry
 .rw[bA e,bA e];exact Paired.snoc r ⟨rfl,ry⟩
theorem KV.length{kvs:List (κ×V)}{vs:List (κ×Value)}(r:KV kvs vs):kvs.length=vs.length:=ia r
end
theorem acf{P:Program}{w:World}{k:Key}{u:Value}(r:RelV (kV k) u):(kh P w).is k u=true:=by
 cases k with
 |inl i=>obtain⟨t,e⟩:=(show ∃t,u=Value.int i t from r);subst e;exact aca P w i t
 |inr x=>obtain⟨t,e⟩:=(show ∃t,u=Value.str x t from r);subst e;exact acb P w x t
theorem aau{P:Program}{w:World}:∀{ks:List Key} {us:List Value},Vals (ks.map kV) us->ItemsAre (kh P w) ks us
 |[],_,r=>by rw[dM]at r;cases r;exact .nil
 |k::ks,_,r=>by
  rw[bg]at r
  cases r with
  |cons h t=>exact .cons (acf h) (aau t)
abbrev KT(H:Hp):List (List Key×V)->List (List Key×Addr×Value)->Prop:=Paired λp q=>p.1=q.1/\H q.2.1=some (.tup (p.1.map kV))/\RelV p.2 q.2.2
theorem KT.val{H:Hp}{kvs:List (List Key×V)}{xs:List (List Key×Addr×Value)}(r:KT H kvs xs)(k:List Key):RelO (adx kvs k) ((atKey xs k).map (·.2)):=by
 induction r with
 |nil=>exact True.intro
 |@cons p q ps qs h t ih =>
  obtain⟨h1,_,h2⟩:=h
  by_cases e:p.1=k
  .have e':q.1=k:=h1.symm.trans e;have b:atKey (q::qs) k=some q.2:=by simp[atKey,cW,e']
   rw[a8s e,b];exact h2
  .have e':¬ q.1=k:=λz=>e (h1.trans z);have b:atKey (q::qs) k=atKey qs k:=by simp[atKey,cW,e']
   rw[a8t e,b];exact ih
theorem KT.repl{H:Hp}{kvs:List (List Key×V)}{xs:List (List Key×Addr×Value)}(r:KT H kvs xs)(k:List Key){y:V}{u:Value}(ry:RelV y u) :
  KT H (kvs.map λkv=>if kv.1=k then (kv.1,y) else kv) (xs.map (putAt k u)):=by
 induction r with
 |nil=>exact .nil
 |@cons p q ps qs h t ih =>
  rw[bg,bg];refine .cons ?_ ih;obtain⟨h1,h2,h3⟩:=h;unfold putAt
  by_cases e:p.1=k
  .rw[aU e,aU (h1.symm.trans e)];exact⟨h1,h2,ry⟩
  .rw[bA e,bA (λz=>e (h1.trans z))];exact⟨h1,h2,h3⟩
theorem KT.put{H:Hp}{kvs:List (List Key×V)}{xs:List (List Key×Addr×Value)}(r:KT H kvs xs)(k:List Key){b:Addr}{y:V}{u:Value}(hb:H b=some (.tup (k.map kV)))(ry:RelV y u) :
  KT H (putK kvs k y) (storedH xs k b u):=by
 have e:(kvs.any λkv=>decide (kv.1=k))=(atKey xs k).isSome:=by
  rw[ady,(r.val k).isSome_eq,i3]
 unfold putK storedH;rw[e]
 by_cases q:(atKey xs k).isSome=true
 .rw[aU q,aU q];exact r.repl k ry
 .rw[bA q,bA q];exact Paired.snoc r ⟨rfl,hb,ry⟩
theorem KT.keeps{H H':Hp}{kvs:List (List Key×V)}{xs:List (List Key×Addr×Value)}(r:KT H kvs xs)(ht:∀b ys,H b=some (.tup ys)->H' b=some (.tup ys)):KT H' kvs xs :=
 Paired.mapP r λ_ _ z=>⟨z.1,ht _ _ z.2.1,z.2.2⟩
section
variable{P:Program}{w:World}{H:Hp}{h:Heap}{a:Addr}
theorem ay1{u:HO}(ok:HOk P w H h)(e:Rd H a u):ObjOk P w H h a u:=e.ok ok
theorem acg{kvs:List (Key×V)}(ok:HOk P w H h)(e:Rd H a (.dK kvs)):kvs.length<=sizeLine/\(a == sysModules)=false/\∃vs,KV kvs vs/\h.DictOf (kh P w) a vs :=
 show ObjOk P w H h a (.dK kvs) from ay1 ok e
theorem ay2{kvs:List (Key×V)}(ok:HOk P w H h)(e:H a=some (.dK kvs)):kvs.length<=sizeLine/\(a == sysModules)=false/\∃vs,KV kvs vs/\h.DictOf (kh P w) a vs:=acg ok (.inl e)
theorem a7u{ks:List Key}(ok:HOk P w H h)(e:H a=some (.tup (ks.map kV))):(tupleKind (kh P w)).is h ks a:=by
 obtain⟨_,its,r,o,h1,h2,n,h3⟩:=(show ObjOk P w H h a (.tup (ks.map kV)) from ok a _ e)
 exact⟨o,its.toArray,n,h1,h2,h3,by simpa using aau r⟩
theorem ach{kvs:List (List Key×V)}(ok:HOk P w H h)(e:Rd H a (.dT kvs)):kvs.length<=sizeLine/\(a == sysModules)=false /\
  ∃xs,KT H kvs xs/\h.DictOfH (tupleKind (kh P w)) a xs:=by
 obtain⟨z,y,xs,r,o,es,ep,h1,h2,h3,h4,h5⟩:=(show ObjOk P w H h a (.dT kvs) from ay1 ok e)
 refine⟨z,y,xs,r,o,es,ep,h1,h2,h3,h4,λx hx=>?_,h5⟩;have all:∀{l:List (List Key×V)} {m:List (List Key×Addr×Value)},KT H l m->∀x∈m,(tupleKind (kh P w)).is h x.1 x.2.1:=by
  intro l m q
  induction q with
  |nil=>intro x hx;exact nomatch hx
  |@cons p q ps qs hq t ih =>
   intro x hx
   rcases aP.mp hx with e|hx
   .subst e;exact a7u ok (by rw[<-hq.1];exact hq.2.1)
   .exact ih x hx
 exact all r x hx
theorem b31{kvs:List (List Key×V)}(ok:HOk P w H h)(e:H a=some (.dT kvs)):kvs.length<=sizeLine/\(a == sysModules)=false /\
  ∃xs,KT H kvs xs/\h.DictOfH (tupleKind (kh P w)) a xs:=ach ok (.inl e)
end
def ai6(H:Hp)(a:Addr)(y:V)(r:Option V):Prop :=
 (∃kvs k,Rd H a (.dK kvs)/\y=kV k/\r=adx kvs k)\/∃kvs k b,Rd H a (.dT kvs)/\y=.ref b/\H b=some (.tup (k.map kV))/\r=adx kvs k
def b32(H:Hp)(a:Addr)(y v:V)(H':Hp):Prop :=
 (∃kvs k,H a=some (.dK kvs)/\y=kV k/\kvs.length<sizeLine/\H'=upd H a (.dK (putK kvs k v))) \/
 ∃kvs k b,H a=some (.dT kvs)/\y=.ref b/\H b=some (.tup (k.map kV))/\kvs.length<sizeLine/\H'=upd H a (.dT (putK kvs k v))
section
variable{X:Cx}{aA:List (Addr×Obj)}{Z:St}{H:Hp}{s:Shared}{a:Addr}{y v:V}{u r:Value}{o:Option V}{A:Around}{E:Value->Shared->Prop}
theorem Inv.big(I:Inv X aA Z H s):sysModules<s.heap.objs.size:=by
 have h:mainGlobals<s.heap.objs.size:=(I.mod.glob.keeps I.bk).lt;exact Nat.lt_trans (by decide) h
theorem ai7{Q:Value->Shared->Prop}(hu:A.units+1<cLine)(I:Inv X aA Z H s)(g:ai6 H a y (some v))(ry:RelV y u)(h:∀w' s',Inv X aA Z H s'->RelV v w'->Q w' s') :
  wpAny (model X.prog X.w) A (getItem (.ref a) u) Q E s:=by
 rcases g with⟨kvs,k,e,ey,l⟩|⟨kvs,k,b,e,ey,eb,l⟩
 .subst ey;obtain⟨z,hd,vs,rel,dd⟩:=acg I.hok e;obtain⟨w',hw,rw'⟩:=RelO.some_of (v:=v) (o:=valueAt vs k) (by rw[l];exact rel.val k)
  exact wpAny_getItem_of (acf ry) dd.mapOf hw (h w' _ (I.tok _) rw')
 .subst ey
  cases (show u=Value.ref b from ry)
  obtain⟨z,hd,xs,rel,dd⟩:=ach I.hok e;obtain⟨w',hw,rw'⟩:=RelO.some_of (v:=v) (o:=(atKey xs k).map (·.2)) (by rw[l];exact rel.val k)
  obtain⟨p,hp,hp2⟩:=aS.mp hw;refine wpAny_getItem_heap (eO hu) (a7u I.hok eb) dd hp ?_;rw[hp2];exact h w' _ (I.tok _) rw'
theorem b5j{Q:Value->Shared->Prop}(hu:A.units+1<cLine)(I:Inv X aA Z H s)(g:ai6 H a y o)(ry:RelV y u)(h:∀s',Inv X aA Z H s'->Q (.bool o.isSome) s') :
  wpAny (model X.prog X.w) A (compareOp .In u (.ref a)) Q E s:=by
 rcases g with⟨kvs,k,e,ey,l⟩|⟨kvs,k,b,e,ey,eb,l⟩
 .subst ey;obtain⟨z,hd,vs,rel,dd⟩:=acg I.hok e;refine wpAny_in_of (acf ry) hd dd.mapOf ?_;rw[<-(rel.val k).isSome_eq,<-l];exact h _ (I.tok _)
 .subst ey
  cases (show u=Value.ref b from ry)
  obtain⟨z,hd,xs,rel,dd⟩:=ach I.hok e;refine wpAny_in_heap (eO hu) (a7u I.hok eb) hd dd ?_;have q:=(rel.val k).isSome_eq;rw[i3]at q;rw[<-q,<-l];exact h _ (I.tok _)
theorem asz{Q:Value->Shared->Prop}(hu:A.units+1<cLine)(I:Inv X aA Z H s)(g:ai6 H a y o)(ry:RelV y u)(h:∀s',Inv X aA Z H s'->Q (.bool (!o.isSome)) s') :
  wpAny (model X.prog X.w) A (compareOp .NotIn u (.ref a)) Q E s:=by
 rcases g with⟨kvs,k,e,ey,l⟩|⟨kvs,k,b,e,ey,eb,l⟩
 .subst ey;obtain⟨z,hd,vs,rel,dd⟩:=acg I.hok e;refine wpAny_notIn_of (acf ry) hd dd.mapOf ?_;rw[<-(rel.val k).isSome_eq,<-l];exact h _ (I.tok _)
 .subst ey
  cases (show u=Value.ref b from ry)
  obtain⟨z,hd,xs,rel,dd⟩:=ach I.hok e;refine wpAny_notIn_heap (eO hu) (a7u I.hok eb) hd dd ?_;have q:=(rel.val k).isSome_eq;rw[i3]at q;rw[<-q,<-l];exact h _ (I.tok _)
theorem aci{h':Heap}{t':Nat}{ob:HO}(I:Inv X aA Z H s)(mu:Mut (H a))(hs:Heap.SameBut a s.heap h')(he:∃q,h'.get? a=some q)(new:ObjOk X.prog X.w (upd H a ob) h' a ob) :
  Inv X aA Z (upd H a ob) {s with heap:=h',toks:=t' } :=
 I.write (x:=a) (e:=a) mu (.inl rfl) (λb q hb z=>(hs.2 b hb).trans z) he new
theorem aqb{P:Program}{w:World}{H':Hp}{h':Heap}{kvs:List (Key×V)}{vs:List (Key×Value)}(z:kvs.length<=sizeLine)(hd:(a == sysModules)=false)(rel:KV kvs vs)(dd:h'.DictOf (kh P w) a vs) :
  ObjOk P w H' h' a (.dK kvs):=⟨z,hd,vs,rel,dd⟩
theorem ai8{H':Hp}{Q:Unit->Shared->Prop}(hu:A.units+1<cLine)(I:Inv X aA Z H s)(g:b32 H a y v H')(ry:RelV y u)(rv:RelV v r)(h:∀s',Inv X aA Z H' s'->Q () s') :
  wpAny (model X.prog X.w) A (setItem (.ref a) u r) Q E s:=by
 rcases g with⟨kvs,k,e,ey,l,eH⟩|⟨kvs,k,b,e,ey,eb,l,eH⟩
 .subst ey eH;obtain⟨z,hd,vs,rel,dd⟩:=ay2 I.hok e;have hz:vs.length<=sizeLine:=by rw[<-rel.length];exact z
  have hl:(putK kvs k v).length<=sizeLine:=by have:=a3s kvs k v;omega
  refine wpAny_setItem_pairs (hsz:=hz) (acf ry) dd λh' dd' hs=>h _ ?_;have he:∃q,h'.get? a=some q:=let ⟨q,_,_,hq,_⟩:=dd'; ⟨q,hq⟩;exact aci I (by rw[e];exact True.intro) hs he (aqb hl hd (rel.put k rv) dd')
 .subst ey eH
  cases (show u=Value.ref b from ry)
  obtain⟨z,hd,xs,rel,dd⟩:=b31 I.hok e;have hz:xs.length<=sizeLine:=by rw[<-ia rel];exact z
  have hl:(putK kvs k v).length<=sizeLine:=by have:=a3s kvs k v;omega
  refine wpAny_setItem_heap (hsz:=hz) (eO hu) (a7u I.hok eb) dd λh' dd' hs=>h _ ?_;obtain⟨q,es,ep,hq,h2,h3,h4,_,h5⟩:=dd';refine aci I (by rw[e];exact True.intro) hs ⟨q,hq⟩ ⟨hl,hd,_,(rel.put k eb rv).keeps λc ys ec=>?_,q,es,ep,hq,h2,h3,h4,h5⟩
  rw[ik (b2a ec e (λz=>nomatch z))];exact ec
end
def b33(i:Expr):Prop:=∀ov iv,subscripted i false ov iv=operate [ov,iv] (getItem ov iv)
theorem at5{prog:Program}{w:World}{A:Around}{E:Value->Shared->Prop}{s:Shared}{env:Env}{value slice:Expr}{pos:Pos}{T id:String}{Q:Value->Shared->Prop}
  (hl:typeLookup (.type T) "__getitem__" = pure (some (.builtin id))) (hs:b33 slice)
  (h:wpAny (model prog w) A (eval value env) (λo s₁=>wpAny (model prog w) A (eval slice env) (λi s₂=>s₂.TypeIs o T/\wpAny (model prog w) A (getItem o i) Q E s₂) E s₁) E s) :
  wpAny (model prog w) A (eval (.Subscript value slice pos) env) Q E s:=by
 refine Subscript_ (bO h (λo s₁ h₁=>bO h₁ (λi s₂ h₂=>?_) λ_ _ x=>x) λ_ _ x=>x);obtain⟨hT,h₂⟩:=h₂;unfold subscriptTail;refine ai ?_;rw[getitemInPython_of_ne hT.not_modules];refine ai (iP hT hl ?_);have fin:wpAny (model prog w) A (subscripted slice false o i) (λr s₃=>wpAny (model prog w) A (letTemporaryGo value o r>>=λ_=>pure r) Q E s₃) E s₂:=by
  rw[hs o i];exact wpAny_operating (bO h₂ (λr s₃ h₃=>ai (wpAny_letTemporaryGo (aJ h₃))) λ_ _ x=>x)
 first
  |exact aJ (ai fin)
  |exact ai (aJ (ai fin))
  |exact ai fin
theorem acj{X:Cx}{aA:List (Addr×Obj)}{Z:St}{H:Hp}{s:Shared}{a:Addr}{y:V}{o:Option V}(I:Inv X aA Z H s)(g:ai6 H a y o):s.TypeIs (.ref a) "dict":=by
 rcases g with⟨kvs,k,e,_,_⟩|⟨kvs,k,b,e,_,_,_⟩
 .obtain⟨_,_,vs,_,dd⟩:=acg I.hok e;exact dd.typeIs
 .obtain⟨_,_,xs,_,dd⟩:=ach I.hok e;exact dd.typeIs
noncomputable def b34(td ty:TE):TE:=λZ H Q=>td Z H λx H1=>ty Z H1 λy H2=>∃a v,x=.ref a/\ai6 H2 a y (some v)/\Q v H2
noncomputable def b35(td ty tv:TE):TS:=λD Z H=>tv Z H λv H1=>td Z H1 λx H2=>ty Z H2 λy H3=>∃a H4,x=.ref a/\b32 H3 a y v H4/\D.nx Z H4
section
variable{X:Cx}{o i e value:Expr}{pos pos' tpos:Pos}{td ty tv:TE}
theorem at6(hu:X.A.units+1<cLine)(ho:PE X o td)(hi:PE X i ty)(hs:b33 i):PE X (.Subscript o i pos) (b34 td ty):=by
 intro aA s Z H Q I h
 refine at5 PySem.F.slot_dict_getitem.lookup hs (thn (ho aA s Z H _ I h) λu s1 ⟨x,H1,I1,rx,q1⟩=>thn (hi aA s1 Z H1 _ I1 q1) λiv s2 ⟨y,H2,I2,ry,a,v,ex,g,q2⟩=>?_);subst ex;obtain rfl:u=Value.ref a:=rx;exact⟨acj I2 g,ai7 hu I2 g ry λw' s3 I3 rw'=>⟨v,H2,I3,rw',q2⟩⟩
theorem at7(hu:X.A.units+1<cLine)(ho:PE X o td)(hi:PE X i ty)(hv:PE X value tv)(hs:swapsWith value (some (.Subscript o i pos')) pos.line X.env=pure false) :
  PS X (.Assign [.Subscript o i pos'] value pos) (b35 td ty tv):=by
 intro aA s Z H D I h
 refine wpAny_Assign_Subscript (thn (hv aA s Z H _ I h) λr s1 ⟨v,H1,I1,rv,q1⟩=>thn (ho aA s1 Z H1 _ I1 q1) λu s2 ⟨x,H2,I2,rx,q2⟩=>thn (hi aA s2 Z H2 _ I2 q2) λiv s3 ⟨y,H3,I3,ry,a,H4,ex,g,q3⟩=>?_) hs;subst ex;obtain rfl:u=Value.ref a:=rx;exact ai8 hu I3 g ry rv λs4 I4=>⟨Z,H4,I4,q3⟩
end
theorem adz{P:Program}{w:World}{H:Hp}(h:Heap)(hb:sysModules<h.objs.size):ObjOk P w H (h.push {cls:=.type "dict",data:=.dict #[]}) h.objs.size (.dK []) :=
 ⟨bU _,cI.mpr (fI (bT hb)),[],.nil,Heap.DictOf.new h⟩
def ay3:TE:=λ_ H Q=>∀p,H p=none->Q (.ref p) (upd H p (.dK []))
section
variable{X:Cx}{pos:Pos}
theorem an7:PE X (.Dict [] [] pos) ay3:=λaA s Z H Q I h =>
 wpAny_Dict_empty ⟨.ref s.heap.objs.size,_,I.laid (a:=s.heap.objs.size) (o:=.dK []) (t':=s.toks) (λ_ _ q=>ar _ q) (ay _) (adz s.heap I.big),rfl,h _ (I.hok.fresh (ay _))⟩
end
def ai9:List (TE×TE)->St->Hp->(List (V×V)->Hp->Prop)->Prop
 |[],_,H,Q=>Q [] H
 |(tk,tv)::r,Z,H,Q=>tk Z H λx H1=>tv Z H1 λy H2=>ai9 r Z H2 λps H3=>Q ((x,y)::ps) H3
abbrev VV:List (V×V)->List (Value×Value)->Prop:=Paired λp q=>RelV p.1 q.1/\RelV p.2 q.2
def PPs(X:Cx)(pos:Pos)(keys:List (Option Expr))(values:List Expr)(trs:List (TE×TE)):Prop :=
 ∀(aA:List (Addr×Obj)) (s:Shared) (Z:St) (H:Hp) (Q:List (V×V)->Hp->Prop),Inv X aA Z H s->ai9 trs Z H Q->
  wpAny (model X.prog X.w) X.A (evalPairs (pairTrees keys values X.env pos)) (λvs s'=>∃ps H',Inv X aA Z H' s'/\VV ps vs/\Q ps H') X.xe s
theorem at8{X:Cx}{pos:Pos}:PPs X pos [] [] []:=λaA s Z H Q I h=>pairTrees_nil_walk ⟨[],H,I,.nil,h⟩
theorem an8{X:Cx}{pos:Pos}{k v:Expr}{ks:List (Option Expr)}{vs:List Expr}{tk tv:TE}{trs:List (TE×TE)}(hk:PE X k tk)(hv:PE X v tv)(hr:PPs X pos ks vs trs) :
  PPs X pos (some k::ks) (v::vs) ((tk,tv)::trs):=λaA s Z H Q I h =>
 pairTrees_cons_walk (thn (hk aA s Z H _ I h) λu s1 ⟨x,H1,I1,rx,q1⟩=>thn (hv aA s1 Z H1 _ I1 q1) λw2 s2 ⟨y,H2,I2,ry,q2⟩ =>
  thn (hr aA s2 Z H2 _ I2 q2) λws s3 ⟨ps,H3,I3,rel,q3⟩=>⟨(x,y)::ps,H3,I3,.cons ⟨rx,ry⟩ rel,q3⟩)
def aav(kvs more:List (Key×V)):List (Key×V):=more.foldl (λacc kv=>putK acc kv.1 kv.2) kvs
theorem KV.merge:∀{more:List (Key×V)} {rs:List (Key×Value)} {kvs:List (Key×V)} {vs:List (Key×Value)},KV more rs->KV kvs vs->KV (aav kvs more) (merged vs rs):=by
 intro more rs kvs vs r
 unfold KV at r
 induction r generalizing kvs vs with
 |nil=>intro q;exact q
 |@cons p q ps qs h t ih =>
  intro r0
  have e:KV (putK kvs p.1 p.2) (stored vs q.1 q.2):=by
   have:=r0.put p.1 h.2
   rw[<-h.1];exact this
  exact ih e
theorem a4j:∀(more kvs:List (Key×V)),(aav kvs more).length<=kvs.length+more.length
 |[],kvs=>by show kvs.length<=kvs.length+0;omega
 |p::r,kvs=>by
  have h1:=a4j r (putK kvs p.1 p.2);have h2:=a3s kvs p.1 p.2;show(aav (putK kvs p.1 p.2) r).length<=_;rw[bB];omega
theorem a7v{P:Program}{w:World}:∀{kvs:List (Key×V)} {ws:List (Value×Value)},VV (kvs.map λkv=>(kV kv.1,kv.2)) ws->∃rs,Carries (kh P w) ws rs/\KV kvs rs
 |[],_,r=>by rw[dM]at r;cases r;exact⟨[],True.intro,.nil⟩
 |p::kvs,_,r=>by
  rw[bg]at r
  cases r with
  |@cons a b as bs h t =>
   obtain⟨rs,c,q⟩:=a7v (P:=P) (w:=w) t;obtain⟨b1,b2⟩:=b;exact⟨(p.1,b2)::rs,⟨acf h.1,rfl,c⟩,.cons ⟨rfl,h.2⟩ q⟩
noncomputable def b36(trs:List (TE×TE)):TE:=λZ H Q=>∀p,H p=none->ai9 trs Z (upd H p (.dK [])) λps H2=>H2 p=some (.dK [])/\∃kvs:List (Key×V),ps=kvs.map (λkv=>(kV kv.1,kv.2))/\kvs.length<=15/\Q (.ref p) (upd H2 p (.dK (aav [] kvs)))
theorem at9{X:Cx}{pos:Pos}{keys:List (Option Expr)}{values:List Expr}{trs:List (TE×TE)}(h:PPs X pos keys values trs)(hall:keys.all (·.isSome)=true)(hl:keys.length=values.length)(h0:keys≠[])
  (h15:keys.length<=15):PE X (.Dict keys values pos) (b36 trs):=by
 intro aA s Z H Q I q
 have hn:=I.hok.fresh (ay s.heap.objs.size);have I1:=I.laid (a:=s.heap.objs.size) (o:=.dK []) (h':=s.heap.push {cls:=.type "dict",data:=.dict #[]}) (t':=s.toks) (λ_ _ q=>ar _ q) (ay _) (adz s.heap I.big);refine wpAny_Dict_walk (knd:=kh X.prog X.w) hall hl h0 h15 (thn (h aA _ Z _ _ I1 (q _ hn)) λws s2 ⟨ps,H2,I2,rel,e,kvs,ep,lk,q2⟩=>?_);subst ep;obtain⟨rs,c,rk⟩:=a7v (P:=X.prog) (w:=X.w) rel;obtain⟨z,hd,vs0,r0,dd⟩:=ay2 I2.hok e;cases r0
 refine⟨rs,c,dd,λh' dd' hs=>⟨.ref s.heap.objs.size,_,?_,rfl,q2⟩⟩;have hz:(aav [] kvs).length<=sizeLine:=by
  have h1:=a4j kvs [];rw[e9]at h1;rw[eS];omega
 have he:∃q,h'.get? s.heap.objs.size=some q:=let ⟨q,_,_,hq,_⟩:=dd'; ⟨q,hq⟩;exact aci I2 (by rw[e];exact True.intro) hs he (aqb hz hd (rk.merge .nil) dd')
structure M1 (X:Cx) (o:Expr) (m:Str) (apos:Pos) (e:Expr) (cpos:Pos):Prop where
 base:attributeBase o m X.env (eval o X.env)=eval o X.env
 few:((backTo cpos (starEach [e] X.env)).all (λx => !x.1) && (backToKw cpos (keywordEach [] X.env)).all (λx=>x.1.isSome)
  && decide (([e]:List Expr).length+([]:List Keyword).length+(if ([]:List Keyword).isEmpty then 0 else 1)<30))=true
 line:(apos.endLine == cpos.line)=true
 trees:backTo cpos (starEach [e] X.env)=[(false,eval e X.env)]
def IsD(H:Hp)(a:Addr):Prop:=(∃kvs,Rd H a (.dK kvs))\/∃kvs,Rd H a (.dT kvs)
theorem aqc{X:Cx}{aA:List (Addr×Obj)}{Z:St}{H:Hp}{s:Shared}{a:Addr}(I:Inv X aA Z H s)(d:IsD H a) :
  s.TypeIs (.ref a) "dict"/\(∀b,Value.ref a=.ref b->∃ob,s.heap.get? b=some ob/\ob.dict=none)/\(a == sysModules)=false:=by
 rcases d with⟨kvs,e⟩|⟨kvs,e⟩
 .obtain⟨_,hd,vs,_,dd⟩:=acg I.hok e;refine⟨dd.typeIs,λb q=>?_,hd⟩;cases q
  obtain⟨ob,_,_,h1,h2,_⟩:=dd;exact⟨ob,h1,h2.2.1⟩
 .obtain⟨_,hd,xs,_,dd⟩:=ach I.hok e;refine⟨dd.typeIs,λb q=>?_,hd⟩;cases q
  obtain⟨ob,_,_,h1,h2,_⟩:=dd;exact⟨ob,h1,h2.2.1⟩
section
variable{X:Cx}{aA:List (Addr×Obj)}{Z:St}{H:Hp}{s:Shared}{a:Addr}{y d:V}{u r:Value}{o:Option V}{A:Around}{E:Value->Shared->Prop}
theorem ay4{Q:Value->Shared->Prop}(hu:A.units+1<cLine)(I:Inv X aA Z H s)(g:ai6 H a y o)(ry:RelV y u)(h:∀w' s',Inv X aA Z H s'->RelV (o.getD .non) w'->Q w' s') :
  wpAny (model X.prog X.w) A (call (.builtin "dict.get") [.ref a,u]) Q E s:=by
 rcases g with⟨kvs,k,e,ey,l⟩|⟨kvs,k,b,e,ey,eb,l⟩
 .subst ey;obtain⟨z,hd,vs,rel,dd⟩:=acg I.hok e;refine call_meetsIn fR dd.typeIs PySem.F.entry_dict_get (ij _ _) (meets_dict_get (kh X.prog X.w) a (acf ry) hd) ⟨_,dd.mapOf,h _ _ (I.tok _) ?_⟩;rw[l];exact(rel.val k).getD rfl
 .subst ey
  cases (show u=Value.ref b from ry)
  obtain⟨z,hd,xs,rel,dd⟩:=ach I.hok e;refine call_meetsIn fR dd.typeIs PySem.F.entry_dict_get (ij _ _) (meetsH_dict_get (tupleKind (kh X.prog X.w)) a b hd) ⟨eO hu,k,xs,a7u I.hok eb,dd,h _ _ (I.tok _) ?_⟩;rw[l];exact(rel.val k).getD rfl
end
noncomputable def ay5(td ty:TE):TE:=λZ H Q=>td Z H λx H1=>∃a,x=.ref a/\IsD H1 a/\ty Z H1 λy H2=>∃o,ai6 H2 a y o/\Q (o.getD .non) H2
section
variable{X:Cx}{o e f:Expr}{apos cpos:Pos}{td ty tx:TE}
theorem an9(hu:X.A.units+1<cLine)(ho:PE X o td)(he:PE X e ty)(m:M1 X o "get" apos e cpos):PE X (.Call (.Attribute o "get" apos) [e] [] cpos) (ay5 td ty):=by
 intro aA s Z H Q I h
 refine wpAny_Call_method m.base m.few m.line ip fR PySem.F.type_dict_get (thn (ho aA s Z H _ I h) λu s1 ⟨x,H1,I1,rx,a,ex,d,q1⟩=>?_);subst ex;obtain rfl:u=Value.ref a:=rx;obtain⟨t1,t2,_⟩:=aqc I1 d;refine⟨t1,t2,?_⟩;rw[m.trees];refine eK rfl (fX (gN (thn (he aA s1 Z H1 _ I1 q1) λiv s2 ⟨y,H2,I2,ry,ov,g,q2⟩=>hU ?_)));exact ay4 hu I2 g ry λw' s3 I3 rw'=>⟨_,H2,I3,rw',q2⟩
end
section
variable{X:Cx}
theorem ae0:OpR X (compareOp .Is) (λx y H Q=>∃i j,x=.bl i/\y=.bl j/\Q (.bl (i == j)) H):=by
 intro aA s Z H x y v u Q I rx ry h
 obtain⟨i,j,rfl,rfl,q⟩:=h;cases rx
 cases ry
 exact is_bool (a5x I q rfl)
theorem a6q:OpR X (compareOp .IsNot) (λx y H Q=>∃i j,x=.bl i/\y=.bl j/\Q (.bl (i != j)) H):=by
 intro aA s Z H x y v u Q I rx ry h
 obtain⟨i,j,rfl,rfl,q⟩:=h;cases rx
 cases ry
 exact isnot_bool (a5x I q rfl)
theorem a2q:OpR X (compareOp .LtE) (λx y H Q=>∃i j,x=.str i/\y=.str j/\Q (.bl (!decide (j.cps.toList<i.cps.toList))) H):=by
 intro aA s Z H x y v u Q I rx ry h
 obtain⟨i,j,rfl,rfl,q⟩:=h;obtain⟨t,rfl⟩:=rx;obtain⟨t',rfl⟩:=ry;exact PySem.P.le_str (a5x I q rfl)
noncomputable def a8u{α:Type}(xs:List α)(lo hi:Option Int):List α:=(xs.drop (HT.sIx xs.length 0 lo)).take (HT.sIx xs.length xs.length hi-HT.sIx xs.length 0 lo)
def b37:V->Option Int->Option Int->Hp->VK->Prop:=λx lo hi H Q=>∃z,x=.str z/\z.length<=sizeLine/\Q (.str ⟨(a8u z.cps.toList lo hi).toArray⟩) H
theorem ay6(lo hi:Option Int)(n:Nat):Builtin.Str.strSliceIndices lo hi 1 n=(List.range (HT.sIx n n hi-HT.sIx n 0 lo)).map λk=>HT.sIx n 0 lo+k:=by
 have e1:Builtin.Str.strSliceIndices lo hi 1 n=sliceRange ((HT.sIx n 0 lo:Nat):Int) ((HT.sIx n n hi:Nat):Int) 1:=by
  unfold Builtin.Str.strSliceIndices;dsimp only
  congr 1
  .cases lo with
   |none=>simp[HT.sIx]
   |some i=>simp only[HT.sIx,show(1:Int) > 0 by decide,dQ];split<;>omega
  .cases hi with
   |none=>simp[HT.sIx]
   |some i=>simp only[HT.sIx,show(1:Int) > 0 by decide,dQ];split<;>omega
 rw[e1];exact sliceRange_one _ _
theorem ay7{α:Type}(xs:List α)(a:Nat):∀k,a+k<=xs.length->((List.range k).map λj=>a+j).filterMap (xs[·]?)=(xs.drop a).take k
 |0,_=>by simp
 |k+1,h=>by
  rw[gB,bE,List.filterMap_append,ay7 xs a k (by omega)]
  have hk:a+k<xs.length:=by omega
  rw[iW]
  congr 1
  simp[gP,hk]
theorem ay8:SlR X b37:=by
 intro aA s Z H x v vl vu lo hi sl Q I rx hs pl pu h
 obtain⟨z,rfl,hz,q⟩:=h;obtain⟨t,rfl⟩:=rx;refine⟨"str",_,PyProof.Rows.slot_str_getitem.lookup,iV s z t,?_⟩;have hl:z.cps.toList.length=z.length:=by simp[Str.length]
 have fin:∀(l u:Option (Int×Tok)),vl=partValue l->vu=partValue u->l.map (·.1)=lo->u.map (·.1)=hi->wpAny (model X.prog X.w) X.A (getItem (.str z t) (.ref sl)) (EP X aA Z Q) X.xe s:=by
  intro l u e1 e2 e3 e4
  subst e1 e2;refine wpAny_getItem_str_slice (l:=l) (u:=u) (st:=none) hs rfl ?_;have hp:slicePicked z l u none=(List.range (HT.sIx z.length z.length hi-HT.sIx z.length 0 lo)).map λk=>HT.sIx z.length 0 lo+k:=by
   unfold slicePicked;rw[e3,e4];exact ay6 lo hi z.length
  have hb1:HT.sIx z.length z.length hi<=z.length:=HT.ahx _ _ (ay _) _;have hb2:HT.sIx z.length 0 lo<=z.length:=HT.ahx _ _ (bU _) _;unfold sliceMade
  split
  .rename_i c;simp only[ba,i5]at c;obtain⟨_,c⟩:=c;rw[hp,ax,b6]at c;have e:(⟨(a8u z.cps.toList lo hi).toArray⟩:Str)=z:=by
    unfold a8u;rw[hl];have z1:HT.sIx z.length 0 lo=0:=by omega
    have z2:HT.sIx z.length z.length hi=z.length:=by omega
    rw[z1,z2,List.drop_zero,Nat.sub_zero,bP (by omega)]
   rw[e]at q;exact⟨.str z,H,I,⟨_,rfl⟩,q⟩
  .have e:(⟨(a8u z.cps.toList lo hi).toArray⟩:Str)=⟨((slicePicked z l u none).filterMap (z.cps[·]?)).toArray⟩:=by
    rw[hp];unfold a8u;rw[hl]
    by_cases hc:HT.sIx z.length 0 lo<=HT.sIx z.length z.length hi
    .rw[<-ay7 z.cps.toList _ _ (by omega)]
     simp only[Array.getElem?_toList]
    .rw[show HT.sIx z.length z.length hi-HT.sIx z.length 0 lo=0 by omega]
     simp
   rw[e]at q;refine⟨?_,.str _,H,I.tok _,⟨_,rfl⟩,q⟩;rw[<-e];show(a8u z.cps.toList lo hi).toArray.size<=sizeLine;rw[aV];unfold a8u;rw[bY,cZ,hl];omega
 cases pl with
 |none=>cases pu with
  |none=>exact fin none none rfl rfl rfl rfl
  |int j t'=>exact fin none (some (j,t')) rfl rfl rfl rfl
 |int i t'=>cases pu with
  |none=>exact fin (some (i,t')) none rfl rfl rfl rfl
  |int j t''=>exact fin (some (i,t')) (some (j,t'')) rfl rfl rfl rfl
theorem ack:CallR X (.builtin "isinstance") (λxs H Q=>∃x T t b,xs=[x,.ty T]/\TyOf X.K H x t/\PySem.W.kitOne X.K t (.type T)=some b/\Q (.bl b) H):=by
 intro aA s Z H xs us Q I r h
 obtain⟨x,T,t,b,rfl,ty,e,q⟩:=h;obtain⟨u,w',rfl,rx,rt⟩:=vals2 r;cases rt
 exact aht I rx ty e λtk=>⟨.bl b,H,I.tok tk,rfl,q⟩
theorem aaw(bs:List Bool):((List.range bs.length).all λi=>(bs[i]?).getD true)=bs.all id:=by
 have e:(List.range bs.length).map (λi=>(bs[i]?).getD true)=bs:=by
  apply fV (by simp)
  intro i h1 h2
  simp[h2]
 have f:((List.range bs.length).map λi=>(bs[i]?).getD true).all id=bs.all id:=by rw[e]
 rw[<-f,fS];rfl
theorem acl(hc:X.calm=true):CallR X (.builtin "all") (λxs H Q=>∃(p:Addr) (bs:List Bool),xs=[.ref p]/\SqL X.K H p (bs.map V.bl)/\Q (.bl (bs.all id)) H):=by
 intro aA s Z H xs us Q I r h
 obtain⟨p,bs,rfl,hq,q⟩:=h;obtain⟨u,rfl,rx⟩:=vals1 r;cases rx
 obtain⟨its,r',pl,hz⟩:=I.list hq;have hl:=r'.length;rw[ax]at hl;have hlt:p<s.heap.objs.size:=by obtain⟨_,e,_⟩:=pl.isList;exact aX e
 refine call_all_walk (fJ pl.isList ?_);refine⟨s.heap.objs.size,[s.heap.objs.size,p],[s.heap.objs.size],its.toArray.size,_,_,λi=>(bs[i]?).getD true,rfl,Walks.list (A:=X.A.in1) (I.ok.hd hc) _ p (bT hlt) its.toArray,
  ⟨⟨_,aO _ rfl,rfl,rfl⟩,pl.isList.push _⟩,λi v s' Q' E' hP hQ=>?_,λh' tk hk=>?_⟩
 .have hP':its[i]? = some v:=by simpa using hP
  have hi:i<bs.length:=by
   have:=(ah.mp hP').1
   omega
  obtain⟨u,e,ru⟩:=r'.get (i:=i) (x:=.bl bs[i]) (by simp[hi])
  rw[hP']at e;cases e
  cases ru
  simp only[ag hi,d0]at hQ;exact cT hQ
 .have e:((List.range its.toArray.size).all λi=>(bs[i]?).getD true)=bs.all id:=by
   rw[aV,<-hl];exact aaw bs
  rw[e];exact⟨.bl _,H,I.kept λb x e=>hk b x (λhm=>by rw[av.mp hm]at e;exact cO _ (aX e)) (ar _ e),rfl,q⟩
def a2m(x:Str):List V:=x.cps.toList.map λc=>V.str ⟨#[c]⟩
theorem afr(h:ItemsOf (SignAt x) acc x.cps.size):Vals (a2m x) acc.toList:=by
 obtain⟨hs,ha⟩:=h;have key:∀(cs:List Nat) (us:List Value),us.length=cs.length->(∀(j:Nat) (v:Value),us[j]? = some v->∃c u,cs[j]? = some c/\v=.str ⟨#[c]⟩ u)->Vals (cs.map λc=>V.str ⟨#[c]⟩) us:=by
  intro cs
  induction cs with
  |nil=>intro us hl _;cases us with|nil=>exact .nil|cons _ _=>simp at hl
  |cons c cs ih =>
   intro us hl hp
   cases us with
   |nil=>simp at hl
   |cons u us =>
    refine .cons ?_ (ih us (by simpa using hl) λj v e=>hp (j+1) v (by simpa using e))
    obtain⟨c',t,e1,e2⟩:=hp 0 u rfl;simp at e1;subst e1;exact⟨t,e2⟩
 refine key _ _ (by simp[hs]) λj v e=>?_
 obtain⟨c,u,e1,e2⟩:=ha j v (by simpa using e)
 exact⟨c,u,by simpa using e1,e2⟩
theorem aax(hc:X.calm=true):CallR X (.type "tuple") (λxs H Q=>∃z,xs=[.str z]/\z.length<=sizeLine/\∀l,H l=none->Q (.ref l) (upd H l (.tup (a2m z)))):=by
 intro aA s Z H xs us Q I r h
 obtain⟨z,rfl,hz,q⟩:=h;obtain⟨u,rfl,t,rfl⟩:=vals1 r;refine PySem.call_tuple_str (I.ok.hd hc) z t (λh' tk acc kp hi=>?_) (by simpa[Str.length] using hz)
 have I1:Inv X aA Z H {s with heap:=h',toks:=tk}:=I.kept kp
 have I2:Inv X aA Z (upd H h'.objs.size (.tup (a2m z))) {s with heap:=h'.push {cls:=.type "tuple",data:=.seq acc},toks:=tk} :=
  I1.laid (t':=tk) (λb o e=>ar _ e) (ay _) (show ObjOk X.prog X.w _ _ _ (.tup (a2m z)) from ⟨by simpa[a2m,Str.length] using hz,acc.toList,afr hi,by simpa using IsTup.new h' acc⟩)
 exact⟨.ref h'.objs.size,_,I2,rfl,q _ (I1.hok.fresh (ay _))⟩
end
noncomputable def Its(x:Str):It:=⟨λi _=>i<x.cps.size,λi H v H'=>H'=H/\∃c,x.cps.toList[i]? = some c/\v=.str ⟨#[c]⟩,λi _=>i=x.cps.size⟩
theorem ae1{P:Program}{w:World}{K:Fg}{tg:Expr}(it:Addr)(x:Str)(t:Tok)(ty:String)
  (hty:["enumerate","zip","dict_itemiterator","dict_reverseitemiterator","odict_iterator","itertools.zip_longest","itertools.pairwise"].contains ty=false)
  (W:∀A':Around,A'.handled=none->Walks P w A' it [it] [it] x.cps.size (SignAt x) (λi h=>h.IsStrIter it ty x t i))
  (slf:∀(A:Around) (i:Nat) (s:Shared) (Q:Value->Shared->Prop) (E:Value->Shared->Prop),s.heap.IsStrIter it ty x t i->Q (.ref it) s->wpAny (model P w) A (pyIter (.ref it)) Q E s) :
  Turn P w K tg (Its x) [it] it (λi h=>h.IsStrIter it ty x t i) where
 mem:=by simp
 obj:=λi h st b hb=>by
  have e:b=it:=by simpa using hb
  subst e;obtain⟨o,e,c,d⟩:=st;exact⟨o,e,λv z=>by rw[d]at z;cases z⟩
 keep:=λi h h' st k=>by
  obtain⟨o,e,c,d⟩:=st;exact⟨o,k it (by simp) o e,c,d⟩
 item:=by
  intro X hP hw hK hc i aA s Z H E I hf st hg
  subst hP hw hK;obtain⟨f0,f1,f2,f3,f4,f5⟩:=hf it (by simp)
  refine(W X.A (I.ok.hd hc)).item i s _ _ hg st λv h' tk hv st' kk=>?_;obtain⟨c,u,hx,rfl⟩:=hv;have I1:Inv X aA Z H {s with heap:=h',toks:=tk}:=I.turned (λb o hb e=>kk b o (by simpa using hb) e) f0 f1 f3 f4 f5
  obtain⟨o,e,oc,d⟩:=id st';exact⟨_,rfl,ahg (s:={s with heap:=h',toks:=tk}) e oc d hty ⟨.str ⟨#[c]⟩,H,I1,⟨_,rfl⟩,⟨rfl,c,by simpa using hx,rfl⟩,st',λb hb=>(hf b hb).1⟩⟩
 done:=by
  intro X hP hw hK hc i aA s Z H E I hf st hg
  subst hP hw hK;obtain⟨f0,f1,f2,f3,f4,f5⟩:=hf it (by simp)
  have hg':i=x.cps.size:=hg;subst hg';exact(W X.A (I.ok.hd hc)).done s _ _ st λh' tk eb=>⟨rfl,I.turned (λb o hb e=>eb b o (by simpa using hb) e) f0 f1 f3 f4 f5⟩
 self:=slf
section
variable{X:Cx}{tg:Expr}
def b5k(tl:TE):TI:=λZ H R=>tl Z H λx H1=>∃z,x=.str z/\R (Its z) H1
theorem aqd{l:Expr}{tl:TE}(hl:PE X l tl):PI X tg l (b5k tl):=by
 intro aA s Z H R I h
 refine thn (hl aA s Z H _ I h) ?_
 rintro v s1 ⟨x,H1,I1,r1,q1⟩
 obtain⟨z,e,q⟩:=q1;subst e;obtain⟨t,rfl⟩:=r1;have fp:∀b∈[s1.heap.objs.size],FpOk X aA H1 b:=λb hb=>by
  have e:b=s1.heap.objs.size:=by simpa using hb
  subst e;exact I1.fpOk (ay _) (I1.hok.fresh (ay _))
 cases ha:z.cps.all (· < 128)
 .exact wpAny_pyIter_wide ha ⟨s1.heap.objs.size,[s1.heap.objs.size],_,_,H1,rfl,I1.kept (t':=s1.toks) λb o e=>ar _ e,
   ae1 _ z t "str_iterator" (by decide) (λA' hA=>Walks.strWide hA _ z t) (λ_ _ _ _ _ st h=>wpAny_pyIter_striter_wide st h),⟨_,aO _ rfl,rfl,rfl⟩,fp,q⟩
 .exact wpAny_pyIter_ascii ha ⟨s1.heap.objs.size,[s1.heap.objs.size],_,_,H1,rfl,I1.kept (t':=s1.toks) λb o e=>ar _ e,
   ae1 _ z t "str_ascii_iterator" (by decide) (λA' hA=>Walks.strAscii hA _ z t) (λ_ _ _ _ _ st h=>wpAny_pyIter_striter_ascii st h),⟨_,aO _ rfl,rfl,rfl⟩,fp,q⟩
end
noncomputable def aqe(tt:Option Str)(a:Addr)(cl:List (Str×Addr)):List (Str×Addr):=match tt with
 |none=>cl
 |some t=>(t,a)::cl
noncomputable def b4m(tt:Option Str)(h:Heap):Heap:=match tt with
 |none=>h
 |some _=>h.push {cls:=.type "cell",data:=.cell none}
noncomputable def cxG(X:Cx)(N:List Str)(aB:Scope)(cl:List (Str×Addr))(tt:Option Str)(C:Addr)(fp:List Addr)(s:Shared)(H:Hp):Cx where
 prog:=X.prog
 w:=X.w
 K:=X.K
 mg:=X.mg
 base:=X.base
 A:=X.A
 N:=N
 s₀:=s
 H₀:=H
 env:=compEnvC aB (aqe tt (C+1) cl) C X.env
 outer:=X.stack
 stack:=X.stack
 ex:=fp
 fn:=λx=>tt == some x
 calm:=X.calm
 pn:=[]
 xe:=λ_ _=>False
abbrev cxC(X:Cx)(N:List Str)(aB:Scope)(cl:List (Str×Addr))(C:Addr)(fp:List Addr)(s:Shared)(H:Hp):Cx:=cxG X N aB cl none C fp s H
structure CSg (X:Cx) (aB:Scope) (cl:List (Str×Addr)) (tt:Option Str) (ts fr:List Str) (ix:List Nat):Prop where
 clos:closureFor aB X.env=pure cl
 kind:aB.kind=.function
 own:∀a,cellsFrom a aB.names cl=aqe tt a cl
 push:∀h,pushCells h aB.names=b4m tt h
 names:∀y∈aB.names,y.2=.local->aB.names.lookup y.1=some .local
 sub:∀y c,cl.lookup y=some c->X.env.cells.lookup y=some c
 has:∀y,((relabel aB X.env).names.lookup y=some .cell\/(relabel aB X.env).names.lookup y=some .free)->tt=some y\/∃c,cl.lookup y=some c
 len:ix.length=fr.length
 vis:∀(j:Nat) (y:Str),fr[j]? = some y->tt≠some y/\∃i:Nat,ix[j]? = some i/\X.N[i]? = some y/\(X.env.kindOf y=some .cell\/X.env.kindOf y=some .free)/\((relabel aB X.env).names.lookup y=some .cell\/(relabel aB X.env).names.lookup y=some .free)
abbrev CSc(X:Cx)(aB:Scope)(cl:List (Str×Addr))(ts fr:List Str)(ix:List Nat):Prop:=CSg X aB cl none ts fr ix
theorem a8v:∀{names:List (Str×NameKind)} {a:Nat} {cl:List (Str×Addr)},(∀y∈names,y.2≠.cell)->cellsFrom a names cl=cl
 |[],_,_,_=>rfl
 |(x,k)::r,a,cl,h=>by
  unfold cellsFrom;rw[bA (by have:=h _ aT;simpa using this)]
  exact a8v λy hy=>h y (aI _ hy)
theorem acn:∀{names:List (Str×NameKind)} {h:Heap},(∀y∈names,y.2≠.cell)->pushCells h names=h
 |[],_,_=>rfl
 |(x,k)::r,a,h=>by
  unfold pushCells;rw[bA (by have:=h _ aT;simpa using this)]
  exact acn λy hy=>h y (aI _ hy)
theorem look{tt:Option Str}{cl:List (Str×Addr)}(e:(aqe tt a cl).lookup y=some c):(tt=some y/\c=a)\/(tt≠some y/\cl.lookup y=some c):=by
 cases tt with
 |none=>exact .inr ⟨nofun,e⟩
 |some t =>
  have e:((t,a)::cl).lookup y=some c:=e;rw[iH]at e
  cases hb:y == t with
  |true=>rw[hb]at e;cases e;exact .inl ⟨aQ some (i5.mp hb).symm,rfl⟩
  |false=>rw[hb]at e;exact .inr ⟨λz=>by cases z;simp at hb,e⟩
theorem aia{tt:Option Str}{cl:List (Str×Addr)}(ne:tt≠some y)(e:cl.lookup y=some c):(aqe tt a cl).lookup y=some c:=by
 cases tt with
 |none=>exact e
 |some t =>
  show((t,a)::cl).lookup y=some c;rw[iH];have hb:(y == t)=false:=by rw[cI];exact λz=>ne (aQ some z.symm)
  rw[hb];exact e
theorem ay9{t:Str}{a:Addr}{cl:List (Str×Addr)}:(aqe (some t) a cl).lookup t=some a:=by
 show((t,a)::cl).lookup t=_;rw[iH];simp
theorem no1(h:C+1<n)(h':n<=C):False:=by omega
theorem no2(h:b<n)(h':n<=C):C+1≠b:=by omega
theorem no3(h:C+1=n)(h':n<=C):False:=by omega
theorem aib{M:Model}{A:Around}{E:Value->Shared->Prop}{s:Shared}{aB:Scope}{globals:Addr}{cl:List (Str×Addr)}{tt:Option Str}{qual:Str}{func:Option Addr}{code:Value}{outer:Env}{builtins:Addr}{Q:Env->Shared->Prop}
  (own:∀a,cellsFrom a aB.names cl=aqe tt a cl) (push:∀h,pushCells h aB.names=b4m tt h) (hk:aB.kind=.function)
  (hQ:∀h':Heap,h'.Ns s.heap.objs.size (λ_=>none)->(∀t,tt=some t->h'.IsCell (s.heap.objs.size+1) none)->(∀b o,s.heap.get? b=some o->h'.get? b=some o)->Q (newEnv aB s.heap.objs.size globals (aqe tt (s.heap.objs.size+1) cl) qual func code (some outer) builtins) {s with heap:=h' }) :
  wpAny M A (newFunctionEnv aB globals cl [] qual func code (some outer) builtins) Q E s:=by
 simp only[newFunctionEnv,Option.isSome_some,dQ];refine ai (wpAny_alloc ?_);refine ai (wpAny_layCells _ (λname kind cells=>by cases hkc:kind == NameKind.cell<;>simp[hkc]) _ _ _ _ ?_)
 rw[own,push];simp only[List.forIn_nil];refine ai (aJ (aJ ?_));have sz:({s with heap:=s.heap.push {cls:=.type "dict",data:=.dict #[]} }:Shared).heap.objs.size=s.heap.objs.size+1:=cb ..
 rw[sz]
 cases tt with
 |none=>exact hQ _ (Heap.Ns.new s.heap (.type "dict")) (λ_ z=>nomatch z) λb o e=>ar _ e
 |some t =>
  refine hQ _ ((Heap.Ns.new s.heap (.type "dict")).keeps λb o e=>ar _ e) (λ_ _=>⟨{cls:=.type "cell",data:=.cell none},?_,rfl⟩) λb o e=>ar _ (ar _ e);rw[<-sz];exact aO _ rfl
def Ext(a b:St):Prop:=b.length=a.length/\∀(i:Nat) v,a[i]? = some (some v)->b[i]? = some (some v)
def zf(nt:Nat)(ix:List Nat)(Z:St):St:=List.replicate nt none++ix.map λi=>(Z[i]?).join
def ata(J:It)(s0:St)(g:TG)(te:TE)(Q:VK)(H1:Hp):Prop:=∃W:Nat->Nat->List V->Hp->Prop,(∃m,W 0 m [] H1)/\∀i m ys H,W i m ys H->
 (J.stop i H/\∀p,H p=none->Q (.ref p) (upd H p (.lst ys))) \/
 (J.go i H/\ys.length<sizeLine/\∀x H',J.yld i H x H'->g x s0 H' λZ2 H2=>Ext s0 Z2/\te Z2 H2 λy H3=>∃m',m'<m/\W (i+1) m' (ys++[y]) H3)
def aic(wi:TI)(s0:St->St)(g:TG)(te:TE):TE:=λZ H Q=>wi Z H λJ H1=>ata J (s0 Z) g te Q H1
def aco(J:It)(s0:St)(g:TG)(tc:TT)(te:TE)(Q:VK)(H1:Hp):Prop:=∃W:Nat->Nat->List V->Hp->Prop,(∃m,W 0 m [] H1)/\∀i m ys H,W i m ys H->
 (J.stop i H/\∀p,H p=none->Q (.ref p) (upd H p (.lst ys))) \/
 (J.go i H/\ys.length<sizeLine/\∀x H',J.yld i H x H'->g x s0 H' λZ2 H2=>Ext s0 Z2/\tc Z2 H2 λok H2'=>if ok=true then te Z2 H2' (λy H3=>∃m',m'<m/\W (i+1) m' (ys++[y]) H3) else ∃m',m'<m/\W (i+1) m' ys H2')
noncomputable def a5p(wi:TI)(s0:St->St)(g:TG)(tc:TT)(te:TE):TE:=λZ H Q=>wi Z H λJ H1=>aco J (s0 Z) g tc te Q H1
theorem a6r(aD target aF cnd:Expr)(aB:Scope)(pos:Pos)(it acc:Value)(env:Env) :
  compTurn (.ListComp aD [⟨target,aF,[cnd],0⟩] aB pos) 0 it acc env=(standAt aF.pos>>=λ_=>pyNext it>>=λr=>match r with
   |none=>pure (.done .next)
   |some v=>letOwnedTupleGo target it v>>=λ_=>assign target env v>>=λ_=>isTrue cnd env (eval cnd env)>>=λok =>
    (if ok=true then (eval aD env>>=λx=>call (.builtin "list.append") [acc,x]>>=λ_=>pure ()) else pure ())>>=λ_ =>
     again (.compLoop (.ListComp aD [⟨target,aF,[cnd],0⟩] aB pos) 0 it acc env)):=by
 first
  |rfl
  |(unfold compTurn;simp only[eF];rfl)
  | (show(standAt aF.pos>>=λ_=>pyNext it>>=λr=>_)=_
     congr 1;funext _;congr 1;funext r
     cases r with
     |none=>rfl
     |some v =>
      show(letOwnedTupleGo target it v>>=λ_=>assign target env v>>=λ_=>_)=(letOwnedTupleGo target it v>>=λ_=>assign target env v>>=λ_=>_)
      congr 1;funext _;congr 1;funext _
      simp
      congr 1;funext ok
      cases ok with
      |false=>rw[bA bJ,bA bJ,pure_bind]
      |true =>
       rw[aU rfl,aU rfl,bind_assoc]
       congr 1;funext x
       rw[map_eq_pure_bind,bind_assoc]
       congr 1)
noncomputable def runC(cnd:Option Expr)(env:Env):Sem Bool:=match cnd with
 |none=>pure true
 |some c=>isTrue c env (eval c env)
def PTO(X:Cx)(cnd:Option Expr)(t:TT):Prop :=
 ∀(aA:List (Addr×Obj)) (s:Shared) (Z:St) (H:Hp) (Q:Bool->Hp->Prop),Inv X aA Z H s->t Z H Q->wpAny (model X.prog X.w) X.A (runC cnd X.env) (TP X aA Z Q) X.xe s
theorem a7o(aD target aF:Expr)(cnd:Option Expr)(aB:Scope)(pos:Pos)(it acc:Value)(env:Env) :
  compTurn (.ListComp aD [⟨target,aF,cnd.toList,0⟩] aB pos) 0 it acc env=(standAt aF.pos>>=λ_=>pyNext it>>=λr=>match r with
   |none=>pure (.done .next)
   |some v=>letOwnedTupleGo target it v>>=λ_=>assign target env v>>=λ_=>runC cnd env>>=λok =>
    (if ok=true then (eval aD env>>=λx=>call (.builtin "list.append") [acc,x]>>=λ_=>pure ()) else pure ())>>=λ_ =>
     again (.compLoop (.ListComp aD [⟨target,aF,cnd.toList,0⟩] aB pos) 0 it acc env)):=by
 cases cnd with
 |some c=>exact a6r ..
 |none =>
  rw[show(none:Option Expr).toList=[] from rfl,compTurn_list1]
  congr 1
theorem aid{cnd:Option Expr}{E:Value->Shared->Prop}(no:∀v s,E v s->False)(J:Nat->Shared->Prop)
  (step:∀m z,J m z->wpAny (model prog w) A (pyNext it) (λgot z1=>match got with
   |none=>R (.ok .next) z1
   |some v=>wpAny (model prog w) A (letOwnedTupleGo target it v) (λ_ z2=>wpAny (model prog w) A (assign target env v) (λ_ z3=>wpAny (model prog w) A (runC cnd env) (λok z3'=>if ok=true then wpAny (model prog w) A (eval aD env) (λx z4 =>
     wpAny (model prog w) A (call (.builtin "list.append") [acc,x]) (λ_ z5=>∃m',m'<m/\J m' z5) E z4)
     E z3' else ∃m',m'<m/\J m' z3') E z3) E z2) E z1) E z)
  (m:Nat) (j0:J m s):codeAny (model prog w) A (.compLoop (.ListComp aD [⟨target,aF,cnd.toList,0⟩] aB pos) 0 it acc env) R s:=by
 refine codeAny_loop rfl J (λm z hj=>(wpAny_noted ?_:wpAny _ _ ((compTurn (.ListComp aD [⟨target,aF,cnd.toList,0⟩] aB pos) 0 it acc env).onRaise _) _ _ z)) m j0;rw[a7o];refine ai (dB (ai (bO (step m z hj) (λgot z1 h1=>?_) λ_ _ e=>(no _ _ e).elim)))
 match got,h1 with
 |none,h1=>exact aJ h1
 |some v,h1 =>
  refine ai (bO h1 (λ_ z2 h2=>ai (bO h2 (λ_ z3 h3=>ai (bO h3 (λok z3' h3'=>?_) λ_ _ e=>(no _ _ e).elim)) λ_ _ e=>(no _ _ e).elim)) λ_ _ e=>(no _ _ e).elim)
  match ok,h3' with
  |true,h3' =>
   rw[aU rfl]at h3';refine ai (ai (bO h3' (λx z4 h4=>?_) λ_ _ e=>(no _ _ e).elim));exact ai (bO h4 (λ_ z5 h5=>aJ (aJ ⟨rfl,h5⟩)) λ_ _ e=>(no _ _ e).elim)
  |false,h3' =>
   rw[bA bJ]at h3';exact ai (aJ (aJ ⟨rfl,h3'⟩))
section
variable{X:Cx}
theorem aay{aA:List (Addr×Obj)}{Z:St}{H:Hp}{s:Shared}{aB:Scope}{cl:List (Str×Addr)}{tt:Option Str}{ts fr:List Str}{ix:List Nat}{C:Addr}{fp:List Addr}(S:CSg X aB cl tt ts fr ix)(I:Inv X aA Z H s)
  (hf:∀b∈fp,FpOk X aA H b) (hb:∀b∈fp,b<s.heap.objs.size) (hC:s.heap.objs.size<=C):(cxG X (ts++fr) aB cl tt C fp s H).Ok where
 mod:=I.ok.mod
 kind:=S.kind
 glob:=I.ok.glob
 blt:=I.ok.blt
 above:=hC
 inj:=λx y c h1 h2=>by
  have small:∀z c,cl.lookup z=some c->c<s.heap.objs.size:=λz c e=>let ⟨_,q⟩:=I.cell z c (S.sub z c e);q.lt
  rcases look h1 with⟨e1,rfl⟩|⟨_,e1⟩<;>rcases look h2 with⟨e2,e3⟩|⟨_,e2⟩
  .exact bS (e1.symm.trans e2)
  .exact(no1 (small y _ e2) hC).elim
  .rw[e3]at e1;exact(no1 (small x _ e1) hC).elim
  .exact I.ok.inj x y c (S.sub x c e1) (S.sub y c e2)
 has:=λy z=>by
  by_cases h:tt=some y
  .subst h;exact⟨_,ay9⟩
  .exact(S.has y z).elim (λz=>absurd z h) λ⟨c,e⟩=>⟨c,aia h e⟩
 cab:=λx c h e=>by
  rcases look e with⟨_,rfl⟩|⟨ne,_⟩
  .show s.heap.objs.size<=C+1;omega
  .exact absurd (i5.mp h) ne
 hd:=I.ok.hd
 frames:=I.ok.frames
 stk:=.inl rfl
 exf:=λb hb'=>⟨bT (bC (hb b hb') hC),λx c e=>by
  rcases look e with⟨_,rfl⟩|⟨_,e⟩
  .exact no2 (hb b hb') hC
  .exact(hf b hb').2.2.2.2.1 x c (S.sub x c e)⟩
 bs:=λb o e=>I.bs b o e
 bsz:=cM I.ok.bsz I.sz
 noex:=λb o e hb'=>by
  rcases(hf b hb').2.2.2.1 with z|z
  .exact I.ok.noex b o e z
  .exact absurd (bC (aX e) (cM I.ok.bsz z)) (cO _)
 exfs:=λb hb' z=>by
  rcases aP.mp (I.stkSub b z) with e|e
  .exact(hf b hb').2.1 e
  .exact(hf b hb').2.2.1 e
 funs:=I.stack
 frf:=λb hb'=>I.stkFree b hb'
theorem afs:(zf nt ix Z).length=nt+ix.length:=by
 unfold zf;rw[aw,eT,ax]
theorem aie{s s4:Shared}{ts:List Str}(S:CSg X aB cl tt ts fr ix)(I:Inv X aA Z H s)
  (hf:∀b∈fp,FpOk X aA H b) (hb:∀b∈fp,b<s.heap.objs.size) (hC:s.heap.objs.size<=C)
  (k:∀b o,s.heap.get? b=some o->s4.heap.get? b=some o) (hn:s4.heap.Ns C m) (hcl:∀t,tt=some t->s4.heap.IsCell (C+1) none) (ho:s4.os=s.os) (hg:s4.gens=s.gens) :
  Inv (cxG X (ts++fr) aB cl tt C fp s H) [] (zf ts.length ix Z) H s4 where
 ok:=aay S I hf hb hC
 os:=ho
 bare:=by rw[hg];exact I.bare
 base:=Un.kept k
 loc:=by
  refine⟨m,hn,λi x v e1 e2 e3=>?_⟩;have e1:(ts++fr)[i]? = some x:=e1
  by_cases hi:i<ts.length
  .unfold zf at e2;rw[aL (by simpa using hi),dJ,aU hi]at e2
   cases e2
  .rw[aR (by omega)]at e1
   unfold zf at e2;rw[aR (by simpa using hi),eT,aE]at e2
   obtain⟨nt,j,h1,h2,h3,h4⟩:=S.vis _ x e1;rw[h1]at e2;have e2':(Z[j]?).join=some v:=bS e2;have e5:Z[j]? = some (some v):=by
    cases q:Z[j]? with
    |none=>rw[q]at e2';cases e2'
    |some o=>rw[q]at e2';simp at e2';rw[e2']
   obtain⟨m0,_,hl⟩:=I.loc;have vis:Vis X.env.scope x:=h3.elim (λz=>.inr (.inl z)) λz=>.inr (.inr z);obtain⟨u,ru,l⟩:=hl j x v h2 e5 vis;refine⟨u,ru,?_⟩
   rcases l with⟨z,_⟩|⟨_,c,hc,hcell⟩
   .rcases h3 with h3|h3<;>rw[h3]at z<;>cases z
   .rcases S.has x h4 with z|⟨c',hc'⟩
    .exact absurd z nt
    .have e6:c'=c:=bS ((S.sub x c' hc').symm.trans hc);subst e6;obtain⟨o,ho,hd⟩:=hcell;exact .inr ⟨h4,c',aia nt hc',o,k _ _ ho,hd⟩
 cell:=λx c e=>by
  rcases look e with⟨z,rfl⟩|⟨_,e⟩
  .exact⟨_,hcl _ z⟩
  .obtain⟨v,o,ho,hd⟩:=I.cell x c (S.sub x c e);exact⟨v,o,k _ _ ho,hd⟩
 free:=I.hok.fresh hC
 freeC:=λx c e=>by
  rcases look e with⟨_,rfl⟩|⟨_,e⟩
  .exact I.hok.fresh (by omega)
  .exact I.freeC x c (S.sub x c e)
 pin:=λp hp=>absurd (show p∈([]:List (Addr×Obj)) from hp) (by simp)
 hok:=I.hok.kept k
 len:=by
  rw[afs];show _=(ts++fr).length;rw[aw,S.len]
theorem Inv.unpinned'(I:Inv X aA Z H s):Inv X [] Z H s:=I.pins_of λ_ hp=>nomatch hp
theorem a7w{Y:Cx}(I:Inv X aA Z H s)
  (hf:∀b∈fp,FpOk X aA H b) (hC:s.heap.objs.size<=C) (hacc:s.heap.objs.size<=acc)
  (q:Y.prog=X.prog/\Y.w=X.w/\Y.fs=frs X.stack/\Y.ex=fp/\Y.env.locals=C/\Y.s₀=s/\Y.H₀=H) (J:Inv Y [] Z' H' s') (hn:H' acc=none) (hob:ObjOk X.prog X.w (upd H' acc ho) h' acc ho) (sb:Heap.SameBut C s'.heap h') :
  Inv X aA Z (upd H' acc ho) {s' with heap:=h' }:=by
 have k:∀b o,b≠C->s'.heap.get? b=some o->h'.get? b=some o:=λb o hb e=>sb.extBut b o hb e;have old:∀b o,s.heap.get? b=some o->b≠C/\b≠acc:=λb o e=>⟨bT (bC (aX e) hC),bT (bC (aX e) hacc)⟩;obtain⟨q1,q2,q3,q4,q5,q6,q7⟩:=q;have u0:=J.base;rw[q3,q4,q6,q7]at u0;have fC:=J.free;rw[q5]at fC;have jh:=J.hok;rw[q1,q2]at jh;have u:Un (frs X.stack) fp H (upd H' acc ho) s.heap h':=by
  refine⟨λb o e n' hb hx=>k b o (old b o e).1 (u0.keep b o e n' hb hx),λb o e n' hb hx=>?_,λb o e n' hx=>?_,λb o e hx=>?_,λb xs e=>?_,λb o v e=>?_,λb ps e=>?_⟩
  .obtain⟨sl,e1⟩:=u0.slot b o e n' hb hx;exact⟨sl,k b _ (old b o e).1 e1⟩
  .rw[ik (old b o e).2];exact u0.free b o e n' hx
  .obtain⟨o',e1⟩:=u0.there b o e hx;exact⟨o',k b _ (old b o e).1 e1⟩
  .rw[ik (j5 (u0.tups b xs e) hn)];exact u0.tups b xs e
  .rw[ik (j5 (u0.frzs b o v e) hn)];exact u0.frzs b o v e
  .obtain⟨more,e1⟩:=u0.tbls b ps e;exact⟨more,by rw[ik (j5 e1 hn)];exact e1⟩
 have hok:HOk X.prog X.w (upd H' acc ho) h':=λb o e=>by
  by_cases hb:b=acc
  .subst hb;rw[m5]at e;cases e
   exact hob
  .rw[ik hb]at e;refine(jh b o e).stay (λc v hc q=>k c v ?_ q) (λc q=>by rw[ik (j5 q hn)];exact q) λc xs q=>by rw[ik (j5 q hn)];exact q
   rcases hc with z|z
   .rw[z];exact j5 e fC
   .exact j5 z fC
 have J':=I.call (g':=s'.gens) (t':=s'.toks) (d':=s'.drawn) (ch:=fp) u hok J.bare λb hb=>⟨(hf b hb).2.2.2.1,(hf b hb).2.1,(hf b hb).2.2.2.2.1,(hf b hb).2.2.2.2.2⟩;have eo:=J.os;rw[q6]at eo;obtain⟨hp,g,d,t,o⟩:=s';have eo':o=s.os:=eo;subst eo';exact J'
theorem aya{Y:Cx}(ok:Y.Ok)(hp:Y.pn=[])(hn:H' b=none)(hb:b∈Y.ex):FpOk Y [] H' b :=
 ⟨hn,(ok.exf b hb).1,ok.exfs b hb,.inl hb,(ok.exf b hb).2,λp h=>by rw[hp]at h;exact absurd h (by simp)⟩
theorem aqf{Y:Cx}(ok:Y.Ok)(hp:Y.pn=[])(hn:H' b=none)(hb:b=Y.s₀.heap.objs.size)(hl:b≠Y.env.locals)(hc:∀x c,Y.env.cells.lookup x=some c->c≠b):FpOk Y [] H' b :=
 ⟨hn,hl,λz=>by
  obtain⟨_,o,ho,_⟩:=ok.funs.mem z;exact cO _ (bC (aX ho) (Nat.le_of_eq hb.symm)),.inr (Nat.le_of_eq hb.symm),hc,λp h=>by rw[hp]at h;exact absurd h (by simp)⟩
theorem aif(I:Inv X aA Z H s)(e:X.env.cells.lookup x=some c):c≠s.heap.objs.size:=λz=>by
 obtain⟨v,o,ho,_⟩:=I.cell x c e;rw[z]at ho;exact cO _ (aX ho)
def a6s(X:Cx)(aA:List (Addr×Obj))(Z:St)(use:Option (Value->Sem Unit))(Q:VK)(Qf:Value->Shared->Prop):Prop :=
 ∀(acc C:Addr) (s6:Shared) (H6:Hp) (m6:Str->Option Value),s6.heap.Ns C m6->FpOk X aA H6 C->(∀h',Heap.SameBut C s6.heap h'->Inv X aA Z H6 {s6 with heap:=h' })->Q (.ref acc) H6->
  compPost (model X.prog X.w) X.A X.xe use Qf (.ref acc) C (.ok .next) s6
theorem a8w:a6s X aA Z none Q (EP X aA Z Q):=λacc C s6 H6 m6 hn _ k q=>⟨m6,hn,λh' sb=>⟨.ref acc,H6,k h' sb,rfl,q⟩⟩
theorem ae2{D:Ends}(hN:X.N.Nodup)(hi:X.N[i]? = some x)(hx:Loc X.env.scope x)(hf:X.fn x=true\/X.env.scope.names.lookup x=some .local) :
  a6s X aA Z (some (assign (.Name x pos') X.env)) (λv H1=>a3p i v Z H1 D.nx) (λ_ s'=>SP X aA D .next s'):=by
 intro acc C s6 H6 m6 hn fp k q
 obtain⟨f1,f2,f3,f4,f5,f6⟩:=fp;have I6:Inv X aA Z H6 s6:=k s6.heap (Heap.SameBut.refl _ _);refine wpAny_assign_Name (aah (v:=.ref acc) I6 hN hi hx rfl (λs' I' ⟨a,sb,ha⟩=>⟨m6,hn.sameBut sb ?_,λh' sb'=>⟨_,H6,I'.turned (t':=s'.toks) (it:=C) (λb o hb e=>sb'.extBut b o hb e) f1 f2 f4 f5 f6,q⟩⟩) hf)
 rcases ha with ha|ha
 .rw[ha];exact f2
 .exact λz=>f5 x a ha z.symm
theorem aig{Y:Cx}{cnd:Option Expr}{N it:Addr}{fp:List Addr}{tn:Nat->Heap->Prop}{J:It}{Z0:St}{H2:Hp}{s4:Shared}{W:Nat->Nat->List V->Hp->Prop}{Q:VK}(hc:Y.calm=true)(no:∀v s,Y.xe v s->False)(hp0:Y.pn=[])(T:Turn Y.prog Y.w Y.K tg J fp it tn)
  (stat:∀{H':Hp},(∀b∈fp,H' b=none)->∀b∈fp,FpOk Y [] H' b) (statA:∀{H':Hp},H' N=none->FpOk Y [] H' N) (accF:N∉fp) (hg:PG Y tg g) (he:PE Y aD te) (ht:PTO Y cnd tc)
  (turn:∀i m ys H,W i m ys H->(J.stop i H/\∀p,H p=none->Q (.ref p) (upd H p (.lst ys)))\/(J.go i H/\ys.length<sizeLine/\∀x H',J.yld i H x H'->g x Z0 H' λZ2 H2=>Ext Z0 Z2/\tc Z2 H2 λok H2'=>if ok=true then te Z2 H2' (λy H3=>∃m',m'<m/\W (i+1) m' (ys++[y]) H3) else ∃m',m'<m/\W (i+1) m' ys H2'))
  (w0:W 0 m0 [] H2) (K0:Inv Y [] Z0 H2 s4) (st4:tn 0 s4.heap) (f0:∀b∈fp,H2 b=none) (fa:H2 N=none) (hacc:s4.heap.get? N=some {cls:=.type "list",data:=.seq ([]:List Value).toArray 0})
  (fin:∀s6 H6 ys its k,Inv Y [(N,{cls:=.type "list",data:=.seq its.toArray k})] Z0 H6 s6->H6 N=none->Vals ys its->ys.length<=sizeLine->(∀p,H6 p=none->Q (.ref p) (upd H6 p (.lst ys)))->R (.ok .next) s6) :
  codeAny (model Y.prog Y.w) Y.A (.compLoop (.ListComp aD [⟨tg,aF,cnd.toList,0⟩] aB pos) 0 (.ref it) (.ref N) Y.env) R s4:=by
 refine aid no (λn s'=>∃i Z' H' ys its k,Inv Y [] Z' H' s'/\Ext Z0 Z'/\tn i s'.heap/\(∀b∈fp,H' b=none)/\H' N=none /\
  s'.heap.get? N=some {cls:=.type "list",data:=.seq its.toArray k}/\Vals ys its/\ys.length<=sizeLine/\W i n ys H') ?_ m0
  ⟨0,_,H2,[],[],0,K0,⟨rfl,λ_ _ z=>z⟩,st4,f0,fa,hacc,.nil,bU _,w0⟩
 rintro n s5 ⟨i,Z5,H5,ys,its,k5,I5,x5,st5,fr5,fa5,ac5,rv5,hz5,w5⟩
 have I5':Inv Y [] Z0 H5 s5:=I5.weak x5.1.symm x5.2;obtain⟨ob,hob⟩:∃ob:Obj,ob={cls:=.type "list",data:=.seq its.toArray k5}:=⟨_,rfl⟩;rw[<-hob]at ac5;have IP:Inv Y [(N,ob)] Z0 H5 s5:=I5'.pins_of λp hp=>by
  rw[av.mp hp];obtain⟨a0,a1,a2,_⟩:=statA fa5;exact⟨ac5,a0,a1,a2,λv z=>by rw[hob]at z;cases z⟩
 have FB:∀b∈fp,FpOk Y [(N,ob)] H5 b:=λb hb=>by
  obtain⟨b0,b1,b2,b3,b4,b5⟩:=stat fr5 b hb;refine⟨b0,b1,b2,b3,b4,λp hp=>?_⟩;rw[hp0]at hp;rw[av.mp hp];exact λz=>accF (by have z':N=b:=z;rw[z'];exact hb)
 rcases turn i n ys H5 w5 with⟨stop,qn⟩|⟨go,hlt,step⟩
 .refine thn (T.done Y rfl rfl rfl hc i [(N,ob)] s5 _ H5 _ IP FB st5 stop) ?_
  rintro r s6 ⟨hr,I6⟩
  subst hr;rw[hob]at I6;exact fin s6 H5 ys its k5 I6 fa5 rv5 hz5 qn
 .refine thn (T.item Y rfl rfl rfl hc i [(N,ob)] s5 _ H5 _ IP FB st5 go) ?_
  rintro r s6 ⟨u,hr,h6⟩
  subst hr;refine thn h6 ?_
  rintro _ s7 ⟨x,H7,I7,r7,y7,st7,fr7⟩
  obtain⟨ac7,fa7,_⟩:=I7.pin (N,ob) (by simp)
  have I7':Inv Y (xr (N::fp) s7.heap) Z0 H7 s7:=by
   show Inv Y ([]++xr (N::fp) s7.heap) _ _ _;refine Inv.pinned I7.unpinned' (λb hb=>?_) λb hb=>?_
   .rcases aP.mp hb with e|e
    .subst e;exact statA fa7
    .exact stat fr7 b e
   .rcases aP.mp hb with e|e
    .subst e;exact⟨_,ac7,λv z=>by rw[hob]at z;cases z⟩
    .exact T.obj _ _ st7 b e
  have keep:∀{Z':St} {H9:Hp} {s9:Shared} {ps:List (Addr×Obj)},Inv Y (xr (N::fp) s7.heap) Z' H9 s9->(s9.heap.get? N=some ob/\H9 N=none)/\∀b∈fp,(∀o,s7.heap.get? b=some o->s9.heap.get? b=some o)/\H9 b=none:=λI9=>by
   refine⟨?_,λb hb=>?_⟩
   .obtain⟨z1,z2,_⟩:=I9.pin (N,ob) (bb _ (mz aT ac7));exact⟨z1,z2⟩
   .obtain⟨o,e,_⟩:=T.obj _ _ st7 b hb;obtain⟨z1,z2,_⟩:=I9.pin (b,o) (bb _ (mz (aI _ hb) e));exact⟨λo' e'=>by rw[e]at e';cases e';exact z1,z2⟩
  refine thn (hg _ s7 _ H7 x u _ I7' r7 (step x H7 y7)) ?_
  rintro _ s8 ⟨Z8,H8,I8,x8,q8⟩
  refine thn (ht _ s8 _ H8 _ I8 q8) ?_
  rintro ok s8' ⟨H8',I8',q8'⟩
  cases ok with
  |false =>
   rw[bA bJ]at q8' ⊢;obtain⟨m',hm',w9⟩:=q8';obtain⟨⟨ac9,fa9⟩,k9⟩:=keep (ps:=[]) I8';exact⟨m',hm',i+1,Z8,H8',ys,its,k5,I8'.unpinned',x8,T.keep _ _ _ st7 λb hb o e=>(k9 b hb).1 o e,λb hb=>(k9 b hb).2,fa9,by rw[ac9,hob],rv5,hz5,w9⟩
  |true =>
   rw[aU rfl]at q8' ⊢;refine thn (he _ s8' _ H8' _ I8' q8') ?_
   rintro yv s9 ⟨y,H9,I9,r9,m',hm',w9⟩
   obtain⟨⟨ac9,fa9⟩,k9⟩:=keep (ps:=[]) I9;rw[hob]at ac9;have hl:=rv5.length;refine gu F.slot_list_append ⟨_,ac9,rfl⟩ F.entry_list_append (F.args_list_append_2 _ _) (PySem.list_append N its.toArray k5 yv (by rw[aV];omega)) ⟨ac9,?_⟩
   have q:=PySem.IsL.update ac9 (λa=>a.push yv);have qo:∀b o,b≠N->s9.heap.get? b=some o->(s9.heap.update N (Obj.mapSeq (λa=>a.push yv))).get? b=some o:=λb o hb e=>(dR s9.heap _ (fI hb)).trans e;have q':∃k,(s9.heap.update N (Obj.mapSeq (λa=>a.push yv))).get? N=some {cls:=.type "list",data:=.seq (its++[yv]).toArray k}:=⟨_,by rw[q];simp;rfl⟩
   obtain⟨k9',q9⟩:=q';obtain⟨a0,a1,a2,a3,a4,a5⟩:=statA fa9;refine⟨m',hm',i+1,Z8,H9,ys++[y],its++[yv],k9',(I9.unpinned').turned qo a0 a1 a3 a4 a5,x8,T.keep _ _ _ st7 λb hb o e=>qo b o (λz=>accF (z ▸ hb)) ((k9 b hb).1 o e),λb hb=>(k9 b hb).2,fa9,q9,rv5.append (.cons r9 .nil),?_,w9⟩;rw[aw,aM];omega
theorem a7x{aD tg aF:Expr}{cnd:Option Expr}{aB:Scope}{pos ppos:Pos}{cl:List (Str×Addr)}{tt:Option Str}{ts fr:List Str}{ix:List Nat}{wi:TI}{g:TG}{tc:TT}{te:TE}(hc:X.calm=true)(S:CSg X aB cl tt ts fr ix)(hi:PI X tg aF wi)
  (hg:∀C fp s H,PG (cxG X (ts++fr) aB cl tt C fp s H) tg g) (he:∀C fp s H,PE (cxG X (ts++fr) aB cl tt C fp s H) aD te) (ht:∀C fp s H,PTO (cxG X (ts++fr) aB cl tt C fp s H) cnd tc) (hs:∀x,foldedSetIterable aF X.env x=pure x)
  (use:Option (Value->Sem Unit)) {aA:List (Addr×Obj)} {s:Shared} {Z:St} {H:Hp} {Q:VK} {Qf:Value->Shared->Prop} (I:Inv X aA Z H s) (h:a5p wi (zf ts.length ix) g tc te Z H Q) (fin:a6s X aA Z use Q Qf) :
  wpAny (model X.prog X.w) X.A (comprehension (.ListComp aD [⟨tg,aF,cnd.toList,0⟩] aB pos) aB X.env ppos (newList []) false (eval aF X.env) use) Qf X.xe s:=by
 refine wpAny_comprehension_free (use:=use) rfl hs S.clos S.kind S.names (thn (hi aA s Z H _ I h) λv s1 h1=>thn h1 λitv s2 h2=>?_);obtain⟨it,fp,tn,J,H2,e,I2,T,st2,f2,W,⟨m0,w0⟩,turn⟩:=h2;subst e;have hob:∀b∈fp,b<s2.heap.objs.size:=λb hb=>let ⟨o,e,_⟩:=T.obj _ _ st2 b hb;aX e;refine cU (aib S.own S.push S.kind λh4 hns4 hc4 hsb4=>?_);dsimp only at hns4 hc4 hsb4 ⊢
 generalize hH2:s2.heap.push {cls:=.type "list",dict:=none,data:=.seq ([]:List Value).toArray}=G at hns4 hc4 hsb4 ⊢
 have hCs:G.objs.size=s2.heap.objs.size+1:=by rw[<-hH2,cb]
 have hCle:s2.heap.objs.size<=G.objs.size:=by omega
 have hne:G.objs.size≠s2.heap.objs.size:=by omega
 have old:∀b o,s2.heap.get? b=some o->h4.get? b=some o:=λb o e=>by
  have hlt:=aX e;exact hsb4 b o (hH2 ▸ ar _ e)
 have hacc:h4.get? s2.heap.objs.size=some {cls:=.type "list",data:=.seq ([]:List Value).toArray 0} :=
  hsb4 _ _ (hH2 ▸ aO _ rfl)
 have K0:Inv (cxG X (ts++fr) aB cl tt G.objs.size fp s2 H2) [] (zf ts.length ix Z) H2 {s2 with heap:=h4} :=
  aie S I2 f2 hob hCle old hns4 hc4 rfl rfl
 have st4:tn 0 h4:=T.keep _ _ _ st2 λb _ o e=>old b o e;have accF:s2.heap.objs.size∉fp:=λz=>cO _ (hob _ z);have stat:∀{H':Hp},(∀b∈fp,H' b=none)->∀b∈fp,FpOk (cxG X (ts++fr) aB cl tt G.objs.size fp s2 H2) [] H' b:=λhn b hb =>
  aya (aay S I2 f2 hob hCle) rfl (hn b hb) hb
 have statA:∀{H':Hp},H' s2.heap.objs.size=none->FpOk (cxG X (ts++fr) aB cl tt G.objs.size fp s2 H2) [] H' s2.heap.objs.size:=λhn =>
  aqf (aay S I2 f2 hob hCle) rfl hn rfl (fI hne) λx c e=>by
   rcases look e with⟨_,rfl⟩|⟨_,e⟩
   .exact λz=>no3 z hCle
   .exact aif I2 (S.sub x c e)
 have loop:codeAny (model X.prog X.w) X.A (.compLoop (.ListComp aD [⟨tg,aF,cnd.toList,0⟩] aB pos) 0 (.ref it) (.ref s2.heap.objs.size) (compEnvC aB (aqe tt (G.objs.size+1) cl) G.objs.size X.env))
   (compPost (model X.prog X.w) X.A X.xe use Qf (.ref s2.heap.objs.size) G.objs.size) {s2 with heap:=h4} :=
  aig (Y:=cxG X (ts++fr) aB cl tt G.objs.size fp s2 H2) hc (λ_ _ h=>h) rfl T stat statA accF (hg _ _ _ _) (he _ _ _ _) (ht _ _ _ _) turn w0 K0 st4 (λb hb=>(f2 b hb).1) (I2.hok.fresh (ay _)) hacc λs6 H6 ys its k I6 fa rv hz qn=>by
   have e6:=(I6.pin (s2.heap.objs.size,{cls:=.type "list",data:=.seq its.toArray k}) (by show _∈[]++[_];simp)).1
   obtain⟨m6,hn6,_⟩:=I6.loc;exact fin _ _ s6 _ m6 hn6 (I2.fpOk hCle (by rw[ik hne];exact I6.free)) (λh' sb=>a7w (Y:=cxG X (ts++fr) aB cl tt G.objs.size fp s2 H2) (ho:=.lst ys) I2 f2 hCle (ay _) ⟨rfl,rfl,rfl,rfl,rfl,rfl,rfl⟩ I6.unpinned' fa ⟨hz,its,k,rv,sb.extBut _ _ (fI hne) e6⟩ sb) (qn _ fa)
 exact codeAny_compStart_list loop (T.self _ 0 _ _ _ st4 loop)
theorem aaz(hc:X.calm=true)(S:CSc X aB cl ts fr ix)(hi:PI X tg aF wi)
  (hg:∀C fp s H,PG (cxC X (ts++fr) aB cl C fp s H) tg g) (he:∀C fp s H,PE (cxC X (ts++fr) aB cl C fp s H) aD te) (hs:∀x,foldedSetIterable aF X.env x=pure x)
  (use:Option (Value->Sem Unit)) (I:Inv X aA Z H s) (h:aic wi (zf ts.length ix) g te Z H Q) (fin:a6s X aA Z use Q Qf) :
  wpAny (model X.prog X.w) X.A (comprehension (.ListComp aD [⟨tg,aF,[],0⟩] aB pos) aB X.env ppos (newList []) false (eval aF X.env) use) Qf X.xe s:=by
 refine a7x (cnd:=none) (tc:=λZ H Q=>Q true H) hc S hi hg he (λ_ _ _ _ aA s Z H Q I h=>aJ ⟨H,I,h⟩) hs use I ?_ fin;unfold a5p aco;unfold aic ata at h;simpa only[dQ] using h
theorem ana(hc:X.calm=true)(S:CSc X aB cl ts fr ix)(hi:PI X tg aF wi)
  (hg:∀C fp s H,PG (cxC X (ts++fr) aB cl C fp s H) tg g) (he:∀C fp s H,PE (cxC X (ts++fr) aB cl C fp s H) aD te)
  (hs:∀x,foldedSetIterable aF X.env x=pure x:=by intro _;rfl) :
  PE X (.ListComp aD [⟨tg,aF,[],0⟩] aB pos) (aic wi (zf ts.length ix) g te):=by
 intro aA s Z H Q I h
 rw[eval_ListComp];exact aaz hc S hi hg he hs none I h a8w
theorem anb{spos:Pos}(hN:X.N.Nodup)(hi':X.N[i]? = some x)(hx:Loc X.env.scope x)(hc:X.calm=true)(S:CSc X aB cl ts fr ix)(hi:PI X tg aF wi)
  (hg:∀C fp s H,PG (cxC X (ts++fr) aB cl C fp s H) tg g) (he:∀C fp s H,PE (cxC X (ts++fr) aB cl C fp s H) aD te)
  (hs:∀x,foldedSetIterable aF X.env x=pure x:=by intro _;rfl) (hsw:swapsWith (.ListComp aD [⟨tg,aF,[],0⟩] aB pos) (some (.Name x pos')) spos.line X.env=pure true:=by rfl) (hf:Hf X x:=by first|exact .inl rfl|exact .inr rfl|assumption) :
  PS X (.Assign [.Name x pos'] (.ListComp aD [⟨tg,aF,[],0⟩] aB pos) spos) (b1t (aic wi (zf ts.length ix) g te) (a3p i)):=by
 intro aA s Z H D I h
 rw[exec_Assign_Name_used _ _ _ _ hsw];refine ai (dB (ai ?_));refine ai (bO (aaz hc S hi hg he hs (some (assign (.Name x pos') X.env)) I h (ae2 hN hi' hx hf)) (λ_ s' hq=>aJ (aJ hq)) λ_ _ e=>e)
end
section
variable{K:Type}[DecidableEq K]
def stepK(l:List K)(v:K):List K:=if v∈l then l else l++[v]
end
end L2
namespace L2
theorem ayb:bootBuiltins "len" = some (.builtin "len"):=PySem.boot_len
theorem a8x:bootBuiltins "isinstance" = some (.builtin "isinstance"):=by first|exact PySem.boot_isinstance|exact PyProof.Rows.boot_isinstance
theorem ayc:bootBuiltins "str" = some (.type "str"):=by first|exact PySem.boot_str|exact PyProof.Rows.boot_str
theorem ayd:bootBuiltins "all" = some (.builtin "all"):=by first|exact PySem.boot_all|exact PyProof.Rows.boot_all
theorem aye:bootBuiltins "abs" = some (.builtin "abs"):=by first|exact PySem.boot_abs|exact PyProof.Rows.boot_abs
theorem aqg:bootBuiltins "int" = some (.type "int"):=by first|exact PySem.boot_int|exact PyProof.Rows.boot_int
theorem ae3:bootBuiltins "tuple" = some (.type "tuple"):=by first|exact PySem.boot_tuple|exact PyProof.Rows.boot_tuple
structure Dn (P:Program) (w:World) (K:Fg) (mg:Str->Option Value) (base:Heap) (k:Nat) (x:Str) (ps:List Str) (sp:Sp) (f:Addr) (fd:FuncData):Prop where
 ok:FnOk P w K mg base CX0 k f fd ps sp
 m:mg x=some (.ref f)
 kp:PySem.W.keepIn K (.ref f)=true
 b:Binds K fd ps []
theorem atb:sizeLine=16777216:=eS
theorem atc(h:n<=16777216):n<=sizeLine:=by rw[eS];exact h
theorem CSc.noFree{aB:Scope}(kind:aB.kind=.function)(h:∀y∈aB.names,y.2≠.cell/\y.2≠.free)(names:∀y∈aB.names,y.2=.local->aB.names.lookup y.1=some .local)
  (ht:∀y∈ts,aB.names.lookup y=some .local):CSc X aB [] ts [] []:=by
 have e:(relabel aB X.env).names=aB.names:=by
  show aB.names.map _=_;refine map_eq_self λy hy=>?_;obtain⟨n,k⟩:=y;have:(k == NameKind.free)=false:=by simpa using (h _ hy).2
  simp[this]
 refine⟨closureFor_none λy hy=>(h y hy).2,kind,λ_=>a8v λy hy=>(h y hy).1,λ_=>acn λy hy=>(h y hy).1,names,(λ_ _ z=>nomatch z),λy z=>?_,rfl,(λ_ _ z=>by simp at z)⟩
 rw[e]at z
 rcases z with z|z
 .exact absurd rfl (h _ (cK z)).1
 .exact absurd rfl (h _ (cK z)).2
theorem b38(x y:Str):(x++y).cps.toList=x.cps.toList++y.cps.toList:=by
 show(x.cps++y.cps).toList=_;simp
theorem aih{α:Type}(xs:List α)(k:Nat):a8u xs none (some (k:Int))=xs.take k:=by
 unfold a8u;rw[HT.adw,HT.ahw,List.drop_zero,Nat.sub_zero]
 by_cases h:k<=xs.length
 .rw[gC h]
 .rw[Nat.min_eq_right (by omega),bP (ay _),bP (by omega)]
theorem aii{α:Type}(xs:List α)(k:Nat):a8u xs (some (k:Int)) none=xs.drop k:=by
 unfold a8u;rw[HT.adw,HT.ahw]
 by_cases h:k<=xs.length
 .rw[gC h,bP (by rw[cZ];omega)]
 .rw[Nat.min_eq_right (by omega),cF (ay _),cF (by omega),List.take_nil]
end L2
namespace L2
open PyProof.Rows
section
variable{X:Cx}
theorem a6t(hc:X.calm=true)(S:CSc X aB cl ts fr ix)(hi:PI X tg aF wi)
  (hg:∀C fp s H,PG (cxC X (ts++fr) aB cl C fp s H) tg g) (he:∀C fp s H,PE (cxC X (ts++fr) aB cl C fp s H) aD te) (ht:∀C fp s H,PT (cxC X (ts++fr) aB cl C fp s H) cnd tc) (hs:∀x,foldedSetIterable aF X.env x=pure x)
  (use:Option (Value->Sem Unit)) (I:Inv X aA Z H s) (h:a5p wi (zf ts.length ix) g tc te Z H Q) (fin:a6s X aA Z use Q Qf) :
  wpAny (model X.prog X.w) X.A (comprehension (.ListComp aD [⟨tg,aF,[cnd],0⟩] aB pos) aB X.env ppos (newList []) false (eval aF X.env) use) Qf X.xe s :=
 a7x (cnd:=some cnd) hc S hi hg he ht hs use I h fin
theorem aft(hc:X.calm=true)(S:CSc X aB cl ts fr ix)(hi:PI X tg aF wi)
  (hg:∀C fp s H,PG (cxC X (ts++fr) aB cl C fp s H) tg g) (he:∀C fp s H,PE (cxC X (ts++fr) aB cl C fp s H) aD te) (ht:∀C fp s H,PT (cxC X (ts++fr) aB cl C fp s H) cnd tc)
  (hs:∀x,foldedSetIterable aF X.env x=pure x:=by intro _;rfl) :
  PE X (.ListComp aD [⟨tg,aF,[cnd],0⟩] aB pos) (a5p wi (zf ts.length ix) g tc te):=by
 intro aA s Z H Q I h
 rw[eval_ListComp];exact a6t hc S hi hg he ht hs none I h a8w
theorem afu{spos:Pos}(hN:X.N.Nodup)(hi':X.N[i]? = some x)(hx:Loc X.env.scope x)(hc:X.calm=true)(S:CSc X aB cl ts fr ix)(hi:PI X tg aF wi)
  (hg:∀C fp s H,PG (cxC X (ts++fr) aB cl C fp s H) tg g) (he:∀C fp s H,PE (cxC X (ts++fr) aB cl C fp s H) aD te) (ht:∀C fp s H,PT (cxC X (ts++fr) aB cl C fp s H) cnd tc)
  (hs:∀x,foldedSetIterable aF X.env x=pure x:=by intro _;rfl) (hsw:swapsWith (.ListComp aD [⟨tg,aF,[cnd],0⟩] aB pos) (some (.Name x pos')) spos.line X.env=pure true:=by rfl) (hf:Hf X x:=by first|exact .inl rfl|exact .inr rfl|assumption) :
  PS X (.Assign [.Name x pos'] (.ListComp aD [⟨tg,aF,[cnd],0⟩] aB pos) spos) (b1t (a5p wi (zf ts.length ix) g tc te) (a3p i)):=by
 intro aA s Z H D I h
 rw[exec_Assign_Name_used _ _ _ _ hsw];refine ai (dB (ai ?_));refine ai (bO (a6t hc S hi hg he ht hs (some (assign (.Name x pos') X.env)) I h (ae2 hN hi' hx hf)) (λ_ s' hq=>aJ (aJ hq)) λ_ _ e=>e)
end
section
variable{X:Cx}
def a4k(T:Str)(c:Nat):Int:=Txt.find T ⟨#[c]⟩
theorem acp(s sub:Str)(hi limit:Nat):∀(l:List Nat) (st:Array Nat×Nat) (k:Nat),k∈(forIn l st (StrLaws.occBody s sub hi limit)).run.fst.toList->k∈st.fst.toList\/(k+sub.length<=hi/\Builtin.Str.subAt s sub k=true)
 |[],st,k,h=>.inl h
 |a::l,st,k,h=>by
  rw[List.forIn_cons]at h;unfold StrLaws.occBody at h
  split at h
  .rename_i c
   rcases acp s sub hi limit l _ k h with z|z
   .simp at z
    rcases z with z|z
    .exact .inl (by simpa using z)
    .subst z;exact .inr ⟨c.1.2,c.2⟩
   .exact .inr z
  .rcases acp s sub hi limit l _ k h with z|z
   .exact .inl z
   .exact .inr z
theorem a8y{T:Str}(h:c∈T.cps.toList):∃i:Nat,a4k T c=(i:Int)/\T.cps.toList[i]? = some c/\∃aG,Builtin.Str.occurrences T ⟨#[c]⟩ 0 T.length 1=i::aG:=by
 have h1:=i6 T c;rw[aK h]at h1
 cases ho:Builtin.Str.occurrences T ⟨#[c]⟩ 0 T.length 1 with
 |nil=>rw[ho]at h1;cases h1
 |cons i aG =>
  refine⟨i,by simp[a4k,Txt.find,ho],?_,aG,rfl⟩
  rw[StrLaws.occ_eq]at ho;have hm:=acp T ⟨#[c]⟩ T.length 1 (List.range' 0 (T.length+1-0)) (#[],0) i (by rw[ho];exact aT)
  rcases hm with z|z
  .simp at z
  .exact(StrLaws.subAt_one T c i).mp z
theorem atd:OpR X (compareOp .In) (λx y H Q=>∃c T,x=.str ⟨#[c]⟩/\y=.str T/\Q (.bl (decide (c∈T.cps.toList))) H):=by
 intro aA s Z H x y v u Q I rx ry h
 obtain⟨c,T,rfl,rfl,q⟩:=h;exact ahn aA s Z H _ _ v u Q I rx ry ⟨_,_,rfl,rfl,by rw[i6];exact q⟩
theorem afv:OpR X (compareOp .NotIn) (λx y H Q=>∃c T,x=.str ⟨#[c]⟩/\y=.str T/\Q (.bl (!decide (c∈T.cps.toList))) H):=by
 intro aA s Z H x y v u Q I rx ry h
 obtain⟨c,T,rfl,rfl,q⟩:=h;exact aak aA s Z H _ _ v u Q I rx ry ⟨_,_,rfl,rfl,by rw[i6];exact q⟩
theorem ate:MtR X "str.find" (λx xs H Q=>∃T c,x=.str T/\xs=[.str ⟨#[c]⟩]/\Q (.int (a4k T c)) H):=by
 intro aA s Z H x xs v us Q I rx rs h
 obtain⟨T,c,rfl,rfl,q⟩:=h;obtain⟨t,rfl⟩:=rx;obtain⟨u,rfl,t',rfl⟩:=vals1 rs;exact gu F.slot_str_find (iV _ _ _) F.entry_str_find (F.args_str_find_2 _ _) (gives_str_find _ _ _ _).meets ⟨.int (a4k T c),H,I.tok _,⟨_,rfl⟩,q⟩
theorem anc:MtR X "str.index" (λx xs H Q=>∃T c,x=.str T/\xs=[.str ⟨#[c]⟩]/\c∈T.cps.toList/\Q (.int (a4k T c)) H):=by
 intro aA s Z H x xs v us Q I rx rs h
 obtain⟨T,c,rfl,rfl,hc,q⟩:=h;obtain⟨t,rfl⟩:=rx;obtain⟨u,rfl,t',rfl⟩:=vals1 rs;obtain⟨i,e1,e2,aG,ho⟩:=a8y hc;refine gu F.slot_str_index (iV _ _ _) F.entry_str_index (F.args_str_index_2 _ _) (gives_str_index _ _ _ _ i aG ho).meets ⟨.int (a4k T c),H,I.tok _,⟨_,by rw[e1]⟩,q⟩
theorem atf{zs:List Str}:∀{us:List Value},Vals (zs.map V.str) us->StrsAre us zs:=by
 induction zs with
 |nil=>intro us r;rw[dM]at r;cases r;exact .nil
 |cons z zs ih =>
  intro us r
  rw[bg]at r
  cases r with
  |cons r1 r2 =>
   obtain⟨t,e⟩:=r1;subst e;exact .cons z t (ih r2)
theorem atg:MtR X "str.join" (λx xs H Q=>∃sep p zs,x=.str sep/\xs=[.ref p]/\SqL X.K H p (zs.map V.str)/\(zs.map (·.length)).sum+zs.length*sep.length<=16777216/\Q (.str (Txt.join sep zs)) H):=by
 intro aA s Z H x xs v us Q I rx rs h
 obtain⟨sep,p,zs,rfl,rfl,hp,hz,q⟩:=h;obtain⟨t,rfl⟩:=rx;obtain⟨u,rfl,ru⟩:=vals1 rs;cases ru
 obtain⟨its,r,pl,_⟩:=I.list hp;exact join_list pl.isList (by simpa using atf r) hz λt' k=>⟨.str _,H,I.tok _,⟨_,rfl⟩,q⟩
end
theorem CSc.of{X:Cx}{ts fr:List Str}{ix:List Nat}(clos:closureFor aB X.env=pure cl)(kind:aB.kind=.function)
  (nocell:(aB.names.all λp=>p.2 != .cell)=true) (names:(aB.names.all λp=>p.2 != .local || aB.names.lookup p.1 == some .local)=true) (sub:∀p∈cl,X.env.cells.lookup p.1=some p.2)
  (has:((relabel aB X.env).names.all λp => !(p.2 == .cell || p.2 == .free) || (cl.lookup p.1).isSome)=true) (nofn:(ts.all λy=>(relabel aB X.env).names.lookup y == some .local)=true)
  (len:ix.length=fr.length) (vis:((fr.zip ix).all λp=>X.N[p.2]? == some p.1 && (X.env.kindOf p.1 == some .cell || X.env.kindOf p.1 == some .free) && ((relabel aB X.env).names.lookup p.1 == some .cell || (relabel aB X.env).names.lookup p.1 == some .free))=true) :
  CSc X aB cl ts fr ix:=by
 have nc:∀y∈aB.names,y.2≠.cell:=λy hy=>by
  have:=bI.mp nocell y hy
  simpa using this
 refine⟨clos,kind,λ_=>a8v nc,λ_=>acn nc,λy hy e=>?_,λy c e=>sub _ (cK e),λy z=>.inr ?_,len,λj y e=>⟨nofun,?_⟩⟩
 .have:=bI.mp names y hy
  rw[e]at this;simpa using this
 .have key:∀k,(relabel aB X.env).names.lookup y=some k->(k == .cell || k == .free)=true->∃c,cl.lookup y=some c:=λk e hk=>by
   have:=bI.mp has _ (cK e)
   rw[hk]at this;exact hV.mp (by simpa using this)
  rcases z with z|z
  .exact key _ z rfl
  .exact key _ z rfl
 .obtain⟨hj,_⟩:=ah.mp e;have hj2:j<ix.length:=by omega
  have hm:(y,ix[j])∈fr.zip ix:=by
   rw[List.mem_iff_getElem?];exact⟨j,by rw[cc];exact⟨e,ag hj2⟩⟩
  have:=bI.mp vis _ hm
  simp only[ba,iQ,i5]at this;exact⟨ix[j],ag hj2,this.1.1,this.1.2,this.2⟩
def tSM(r:V->List V->Hp->VK->Prop)(to:TE)(t:TA):TE:=λZ H Q=>to Z H λx H1=>(∃z,x=.str z)/\t Z H1 λxs H2=>r x xs H2 Q
theorem b39{X:Cx}{o e:Expr}{es:List Expr}{to:TE}{t:TA}{name:Str}{apos cpos:Pos}{id:String}{r:V->List V->Hp->VK->Prop}(slot:Slot "str" name id)(hty:typeOf (.builtin id)=pure (.type "method_descriptor"))(hm:MtR X id r)(ho:PE X o to)(ha:PA X (e::es) t)
  (hbase:attributeBase o name X.env (eval o X.env)=eval o X.env:=by rfl)
  (hfew:((backTo cpos (starEach (e::es) X.env)).all (λx => !x.1) && (backToKw cpos (keywordEach [] X.env)).all (λx=>x.1.isSome)
   && decide ((e::es).length+([]:List Keyword).length+(if ([]:List Keyword).isEmpty then 0 else 1)<30))=true:=by rfl)
  (hline:(apos.endLine == cpos.line)=true:=by rfl) (hs:starEach (e::es) X.env=(false,eval e X.env)::starEach es X.env:=by rfl) (hplain:(backTo cpos (starEach es X.env)).any (·.1)=false:=by rfl) :
  PE X (.Call (.Attribute o name apos) (e::es) [] cpos) (tSM r to t):=by
 intro aA s Z H Q I h
 refine wpAny_Call_method_late hbase hfew hline rfl (thn (ho aA s Z H _ I h) λv s1 ⟨x,H1,I1,r1,⟨z,hz⟩,q1⟩=>?_);subst hz;obtain⟨h1,h2⟩:=aqa (T := "str") I1 r1 rfl;refine⟨"str",id,PySem.F.plainAttrs_str,slot,hty,h1,h2,?_⟩;have hA:=ha cpos aA s1 Z H1 _ I1 q1;rw[hs]at hA ⊢;refine eK (by show(false || (backTo cpos (starEach es X.env)).any (·.1))=false;rw[hplain]<;>rfl) (fX ?_)
 exact thn hA λus s2 ⟨vs,H2,I2,r2,q2⟩=>hm aA s2 Z H2 _ vs v us Q I2 r1 r2 q2
section
variable{X:Cx}
theorem afw(hc:X.calm=true):CallR X (.builtin "sum") (λxs H Q=>∃(p:Addr) (ns:List Int),xs=[.ref p]/\SqL X.K H p (ns.map V.int)/\Q (.int ns.sum) H):=by
 intro aA s Z H xs us Q I r h
 obtain⟨p,ns,rfl,hq,q⟩:=h;obtain⟨u,rfl,rx⟩:=vals1 r;cases rx
 obtain⟨its,r',pl,hz⟩:=I.list hq;have hInts:IntsAre its ns:=intsAre_of r';obtain⟨prs,ep⟩:=hInts.allInts.items;refine sum_intListG (xs:=prs) (I.ok.hd hc) (ep ▸ pl.isList) λh' tk t' hk=>⟨.int ns.sum,H,I.kept hk,⟨t',?_⟩,q⟩;have nums:prs.toList.map (·.1)=ns:=by
  rw[<-nums_intItems,<-ep];exact hInts.numsOf
 have tot:preSum (numAt prs) prs.size=ns.sum:=by
  rw[preSum_eq,<-nums]
  congr 1
  exact bP (by simp)
 rw[tot]
end
end L2
namespace MI
open L2
inductive D where
 |non|bl (b:Bool)|int (i:Int)|str (x:Str)|ty (n:String)|tup (xs:List D)|rol (xs:List D)|ref (i:Nat)|scr (xs:List D)|rod (ks:List Key) (xs:List D)|rdT (ks:List (List Key)) (xs:List D)|exc (c:Str)|ins (c:Str) (ks:List Str) (xs:List D)
inductive O where
 |lst (xs:List D)|dK (kvs:List (Key×D))|dT (kvs:List (List Key×D))|ins (c:Str) (fs:List (Str×D))
abbrev Hd:=List O
abbrev Sd:=List (Option D)
inductive R (α:Type) where
 |ok (a:α) (h:Hd)|ex (c:Str) (h:Hd)|no
noncomputable def R.bind{α β:Type}:R α->(α->Hd->R β)->R β
 |.ok a h,k=>k a h
 |.ex c h,_=>.ex c h
 |.no,_=>.no
inductive Fl where
 |nx (Z:Sd) (h:Hd)|rt (d:D) (h:Hd)|bk (Z:Sd) (h:Hd)|ct (Z:Sd) (h:Hd)|ex (c:Str) (h:Hd)|no
noncomputable def R.fl{α:Type}:R α->(α->Hd->Fl)->Fl
 |.ok a h,k=>k a h
 |.ex c h,_=>.ex c h
 |.no,_=>.no
abbrev SE:=Sd->Hd->R D
abbrev ST:=Sd->Hd->R Bool
abbrev SA:=Sd->Hd->R (List D)
abbrev SS:=Sd->Hd->Fl
def SqF(K:Fg)(H:Hp)(a:Addr)(vs:List V):Prop:=(∃o,H a=some (.frz o (.lst vs)))\/SqL K (λ_=>none) a vs
theorem SqF.l(h:SqF K H a vs):SqL K H a vs:=by
 rcases h with⟨o,h⟩|h
 .exact .inl (.inr ⟨o,h⟩)
 .rcases h with(h|⟨o,h⟩)|h
  .cases h
  .cases h
  .exact .inr h
def SqZ(H:Hp)(a:Addr)(vs:List V):Prop:=∃o,H a=some (.frz o (.lst vs))
theorem SqZ.l(h:SqZ H a vs):SqL K H a vs:=let ⟨o,e⟩:=h; .inl (.inr ⟨o,e⟩)
def exO(a:Addr):HO:=.ext λh=>∃o,h.get? a=some o
mutual
inductive Rep (K:Fg) (U:List Addr) (H:Hp):V->D->Prop
 |non:Rep K U H .non .non
 |bl (b:Bool):Rep K U H (.bl b) (.bl b)
 |int (i:Int):Rep K U H (.int i) (.int i)
 |str (x:Str):Rep K U H (.str x) (.str x)
 |ty (n:String):Rep K U H (.ty n) (.ty n)
 |tup {a:Addr} {vs:List V} {xs:List D} (h:H a=some (.tup vs)) (r:Reps K U H vs xs):Rep K U H (.ref a) (.tup xs)
 |rol {a:Addr} {vs:List V} {xs:List D} (h:SqZ H a vs) (r:Reps K U H vs xs):Rep K U H (.ref a) (.rol xs)
 |scr {a:Addr} {vs:List V} {xs:List D} (h:SqF K H a vs) (r:Reps K U H vs xs):Rep K U H (.ref a) (.scr xs)
 |ref {a:Addr} {i:Nat} (h:U[i]? = some a):Rep K U H (.ref a) (.ref i)
 |rod {a:Addr} {o:Obj} {us:List (Key×V)} {ks:List Key} {xs:List D} (h:H a=some (.frz o (.dK us))) (e:us.map (·.1)=ks) (r:Reps K U H (us.map (·.2)) xs):Rep K U H (.ref a) (.rod ks xs)
 |rdT {a:Addr} {o:Obj} {us:List (List Key×V)} {ks:List (List Key)} {xs:List D} (h:H a=some (.frz o (.dT us))) (e:us.map (·.1)=ks) (r:Reps K U H (us.map (·.2)) xs):Rep K U H (.ref a) (.rdT ks xs)
 |exc {a C:Addr} {o:Obj} {c:Str} (h:H a=some (.frz o (exO a))) (hc:o.cls=.ref C) (hn:PySem.W.nsIn K mainGlobals c=some (some (.ref C))):Rep K U H (.ref a) (.exc c)
 |ins {a C dx:Addr} {o:Obj} {c:Str} {us:List (Str×V)} {ks:List Str} {xs:List D} (h:H a=some (.frz o (.ins C dx us))) (hn:PySem.W.nsIn K mainGlobals c=some (some (.ref C))) (e:us.map (·.1)=ks) (r:Reps K U H (us.map (·.2)) xs):Rep K U H (.ref a) (.ins c ks xs)
inductive Reps (K:Fg) (U:List Addr) (H:Hp):List V->List D->Prop
 |nil:Reps K U H [] []
 |cons {v:V} {d:D} {vs:List V} {ds:List D} (r:Rep K U H v d) (rs:Reps K U H vs ds):Reps K U H (v::vs) (d::ds)
end
structure Gw (U:List Addr) (H:Hp) (U':List Addr) (H':Hp):Prop where
 pre:∃m,U'=U++m
 tup:∀a vs,H a=some (.tup vs)->H' a=some (.tup vs)
 frz:∀a o u,H a=some (.frz o u)->H' a=some (.frz o u)
structure Gr (U:List Addr) (H:Hp) (U':List Addr) (H':Hp):Prop where
 pre:∃m,U'=U++m/\∀a∈m,H a=none
 tup:∀a vs,H a=some (.tup vs)->H' a=some (.tup vs)
 frz:∀a o u,H a=some (.frz o u)->H' a=some (.frz o u)
 oth:∀a u,H a=some u->a∉U->H' a=some u
 kp:∀a u,H a=some u->∃u',H' a=some u'
theorem Gr.w(g:Gr U H U' H'):Gw U H U' H':=⟨let ⟨m,e,_⟩:=g.pre; ⟨m,e⟩,g.tup,g.frz⟩
theorem Gr.refl(U:List Addr)(H:Hp):Gr U H U H:=⟨⟨[],by simp,by simp⟩,λ_ _ h=>h,λ_ _ _ h=>h,λ_ _ h _=>h,λ_ u h=>⟨u,h⟩⟩
theorem Gr.trans(a:Gr U H U1 H1)(b:Gr U1 H1 U2 H2):Gr U H U2 H2:=by
 obtain⟨m,rfl,hm⟩:=a.pre;obtain⟨n,rfl,hn⟩:=b.pre;refine⟨⟨m++n,by simp,λx hx=>?_⟩,λx vs h=>b.tup x vs (a.tup x vs h),λx o u h=>b.frz x o u (a.frz x o u h),λx u h hx=>?_,λx u h=>?_⟩
 .rcases b9.mp hx with hx|hx
  .exact hm x hx
  .cases e:H x with
   |none=>rfl
   |some u =>
    obtain⟨u',e'⟩:=a.kp x u e;rw[hn x hx]at e';cases e'
 .refine b.oth x u (a.oth x u h hx) λz=>?_
  rcases b9.mp z with z|z
  .exact hx z
  .rw[hm x z]at h;cases h
 .obtain⟨u',e⟩:=a.kp x u h;exact b.kp x u' e
theorem Gw.at(g:Gw U H U' H'){i:Nat}(h:U[i]? = some a):U'[i]? = some a:=by
 obtain⟨m,rfl⟩:=g.pre;rw[aL (ah.mp h).1];exact h
theorem Gr.at(g:Gr U H U' H'){i:Nat}(h:U[i]? = some a):U'[i]? = some a:=g.w.at h
theorem SqF.monoW(g:Gw U H U' H')(h:SqF K H a vs):SqF K H' a vs:=by
 rcases h with⟨o,h⟩|h
 .exact .inl ⟨o,g.frz _ _ _ h⟩
 .exact .inr h
theorem SqZ.monoW(g:Gw U H U' H')(h:SqZ H a vs):SqZ H' a vs:=let ⟨o,e⟩:=h; ⟨o,g.frz _ _ _ e⟩
theorem SqZ.mono(g:Gr U H U' H')(h:SqZ H a vs):SqZ H' a vs:=h.monoW g.w
mutual
theorem Rep.monoW(g:Gw U H U' H'):∀{v:V} {d:D},Rep K U H v d->Rep K U' H' v d
 |_,_,.non=>.non
 |_,_,.bl b=>.bl b
 |_,_,.int i=>.int i
 |_,_,.str x=>.str x
 |_,_,.ty n=>.ty n
 |_,_,.tup h r=>.tup (g.tup _ _ h) (Reps.monoW g r)
 |_,_,.rol h r=>.rol (h.monoW g) (Reps.monoW g r)
 |_,_,.scr h r=>.scr (h.monoW g) (Reps.monoW g r)
 |_,_,.ref h=>.ref (g.at h)
 |_,_,.rod h e r=>.rod (g.frz _ _ _ h) e (Reps.monoW g r)
 |_,_,.rdT h e r=>.rdT (g.frz _ _ _ h) e (Reps.monoW g r)
 |_,_,.exc h hc hn=>.exc (g.frz _ _ _ h) hc hn
 |_,_,.ins h hn e r=>.ins (g.frz _ _ _ h) hn e (Reps.monoW g r)
theorem Reps.monoW(g:Gw U H U' H'):∀{vs:List V} {ds:List D},Reps K U H vs ds->Reps K U' H' vs ds
 |_,_,.nil=>.nil
 |_,_,.cons r rs=>.cons (Rep.monoW g r) (Reps.monoW g rs)
end
theorem Rep.mono(g:Gr U H U' H')(r:Rep K U H v d):Rep K U' H' v d:=r.monoW g.w
theorem Reps.mono(g:Gr U H U' H')(r:Reps K U H vs ds):Reps K U' H' vs ds:=r.monoW g.w
section
variable{K:Fg}{U:List Addr}{H:Hp}
theorem Reps.len:Reps K U H vs ds->vs.length=ds.length
 |.nil=>rfl
 |.cons _ rs=>by rw[bB,bB,rs.len]
theorem Reps.get:∀{vs:List V} {ds:List D} {i:Nat} {d:D},Reps K U H vs ds->ds[i]? = some d->∃v,vs[i]? = some v/\Rep K U H v d
 |_,_,_,_,.nil,e=>by simp at e
 |_,_,0,_,.cons r _,e=>by simp at e;subst e;exact⟨_,rfl,r⟩
 |_,_,i+1,d,.cons _ rs,e=>by
  obtain⟨u,h1,h2⟩:=Reps.get (i:=i) (d:=d) rs (by simpa using e)
  exact⟨u,by simpa using h1,h2⟩
theorem Reps.app:∀{vs us:List V} {ds es:List D},Reps K U H vs ds->Reps K U H us es->Reps K U H (vs++us) (ds++es)
 |_,_,_,_,.nil,s=>s
 |_,_,_,_,.cons r rs,s=>.cons r (Reps.app rs s)
theorem Reps.set(q:Rep K U H v d):∀{vs:List V} {ds:List D} (i:Nat),Reps K U H vs ds->Reps K U H (vs.set i v) (ds.set i d)
 |_,_,_,.nil=>.nil
 |_,_,0,.cons _ rs=>.cons q rs
 |_,_,i+1,.cons r rs=>.cons r (Reps.set q i rs)
theorem Reps.take:∀{vs:List V} {ds:List D} (n:Nat),Reps K U H vs ds->Reps K U H (vs.take n) (ds.take n)
 |_,_,0,_=>.nil
 |_,_,_+1,.nil=>.nil
 |_,_,n+1,.cons r rs=>.cons r (Reps.take n rs)
theorem Reps.drop:∀{vs:List V} {ds:List D} (n:Nat),Reps K U H vs ds->Reps K U H (vs.drop n) (ds.drop n)
 |_,_,0,r=>r
 |_,_,_+1,.nil=>.nil
 |_,_,n+1,.cons _ rs=>Reps.drop n rs
theorem Reps.snoc(r:Reps K U H vs ds)(q:Rep K U H v d):Reps K U H (vs++[v]) (ds++[d]):=r.app (.cons q .nil)
theorem Reps.flat:∀{vs:List V} {ds:List D} (k:Nat),Reps K U H vs ds->Reps K U H (List.replicate k vs).flatten (List.replicate k ds).flatten
 |_,_,0,_=>.nil
 |vs,ds,k+1,r=>by
  rw[cR,cR,dO,dO];exact r.app (Reps.flat k r)
end
def KRep{κ:Type}(K:Fg)(U:List Addr)(H:Hp)(us:List (κ×V))(kvs:List (κ×D)):Prop:=us.map (·.1)=kvs.map (·.1)/\Reps K U H (us.map (·.2)) (kvs.map (·.2))
def ORep(K:Fg)(U:List Addr)(H:Hp)(a:Addr):O->Prop
 |.lst xs=>∃vs,H a=some (.lst vs)/\Reps K U H vs xs
 |.dK kvs=>∃us,H a=some (.dK us)/\KRep K U H us kvs
 |.dT kvs=>∃us,H a=some (.dT us)/\KRep K U H us kvs
 |.ins c fs=>∃C dx us,H a=some (.ins C dx us)/\PySem.W.nsIn K mainGlobals c=some (some (.ref C))/\KRep K U H us fs
structure HRep (K:Fg) (U:List Addr) (H:Hp) (h:Hd):Prop where
 nd:U.Nodup
 len:U.length=h.length
 obj:∀(i:Nat) (a:Addr) (o:O),U[i]? = some a->h[i]? = some o->ORep K U H a o
section
variable{K:Fg}{U:List Addr}{H:Hp}{h:Hd}
theorem ORep.some(r:ORep K U H a o):∃u,H a=some u/\(∀vs,u≠.tup vs)/\(∀o' u',u≠.frz o' u'):=by
 cases o with
 |lst xs=>obtain⟨vs,e,_⟩:=r;exact⟨_,e,λ_ z=>(by cases z),λ_ _ z=>(by cases z)⟩
 |dK kvs=>obtain⟨us,e,_⟩:=r;exact⟨_,e,λ_ z=>(by cases z),λ_ _ z=>(by cases z)⟩
 |dT kvs=>obtain⟨us,e,_⟩:=r;exact⟨_,e,λ_ z=>(by cases z),λ_ _ z=>(by cases z)⟩
 |ins c fs=>obtain⟨C,dx,us,e,_⟩:=r;exact⟨_,e,λ_ z=>(by cases z),λ_ _ z=>(by cases z)⟩
theorem HRep.at(r:HRep K U H h){i:Nat}(e:U[i]? = some a):∃o,h[i]? = some o/\ORep K U H a o:=by
 have hi:i<h.length:=by rw[<-r.len];exact(ah.mp e).1
 exact⟨h[i],ag hi,r.obj i a _ e (ag hi)⟩
theorem HRep.addr(r:HRep K U H h){i:Nat}(e:h[i]? = some o):∃a,U[i]? = some a/\ORep K U H a o:=by
 have hi:i<U.length:=by rw[r.len];exact(ah.mp e).1
 exact⟨U[i],ag hi,r.obj i _ o (ag hi) e⟩
theorem HRep.notin(r:HRep K U H h)(e:H p=none):p∉U:=λz=>by
 obtain⟨i,hi⟩:=bR z;obtain⟨o,_,q⟩:=r.at hi;obtain⟨u,q,_⟩:=q.some;rw[e]at q;cases q
theorem ORep.monoW(g:Gw U H U' H')(e:H' a=H a)(r:ORep K U H a o):ORep K U' H' a o:=by
 cases o with
 |lst xs=>obtain⟨vs,h1,h2⟩:=r;exact⟨vs,by rw[e];exact h1,h2.monoW g⟩
 |dK kvs=>obtain⟨us,h1,h2,h3⟩:=r;exact⟨us,by rw[e];exact h1,h2,h3.monoW g⟩
 |dT kvs=>obtain⟨us,h1,h2,h3⟩:=r;exact⟨us,by rw[e];exact h1,h2,h3.monoW g⟩
 |ins c fs=>obtain⟨C,dx,us,h1,hn,h2,h3⟩:=r;exact⟨C,dx,us,by rw[e];exact h1,hn,h2,h3.monoW g⟩
theorem ORep.mono(g:Gr U H U' H')(e:H' a=H a)(r:ORep K U H a o):ORep K U' H' a o:=r.monoW g.w e
theorem xu(e:H p=none)(o:HO):Gr U H U (upd H p o) :=
 ⟨⟨[],by simp,by simp⟩,λa vs h=>by rw[ik (j5 h e)];exact h,λa o u h=>by rw[ik (j5 h e)];exact h,λa u h _=>by rw[ik (j5 h e)];exact h,λa u h=>⟨u,by rw[ik (j5 h e)];exact h⟩⟩
theorem HRep.aside(r:HRep K U H h)(e:H p=none)(o:HO):HRep K U (upd H p o) h:=by
 refine⟨r.nd,r.len,λi a o' e1 e2=>?_⟩;have q:=r.obj i a o' e1 e2;obtain⟨u,hu,_⟩:=q.some;exact q.mono (xu e o) (ik (j5 hu e))
theorem ae4(e:H p=none)(o:HO):Gr U H (U++[p]) (upd H p o) :=
 ⟨⟨[p],rfl,by simpa using e⟩,(xu (U:=U) e o).tup,(xu (U:=U) e o).frz,(xu (U:=U) e o).oth,(xu (U:=U) e o).kp⟩
theorem HRep.add(r:HRep K U H h)(e:H p=none)(q:ORep K (U++[p]) (upd H p o) p ob):HRep K (U++[p]) (upd H p o) (h++[ob]):=by
 refine⟨?_,by simp[r.len],λi a o' e1 e2=>?_⟩
 .rw[bZ];exact⟨r.nd,by simp,λa ha b hb z=>r.notin e (by rw[av.mp hb]at z;rw[<-z];exact ha)⟩
 .by_cases hi:i<U.length
  .rw[aL hi]at e1;rw[aL (by rw[<-r.len];exact hi)]at e2
   have q:=r.obj i a o' e1 e2;obtain⟨u,hu,_⟩:=q.some;exact q.mono (ae4 e o) (ik (j5 hu e))
  .have hi2:i<(U++[p]).length:=(ah.mp e1).1;have:i=U.length:=by simp at hi2;omega
   subst this;rw[aR (ay _)]at e1;rw[r.len,aR (ay _)]at e2;simp at e1 e2;subst e1 e2;exact q
theorem a3k{i:Nat}(r:HRep K U H h)(e:U[i]? = some a)(o:HO):Gr U H U (upd H a o):=by
 obtain⟨_,_,q⟩:=r.at e;obtain⟨u,hu,n1,n2⟩:=q.some;refine⟨⟨[],by simp,by simp⟩,λb vs hb=>?_,λb o' u' hb=>?_,λb u' hb hn=>?_,λb u' hb=>?_⟩
 .rw[ik (λz=>by subst z;rw[hu]at hb;exact n1 _ (bS hb))];exact hb
 .rw[ik (λz=>by subst z;rw[hu]at hb;exact n2 _ _ (bS hb))];exact hb
 .rw[ik (λz=>hn (by subst z;exact aW e))];exact hb
 .by_cases z:b=a
  .subst z;exact⟨o,m5⟩
  .exact⟨u',by rw[ik z];exact hb⟩
theorem HRep.put(r:HRep K U H h){i:Nat}(e:U[i]? = some a)(q:ORep K U (upd H a o) a ob):HRep K U (upd H a o) (h.set i ob):=by
 refine⟨r.nd,by rw[iN];exact r.len,λj b o' e1 e2=>?_⟩
 by_cases hj:i=j
 .subst hj;rw[e]at e1;cases e1
  have hi:i<h.length:=by rw[<-r.len];exact(ah.mp e).1
  rw[da hi]at e2;cases e2
  exact q
 .rw[dZ hj]at e2;have hne:b≠a:=λz=>by
   subst z;obtain⟨h1,g1⟩:=ah.mp e;obtain⟨h2,g2⟩:=ah.mp e1;have np:=bH.mp r.nd
   rcases gQ hj with l|l
   .exact np i j h1 h2 l (g1.trans g2.symm)
   .exact np j i h2 h1 l (g2.trans g1.symm)
  exact(r.obj j b o' e1 e2).mono (a3k r e o) (ik hne)
end
structure SRep (K:Fg) (U:List Addr) (H:Hp) (Z:St) (τ:Sd):Prop where
 len:Z.length=τ.length
 val:∀(i:Nat) (d:D),τ[i]? = some (some d)->∃v,Z[i]? = some (some v)/\Rep K U H v d
theorem SRep.mono(g:Gr U H U' H')(s:SRep K U H Z τ):SRep K U' H' Z τ :=
 ⟨s.len,λi d e=>let ⟨v,h1,h2⟩:=s.val i d e; ⟨v,h1,h2.mono g⟩⟩
theorem SRep.set(s:SRep K U H Z τ)(r:Rep K U H v d)(i:Nat):SRep K U H (Z.set i (some v)) (τ.set i (some d)):=by
 refine⟨by simp[s.len],λj d' e=>?_⟩
 by_cases hj:i=j
 .subst hj;have hi:i<τ.length:=by
   have:=(ah.mp e).1
   simpa using this
  rw[da hi]at e;cases e
  exact⟨v,by rw[da (by rw[s.len];exact hi)],r⟩
 .rw[dZ hj]at e ⊢;exact s.val j d' e
abbrev XD:=Str->List Addr->Hp->Hd->Prop
def out{α β:Type}(K:Fg)(E:XD)(Rp:List Addr->Hp->β->α->Prop)(U:List Addr)(H:Hp)(r:R α)(Q:β->Hp->Prop):Prop :=
 match r with
 |.ok a h=>∀U' H' b,Gr U H U' H'->Rp U' H' b a->HRep K U' H' h->Q b H'
 |.ex c h=>∀U' H',Gr U H U' H'->HRep K U' H' h->E c U' H' h
 |.no=>False
theorem a0s{α β:Type}{K:Fg}{E:XD}{Rp:List Addr->Hp->β->α->Prop}{U U1:List Addr}{H H1:Hp}{r:R α}{Q:β->Hp->Prop}(o:out K E Rp U H r Q)(g:Gr U H U1 H1):out K E Rp U1 H1 r Q:=by
 cases r with
 |ok a h=>exact λU' H' b g'=>o U' H' b (g.trans g')
 |ex c h=>exact λU' H' g'=>o U' H' (g.trans g')
 |no=>exact o
theorem bu{α β γ δ:Type}{K:Fg}{E:XD}{Rp:List Addr->Hp->β->α->Prop}{Sp:List Addr->Hp->δ->γ->Prop}{U:List Addr}{H:Hp}{r:R α}{k:α->Hd->R γ}{Q:δ->Hp->Prop}{P:β->Hp->Prop}
  (o:out K E Sp U H (r.bind k) Q) (hP:∀a h U1 H1 b,Gr U H U1 H1->Rp U1 H1 b a->HRep K U1 H1 h->out K E Sp U1 H1 (k a h) Q->P b H1):out K E Rp U H r P:=by
 cases r with
 |ok a h=>exact λU' H' b g r' hr=>hP a h U' H' b g r' hr (a0s o g)
 |ex c h=>exact o
 |no=>exact o
abbrev a01(K:Fg):List Addr->Hp->V->D->Prop:=λU H v d=>Rep K U H v d
abbrev b5l(K:Fg):List Addr->Hp->List V->List D->Prop:=λU H v d=>Reps K U H v d
abbrev aqh:List Addr->Hp->Bool->Bool->Prop:=λ_ _ a b=>a=b
abbrev b5m:List Addr->Hp->Option Int->Option Int->Prop:=λ_ _ a b=>a=b
def amf(K:Fg)(E:XD)(U:List Addr)(H:Hp)(r:Fl)(N:Ends):Prop :=
 match r with
 |.nx τ h=>∀U' H' Z,Gr U H U' H'->SRep K U' H' Z τ->HRep K U' H' h->N.nx Z H'
 |.bk τ h=>∀U' H' Z,Gr U H U' H'->SRep K U' H' Z τ->HRep K U' H' h->N.bk Z H'
 |.ct τ h=>∀U' H' Z,Gr U H U' H'->SRep K U' H' Z τ->HRep K U' H' h->N.ct Z H'
 |.rt d h=>∀U' H' v,Gr U H U' H'->Rep K U' H' v d->HRep K U' H' h->N.rt v H'
 |.ex c h=>∀U' H',Gr U H U' H'->HRep K U' H' h->E c U' H' h
 |.no=>False
theorem vo(o:amf K E U H r N)(g:Gr U H U1 H1):amf K E U1 H1 r N:=by
 cases r with
 |nx τ h=>exact λU' H' b g'=>o U' H' b (g.trans g')
 |bk τ h=>exact λU' H' b g'=>o U' H' b (g.trans g')
 |ct τ h=>exact λU' H' b g'=>o U' H' b (g.trans g')
 |rt d h=>exact λU' H' b g'=>o U' H' b (g.trans g')
 |ex c h=>exact λU' H' g'=>o U' H' (g.trans g')
 |no=>exact o
theorem um{α β:Type}{K:Fg}{E:XD}{Rp:List Addr->Hp->β->α->Prop}{U:List Addr}{H:Hp}{r:R α}{k:α->Hd->Fl}{N:Ends}{P:β->Hp->Prop}
  (o:amf K E U H (r.fl k) N) (hP:∀a h U1 H1 b,Gr U H U1 H1->Rp U1 H1 b a->HRep K U1 H1 h->amf K E U1 H1 (k a h) N->P b H1):out K E Rp U H r P:=by
 cases r with
 |ok a h=>exact λU' H' b g r' hr=>hP a h U' H' b g r' hr (vo o g)
 |ex c h=>exact o
 |no=>exact o
def lift{α β:Type}(K:Fg)(E:XD)(Rp:List Addr->Hp->β->α->Prop)(f:Sd->Hd->R α):St->Hp->(β->Hp->Prop)->Prop:=λZ H Q =>
 ∃U τ h,SRep K U H Z τ/\HRep K U H h/\out K E Rp U H (f τ h) Q
def a8z(K:Fg)(E:XD)(f:SS):TS:=λN Z H=>∃U τ h,SRep K U H Z τ/\HRep K U H h/\amf K E U H (f τ h) N
abbrev ME(X:Cx)(E:XD)(e:Expr)(f:SE):Prop:=PE X e (lift X.K E (a01 X.K) f)
abbrev MT(X:Cx)(E:XD)(e:Expr)(f:ST):Prop:=PT X e (lift X.K E aqh f)
abbrev MW(X:Cx)(E:XD)(e:Expr)(f:ST):Prop:=PW X e (lift X.K E aqh f)
abbrev MA(X:Cx)(E:XD)(es:List Expr)(f:SA):Prop:=PA X es (lift X.K E (b5l X.K) f)
abbrev MS(X:Cx)(E:XD)(st:Stmt)(f:SS):Prop:=PS X st (a8z X.K E f)
abbrev MSs(X:Cx)(E:XD)(st:List Stmt)(f:SS):Prop:=PSs X st (a8z X.K E f)
theorem PE.weak(h:PE X e t)(i:∀Z H Q,t' Z H Q->t Z H Q):PE X e t':=λaA s Z H Q I q=>h aA s Z H Q I (i _ _ _ q)
theorem PT.weak(h:PT X e t)(i:∀Z H Q,t' Z H Q->t Z H Q):PT X e t':=λaA s Z H Q I q=>h aA s Z H Q I (i _ _ _ q)
theorem PW.weak(h:PW X e t)(i:∀Z H Q,t' Z H Q->t Z H Q):PW X e t':=λwh aA s Z H Q I q=>h wh aA s Z H Q I (i _ _ _ q)
theorem PA.weak(h:PA X e t)(i:∀Z H Q,t' Z H Q->t Z H Q):PA X e t':=λpos aA s Z H Q I q=>h pos aA s Z H Q I (i _ _ _ q)
theorem PS.weak(h:PS X e t)(i:∀N Z H,t' N Z H->t N Z H):PS X e t':=λaA s Z H N I q=>h aA s Z H N I (i _ _ _ q)
theorem PSs.weak(h:PSs X e t)(i:∀N Z H,t' N Z H->t N Z H):PSs X e t':=λaA s Z H N I q=>h aA s Z H N I (i _ _ _ q)
abbrev LINE:Nat:=16777216
theorem ll{n:Nat}(h:n<=LINE):n<=sizeLine:=atc h
def sV(i:Nat):SE:=λτ h=>match τ[i]? with|some (some d)=>.ok d h|_=>.no
def sC(d:D):SE:=λ_ h=>.ok d h
abbrev sI(i:Int):SE:=sC (.int i)
section
variable{X:Cx}{E:XD}{a b c e:Expr}{fa fb fc:SE}{pos:Pos}
theorem b5n(i:Nat)(hN:X.N[i]? = some x:=by rfl)(hv:Vis X.env.scope x:=by with_unfolding_all first|exact Or.inl rfl|exact Or.inr (Or.inl rfl)|exact Or.inr (Or.inr rfl))(hd:(x == ("__debug__" : Str))=false:=by decide)
  (hcd:(x == ("__classdict__" : Str))=false:=by decide):ME X E (.Name x pos) (sV i):=by
 refine PE.weak (awx hN hv hd hcd) ?_
 rintro Z H Q ⟨U,τ,h,S,Rh,o⟩
 unfold sV at o
 split at o
 .rename_i d e;obtain⟨v,h1,h2⟩:=S.val i d e;exact⟨v,h1,o U H v (.refl _ _) h2 Rh⟩
 .exact o.elim
theorem ayf(h:PE X e (tC v))(r:∀U H,Rep X.K U H v d):ME X E e (sC d) :=
 PE.weak h λZ H Q ⟨U,τ,h,S,Rh,o⟩=>o U H v (.refl _ _) (r U H) Rh
theorem ayg{i j pos}:ME X E (.Constant (.int i) j pos) (sC (.int i)):=ayf awy λ_ _=>.int i
theorem b3a{i j pos}:ME X E (.Constant (.bool i) j pos) (sC (.bl i)):=ayf b2b λ_ _=>.bl i
theorem ayh{i j pos}:ME X E (.Constant (.str i) j pos) (sC (.str i)):=ayf ax0 λ_ _=>.str i
theorem ayi{j pos}:ME X E (.Constant .none j pos) (sC .non):=ayf awz λ_ _=>.non
theorem ane(hg:Gl X x)(hm:X.mg x=none)(hv:bootBuiltins x=some (.type n))(hn:x ≠ "__name__":=by decide)(hd:(x == ("__debug__" : Str))=false:=by decide):ME X E (.Name x pos) (sC (.ty n)) :=
 ayf (asa (v:=.ty n) hg hm hv rfl hn hd) λ_ _=>.ty n
def s2(g:D->D->Hd->R D)(fa fb:SE):SE:=λτ h=>(fa τ h).bind λx h1=>(fb τ h1).bind λy h2=>g x y h2
def s1(g:D->Hd->R D)(fa:SE):SE:=λτ h=>(fa τ h).bind g
def a2p(K:Fg)(g:D->D->Hd->R D)(r:R2):Prop:=∀(E:XD) U H h x y dx dy Q,Rep K U H x dx->Rep K U H y dy->HRep K U H h->out K E (a01 K) U H (g dx dy h) Q->r x y H Q
def b5o(K:Fg)(g:D->Hd->R D)(r:V->Hp->VK->Prop):Prop:=∀(E:XD) U H h x dx Q,Rep K U H x dx->HRep K U H h->out K E (a01 K) U H (g dx h) Q->r x H Q
def afx(K:Fg)(g:List D->Hd->R D)(r:List V->Hp->VK->Prop):Prop:=∀(E:XD) U H h xs ds Q,Reps K U H xs ds->HRep K U H h->out K E (a01 K) U H (g ds h) Q->r xs H Q
theorem b1w(hs:a2p K g r)(q:lift K E (a01 K) (s2 g fa fb) Z H Q):tOp r (lift K E (a01 K) fa) (lift K E (a01 K) fb) Z H Q:=by
 obtain⟨U,τ,h,S,Rh,o⟩:=q;refine⟨U,τ,h,S,Rh,bu o λd h1 U1 H1 v g1 r1 hr1 o1=>?_⟩;refine⟨U1,τ,h1,S.mono g1,hr1,bu o1 λd2 h2 U2 H2 u g2 r2 hr2 o2=>?_⟩;exact hs E U2 H2 h2 v u d d2 Q (r1.mono g2) r2 hr2 o2
theorem afy(ho:OpR X (binaryOp op) r)(hs:a2p X.K g r)(ha:ME X E a fa)(hb:ME X E b fb):ME X E (.BinOp a op b pos) (s2 g fa fb) :=
 PE.weak (b2p ho ha hb) λZ H Q q=>b1w hs q
theorem a2r(ho:OpR X (compareOp op) r)(hs:a2p X.K g r)(ha:ME X E a fa)(hb:ME X E b fb)(hm:behindInMarks op b=false):ME X E (.Compare a [op] [b] pos) (s2 g fa fb) :=
 PE.weak (asj ho ha hb hm) λZ H Q q=>b1w hs q
theorem b3b(ho:UnR X (unaryOp op) r)(hs:b5o X.K g r)(ha:ME X E a fa):ME X E (.UnaryOp op a pos) (s1 g fa):=by
 refine PE.weak (b2q ho ha) ?_
 rintro Z H Q ⟨U,τ,h,S,Rh,o⟩
 exact⟨U,τ,h,S,Rh,bu o λd h1 U1 H1 v g1 r1 hr1 o1=>hs E U1 H1 h1 v d Q r1 hr1 o1⟩
theorem b3c(ho:IxR X r)(hs:a2p X.K g r)(ha:ME X E a fa)(hb:ME X E b fb)(hp:a8p b):ME X E (.Subscript a b pos) (s2 g fa fb) :=
 PE.weak (b2y ho ha hb hp) λZ H Q q=>b1w hs q
def asB(d:D)(h:Hd):R Bool:=match d with|.bl b=>.ok b h|_=>.no
def sT(f:SE):ST:=λτ h=>(f τ h).bind asB
theorem aij(hi:∀Z H Q,lift K E (a01 K) f Z H Q->t Z H Q)(q:lift K E aqh (sT f) Z H Q):asl t Z H Q:=by
 refine hi Z H _ ?_;obtain⟨U,τ,h,S,Rh,o⟩:=q;refine⟨U,τ,h,S,Rh,bu o λd h1 U1 H1 v g1 r1 hr1 o1=>?_⟩
 cases r1 with
 |bl b=>exact⟨b,rfl,o1 U1 H1 b (.refl _ _) rfl hr1⟩
 |_=>exact o1.elim
theorem a6u(ho:OpR X (compareOp op) r)(hs:a2p X.K g r)(ha:ME X E a fa)(hb:ME X E b fb)(hm:behindInMarks op b=false):MT X E (.Compare a [op] [b] pos) (sT (s2 g fa fb)) :=
 PT.weak (asm ho ha hb hm) λZ H Q q=>aij (λ_ _ _=>b1w hs) q
noncomputable def sCh(g g':D->D->Hd->R D)(fa fb fc:SE):SE:=λτ h=>(fa τ h).bind λx h1=>(fb τ h1).bind λy h2=>(g x y h2).bind λz h3=>match z with
 |.bl true=>(fc τ h3).bind λw h4=>g' y w h4
 |.bl false=>.ok (.bl false) h3
 |_=>.no
theorem aqi(hs:a2p K g r)(hs':a2p K g' r')(q:lift K E (a01 K) (sCh g g' fa fb fc) Z H Q) :
  ahp r r' (lift K E (a01 K) fa) (lift K E (a01 K) fb) (lift K E (a01 K) fc) Z H Q:=by
 obtain⟨U,τ,h,S,Rh,o⟩:=q;refine⟨U,τ,h,S,Rh,bu o λd h1 U1 H1 v g1 r1 hr1 o1=>?_⟩;refine⟨U1,τ,h1,S.mono g1,hr1,bu o1 λd2 h2 U2 H2 u g2 r2 hr2 o2=>?_⟩;refine hs E U2 H2 h2 v u d d2 _ (r1.mono g2) r2 hr2 (bu o2 λd3 h3 U3 H3 z g3 r3 hr3 o3=>?_)
 cases r3 with
 |bl k =>
  refine⟨k,rfl,?_⟩
  cases k with
  |true =>
   rw[aU rfl];refine⟨U3,τ,h3,((S.mono g1).mono g2).mono g3,hr3,bu o3 λd4 h4 U4 H4 w g4 r4 hr4 o4=>?_⟩;exact hs' E U4 H4 h4 u w d2 d4 Q ((r2.mono g3).mono g4) r4 hr4 o4
  |false =>
   rw[bA bJ];exact o3 U3 H3 (.bl false) (.refl _ _) (.bl false) hr3
 |_=>exact o3.elim
theorem anf(ho:OpR X (compareOp op) r)(ho':OpR X (compareOp op') r')(hs:a2p X.K g r)(hs':a2p X.K g' r')(ha:ME X E a fa)(hb:ME X E b fb)(hc:ME X E c fc)
  (hm:lastMarks [op,op'] [b,c]=false:=by with_unfolding_all rfl):ME X E (.Compare a [op,op'] [b,c] pos) (sCh g g' fa fb fc) :=
 PE.weak (amy ho ho' ha hb hc hm) λZ H Q q=>aqi hs hs' q
theorem ang(ho:OpR X (compareOp op) r)(ho':OpR X (compareOp op') r')(hs:a2p X.K g r)(hs':a2p X.K g' r')(ha:ME X E a fa)(hb:ME X E b fb)(hc:ME X E c fc)
  (hm:lastMarks [op,op'] [b,c]=false:=by with_unfolding_all rfl):MT X E (.Compare a [op,op'] [b,c] pos) (sT (sCh g g' fa fb fc)) :=
 PT.weak (amz ho ho' ha hb hc hm) λZ H Q q=>aij (λ_ _ _=>aqi hs hs') q
noncomputable def tru(d:D)(h:Hd):R Bool:=match d with
 |.non=>.ok false h
 |.bl b=>.ok b h
 |.int i=>.ok (i != 0) h
 |.str x=>if x.length<=LINE then .ok ((x.length:Int) != 0) h else .no
 |.tup xs=>.ok (!xs.isEmpty) h
 |.rol xs=>.ok (!xs.isEmpty) h
 |.ref i=>match h[i]? with
  |some (.lst xs)=>.ok (!xs.isEmpty) h
  |some (.dK kvs)=>.ok (!kvs.isEmpty) h
  |_=>.no
 |_=>.no
theorem Reps.emp{K:Fg}{U:List Addr}{H:Hp}{vs:List V}{ds:List D}(r:Reps K U H vs ds):vs.isEmpty=ds.isEmpty:=by cases r<;>rfl
theorem KRep.emp{κ:Type}{K:Fg}{U:List Addr}{H:Hp}{us:List (κ×V)}{kvs:List (κ×D)}(r:KRep K U H us kvs):us.isEmpty=kvs.isEmpty:=by
 have:=aQ List.length r.1
 cases us<;>cases kvs<;>simp at this ⊢
theorem ath{K:Fg}{U:List Addr}{H:Hp}{h:Hd}{x:V}{d:D}{Q:Bool->Hp->Prop}(r:Rep K U H x d)(hr:HRep K U H h)(o:out K E aqh U H (tru d h) Q):∃k,b2t K x H k/\Q k H:=by
 cases r with
 |non=>exact⟨false,rfl,o U H _ (.refl _ _) rfl hr⟩
 |bl b=>exact⟨b,rfl,o U H _ (.refl _ _) rfl hr⟩
 |int i=>exact⟨_,rfl,o U H _ (.refl _ _) rfl hr⟩
 |str x =>
  by_cases hl:x.length<=LINE
  .simp only[tru,aU hl]at o;exact⟨_,⟨ll hl,rfl⟩,o U H _ (.refl _ _) rfl hr⟩
  .simp only[tru,bA hl]at o;exact o.elim
 |ty n=>exact o.elim
 |rod _ _ _=>exact o.elim
 |scr _ _=>exact o.elim
 |rdT _ _ _=>exact o.elim
 |exc _ _ _=>exact o.elim
 |ins _ _ _ _=>exact o.elim
 |tup e rs=>exact⟨_,.inr (.inl ⟨_,SqT.of e,rfl⟩),by rw[rs.emp];exact o U H _ (.refl _ _) rfl hr⟩
 |rol e rs=>exact⟨_,.inl ⟨_,e.l,rfl⟩,by rw[rs.emp];exact o U H _ (.refl _ _) rfl hr⟩
 |@ref a i e =>
  obtain⟨ob,h1,h2⟩:=hr.at e;simp only[tru,h1]at o
  cases ob with
  |lst xs =>
   obtain⟨vs,h3,h4⟩:=h2;exact⟨_,.inl ⟨_,SqL.of h3,rfl⟩,by rw[h4.emp];exact o U H _ (.refl _ _) rfl hr⟩
  |dK kvs =>
   obtain⟨us,h3,h4⟩:=h2;exact⟨_,.inr (.inr ⟨_,h3,rfl⟩),by rw[h4.emp];exact o U H _ (.refl _ _) rfl hr⟩
  |dT kvs=>exact o.elim
  |ins _ _=>exact o.elim
def a1w(f:SE):ST:=λτ h=>(f τ h).bind tru
theorem ayj(ha:ME X E a fa)(he:∀whole,isTrue a X.env whole=(do let v <-whole;standAt a.pos;holding [v] (truthy v)):=by intro _;rfl):MT X E a (a1w fa):=by
 refine PT.weak (an0 ha he) ?_
 rintro Z H Q ⟨U,τ,h,S,Rh,o⟩
 exact⟨U,τ,h,S,Rh,bu o λd h1 U1 H1 v g1 r1 hr1 o1=>ath r1 hr1 o1⟩
def a2n(f g:ST):ST:=λτ h=>(f τ h).bind λb h1=>if b=true then g τ h1 else .ok false h1
def sOr(f g:ST):ST:=λτ h=>(f τ h).bind λb h1=>if b=true then .ok true h1 else g τ h1
def a4f(f:ST):ST:=λτ h=>(f τ h).bind λb h1=>.ok (!b) h1
variable{ga gb:ST}
theorem ati(ha:MT X E a ga):MW X E (.BoolOp .And [a] pos) ga:=asb ha
theorem ayk(ha:MT X E a ga):MW X E (.BoolOp .Or [a] pos) ga:=ax1 ha
theorem ayl{aG:List Expr}(ha:MT X E a ga)(hb:MW X E (.BoolOp .And (b::aG) pos) gb):MW X E (.BoolOp .And (a::b::aG) pos) (a2n ga gb):=by
 refine PW.weak (ax2 ha hb) ?_
 rintro Z H Q ⟨U,τ,h,S,Rh,o⟩
 refine⟨U,τ,h,S,Rh,bu o λd h1 U1 H1 v g1 r1 hr1 o1=>?_⟩;cases r1
 cases d with
 |true=>exact⟨U1,τ,h1,S.mono g1,hr1,o1⟩
 |false=>exact o1 U1 H1 false (.refl _ _) rfl hr1
theorem b3d{aG:List Expr}(ha:MT X E a ga)(hb:MW X E (.BoolOp .Or (b::aG) pos) gb):MW X E (.BoolOp .Or (a::b::aG) pos) (sOr ga gb):=by
 refine PW.weak (b2c ha hb) ?_
 rintro Z H Q ⟨U,τ,h,S,Rh,o⟩
 refine⟨U,τ,h,S,Rh,bu o λd h1 U1 H1 v g1 r1 hr1 o1=>?_⟩;cases r1
 cases d with
 |true=>exact o1 U1 H1 true (.refl _ _) rfl hr1
 |false=>exact⟨U1,τ,h1,S.mono g1,hr1,o1⟩
theorem aym(ha:MT X E a ga):MT X E (.UnaryOp .Not a pos) (a4f ga):=by
 refine PT.weak (ax3 ha) ?_
 rintro Z H Q ⟨U,τ,h,S,Rh,o⟩
 refine⟨U,τ,h,S,Rh,bu o λd h1 U1 H1 v g1 r1 hr1 o1=>?_⟩;cases r1
 exact o1 U1 H1 _ (.refl _ _) rfl hr1
noncomputable def a0m(f g:SE):SE:=λτ h=>(f τ h).bind λd h1=>match d with|.bl true=>g τ h1|.bl false=>.ok (.bl false) h1|_=>.no
noncomputable def b1x(f g:SE):SE:=λτ h=>(f τ h).bind λd h1=>match d with|.bl true=>.ok (.bl true) h1|.bl false=>g τ h1|_=>.no
def a90(f:SE):SE:=λτ h=>(f τ h).bind λd h1=>match d with|.bl b=>.ok (.bl (!b)) h1|_=>.no
theorem ayn{op}(ha:ME X E a fa):ME X E (.BoolOp op [a] pos) fa:=ax4 ha
theorem ayo{aG:List Expr}(ha:ME X E a fa)(hb:ME X E (.BoolOp .And (b::aG) pos) fb):ME X E (.BoolOp .And (a::b::aG) pos) (a0m fa fb):=by
 refine PE.weak (ax5 ha hb) ?_
 rintro Z H Q ⟨U,τ,h,S,Rh,o⟩
 refine⟨U,τ,h,S,Rh,bu o λd h1 U1 H1 v g1 r1 hr1 o1=>?_⟩
 cases r1 with
 |bl k =>
  refine⟨k,rfl,?_⟩
  cases k with
  |true=>exact⟨U1,τ,h1,S.mono g1,hr1,o1⟩
  |false=>exact o1 U1 H1 _ (.refl _ _) (.bl _) hr1
 |_=>exact o1.elim
theorem ayp(ha:ME X E a fa):ME X E (.UnaryOp .Not a pos) (a90 fa):=by
 refine PE.weak (ax6 ha) ?_
 rintro Z H Q ⟨U,τ,h,S,Rh,o⟩
 refine⟨U,τ,h,S,Rh,bu o λd h1 U1 H1 v g1 r1 hr1 o1=>?_⟩
 cases r1 with
 |bl k=>exact⟨k,rfl,o1 U1 H1 _ (.refl _ _) (.bl _) hr1⟩
 |_=>exact o1.elim
def ab0(c:ST)(f g:SE):SE:=λτ h=>(c τ h).bind λb h1=>if b=true then f τ h1 else g τ h1
theorem ayq(hc:MT X E c ga)(ha:ME X E a fa)(hb:ME X E b fb):ME X E (.IfExp c a b pos) (ab0 ga fa fb):=by
 refine PE.weak (amt hc ha hb) ?_
 rintro Z H Q ⟨U,τ,h,S,Rh,o⟩
 refine⟨U,τ,h,S,Rh,bu o λd h1 U1 H1 v g1 r1 hr1 o1=>?_⟩;cases r1
 cases d with
 |true=>exact⟨U1,τ,h1,S.mono g1,hr1,o1⟩
 |false=>exact⟨U1,τ,h1,S.mono g1,hr1,o1⟩
def bc:SA:=λ_ h=>.ok [] h
def aa(f:SE)(g:SA):SA:=λτ h=>(f τ h).bind λd h1=>(g τ h1).bind λds h2=>.ok (d::ds) h2
variable{es:List Expr}{ka:SA}
theorem ayr:MA X E [] bc:=PA.weak aal λZ H Q ⟨U,τ,h,S,Rh,o⟩=>o U H [] (.refl _ _) .nil Rh
theorem atj(ha:ME X E e fa)(hr:MA X E es ka)(hs:starEach (e::es) X.env=(false,eval e X.env)::starEach es X.env:=by rfl):MA X E (e::es) (aa fa ka):=by
 refine PA.weak (a5n ha hr hs) ?_
 rintro Z H Q ⟨U,τ,h,S,Rh,o⟩
 refine⟨U,τ,h,S,Rh,bu o λd h1 U1 H1 v g1 r1 hr1 o1=>?_⟩;refine⟨U1,τ,h1,S.mono g1,hr1,bu o1 λd2 h2 U2 H2 u g2 r2 hr2 o2=>?_⟩;exact o2 U2 H2 _ (.refl _ _) (.cons (r1.mono g2) r2) hr2
def a0r(ds:List D)(h:Hd):R D:=if ds.length<=LINE then .ok (.tup ds) h else .no
noncomputable def a5m(ds:List D)(h:Hd):R D:=if ds.length<=LINE then .ok (.ref h.length) (h++[.lst ds]) else .no
def sA(g:List D->Hd->R D)(k:SA):SE:=λτ h=>(k τ h).bind g
theorem a3t(r:Reps K U H vs ds)(hr:HRep K U H h)(o:out K E (a01 K) U H (.ok (.tup ds) h) Q):∀p,H p=none->Q (.ref p) (upd H p (.tup vs)):=λp hp =>
 o U _ _ (xu hp _) (.tup m5 (r.mono (xu hp _))) (hr.aside hp _)
theorem a1a(r:Reps K U H vs ds)(hr:HRep K U H h)(o:out K E (a01 K) U H (.ok (.ref h.length) (h++[.lst ds])) Q):∀p,H p=none->Q (.ref p) (upd H p (.lst vs)):=λp hp =>
 o (U++[p]) _ _ (ae4 hp _) (.ref (by rw[aR (by rw[hr.len];exact ay _),hr.len];simp)) (hr.add hp ⟨_,m5,r.mono (ae4 hp _)⟩)
theorem atk{K:Fg}{U:List Addr}{H:Hp}{h:Hd}{i:Nat}{a:Addr}{vs:List V}{ds:List D}{d:D}{v:V}{Q:VK}(r:Reps K U H vs ds)(hr:HRep K U H h)(hi:U[i]? = some a)(rd:Rep K U H v d)(o:out K E (a01 K) U H (.ok d (h.set i (.lst ds))) Q):Q v (upd H a (.lst vs)) :=
 o U _ _ (a3k hr hi _) (rd.mono (a3k hr hi _)) (hr.put hi ⟨_,m5,r.mono (a3k hr hi _)⟩)
theorem ays{x1}(h:MA X E es ka):ME X E (.Tuple es x1 pos) (sA a0r ka):=by
 refine PE.weak (axq h) ?_
 rintro Z H Q ⟨U,τ,h,S,Rh,o⟩
 refine⟨U,τ,h,S,Rh,bu o λd h1 U1 H1 v g1 r1 hr1 o1=>?_⟩;unfold a0r at o1
 split at o1
 .rename_i hl;exact⟨ll (by rw[r1.len];exact hl),a3t r1 hr1 o1⟩
 .exact o1.elim
theorem ayt(h:MA X E es ka):ME X E (.List es pos) (sA a5m ka):=by
 refine PE.weak (axr h) ?_
 rintro Z H Q ⟨U,τ,h,S,Rh,o⟩
 refine⟨U,τ,h,S,Rh,bu o λd h1 U1 H1 v g1 r1 hr1 o1=>?_⟩;unfold a5m at o1
 split at o1
 .rename_i hl;exact⟨ll (by rw[r1.len];exact hl),a1a r1 hr1 o1⟩
 .exact o1.elim
theorem ab1{x:Str}{p:Pos}{id:String}{r:List V->Hp->VK->Prop}{g:List D->Hd->R D}(hc:CallR X (.builtin id) r)(hs:afx X.K g r)(hg:Gl X x)(hm:X.mg x=none)(hv:bootBuiltins x=some (.builtin id))(ha:MA X E (e::es) ka)(hn:x ≠ "__name__":=by decide)(hdb:(x == ("__debug__" : Str))=false:=by decide)
  (he:starEach (e::es) X.env=(false,eval e X.env)::starEach es X.env:=by rfl) (hpl:(backTo pos (starEach es X.env)).any (·.1)=false:=by rfl):ME X E (.Call (.Name x p) (e::es) [] pos) (sA g ka):=by
 refine PE.weak (adv hc hg hm hv ha hn hdb he hpl) ?_
 rintro Z H Q ⟨U,τ,h,S,Rh,o⟩
 exact⟨U,τ,h,S,Rh,bu o λd h1 U1 H1 v g1 r1 hr1 o1=>hs E U1 H1 h1 v d Q r1 hr1 o1⟩
theorem aik{x:Str}{p:Pos}{id:String}{r:List V->Hp->VK->Prop}{g:List D->Hd->R D}(hc:CallR X (.type id) r)(hs:afx X.K g r)(hg:Gl X x)(hm:X.mg x=none)(hv:bootBuiltins x=some (.type id))(ha:MA X E (e::es) ka)(hn:x ≠ "__name__":=by decide)(hdb:(x == ("__debug__" : Str))=false:=by decide)
  (he:starEach (e::es) X.env=(false,eval e X.env)::starEach es X.env:=by rfl) (hpl:(backTo pos (starEach es X.env)).any (·.1)=false:=by rfl):ME X E (.Call (.Name x p) (e::es) [] pos) (sA g ka):=by
 refine PE.weak (ahv hc hg hm hv ha hn hdb he hpl) ?_
 rintro Z H Q ⟨U,τ,h,S,Rh,o⟩
 exact⟨U,τ,h,S,Rh,bu o λd h1 U1 H1 v g1 r1 hr1 o1=>hs E U1 H1 h1 v d Q r1 hr1 o1⟩
end
def di(f g:SS):SS:=λτ h=>match f τ h with|.nx τ1 h1=>g τ1 h1|r=>r
def sNx:SS:=λτ h=>.nx τ h
def my(f:SE):SS:=λτ h=>(f τ h).fl λd h1=>.rt d h1
def a1x(f:SE):SS:=λτ h=>(f τ h).fl λ_ h1=>.nx τ h1
def sIf(c:ST)(f g:SS):SS:=λτ h=>(c τ h).fl λb h1=>if b=true then f τ h1 else g τ h1
def jj(i:Nat)(f:SE):SS:=λτ h=>(f τ h).fl λd h1=>.nx (τ.set i (some d)) h1
noncomputable def aag(i:Nat)(g:D->D->Hd->R D)(f:SE):SS:=λτ h=>match τ[i]? with
 |some (some x)=>(f τ h).fl λy h1=>(g x y h1).fl λz h2=>.nx (τ.set i (some z)) h2
 |_=>.no
section
variable{X:Cx}{E:XD}{e o:Expr}{es:List Expr}{fa fb fc:SE}{ga:ST}{st:Stmt}{sts a b:List Stmt}{f g:SS}{pos:Pos}
theorem atl:MSs X E [] sNx:=PSs.weak asd λN Z H ⟨U,τ,h,S,Rh,o⟩=>o U H Z (.refl _ _) S Rh
theorem ayu(q:a8z K E (di f g) N Z H):a8z K E f {N with nx:=a8z K E g N} Z H:=by
 obtain⟨U,τ,h,S,Rh,o⟩:=q;refine⟨U,τ,h,S,Rh,?_⟩;unfold di at o
 cases hf:f τ h with
 |nx τ1 h1 =>
  rw[hf]at o;exact λU1 H1 Z1 g1 S1 R1=>⟨U1,τ1,h1,S1,R1,vo o g1⟩
 |_=>rw[hf]at o;exact o
theorem ae5(h1:MS X E st f)(h2:MSs X E sts g):MSs X E (st::sts) (di f g):=PSs.weak (amu h1 h2) λN Z H q=>ayu q
theorem ail(h1:MS X E st f):MSs X E [st] f:=ase h1
theorem ayv(he:ME X E e fa):MS X E (.Return (some e) pos) (my fa):=by
 refine PS.weak (ax7 he) ?_
 rintro N Z H ⟨U,τ,h,S,Rh,o⟩
 exact⟨U,τ,h,S,Rh,um o λd h1 U1 H1 v g1 r1 hr1 o1=>o1 U1 H1 v (.refl _ _) r1 hr1⟩
theorem atm(he:ME X E e fa)(hs:swapsWith e none pos.line X.env=pure false:=by rfl):MS X E (.Expr e pos) (a1x fa):=by
 refine PS.weak (asf he hs) ?_
 rintro N Z H ⟨U,τ,h,S,Rh,o⟩
 exact⟨U,τ,h,S,Rh,um o λd h1 U1 H1 v g1 r1 hr1 o1=>o1 U1 H1 Z (.refl _ _) (S.mono g1) hr1⟩
theorem b3e(hc:MT X E c ga)(ha:MSs X E a f)(hb:MSs X E b g):MS X E (.If c a b pos) (sIf ga f g):=by
 refine PS.weak (b2h hc ha hb) ?_
 rintro N Z H ⟨U,τ,h,S,Rh,o⟩
 refine⟨U,τ,h,S,Rh,um o λd h1 U1 H1 v g1 r1 hr1 o1=>?_⟩;cases r1
 cases d with
 |true=>exact⟨U1,τ,h1,S.mono g1,hr1,o1⟩
 |false=>exact⟨U1,τ,h1,S.mono g1,hr1,o1⟩
theorem ayw(hN:X.N.Nodup)(hi:X.N[i]? = some x)(hx:Loc X.env.scope x)(he:ME X E e fa)(hs:swapsWith e (some (.Name x pos')) pos.line X.env=pure false:=by rfl)(hf:Hf X x:=by with_unfolding_all first|exact .inl rfl|exact .inr rfl|assumption) :
  MS X E (.Assign [.Name x pos'] e pos) (jj i fa):=by
 refine PS.weak (axa hN hi hx he hs hf) ?_
 rintro N Z H ⟨U,τ,h,S,Rh,o⟩
 exact⟨U,τ,h,S,Rh,um o λd h1 U1 H1 v g1 r1 hr1 o1=>o1 U1 H1 _ (.refl _ _) ((S.mono g1).set r1 i) hr1⟩
theorem ayx(hN:X.N.Nodup)(hi:X.N[i]? = some x)(hx:Loc X.env.scope x)(ho:OpR X (inplaceOp op) r)(hs:a2p X.K gg r)(he:ME X E e fa)(hf:Hf X x:=by with_unfolding_all first|exact .inl rfl|exact .inr rfl|assumption) :
  MS X E (.AugAssign (.Name x pos') op e pos) (aag i gg fa):=by
 refine PS.weak (axb hN hi hx he ho hf) ?_
 rintro N Z H ⟨U,τ,h,S,Rh,o⟩
 unfold aag at o
 split at o
 .rename_i d ed;obtain⟨v,h1,h2⟩:=S.val i d ed;refine⟨v,h1,U,τ,h,S,Rh,um o λd2 h3 U1 H1 u g1 r1 hr1 o1=>?_⟩;refine hs E U1 H1 h3 v u d d2 _ (h2.mono g1) r1 hr1 (um o1 λd3 h4 U2 H2 z g2 r2 hr2 o2=>?_);exact o2 U2 H2 _ (.refl _ _) (((S.mono g1).mono g2).set r2 i) hr2
 .exact o.elim
noncomputable def put(o k v:D)(h:Hd):Option Hd:=match o,k with
 |.ref i,.int j=>match h[i]? with
  |some (.lst xs)=>match ixN xs.length j with
   |some m=>some (h.set i (.lst (xs.set m v)))
   |none=>none
  |_=>none
 |_,_=>none
theorem aim{K:Fg}{U:List Addr}{H:Hp}{h h':Hd}{o k v:V}{od kd vd:D}{Q:Hp->Prop}(r1:Rep K U H o od)(r2:Rep K U H k kd)(r3:Rep K U H v vd)(hr:HRep K U H h)(e:put od kd vd h=some h')
  (q:∀H',Gr U H U H'->HRep K U H' h'->Q H'):axy o k v H Q:=by
 cases r1 with
 |@ref a i ha =>
  cases r2 with
  |int j =>
   obtain⟨ob,h1,h2⟩:=hr.at ha
   cases ob with
   |lst xs =>
    obtain⟨vs,h3,h4⟩:=h2;simp only[put,h1]at e
    cases hm:ixN xs.length j with
    |none=>rw[hm]at e;cases e
    |some m =>
     rw[hm]at e;cases e
     exact⟨a,vs,j,m,rfl,rfl,h3,by rw[h4.len];exact hm,q _ (a3k hr ha _) (hr.put ha ⟨_,m5,(h4.set r3 m).mono (a3k hr ha _)⟩)⟩
   |dK _=>simp only[put,h1]at e;cases e
   |dT _=>simp only[put,h1]at e;cases e
   |ins _ _=>simp only[put,h1]at e;cases e
  |_=>cases e
 |_=>cases e
noncomputable def afz(fe fo fi:SE):SS:=λτ h=>(fe τ h).fl λv h1=>(fo τ h1).fl λo h2=>(fi τ h2).fl λk h3=>match put o k v h3 with|some h4=>.nx τ h4|none=>.no
theorem ayy(he:ME X E e fa)(ho:ME X E o fb)(hi:ME X E i fc)
  (hs:swapsWithSole [.Subscript o i pos'] e pos.line X.env=pure false:=by rfl) (hw:swappedStores [.Subscript o i pos'] e X.env=pure none:=by rfl)
  (h1:(assignEach [.Subscript o i pos'] X.env).map (·.2)=[assign (.Subscript o i pos') X.env]:=by rfl)
  (ha:∀v,assign (.Subscript o i pos') X.env v=(do
   let ov <-holding [v] (eval o X.env)
   let iv <-holding [v,ov] (eval i X.env)
   standAt pos'
   holding [v,ov,iv] (setItem ov iv v)
   release [v,ov,iv] []):=by intro _;rfl):MS X E (.Assign [.Subscript o i pos'] e pos) (afz fa fb fc):=by
 refine PS.weak (aq5 he (ax9 ho hi set_list ha) hs hw h1) ?_
 rintro N Z H ⟨U,τ,h,S,Rh,oo⟩
 refine⟨U,τ,h,S,Rh,um oo λd h1 U1 H1 v g1 r1 hr1 o1=>?_⟩;refine⟨U1,τ,h1,S.mono g1,hr1,um o1 λd2 h2 U2 H2 u g2 r2 hr2 o2=>?_⟩;refine⟨U2,τ,h2,(S.mono g1).mono g2,hr2,um o2 λd3 h3 U3 H3 w g3 r3 hr3 o3=>?_⟩
 cases hp:put d2 d3 d h3 with
 |none=>rw[hp]at o3;exact o3.elim
 |some h4 =>
  rw[hp]at o3;exact aim (r2.mono g3) r3 ((r1.mono g2).mono g3) hr3 hp λH' g4 hr4=>o3 U3 H' Z g4 ((((S.mono g1).mono g2).mono g3).mono g4) hr4
noncomputable def sWh(c:ST)(f:SS):Nat->SS
 |0,_,_=>.no
 |n+1,τ,h=>(c τ h).fl λb h1=>if b=true then (match f τ h1 with|.nx τ2 h2=>sWh c f n τ2 h2|.ct τ2 h2=>sWh c f n τ2 h2|.bk τ2 h2=>.nx τ2 h2|r=>r) else .nx τ h1
theorem anh(n:Nat)(hp:PassesOwn (model X.prog X.w) X.A X.env X.xe)(hc:MT X E c ga)(hb:MSs X E a f):MS X E (.While c a [] pos) (sWh ga f n):=by
 refine PS.weak (amw hp hc hb) λN Z H q=>?_;refine⟨λm Z H=>a8z X.K E (sWh ga f m) N Z H,⟨n,q⟩,?_⟩
 rintro m Z1 H1 ⟨U,τ,h,S,Rh,o⟩
 cases m with
 |zero=>exact o.elim
 |succ m =>
  refine⟨U,τ,h,S,Rh,um o λd h1 U1 H1 v g1 r1 hr1 o1=>?_⟩;cases r1
  cases d with
  |false=>exact o1 U1 H1 _ (.refl _ _) (S.mono g1) hr1
  |true =>
   refine⟨λZ' H'=>a8z X.K E (sWh ga f m) N Z' H',λZ' H' q=>⟨m,fW m,q⟩,U1,τ,h1,S.mono g1,hr1,?_⟩;rw[aU rfl]at o1
   cases hf:f τ h1 with
   |nx τ2 h2=>rw[hf]at o1;exact λU2 H2 Z2 g2 S2 R2=>⟨U2,τ2,h2,S2,R2,vo o1 g2⟩
   |ct τ2 h2=>rw[hf]at o1;exact λU2 H2 Z2 g2 S2 R2=>⟨U2,τ2,h2,S2,R2,vo o1 g2⟩
   |bk τ2 h2=>rw[hf]at o1;exact o1
   |rt d h2=>rw[hf]at o1;exact o1
   |ex c h2=>rw[hf]at o1;exact o1
   |no=>rw[hf]at o1;exact o1.elim
end
abbrev SG:=D->Sd->Hd->Fl
noncomputable def atn(K:Fg)(E:XD)(g:SG):TG:=λv Z H Q=>∃U τ h d,Rep K U H v d/\SRep K U H Z τ/\HRep K U H h/\amf K E U H (g d τ h) {nx:=Q,rt:=λ_ _=>False}
abbrev MG(X:Cx)(E:XD)(tg:Expr)(g:SG):Prop:=PG X tg (atn X.K E g)
abbrev SGs:=List D->Sd->Hd->Fl
noncomputable def ain(K:Fg)(E:XD)(g:SGs):TGs:=λvs Z H Q=>∃U τ h ds,Reps K U H vs ds/\SRep K U H Z τ/\HRep K U H h/\amf K E U H (g ds τ h) {nx:=Q,rt:=λ_ _=>False}
abbrev MGs(X:Cx)(E:XD)(tg:List Expr)(g:SGs):Prop:=PGs X tg (ain X.K E g)
theorem PG.weak(h:PG X e t)(i:∀v Z H Q,t' v Z H Q->t v Z H Q):PG X e t':=λaA s Z H v u Q I r q=>h aA s Z H v u Q I r (i _ _ _ _ q)
theorem PGs.weak(h:PGs X e t)(i:∀v Z H Q,t' v Z H Q->t v Z H Q):PGs X e t':=λaA s Z H v u Q I r q=>h aA s Z H v u Q I r (i _ _ _ _ q)
def kN(i:Nat):SG:=λd τ h=>.nx (τ.set i (some d)) h
def a0t:SGs:=λds τ h=>match ds with|[]=>.nx τ h|_=>.no
noncomputable def dq(g:SG)(k:SGs):SGs:=λds τ h=>match ds with|d::r=>(match g d τ h with|.nx τ1 h1=>k r τ1 h1|_=>.no)|[]=>.no
noncomputable def a0n(n:Nat)(k:SGs):SG:=λd τ h=>match d with|.tup ds=>if ds.length=n then k ds τ h else .no|_=>.no
section
variable{X:Cx}{E:XD}{e:Expr}{es:List Expr}{fa:SE}{pos:Pos}{g:SG}{ks:SGs}
theorem aio(hN:X.N.Nodup)(hi:X.N[i]? = some x)(hx:Loc X.env.scope x)(hf:Hf X x:=by with_unfolding_all first|exact .inl rfl|exact .inr rfl|assumption):MG X E (.Name x pos) (kN i) :=
 PG.weak (acd hN hi hx hf) λv Z H Q ⟨U,τ,h,d,r,S,Rh,o⟩=>o U H _ (.refl _ _) (S.set r i) Rh
theorem ato:MGs X E [] a0t:=by
 refine PGs.weak a8n ?_
 rintro vs Z H Q ⟨U,τ,h,ds,r,S,Rh,o⟩
 cases r with
 |nil=>exact⟨rfl,o U H Z (.refl _ _) S Rh⟩
 |cons _ _=>exact o.elim
theorem ani(q:ain K E (dq g ks) vs Z H Q):amv (atn K E g) (ain K E ks) vs Z H Q:=by
 obtain⟨U,τ,h,ds,r,S,Rh,o⟩:=q
 cases r with
 |nil=>exact o.elim
 |@cons v d vs ds r rs =>
  refine⟨v,vs,rfl,U,τ,h,d,r,S,Rh,?_⟩;simp only[dq]at o
  cases hg:g d τ h with
  |nx τ1 h1 =>
   rw[hg]at o;exact λU1 H1 Z1 g1 S1 R1=>⟨U1,τ1,h1,ds,rs.mono g1,S1,R1,vo o g1⟩
  |_=>rw[hg]at o;exact o.elim
theorem ayz(hc:X.calm=true)(h:MGs X E es ks)(hn:(assignEach es X.env).length=n:=by rfl)(hst:(assignEach es X.env).findIdx? (·.1)=none:=by rfl):MG X E (.Tuple es k pos) (a0n n ks):=by
 refine PG.weak (adp hc h hn hst) ?_
 rintro v Z H Q ⟨U,τ,h,d,r,S,Rh,o⟩
 cases r with
 |@tup a vs xs e rs =>
  simp only[a0n]at o
  by_cases hl:xs.length=n
  .rw[aU hl]at o;exact⟨a,vs,rfl,SqT.of e,by rw[rs.len];exact hl,U,τ,h,xs,rs,S,Rh,o⟩
  .rw[bA hl]at o;exact o.elim
 |_=>exact o.elim
def a4l(f:SE)(g:SG):SS:=λτ h=>(f τ h).fl λd h1=>match g d τ h1 with|.nx τ2 h2=>.nx τ2 h2|_=>.no
theorem az0(he:ME X E e fa)(hg:MG X E tg g)(hs:swapsWithSole [tg] e pos.line X.env=pure false:=by rfl)(hw:swappedStores [tg] e X.env=pure none:=by rfl)
  (h1:(assignEach [tg] X.env).map (·.2)=[assign tg X.env]:=by rfl):MS X E (.Assign [tg] e pos) (a4l fa g):=by
 refine PS.weak (aq5 he hg hs hw h1) ?_
 rintro N Z H ⟨U,τ,h,S,Rh,o⟩
 refine⟨U,τ,h,S,Rh,um o λd h1 U1 H1 v g1 r1 hr1 o1=>⟨U1,τ,h1,d,r1,S.mono g1,hr1,?_⟩⟩
 cases hg:g d τ h1 with
 |nx τ1 h1=>rw[hg]at o1;exact o1
 |_=>rw[hg]at o1;exact o1.elim
end
structure Itm where
 xs:List D
 ck:Hd->Prop
def anj(K:Fg)(U0:List Addr)(H0:Hp)(J:It)(it:Itm):Prop:=∀U H h,Gr U0 H0 U H->HRep K U H h->it.ck h->
 (∀(i:Nat) (d:D),it.xs[i]? = some d->J.go i H/\∀x H',J.yld i H x H'->Gr U H U H'/\Rep K U H' x d/\HRep K U H' h)/\J.stop it.xs.length H
abbrev az1(K:Fg):List Addr->Hp->It->Itm->Prop:=λU H J it=>anj K U H J it
abbrev SI:=Sd->Hd->R Itm
abbrev MI(X:Cx)(E:XD)(tg aF:Expr)(f:SI):Prop:=PI X tg aF (lift X.K E (az1 X.K) f)
def a0u(x:Str):List D:=x.cps.toList.map λc=>D.str ⟨#[c]⟩
noncomputable def ank(d:D)(h:Hd):R Itm:=match d with
 |.tup xs=>.ok ⟨xs,λ_=>True⟩ h
 |.rol xs=>.ok ⟨xs,λ_=>True⟩ h
 |.str x=>.ok ⟨a0u x,λ_=>True⟩ h
 |.ref i=>match h[i]? with
  |some (.lst xs)=>.ok ⟨xs,λh=>h[i]? = some (.lst xs)⟩ h
  |_=>.no
 |_=>.no
def sIt(f:SE):SI:=λτ h=>(f τ h).bind ank
theorem aqj(hl:∀U H h,Gr U0 H0 U H->HRep K U H h->ck h->∃vs,SqL K H a vs/\Reps K U H vs xs):anj K U0 H0 (Itl K a) ⟨xs,ck⟩:=by
 intro U H h g hr c
 obtain⟨vs,h1,h2⟩:=hl U H h g hr c;refine⟨λi d e=>?_,⟨vs,h1,by rw[h2.len];exact ay _⟩⟩
 obtain⟨v,e1,r⟩:=h2.get e;refine⟨⟨vs,v,h1,e1⟩,λx H' y=>?_⟩;obtain⟨rfl,y⟩:=y;have:=y vs h1;rw[e1]at this;cases this
 exact⟨.refl _ _,r,hr⟩
theorem az2(hl:ME X E l f):MI X E tg l (sIt f):=by
 rintro aA s Z H Rr I ⟨U,τ,h,S,Rh,o⟩
 unfold sIt at o
 cases hf:f τ h with
 |no=>rw[hf]at o;exact o.elim
 |ex c h1 =>
  rw[hf]at o;exact aqd hl aA s Z H Rr I ⟨U,τ,h,S,Rh,by rw[hf];exact o⟩
 |ok d h1 =>
  rw[hf]at o
  cases d with
  |tup xs =>
   refine axd hl aA s Z H Rr I ⟨U,τ,h,S,Rh,?_⟩;rw[hf]
   intro U1 H1 v g1 r1 hr1
   cases r1 with
   |@tup a vs _ e rs =>
    refine⟨a,rfl,⟨vs,SqT.of e⟩,o U1 H1 _ g1 ?_ hr1⟩
    intro U2 H2 h2 g2 hr2 _
    have e2:=g2.tup _ _ e;have rs2:=rs.mono g2;refine⟨λi d ed=>?_,⟨vs,SqT.of e2,by rw[rs2.len];exact ay _⟩⟩
    obtain⟨v,e1,r⟩:=rs2.get ed;refine⟨⟨vs,v,SqT.of e2,e1⟩,λx H' y=>?_⟩;obtain⟨rfl,y⟩:=y;have:=y vs (SqT.of e2);rw[e1]at this;cases this
    exact⟨.refl _ _,r,hr2⟩
  |rol xs =>
   refine ahi hl aA s Z H Rr I ⟨U,τ,h,S,Rh,?_⟩;rw[hf]
   intro U1 H1 v g1 r1 hr1
   cases r1 with
   |@rol a vs _ e rs =>
    refine⟨a,rfl,⟨vs,e.l⟩,o U1 H1 _ g1 ?_ hr1⟩;exact aqj (λU2 H2 h2 g2 hr2 _=>⟨vs,(e.mono g2).l,rs.mono g2⟩)
  |str x =>
   refine aqd hl aA s Z H Rr I ⟨U,τ,h,S,Rh,?_⟩;rw[hf]
   intro U1 H1 v g1 r1 hr1
   cases r1
   refine⟨x,rfl,o U1 H1 _ g1 ?_ hr1⟩
   intro U2 H2 h2 g2 hr2 _
   refine⟨λi d ed=>?_,by show(a0u x).length=_;simp[a0u]⟩
   simp only[a0u,aE,aS]at ed;obtain⟨c,ec,rfl⟩:=ed;refine⟨by show i<x.cps.size;have:=(ah.mp ec).1;simpa using this,λy H' q=>?_⟩
   obtain⟨rfl,c',ec',rfl⟩:=q;rw[ec]at ec';cases ec'
   exact⟨.refl _ _,.str _,hr2⟩
  |ref i =>
   simp only[R.bind,ank]at o
   cases ho:h1[i]? with
   |none=>rw[ho]at o;exact o.elim
   |some ob =>
    rw[ho]at o
    cases ob with
    |dK _=>exact o.elim
    |dT _=>exact o.elim
    |ins _ _=>exact o.elim
    |lst xs =>
     refine ahi hl aA s Z H Rr I ⟨U,τ,h,S,Rh,?_⟩;rw[hf]
     intro U1 H1 v g1 r1 hr1
     cases r1 with
     |@ref a _ e =>
      obtain⟨vs,e1,rs⟩:=hr1.obj i a _ e ho;refine⟨a,rfl,⟨vs,SqL.of e1⟩,o U1 H1 _ g1 ?_ hr1⟩;refine aqj (λU2 H2 h2 g2 hr2 c=>?_);obtain⟨us,e3,rs3⟩:=hr2.obj i a _ (g2.at e) c;exact⟨us,SqL.of e3,rs3⟩
  |_=>exact o.elim
def rng(lo:Int)(n:Nat):List D:=(List.range n).map λi=>D.int (lo+(i:Nat))
def B62(j:Int):Prop := -(2^62)<=j/\j<2^62
instance (j:Int):Decidable (B62 j):=by unfold B62;exact inferInstance
noncomputable def zg(ds:List D)(h:Hd):R Itm:=match ds with
 |[.int j]=>if B62 j then .ok ⟨rng 0 j.toNat,λ_=>True⟩ h else .no
 |_=>.no
noncomputable def a4m(ds:List D)(h:Hd):R Itm:=match ds with
 |[.int i,.int j]=>if B62 i/\B62 j then .ok ⟨rng i (j-i).toNat,λ_=>True⟩ h else .no
 |_=>.no
def sRg(g:List D->Hd->R Itm)(k:SA):SI:=λτ h=>(k τ h).bind g
theorem aqk(lo:Int)(n:Nat):anj K U0 H0 (Itr lo n) ⟨rng lo n,λ_=>True⟩:=by
 intro U H h g hr _
 refine⟨λi d ed=>?_,by show n<=(rng lo n).length;simp[rng]⟩
 simp only[rng,aE,aS]at ed;obtain⟨j,ej,rfl⟩:=ed;obtain⟨hj,e⟩:=ah.mp ej;simp at e hj;subst e;refine⟨hj,λy H' q=>?_⟩;obtain⟨rfl,rfl⟩:=q;exact⟨.refl _ _,.int _,hr⟩
theorem atp(hg:Gl X "range")(hm:X.mg "range" = none)(ha:MA X E [a] k)(hs:starEach [a] X.env=[(false,eval a X.env)]:=by rfl):MI X E tg (.Call (.Name "range" p) [a] [] pos) (sRg zg k):=by
 rintro aA s Z H Rr I ⟨U,τ,h,S,Rh,o⟩
 refine ahj hg hm ha hs aA s Z H Rr I ⟨U,τ,h,S,Rh,bu o λds h1 U1 H1 vs g1 r1 hr1 o1=>?_⟩;unfold zg at o1
 split at o1
 .rename_i j
  cases r1 with
  |cons r rs =>
   cases r;cases rs
   by_cases hb:B62 j
   .rw[aU hb]at o1;exact⟨j,rfl,hb.1,hb.2,o1 U1 H1 _ (.refl _ _) (aqk 0 j.toNat) hr1⟩
   .rw[bA hb]at o1;exact o1.elim
 .exact o1.elim
theorem atq(hg:Gl X "range")(hm:X.mg "range" = none)(ha:MA X E [a,b] k)(hs:starEach [a,b] X.env=[(false,eval a X.env),(false,eval b X.env)]:=by rfl)(hs2:starEach [b] X.env=[(false,eval b X.env)]:=by rfl):MI X E tg (.Call (.Name "range" p) [a,b] [] pos) (sRg a4m k):=by
 rintro aA s Z H Rr I ⟨U,τ,h,S,Rh,o⟩
 refine ahk hg hm ha hs hs2 aA s Z H Rr I ⟨U,τ,h,S,Rh,bu o λds h1 U1 H1 vs g1 r1 hr1 o1=>?_⟩;unfold a4m at o1
 split at o1
 .rename_i i j
  cases r1 with
  |cons r rs =>
   cases r
   cases rs with
   |cons r rs =>
   cases r;cases rs
   by_cases hb:B62 i/\B62 j
   .rw[aU hb]at o1;exact⟨i,j,rfl,⟨hb.1.1,hb.1.2,hb.2.1,hb.2.2⟩,o1 U1 H1 _ (.refl _ _) (aqk i _) hr1⟩
   .rw[bA hb]at o1;exact o1.elim
 .exact o1.elim
open Classical in
def forL(ck:Hd->Prop)(g:SG)(b:SS):List D->Sd->Hd->Fl
 |[],τ,h=>if ck h then .nx τ h else .no
 | x::xs,τ,h=>if ck h then (match g x τ h with
   |.nx τ1 h1=>(match b τ1 h1 with
    |.nx τ2 h2=>forL ck g b xs τ2 h2
    |.ct τ2 h2=>forL ck g b xs τ2 h2
    |.bk τ2 h2=>.nx τ2 h2
    |r=>r)
   |_=>.no) else .no
def a3f(f:SI)(g:SG)(b:SS):SS:=λτ h=>(f τ h).fl λit h1=>forL it.ck g b it.xs τ h1
theorem atr(ir:anj K U0 H0 J it)(S:SRep K U0 H0 Z0 τ0)(Rh:HRep K U0 H0 h0)(o:amf K E U0 H0 (forL it.ck g b it.xs τ0 h0) N) :
  ∃W:Nat->Nat->St->Hp->Prop,(∃m,W 0 m Z0 H0)/\∀i m Z H,W i m Z H->
   (J.stop i H/\N.nx Z H)\/(J.go i H/\∃M:St->Hp->Prop,(∀Z' H',M Z' H'->∃m',m'<m/\W (i+1) m' Z' H')/\∀x H',J.yld i H x H'->atn K E g x Z H' λZ2 H2=>a8z K E b {N with nx:=M,ct:=M,bk:=N.nx} Z2 H2):=by
 refine⟨λi m Z H=>m=it.xs.length-i/\i<=it.xs.length/\∃U τ h,Gr U0 H0 U H/\SRep K U H Z τ/\HRep K U H h/\amf K E U H (forL it.ck g b (it.xs.drop i) τ h) N,⟨_,rfl,bU _,U0,τ0,h0,.refl _ _,S,Rh,o⟩,?_⟩
 rintro i m Z H ⟨rfl,hi,U,τ,h,g0,S,Rh,o⟩
 by_cases hlt:i<it.xs.length
 .rw[dC hlt,forL]at o
  by_cases hc:it.ck h
  .rw[aU hc]at o;obtain⟨go,yl⟩:=(ir U H h g0 Rh hc).1 i _ (ag hlt);refine .inr ⟨go,λZ' H'=>it.xs.length-(i+1)<it.xs.length-i/\∃U τ h,Gr U0 H0 U H'/\SRep K U H' Z' τ/\HRep K U H' h/\amf K E U H' (forL it.ck g b (it.xs.drop (i+1)) τ h) N,λZ' H' q=>⟨_,q.1,rfl,hlt,q.2⟩,λx H' y=>?_⟩;obtain⟨g1,r1,hr1⟩:=yl x H' y;refine⟨U,τ,h,_,r1,S.mono g1,hr1,?_⟩;have o':=vo o g1
   cases hg:g it.xs[i] τ h with
   |nx τ1 h1 =>
    rw[hg]at o';dsimp only at o'
    intro U2 H2 Z2 g2 S2 R2
    refine⟨U2,τ1,h1,S2,R2,?_⟩;have o2:=vo o' g2;have gg:=(g0.trans g1).trans g2
    cases hb:b τ1 h1 with
    |nx τ2 h2=>rw[hb]at o2;exact λU3 H3 Z3 g3 S3 R3=>⟨by omega,U3,τ2,h2,gg.trans g3,S3,R3,vo o2 g3⟩
    |ct τ2 h2=>rw[hb]at o2;exact λU3 H3 Z3 g3 S3 R3=>⟨by omega,U3,τ2,h2,gg.trans g3,S3,R3,vo o2 g3⟩
    |bk τ2 h2=>rw[hb]at o2;exact o2
    |rt d h2=>rw[hb]at o2;exact o2
    |ex c h2=>rw[hb]at o2;exact o2
    |no=>rw[hb]at o2;exact o2.elim
   |_=>rw[hg]at o';exact o'.elim
  .rw[bA hc]at o;exact o.elim
 .have e:i=it.xs.length:=by omega
  subst e;rw[cF (ay _),forL]at o
  by_cases hc:it.ck h
  .rw[aU hc]at o;exact .inl ⟨(ir U H h g0 Rh hc).2,o U H Z (.refl _ _) S Rh⟩
  .rw[bA hc]at o;exact o.elim
theorem az3{X:Cx}(hp:PassesOwn (model X.prog X.w) X.A X.env X.xe)(hc:X.calm=true)(hi:MI X E tg aF f)(hg:MG X E tg g)(hb:MSs X E body b)(hs:∀x,foldedSetIterable aF X.env x=pure x:=by intro _;rfl):MS X E (.For tg aF body [] pos) (a3f f g b):=by
 refine PS.weak (axe hp hc hi hg hb hs) ?_
 rintro N Z H ⟨U,τ,h,S,Rh,o⟩
 exact⟨U,τ,h,S,Rh,um o λit h1 U1 H1 J g1 r1 hr1 o1=>atr r1 (S.mono g1) hr1 o1⟩
end MI
namespace MI
open L2
theorem R.bind_assoc{α β γ:Type}(r:R α)(f:α->Hd->R β)(g:β->Hd->R γ):(r.bind f).bind g=r.bind λa h=>(f a h).bind g:=by cases r<;>rfl
open Classical in
def mapR(ck:Hd->Prop)(f:D->Hd->R D):List D->Hd->R (List D)
 |[],h=>if ck h then .ok [] h else .no
 |x::xs,h=>if ck h then (f x h).bind λy h1=>(mapR ck f xs h1).bind λys h2=>.ok (y::ys) h2 else .no
open Classical in
def amg(ck:Hd->Prop)(f:D->Hd->R (Option D)):List D->Hd->R (List D)
 |[],h=>if ck h then .ok [] h else .no
 |x::xs,h=>if ck h then (f x h).bind λy h1=>(amg ck f xs h1).bind λys h2=>.ok (y.toList++ys) h2 else .no
def frs'(ix:List Nat)(τ:Sd):Sd:=ix.map λi=>(τ[i]?).join
def t1(d:D):Option Sd:=some [some d]
noncomputable def tN(n:Nat)(d:D):Option Sd:=match d with|.tup ds=>if ds.length=n then some (ds.map some) else none|_=>none
noncomputable def a7p(t:D->Option Sd)(fe:SE)(aG:Sd)(x:D)(h:Hd):R D:=match t x with|some ts=>fe (ts++aG) h|none=>.no
noncomputable def acq(t:D->Option Sd)(c:ST)(fe:SE)(aG:Sd)(x:D)(h:Hd):R (Option D):=match t x with
 |some ts=>(c (ts++aG) h).bind λb h1=>if b=true then (fe (ts++aG) h1).bind λy h2=>.ok (some y) h2 else .ok none h1
 |none=>.no
def ae6(yd zs:List D)(h:Hd):R D:=.ok (.ref h.length) (h++[.lst (yd++zs)])
theorem az4(r:R D)(m:Hd->R (List D))(yd:List D):(r.bind λy h1=>(m h1).bind λys h2=>.ok (y::ys) h2).bind (ae6 yd)=r.bind λy h1=>(m h1).bind (ae6 (yd++[y])):=by
 cases r with
 |ok y h1 =>
  show((m h1).bind _).bind _=(m h1).bind _
  cases m h1 with
  |ok ys h2=>simp[R.bind,ae6]
  |_=>rfl
 |_=>rfl
theorem b3f(r:R (Option D))(m:Hd->R (List D))(yd:List D):(r.bind λy h1=>(m h1).bind λys h2=>.ok (y.toList++ys) h2).bind (ae6 yd)=r.bind λy h1=>(m h1).bind (ae6 (yd++y.toList)):=by
 cases r with
 |ok y h1 =>
  show((m h1).bind _).bind _=(m h1).bind _
  cases m h1 with
  |ok ys h2=>simp[R.bind,ae6]
  |_=>rfl
 |_=>rfl
def ji(fi:SI)(t:D->Option Sd)(fe:SE)(ix:List Nat):SE:=λτ h=>(fi τ h).bind λit h1=>if it.xs.length<=LINE then (mapR it.ck (a7p t fe (frs' ix τ)) it.xs h1).bind (ae6 []) else .no
def xx(fi:SI)(t:D->Option Sd)(c:ST)(fe:SE)(ix:List Nat):SE:=λτ h=>(fi τ h).bind λit h1=>if it.xs.length<=LINE then (amg it.ck (acq t c fe (frs' ix τ)) it.xs h1).bind (ae6 []) else .no
def amh(K:Fg)(n:Nat)(g:TG)(t:D->Option Sd):Prop:=∀U H v d ts (r:St) (Q:St->Hp->Prop),Rep K U H v d->t d=some ts->(∀us:St,us.length=n->SRep K U H us ts->Q (us++r) H)->g v (List.replicate n none++r) H Q
theorem a91:SRep K U H [] []:=⟨rfl,λi d e=>by simp at e⟩
theorem a0a(r:Rep K U H v d)(s:SRep K U H Z τ):SRep K U H (some v::Z) (some d::τ):=by
 refine⟨by simp[s.len],λi d' e=>?_⟩
 cases i with
 |zero=>simp at e;subst e;exact⟨v,rfl,r⟩
 |succ i=>simpa using s.val i d' (by simpa using e)
theorem a6e(s:SRep K U H Z τ)(s':SRep K U H Z' τ'):SRep K U H (Z++Z') (τ++τ'):=by
 refine⟨by simp[s.len,s'.len],λi d e=>?_⟩
 by_cases hi:i<τ.length
 .rw[aL hi]at e;rw[aL (by rw[s.len];exact hi)]
  exact s.val i d e
 .rw[aR (by omega)]at e
  rw[aR (by rw[s.len];omega),s.len]
  exact s'.val _ d e
theorem a4n(s:SRep K U H Z τ)(ix:List Nat):SRep K U H (ix.map λi=>(Z[i]?).join) (frs' ix τ):=by
 refine⟨by simp[frs'],λj d e=>?_⟩
 simp only[frs',aE,aS]at e;obtain⟨i,hi,e⟩:=e;have:τ[i]? = some (some d):=by
  cases q:τ[i]? with
  |none=>rw[q]at e;cases e
  |some o=>rw[q]at e;simp at e;rw[e]
 obtain⟨v,h1,h2⟩:=s.val i d this;exact⟨v,by simp[hi,h1],h2⟩
theorem qy:amh K 1 (a3p 0) t1:=λU H v d ts r Q hr e q=>by
 cases e
 exact q [some v] rfl (a0a hr a91)
theorem az5{α:Type}{xs:List α}(h:xs.length=n+1):∃x ys,xs=x::ys:=by cases xs with|nil=>cases h|cons x ys=>exact⟨x,ys,rfl⟩
theorem aql{vs:List V}{d:D}{ds:List D}(r:Reps K U H vs (d::ds)):∃v us,vs=v::us/\Rep K U H v d/\Reps K U H us ds:=by cases r with|cons r rs=>exact⟨_,_,rfl,r,rs⟩
theorem aip:amh K 2 (L2.a0r K 2 (amv (a3p 0) (amv (a3p 1) b4h))) (tN 2):=λU H v d ts r Q hr e q=>by
 unfold tN at e
 cases hr with
 |@tup a vs xs h rs =>
  simp only at e
  split at e
  .rename_i hl;cases e
   obtain⟨x1,xs,rfl⟩:=az5 hl;obtain⟨x2,xs,rfl⟩:=az5 (iR hl);obtain rfl:=fD.mp (iR (iR hl));obtain⟨v1,vs,rfl,r1,rs⟩:=aql rs;obtain⟨v2,vs,rfl,r2,rs⟩:=aql rs;cases rs
   exact⟨a,_,rfl,SqT.of h,rfl,_,_,rfl,_,_,rfl,rfl,q [some _,some _] rfl (a0a r1 (a0a r2 a91))⟩
  .cases e
 |_=>cases e
theorem aiq{us:St}(h:us.length=n):L2.Ext (List.replicate n none++r) (us++r):=by
 refine⟨by simp[h],λi v e=>?_⟩
 by_cases hi:i<n
 .rw[aL (by simpa using hi),dJ,aU hi]at e
  cases e
 .rw[aR (by simpa using hi),eT]at e
  rw[aR (by omega),h]
  exact e
theorem ae7(ir:anj K U0 H0 J it)(tg:amh K n g t)(S:SRep K U0 H0 r rd)(Rh:HRep K U0 H0 h0)(hl:it.xs.length<=LINE)
  (o:out K E (a01 K) U0 H0 ((mapR it.ck (a7p t fe rd) it.xs h0).bind (ae6 [])) Q):ata J (List.replicate n none++r) g (lift K E (a01 K) fe) Q H0:=by
 refine⟨λi m ys H=>m=it.xs.length-i/\i<=it.xs.length/\ys.length<=i/\∃U h yd,Gr U0 H0 U H/\HRep K U H h/\Reps K U H ys yd/\out K E (a01 K) U H ((mapR it.ck (a7p t fe rd) (it.xs.drop i) h).bind (ae6 yd)) Q,
  ⟨_,rfl,bU _,bU _,U0,h0,[],.refl _ _,Rh,.nil,o⟩,?_⟩
 rintro i m ys H ⟨rfl,hi,hy,U,h,yd,g0,Rh,ry,o⟩
 by_cases hlt:i<it.xs.length
 .rw[dC hlt,mapR]at o
  by_cases hc:it.ck h
  .rw[aU hc,az4]at o;obtain⟨go,yl⟩:=(ir U H h g0 Rh hc).1 i _ (ag hlt);refine .inr ⟨go,Nat.lt_of_le_of_lt hy (bC hlt (ll hl)),λx H' y=>?_⟩;obtain⟨g1,r1,hr1⟩:=yl x H' y;have o':=a0s o g1
   cases ht:t it.xs[i] with
   |none=>simp only[a7p,ht]at o';exact o'.elim
   |some ts =>
    simp only[a7p,ht]at o';refine tg U H' x _ ts r _ r1 ht λus hus su=>⟨aiq hus,U,ts++rd,h,a6e su (S.mono (g0.trans g1)),hr1,bu o' λd2 h2 U2 H2 u g2 r2 hr2 o2=>?_⟩;refine⟨it.xs.length-(i+1),by omega,rfl,hlt,by simp;omega,U2,h2,yd++[d2],(g0.trans g1).trans g2,hr2,((ry.mono g1).mono g2).snoc r2,o2⟩
  .rw[bA hc]at o;exact o.elim
 .have e:i=it.xs.length:=by omega
  subst e;rw[cF (ay _),mapR]at o
  by_cases hc:it.ck h
  .rw[aU hc]at o;refine .inl ⟨(ir U H h g0 Rh hc).2,a1a (E:=E) ry Rh ?_⟩;simpa[R.bind,ae6] using o
  .rw[bA hc]at o;exact o.elim
theorem ab2(ir:anj K U0 H0 J it)(tg:amh K n g t)(S:SRep K U0 H0 r rd)(Rh:HRep K U0 H0 h0)(hl:it.xs.length<=LINE)
  (o:out K E (a01 K) U0 H0 ((amg it.ck (acq t c fe rd) it.xs h0).bind (ae6 [])) Q):aco J (List.replicate n none++r) g (lift K E aqh c) (lift K E (a01 K) fe) Q H0:=by
 refine⟨λi m ys H=>m=it.xs.length-i/\i<=it.xs.length/\ys.length<=i/\∃U h yd,Gr U0 H0 U H/\HRep K U H h/\Reps K U H ys yd/\out K E (a01 K) U H ((amg it.ck (acq t c fe rd) (it.xs.drop i) h).bind (ae6 yd)) Q,
  ⟨_,rfl,bU _,bU _,U0,h0,[],.refl _ _,Rh,.nil,o⟩,?_⟩
 rintro i m ys H ⟨rfl,hi,hy,U,h,yd,g0,Rh,ry,o⟩
 by_cases hlt:i<it.xs.length
 .rw[dC hlt,amg]at o
  by_cases hc:it.ck h
  .rw[aU hc,b3f]at o;obtain⟨go,yl⟩:=(ir U H h g0 Rh hc).1 i _ (ag hlt);refine .inr ⟨go,Nat.lt_of_le_of_lt hy (bC hlt (ll hl)),λx H' y=>?_⟩;obtain⟨g1,r1,hr1⟩:=yl x H' y;have o':=a0s o g1
   cases ht:t it.xs[i] with
   |none=>simp only[acq,ht]at o';exact o'.elim
   |some ts =>
    simp only[acq,ht]at o';rw[R.bind_assoc]at o';refine tg U H' x _ ts r _ r1 ht λus hus su=>⟨aiq hus,U,ts++rd,h,a6e su (S.mono (g0.trans g1)),hr1,bu o' λb h1 U1 H1 b' g2 rb hrb ob=>?_⟩;have su1:SRep K U1 H1 (us++r) (ts++rd):=(a6e su (S.mono (g0.trans g1))).mono g2;cases rb
    cases b with
    |true =>
     rw[aU rfl]at ob ⊢;rw[R.bind_assoc]at ob;refine⟨U1,ts++rd,h1,su1,hrb,bu ob λd2 h2 U2 H2 u g3 r2 hr2 o2=>?_⟩;refine⟨it.xs.length-(i+1),by omega,rfl,hlt,by simp;omega,U2,h2,yd++[d2],((g0.trans g1).trans g2).trans g3,hr2,(((ry.mono g1).mono g2).mono g3).snoc r2,?_⟩
     simpa[R.bind] using o2
    |false =>
     rw[bA bJ]at ob ⊢;refine⟨it.xs.length-(i+1),by omega,rfl,hlt,by omega,U1,h1,yd,(g0.trans g1).trans g2,hrb,(ry.mono g1).mono g2,?_⟩
     simpa[R.bind] using ob
  .rw[bA hc]at o;exact o.elim
 .have e:i=it.xs.length:=by omega
  subst e;rw[cF (ay _),amg]at o
  by_cases hc:it.ck h
  .rw[aU hc]at o;refine .inl ⟨(ir U H h g0 Rh hc).2,a1a (E:=E) ry Rh ?_⟩;simpa[R.bind,ae6] using o
  .rw[bA hc]at o;exact o.elim
section
variable{X:Cx}{E:XD}{aD tg aF cnd:Expr}{aB:Scope}{pos:Pos}{cl:List (Str×Addr)}{ts fr:List Str}{ix:List Nat}{fi:SI}{g:TG}{t:D->Option Sd}{fe:SE}{fc:ST}
theorem uh(hc:X.calm=true)(S:CSc X aB cl ts fr ix)(hi:MI X E tg aF fi)(hg:∀C fp s H,PG (cxC X (ts++fr) aB cl C fp s H) tg g)(ht:amh X.K ts.length g t)(he:∀C fp s H,ME (cxC X (ts++fr) aB cl C fp s H) E aD fe)
  (hs:∀x,foldedSetIterable aF X.env x=pure x:=by intro _;rfl):ME X E (.ListComp aD [⟨tg,aF,[],0⟩] aB pos) (ji fi t fe ix):=by
 refine PE.weak (ana (te:=lift X.K E (a01 X.K) fe) hc S hi hg he hs) ?_
 rintro Z H Q ⟨U,τ,h,Sr,Rh,o⟩
 refine⟨U,τ,h,Sr,Rh,bu o λit h1 U1 H1 J g1 r1 hr1 o1=>?_⟩
 by_cases hl:it.xs.length<=LINE
 .rw[aU hl]at o1;exact ae7 r1 ht (a4n (Sr.mono g1) ix) hr1 hl o1
 .rw[bA hl]at o1;exact o1.elim
theorem ae8(hc:X.calm=true)(S:CSc X aB cl ts fr ix)(hi:MI X E tg aF fi)(hg:∀C fp s H,PG (cxC X (ts++fr) aB cl C fp s H) tg g)(ht:amh X.K ts.length g t)(he:∀C fp s H,ME (cxC X (ts++fr) aB cl C fp s H) E aD fe)
  (hq:∀C fp s H,MT (cxC X (ts++fr) aB cl C fp s H) E cnd fc)
  (hs:∀x,foldedSetIterable aF X.env x=pure x:=by intro _;rfl):ME X E (.ListComp aD [⟨tg,aF,[cnd],0⟩] aB pos) (xx fi t fc fe ix):=by
 refine PE.weak (aft (te:=lift X.K E (a01 X.K) fe) (tc:=lift X.K E aqh fc) hc S hi hg he hq hs) ?_
 rintro Z H Q ⟨U,τ,h,Sr,Rh,o⟩
 refine⟨U,τ,h,Sr,Rh,bu o λit h1 U1 H1 J g1 r1 hr1 o1=>?_⟩
 by_cases hl:it.xs.length<=LINE
 .rw[aU hl]at o1;exact ab2 r1 ht (a4n (Sr.mono g1) ix) hr1 hl o1
 .rw[bA hl]at o1;exact o1.elim
end
mutual
def clo(n:Nat):D->Prop
 |.tup xs=>clos n xs
 |.rol xs=>clos n xs
 |.rod _ xs=>clos n xs
 |.scr xs=>clos n xs
 |.rdT _ xs=>clos n xs
 |.ins _ _ xs=>clos n xs
 |.ref i=>i<n
 |_=>True
def clos(n:Nat):List D->Prop
 |[]=>True
 |x::xs=>clo n x/\clos n xs
end
mutual
theorem Rep.clo:∀{v:V} {d:D},Rep K U H v d->clo U.length d
 |_,_,.non=>by simp[MI.clo]
 |_,_,.bl b=>by simp[MI.clo]
 |_,_,.int i=>by simp[MI.clo]
 |_,_,.str x=>by simp[MI.clo]
 |_,_,.ty n=>by simp[MI.clo]
 |_,_,.tup h r=>by simp only[MI.clo];exact Reps.clo r
 |_,_,.rol h r=>by simp only[MI.clo];exact Reps.clo r
 |_,_,.ref h=>by simp only[MI.clo];exact(ah.mp h).1
 |_,_,.rod h e r=>by simp only[MI.clo];exact Reps.clo r
 |_,_,.scr h r=>by simp only[MI.clo];exact Reps.clo r
 |_,_,.rdT h e r=>by simp only[MI.clo];exact Reps.clo r
 |_,_,.exc h hc hn=>by simp[MI.clo]
 |_,_,.ins h hn e r=>by simp only[MI.clo];exact Reps.clo r
theorem Reps.clo:∀{vs:List V} {ds:List D},Reps K U H vs ds->clos U.length ds
 |_,_,.nil=>by simp[MI.clos]
 |_,_,.cons r rs=>by simp only[MI.clos];exact⟨Rep.clo r,Reps.clo rs⟩
end
mutual
theorem Rep.cut:∀{v:V} {d:D},Rep K U H v d->clo n d->Rep K (U.take n) H v d
 |_,_,.non,_=>.non
 |_,_,.bl b,_=>.bl b
 |_,_,.int i,_=>.int i
 |_,_,.str x,_=>.str x
 |_,_,.ty n,_=>.ty n
 |_,_,.tup h r,c=>.tup h (Reps.cut r (by simpa only[MI.clo] using c))
 |_,_,.rol h r,c=>.rol h (Reps.cut r (by simpa only[MI.clo] using c))
 |_,_,.ref h,c=>.ref (by simp only[MI.clo]at c;rw[fE,aU c];exact h)
 |_,_,.rod h e r,c=>.rod h e (Reps.cut r (by simpa only[MI.clo] using c))
 |_,_,.scr h r,c=>.scr h (Reps.cut r (by simpa only[MI.clo] using c))
 |_,_,.rdT h e r,c=>.rdT h e (Reps.cut r (by simpa only[MI.clo] using c))
 |_,_,.exc h hc hn,_=>.exc h hc hn
 |_,_,.ins h hn e r,c=>.ins h hn e (Reps.cut r (by simpa only[MI.clo] using c))
theorem Reps.cut:∀{vs:List V} {ds:List D},Reps K U H vs ds->clos n ds->Reps K (U.take n) H vs ds
 |_,_,.nil,_=>.nil
 |_,_,.cons r rs,c=>by simp only[MI.clos]at c;exact .cons (Rep.cut r c.1) (Reps.cut rs c.2)
end
def a5q(n:Nat):O->Prop
 |.lst xs=>clos n xs
 |.dK kvs=>clos n (kvs.map (·.2))
 |.dT kvs=>clos n (kvs.map (·.2))
 |.ins _ fs=>clos n (fs.map (·.2))
def az6(n:Nat)(h:Hd):Prop:=∀o∈h,a5q n o
theorem ORep.clo(r:ORep K U H a o):a5q U.length o:=by
 cases o with
 |lst xs=>obtain⟨vs,_,r⟩:=r;exact r.clo
 |dK kvs=>obtain⟨us,_,_,r⟩:=r;exact r.clo
 |dT kvs=>obtain⟨us,_,_,r⟩:=r;exact r.clo
 |ins _ _=>obtain⟨_,_,us,_,_,_,r⟩:=r;exact r.clo
theorem ORep.cut(r:ORep K U H a o)(c:a5q n o):ORep K (U.take n) H a o:=by
 cases o with
 |lst xs=>obtain⟨vs,h,r⟩:=r;exact⟨vs,h,r.cut c⟩
 |dK kvs=>obtain⟨us,h,e,r⟩:=r;exact⟨us,h,e,r.cut c⟩
 |dT kvs=>obtain⟨us,h,e,r⟩:=r;exact⟨us,h,e,r.cut c⟩
 |ins _ _=>obtain⟨C,dx,us,h,hn,e,r⟩:=r;exact⟨C,dx,us,h,hn,e,r.cut c⟩
theorem HRep.clo(r:HRep K U H h):az6 h.length h:=λo ho=>by
 obtain⟨i,hi⟩:=bR ho;obtain⟨a,_,q⟩:=r.addr hi;rw[<-r.len];exact q.clo
theorem HRep.cut(r:HRep K U H (h++g))(c:az6 h.length h):HRep K (U.take h.length) H h:=by
 refine⟨r.nd.sublist (hX _ _),?_,λi a o e1 e2=>?_⟩
 .have:=r.len
  rw[aw]at this;rw[bY];omega
 .have hi:i<h.length:=(ah.mp e2).1;rw[fE,aU hi]at e1;exact(r.obj i a o e1 (by rw[aL hi];exact e2)).cut (c o (aW e2))
def X0:XD:=λ_ _ _ _=>False
abbrev SF:=List D->Hd->R D
noncomputable def ae9(K:Fg)(n:Nat)(F:SF):Sp:=λvs H Q _=>vs.length=n/\∃U ds h,Reps K U H vs ds/\HRep K U H h/\out K X0 (a01 K) U H (F ds h) Q
def a6v(n:Nat)(ds:List D):Sd:=ds.map some++List.replicate (n-ds.length) none
noncomputable def ju(b:SS)(n:Nat)(ds:List D)(h:Hd):R D:=match b (a6v n ds) h with
 |.rt d h1=>.ok d h1
 |.nx _ h1=>.ok .non h1
 |.ex c h1=>.ex c h1
 |_=>.no
def Rf(n:Nat)(r' r:R D):Prop:=match r with
 |.no=>True
 |.ok d h1=>∃g,r'=.ok d (h1++g)/\(g=[]\/(n<=h1.length/\clo h1.length d/\az6 h1.length h1))
 |.ex c h1=>∃g,r'=.ex c (h1++g)/\(g=[]\/(n<=h1.length/\az6 h1.length h1))
theorem Rf.same(h:r'=r):Rf n r' r:=by
 subst h
 cases r' with
 |ok d h1=>exact⟨[],by simp,.inl rfl⟩
 |ex c h1=>exact⟨[],by simp,.inl rfl⟩
 |no=>exact True.intro
theorem ag0(r:Reps K U H vs ds):SRep K U H (start N vs) (a6v N.length ds):=by
 refine a6e ?_ ?_
 .clear N
  induction r using Reps.rec (motive_1:=λ_ _ _=>True) with
  |nil=>exact a91
  |cons r rs _ ih=>exact a0a r ih
  |_=>trivial
 .rw[r.len];exact⟨by simp,λi d e=>by rw[dJ]at e;split at e<;>cases e⟩
theorem aqm(g:Gr U H U' H')(hn:U.length<=n):Gr U H (U'.take n) H':=by
 obtain⟨m,rfl,hm⟩:=g.pre;exact⟨⟨m.take (n-U.length),by rw[List.take_append,bP hn],λa ha=>hm a (ff ha)⟩,g.tup,g.frz,g.oth,g.kp⟩
section
variable{P:Program}{w:World}{K:Fg}{mg:Str->Option Value}{base:Heap}
theorem az7(Fu:Fun K x qual st f fd)(S:FnScope N ps (jm st))
  (hb:∀(cdv:Value) (A:Around) (outer:List Env) (s:Shared) (H:Hp) (E:XK),Room k (A.deeper (PyProof.Rows.envOfC qual (jm st) s.heap.objs.size f cdv))->MSs (ame CX0 P w K mg base N qual (jm st) f cdv A outer s H E).nox X0 (a02 st) b)
  (hF:∀ds h,ds.length=ps.length->clos h.length ds->az6 h.length h->Rf h.length (ju b N.length ds h) (F ds h)):FnOk P w K mg base CX0 (k+1) f fd ps (ae9 K ps.length F):=by
 refine Fu.ok S (λvs H Q E h=>h.1) λcdv A outer s H vs Q E hr h=>⟨_,hb cdv A outer s H E hr,?_⟩;obtain⟨hl,U,ds,h,r,hr',o⟩:=h;refine⟨U,a6v N.length ds,h,ag0 r,hr',?_⟩;have q:=hF ds h (by rw[<-r.len];exact hl) (by rw[<-hr'.len];exact r.clo) hr'.clo
 unfold ju at q
 cases hFd:F ds h with
 |no=>rw[hFd]at o;exact o.elim
 |ex c h1 =>
  rw[hFd]at q o;obtain⟨g,e,cl⟩:=q;have fin:∀U' H',Gr U H U' H'->HRep K U' H' (h1++g)->X0 c U' H' (h1++g):=λU' H' g1 hr1=>by
   rcases cl with rfl|⟨hn,c2⟩
   .rw[bX]at hr1;exact o U' H' g1 hr1
   .exact o (U'.take h1.length) H' (aqm g1 (by rw[hr'.len];exact hn)) (hr1.cut c2)
  cases hbd:b (a6v N.length ds) h with
  |ex c' h' =>
   rw[hbd]at e
   injection e with e1 e2
   subst e1 e2;exact fin
  |_=>rw[hbd]at e;cases e
 |ok d h1 =>
  rw[hFd]at q o;obtain⟨g,e,cl⟩:=q;have fin:∀U' H' v,Gr U H U' H'->Rep K U' H' v d->HRep K U' H' (h1++g)->Q v H':=λU' H' v g1 r1 hr1=>by
   rcases cl with rfl|⟨hn,c1,c2⟩
   .rw[bX]at hr1;exact o U' H' v g1 r1 hr1
   .exact o (U'.take h1.length) H' v (aqm g1 (by rw[hr'.len];exact hn)) (r1.cut c1) (hr1.cut c2)
  cases hbd:b (a6v N.length ds) h with
  |rt d' h' =>
   rw[hbd]at e
   injection e with e1 e2
   subst e1 e2;exact fin
  |nx τ' h' =>
   rw[hbd]at e
   injection e with e1 e2
   subst e1 e2;exact λU' H' Z' g1 S1 hr1=>fin U' H' .non g1 .non hr1
  |_=>rw[hbd]at e;cases e
end
section
variable{K:Fg}{E:XD}{U:List Addr}{H:Hp}{h:Hd}{Q:VK}
theorem ans(o:out K E (a01 K) U H (.ok d h) Q)(r:Rep K U H v d)(hr:HRep K U H h):Q v H:=o U H v (.refl _ _) r hr
theorem HRep.lst(hr:HRep K U H h){i:Nat}{a:Addr}{xs:List D}(e:U[i]? = some a)(hi:h[i]? = some (.lst xs)):∃vs,H a=some (.lst vs)/\Reps K U H vs xs:=hr.obj i a _ e hi
end
noncomputable def b5p:D->D->Hd->R D
 |.int i,.int j,h=>.ok (.int (i+j)) h
 |.str x,.str y,h=>if x.length+y.length<=LINE then .ok (.str (x++y)) h else .no
 |.tup xs,.tup ys,h=>if xs≠[]/\xs.length+ys.length<=LINE then .ok (.tup (xs++ys)) h else .no
 |.ref i,.ref j,h=>match h[i]?,h[j]? with
  |some (.lst xs),some (.lst ys)=>if xs.length+ys.length<=LINE then .ok (.ref h.length) (h++[.lst (xs++ys)]) else .no
  |_,_=>.no
 |_,_,_=>.no
def afj:D->D->Hd->R D
 |.int i,.int j,h=>.ok (.int (i-j)) h
 |_,_,_=>.no
def a5z:D->D->Hd->R D
 |.int i,.int j,h=>if 0<j then .ok (.int (i%j)) h else .no
 |_,_,_=>.no
noncomputable def ac6:D->D->Hd->R D
 |.int i,.int j,h=>if 0<j/\j<1073741824 then .ok (.int (i / j)) h else .no
 |_,_,_=>.no
noncomputable def a7y:D->D->Hd->R D
 |.int i,.int j,h=>if 0<=j/\j<=1000000/\i.natAbs<2^64 then .ok (.int (i^j.toNat)) h else .no
 |_,_,_=>.no
section
variable{X:Cx}{K:Fg}
theorem atu:a2p K afj (rI0 λi j=>.int (i-j)):=by
 intro E U H h x y dx dy Q rx ry hr o
 cases rx with
 |int i =>
  cases ry with
  |int j=>exact⟨i,j,rfl,rfl,ans o (.int _) hr⟩
  |_=>exact o.elim
 |_=>exact o.elim
theorem atv:a2p K a5z (rI (λ_ j=>0<j) λi j=>.int (i%j)):=by
 intro E U H h x y dx dy Q rx ry hr o
 cases rx with
 |int i =>
  cases ry with
  |int j =>
   by_cases hc:0<j
   .simp only[a5z,aU hc]at o;exact⟨i,j,rfl,rfl,hc,ans o (.int _) hr⟩
   .simp only[a5z,bA hc]at o;exact o.elim
  |_=>exact o.elim
 |_=>exact o.elim
theorem air:a2p K ac6 (rI b2s λi j=>.int (i / j)):=by
 intro E U H h x y dx dy Q rx ry hr o
 cases rx with
 |int i =>
  cases ry with
  |int j =>
   by_cases hc:0<j/\j<1073741824
   .simp only[ac6,aU hc]at o;exact⟨i,j,rfl,rfl,hc,ans o (.int _) hr⟩
   .simp only[ac6,bA hc]at o;exact o.elim
  |_=>exact o.elim
 |_=>exact o.elim
theorem atw:a2p K a7y (rI b4j λi j=>.int (i^j.toNat)):=by
 intro E U H h x y dx dy Q rx ry hr o
 cases rx with
 |int i =>
  cases ry with
  |int j =>
   by_cases hc:0<=j/\j<=1000000/\i.natAbs<2^64
   .simp only[a7y,aU hc]at o;exact⟨i,j,rfl,rfl,hc,ans o (.int _) hr⟩
   .simp only[a7y,bA hc]at o;exact o.elim
  |_=>exact o.elim
 |_=>exact o.elim
variable{E:XD}{a b e:Expr}{es:List Expr}{fa fb:SE}{ka:SA}{pos:Pos}
theorem az8(ha:ME X E a fa)(hb:ME X E b fb):ME X E (.BinOp a .Sub b pos) (s2 afj fa fb):=afy axg atu ha hb
theorem az9(ha:ME X E a fa)(hb:ME X E b fb):ME X E (.BinOp a .Mod b pos) (s2 a5z fa fb):=afy axi atv ha hb
theorem aza(ha:ME X E a fa)(hb:ME X E b fb):ME X E (.BinOp a .FloorDiv b pos) (s2 ac6 fa fb):=afy asi air ha hb
theorem azb(ha:ME X E a fa)(hb:ME X E b fb):ME X E (.BinOp a .Pow b pos) (s2 a7y fa fb):=afy axj atw ha hb
def a1b:D->Hd->R D
 |.int i,h=>.ok (.int (-i)) h
 |_,_=>.no
theorem azc(ha:ME X E a fa):ME X E (.UnaryOp .USub a pos) (s1 a1b fa):=b3b axk (λE U H h x dx Q rx hr o=>by
 cases rx with
 |int i=>exact⟨i,rfl,ans o (.int _) hr⟩
 |_=>exact o.elim) ha
noncomputable def gLt:D->D->Hd->R D
 |.int i,.int j,h=>.ok (.bl (decide (i<j))) h
 |.str i,.str j,h=>.ok (.bl (decide (i.cps.toList<j.cps.toList))) h
 |_,_,_=>.no
noncomputable def gLe:D->D->Hd->R D
 |.int i,.int j,h=>.ok (.bl (decide (i<=j))) h
 |.str i,.str j,h=>.ok (.bl (!decide (j.cps.toList<i.cps.toList))) h
 |_,_,_=>.no
def gGt:D->D->Hd->R D
 |.int i,.int j,h=>.ok (.bl (decide (j<i))) h
 |_,_,_=>.no
def gGe:D->D->Hd->R D
 |.int i,.int j,h=>.ok (.bl (decide (j<=i))) h
 |_,_,_=>.no
theorem aqn:a2p K gLt (λx y H Q=>rI0 (λi j=>.bl (decide (i<j))) x y H Q\/∃i j,x=.str i/\y=.str j/\Q (.bl (decide (i.cps.toList<j.cps.toList))) H):=by
 intro E U H h x y dx dy Q rx ry hr o
 cases rx with
 |int i =>
  cases ry with
  |int j=>exact .inl ⟨i,j,rfl,rfl,ans o (.bl _) hr⟩
  |_=>exact o.elim
 |str i =>
  cases ry with
  |str j=>exact .inr ⟨i,j,rfl,rfl,ans o (.bl _) hr⟩
  |_=>exact o.elim
 |_=>exact o.elim
theorem ab3:a2p K gLe (λx y H Q=>rI0 (λi j=>.bl (decide (i<=j))) x y H Q\/∃i j,x=.str i/\y=.str j/\Q (.bl (!decide (j.cps.toList<i.cps.toList))) H):=by
 intro E U H h x y dx dy Q rx ry hr o
 cases rx with
 |int i =>
  cases ry with
  |int j=>exact .inl ⟨i,j,rfl,rfl,ans o (.bl _) hr⟩
  |_=>exact o.elim
 |str i =>
  cases ry with
  |str j=>exact .inr ⟨i,j,rfl,rfl,ans o (.bl _) hr⟩
  |_=>exact o.elim
 |_=>exact o.elim
theorem aqo:a2p K gGt (rI0 λi j=>.bl (decide (j<i))):=by
 intro E U H h x y dx dy Q rx ry hr o
 cases rx with
 |int i =>
  cases ry with
  |int j=>exact⟨i,j,rfl,rfl,ans o (.bl _) hr⟩
  |_=>exact o.elim
 |_=>exact o.elim
theorem aqp:a2p K gGe (rI0 λi j=>.bl (decide (j<=i))):=by
 intro E U H h x y dx dy Q rx ry hr o
 cases rx with
 |int i =>
  cases ry with
  |int j=>exact⟨i,j,rfl,rfl,ans o (.bl _) hr⟩
  |_=>exact o.elim
 |_=>exact o.elim
def a2s:D->Bool
 |.non=>true
 |_=>false
theorem ais(r:Rep K U H x .non):x=.non:=by cases r;rfl
theorem aea{b:Bool}(r:Rep K U H x (.bl b)):x=.bl b:=by cases r;rfl
theorem ait{i:Int}(r:Rep K U H x (.int i)):x=.int i:=by cases r;rfl
theorem aeb(r:Rep K U H x d):decide (x=.non)=a2s d:=by cases r<;>simp[a2s]
noncomputable def gIs(x y:D)(h:Hd):R D:=match y with
 |.non=>.ok (.bl (a2s x)) h
 |.bl j=>(match x with|.bl i=>.ok (.bl (i == j)) h|_=>.no)
 |_=>.no
noncomputable def vp(x y:D)(h:Hd):R D:=match y with
 |.non=>.ok (.bl (!a2s x)) h
 |.bl j=>(match x with|.bl i=>.ok (.bl (i != j)) h|_=>.no)
 |_=>.no
theorem aqq:a2p K gIs (λx y H Q=>(y=.non/\Q (.bl (decide (x=.non))) H)\/∃i j,x=.bl i/\y=.bl j/\Q (.bl (i == j)) H):=by
 intro E U H h x y dx dy Q rx ry hr o
 cases dy with
 |non=>exact .inl ⟨ais ry,by rw[aeb rx];exact ans o (.bl _) hr⟩
 |bl j =>
  cases dx with
  |bl i=>exact .inr ⟨i,j,aea rx,aea ry,ans o (.bl _) hr⟩
  |_=>exact o.elim
 |_=>exact o.elim
theorem ab4:a2p K vp (λx y H Q=>(y=.non/\Q (.bl (!decide (x=.non))) H)\/∃i j,x=.bl i/\y=.bl j/\Q (.bl (i != j)) H):=by
 intro E U H h x y dx dy Q rx ry hr o
 cases dy with
 |non=>exact .inl ⟨ais ry,by rw[aeb rx];exact ans o (.bl _) hr⟩
 |bl j =>
  cases dx with
  |bl i=>exact .inr ⟨i,j,aea rx,aea ry,ans o (.bl _) hr⟩
  |_=>exact o.elim
 |_=>exact o.elim
def a0o:D->Bool
 |.non=>true|.bl _=>true|.int _=>true|.str _=>true
 |_=>false
noncomputable def fvD:D->Option V
 |.non=>some .non|.bl b=>some (.bl b)|.int i=>some (.int i)|.str x=>some (.str x)
 |_=>none
theorem anl{d:D}(r:Rep K U H x d)(f:a0o d=true):fvD d=some x:=by
 cases r<;>first|rfl|(cases f;done)
theorem fvs{d e:D}{P:D->V->D->V->Prop}(h:∀d x e y,fvD d=some x->fvD e=some y->P d x e y)(r:Rep K U H x d)(q:Rep K U H y e)(f:a0o d=true)(g:a0o e=true):P d x e y:=h d x e y (anl r f) (anl q g)
noncomputable def eqF:D->D->Bool
 |.non,.non=>true
 |.bl i,.bl j=>i == j
 |.int i,.int j=>i == j
 |.str i,.str j=>i == j
 |.int i,.bl j=>i == (if j then 1 else 0)
 |.bl i,.int j=>(if i then 1 else 0) == j
 |_,_=>false
end
section
variable{X:Cx}{K:Fg}{E:XD}{a b e o:Expr}{es:List Expr}{fa fb:SE}{ka:SA}{pos:Pos}
noncomputable def a1y(d:D)(h:Hd):Option (List D):=match d with
 |.tup xs=>some xs
 |.rol xs=>some xs
 |.ref i=>match h[i]? with|some (.lst xs)=>some xs|_=>none
 |_=>none
noncomputable def gIx(x y:D)(h:Hd):R D:=match y with
 |.int i=>(match x with
  |.str z=>if z.length<=LINE then (match atI z.cps.toList i with|some c=>.ok (.str ⟨#[c]⟩) h|none=>.no) else .no
  |x=>match a1y x h with
   |some xs=>(match atI xs i with|some d=>.ok d h|none=>.no)
   |none=>.no)
 |_=>.no
theorem aec(r:Reps K U H vs xs)(e:atI xs i=some d):∃v,atI vs i=some v/\Rep K U H v d:=by
 unfold atI at e ⊢;rw[r.len]
 cases hx:ixN xs.length i with
 |none=>rw[hx]at e;cases e
 |some j=>rw[hx]at e;exact r.get e
theorem azd:a2p K gIx (rIx K):=by
 intro E U H h x y dx dy Q rx ry hr o
 cases ry with
 |int i =>
  have go:∀{p:Addr} {vs:List V} {xs:List D},Reps K U H vs xs->out K E (a01 K) U H (match atI xs i with|some d=>.ok d h|none=>.no) Q->∃v,atI vs i=some v/\Q v H:=λ{p vs xs} r o=>by
   cases he:atI xs i with
   |none=>rw[he]at o;exact o.elim
   |some d =>
    rw[he]at o;obtain⟨v,h1,h2⟩:=aec r he;exact⟨v,h1,ans o h2 hr⟩
  cases rx with
  |str z =>
   by_cases hc:z.length<=LINE
   .simp only[gIx,aU hc]at o
    cases he:atI z.cps.toList i with
    |none=>rw[he]at o;exact o.elim
    |some c=>rw[he]at o;exact .inr (.inr ⟨z,i,c,rfl,rfl,ll hc,he,ans o (.str _) hr⟩)
   .simp only[gIx,bA hc]at o;exact o.elim
  |@tup p vs xs hp r =>
   simp only[gIx,a1y]at o;obtain⟨v,h1,h2⟩:=go (p:=p) r o;exact .inr (.inl ⟨p,vs,i,v,rfl,rfl,SqT.of hp,h1,h2⟩)
  |@rol p vs xs hp r =>
   simp only[gIx,a1y]at o;obtain⟨v,h1,h2⟩:=go (p:=p) r o;exact .inl ⟨p,vs,i,v,rfl,rfl,hp.l,h1,h2⟩
  |@ref p j hp =>
   obtain⟨ob,e1,e2⟩:=hr.at hp
   cases ob with
   |lst xs =>
    simp only[gIx,a1y,e1]at o;obtain⟨vs,h3,h4⟩:=e2;obtain⟨v,h1,h2⟩:=go (p:=p) h4 o;exact .inl ⟨p,vs,i,v,rfl,rfl,SqL.of h3,h1,h2⟩
   |dK _=>simp only[gIx,a1y,e1]at o;exact o.elim
   |dT _=>simp only[gIx,a1y,e1]at o;exact o.elim
   |ins _ _=>simp only[gIx,a1y,e1]at o;exact o.elim
  |_=>exact o.elim
 |_=>exact o.elim
theorem atx(ha:ME X E a fa)(hb:ME X E b fb)(hp:a8p b):ME X E (.Subscript a b pos) (s2 gIx fa fb):=b3c axx azd ha hb hp
abbrev SO:=Sd->Hd->R (Option Int)
abbrev MO(X:Cx)(E:XD)(e:Option Expr)(f:SO):Prop:=PO X e (lift X.K E b5m f)
def oN:SO:=λ_ h=>.ok none h
def oS(f:SE):SO:=λτ h=>(f τ h).bind λd h1=>match d with|.int i=>.ok (some i) h1|_=>.no
theorem PO.weak{e:Option Expr}{t t':St->Hp->(Option Int->Hp->Prop)->Prop}(h:PO X e t)(i:∀Z H Q,t' Z H Q->t Z H Q):PO X e t':=λaA s Z H Q I q=>h aA s Z H Q I (i _ _ _ q)
theorem aty:MO X E none oN:=PO.weak ass λZ H Q ⟨U,τ,h,S,Rh,o⟩=>o U H none (.refl _ _) rfl Rh
theorem atz(he:ME X E e fa):MO X E (some e) (oS fa):=by
 refine PO.weak (asu he) ?_
 rintro Z H Q ⟨U,τ,h,S,Rh,o⟩
 refine⟨U,τ,h,S,Rh,bu o λd h1 U1 H1 v g1 r1 hr1 o1=>?_⟩
 cases r1 with
 |int i=>exact⟨i,rfl,o1 U1 H1 _ (.refl _ _) rfl hr1⟩
 |_=>exact o1.elim
def whole(n:Nat)(lo hi:Option Int):Prop:=HT.sIx n 0 lo=0/\HT.sIx n n hi=n
instance (n:Nat) (lo hi:Option Int):Decidable (whole n lo hi):=by unfold whole;exact inferInstance
noncomputable def gSl(d:D)(lo hi:Option Int)(h:Hd):R D:=match d with
 |.str z=>if z.length<=LINE then .ok (.str ⟨(a8u z.cps.toList lo hi).toArray⟩) h else .no
 |.tup xs=>if ¬ whole xs.length lo hi then .ok (.tup (a8u xs lo hi)) h else .no
 |.rol xs=>.ok (.ref h.length) (h++[.lst (a8u xs lo hi)])
 |.scr xs=>.ok (.ref h.length) (h++[.lst (a8u xs lo hi)])
 |.ref i=>match h[i]? with|some (.lst xs)=>.ok (.ref h.length) (h++[.lst (a8u xs lo hi)])|_=>.no
 |_=>.no
theorem a4o(r:Reps K U H vs xs)(lo hi:Option Int):Reps K U H (aq8 vs lo hi) (a8u xs lo hi):=by
 unfold aq8 a8u;rw[r.len];exact(r.drop _).take _
theorem aed(rx:Rep K U H x d)(hr:HRep K U H h)(o:out K E (a01 K) U H (gSl d lo hi h) Q):b37 x lo hi H Q\/b2x K x lo hi H Q\/b2z K x lo hi H Q:=by
 cases rx with
 |str z =>
  by_cases hc:z.length<=LINE
  .simp only[gSl,aU hc]at o;exact .inl ⟨z,rfl,ll hc,ans o (.str _) hr⟩
  .simp only[gSl,bA hc]at o;exact o.elim
 |@tup p vs xs hp r =>
  by_cases hc:¬ whole xs.length lo hi
  .simp only[gSl,aU hc]at o;exact .inr (.inl ⟨p,vs,rfl,SqT.of hp,by rw[r.len];exact hc,a3t (a4o r lo hi) hr o⟩)
  .simp only[gSl,bA hc]at o;exact o.elim
 |@rol p vs xs hp r=>exact .inr (.inr ⟨p,vs,rfl,hp.l,a1a (a4o r lo hi) hr o⟩)
 |@scr p vs xs hp r=>exact .inr (.inr ⟨p,vs,rfl,hp.l,a1a (a4o r lo hi) hr o⟩)
 |@ref p j hp =>
  obtain⟨ob,e1,e2⟩:=hr.at hp
  cases ob with
  |lst xs =>
   simp only[gSl,e1]at o;obtain⟨vs,h3,h4⟩:=e2;exact .inr (.inr ⟨p,vs,rfl,SqL.of h3,a1a (a4o h4 lo hi) hr o⟩)
  |dK _=>simp only[gSl,e1]at o;exact o.elim
  |dT _=>simp only[gSl,e1]at o;exact o.elim
  |ins _ _=>simp only[gSl,e1]at o;exact o.elim
 |_=>exact o.elim
theorem aiu(r:Rep K U H x d)(f:a0o d=true):a3q x=true:=by cases r<;>first|rfl|cases f
theorem aze(r:Rep K U H x d)(q:Rep K U H y c):a0o d=true->a0o c=true->eqV x y=eqF d c:=λf g=>by
 refine fvs (P:=λd x c y=>eqV x y=eqF d c) (λd x e y h h'=>?_) r q f g
 cases d<;>first|(cases h;done)|(cases h;cases e<;>first|(cases h';done)|(cases h';rfl))
def inD(x:D)(xs:List D):Bool:=xs.any λy=>eqF y x
theorem anm(r:Reps K U H vs xs)(f:xs.all a0o=true):vs.all a3q=true:=by
 induction r using Reps.rec (motive_1:=λ_ _ _=>True) with
 |nil=>rfl
 |cons r rs _ ih =>
  rw[eX,ba]at f ⊢;exact⟨aiu r f.1,ih f.2⟩
 |_=>trivial
theorem azf(rx:Rep K U H x d)(fx:a0o d=true)(r:Reps K U H vs xs)(f:xs.all a0o=true):inV x vs=inD d xs:=by
 unfold inV inD
 induction r using Reps.rec (motive_1:=λ_ _ _=>True) with
 |nil=>rfl
 |cons r rs _ ih =>
  rw[eX,ba]at f;rw[eY,eY,ih f.2,aze r rx f.1 fx]
 |_=>trivial
noncomputable def gIn(neg:Bool)(x y:D)(h:Hd):R D:=match y with
 |.str T=>(match x with
  |.str z=>(match z.cps.toList with|[c]=>.ok (.bl (if neg then !decide (c∈T.cps.toList) else decide (c∈T.cps.toList))) h|_=>.no)
  |_=>.no)
 |y=>match a1y y h with
  |some xs=>if a0o x=true/\xs.all a0o=true then .ok (.bl (if neg then !inD x xs else inD x xs)) h else .no
  |none=>.no
theorem one_sign{z:Str}(h:z.cps.toList=[c]):z=⟨#[c]⟩:=by
 obtain⟨cps⟩:=z
 congr
 exact Array.ext' (by simpa using h)
theorem aqr(neg:Bool){r1:R2}(h1:∀c T H (Q:VK),Q (.bl (if neg then !decide (c∈T.cps.toList) else decide (c∈T.cps.toList))) H->r1 (.str ⟨#[c]⟩) (.str T) H Q):a2p K (gIn neg) (λx y H Q=>r1 x y H Q\/rIn K neg x y H Q):=by
 intro E U H h x y dx dy Q rx ry hr o
 have go:∀{p:Addr} {vs:List V} {xs:List D},(SqL K H p vs\/SqT K H p vs)->Reps K U H vs xs->out K E (a01 K) U H (if a0o dx=true/\xs.all a0o=true then .ok (.bl (if neg then !inD dx xs else inD dx xs)) h else .no) Q->rIn K neg x (.ref p) H Q:=λ{p vs xs} sq r o=>by
  split at o
  .rename_i hc;exact⟨p,vs,rfl,sq,aiu rx hc.1,anm r hc.2,by rw[azf rx hc.1 r hc.2];exact ans o (.bl _) hr⟩
  .exact o.elim
 cases ry with
 |str T =>
  cases rx with
  |str z =>
   simp only[gIn]at o
   split at o
   .rename_i c hz;rw[one_sign hz];exact .inl (h1 c T H Q (ans o (.bl _) hr))
   .exact o.elim
  |_=>exact o.elim
 |@tup p vs xs hp r=>simp only[gIn,a1y]at o;exact .inr (go (.inr (SqT.of hp)) r o)
 |@rol p vs xs hp r=>simp only[gIn,a1y]at o;exact .inr (go (.inl hp.l) r o)
 |@ref p j hp =>
  obtain⟨ob,e1,e2⟩:=hr.at hp
  cases ob with
  |lst xs =>
   simp only[gIn,a1y,e1]at o;obtain⟨vs,h3,h4⟩:=e2;exact .inr (go (.inl (SqL.of h3)) h4 o)
  |dK _=>simp only[gIn,a1y,e1]at o;exact o.elim
  |dT _=>simp only[gIn,a1y,e1]at o;exact o.elim
  |ins _ _=>simp only[gIn,a1y,e1]at o;exact o.elim
 |_=>exact o.elim
theorem au0:a2p K (gIn false) (λx y H Q=>(∃c T,x=.str ⟨#[c]⟩/\y=.str T/\Q (.bl (decide (c∈T.cps.toList))) H)\/rIn K false x y H Q):=aqr false λc T H Q q=>⟨c,T,rfl,rfl,q⟩
theorem au1:a2p K (gIn true) (λx y H Q=>(∃c T,x=.str ⟨#[c]⟩/\y=.str T/\Q (.bl (!decide (c∈T.cps.toList))) H)\/rIn K true x y H Q):=aqr true λc T H Q q=>⟨c,T,rfl,rfl,q⟩
noncomputable def vm:List D->Hd->R D
 |[.str z],h=>if z.length<=LINE then .ok (.int z.length) h else .no
 |[x],h=>(match a1y x h with|some xs=>.ok (.int xs.length) h|none=>.no)
 |_,_=>.no
theorem au2:afx K vm (λxs H Q=>(∃p ys,xs=[.ref p]/\(SqL K H p ys\/SqT K H p ys)/\Q (.int ys.length) H)\/∃z,xs=[.str z]/\z.length<=sizeLine/\Q (.int z.length) H):=by
 intro E U H h xs ds Q r hr o
 cases r with
 |nil=>exact o.elim
 |cons r rs =>
  cases rs with
  |cons _ _=>exact(show False by cases r<;>exact o).elim
  |nil =>
   cases r with
   |str z =>
    by_cases hc:z.length<=LINE
    .simp only[vm,aU hc]at o;exact .inr ⟨z,rfl,ll hc,ans o (.int _) hr⟩
    .simp only[vm,bA hc]at o;exact o.elim
   |@tup p vs xs hp r=>simp only[vm,a1y]at o;exact .inl ⟨p,vs,rfl,.inr (SqT.of hp),by rw[r.len];exact ans o (.int _) hr⟩
   |@rol p vs xs hp r=>simp only[vm,a1y]at o;exact .inl ⟨p,vs,rfl,.inl hp.l,by rw[r.len];exact ans o (.int _) hr⟩
   |@ref p j hp =>
    obtain⟨ob,e1,e2⟩:=hr.at hp
    cases ob with
    |lst xs =>
     simp only[vm,a1y,e1]at o;obtain⟨vs,h3,h4⟩:=e2;exact .inl ⟨p,vs,rfl,.inl (SqL.of h3),by rw[h4.len];exact ans o (.int _) hr⟩
    |dK _=>simp only[vm,a1y,e1]at o;exact o.elim
    |dT _=>simp only[vm,a1y,e1]at o;exact o.elim
    |ins _ _=>simp only[vm,a1y,e1]at o;exact o.elim
   |_=>exact o.elim
def b1y:List D->Hd->R D
 |[.int i],h=>.ok (.int (if i<0 then -i else i)) h
 |_,_=>.no
theorem au3:afx K b1y (λxs H Q=>∃i,xs=[.int i]/\Q (.int (if i<0 then -i else i)) H):=by
 intro E U H h xs ds Q r hr o
 unfold b1y at o
 split at o
 .cases r with|cons r rs=>cases r;cases rs;exact⟨_,rfl,ans o (.int _) hr⟩
 .exact o.elim
def ano:List D->Hd->R D
 |[.int i,.int j],h=>.ok (.int (if j > i then j else i)) h
 |_,_=>.no
def ab5:List D->Hd->R D
 |[.int i,.int j],h=>.ok (.int (if j<i then j else i)) h
 |_,_=>.no
theorem anp:afx K ab5 (λxs H Q=>∃i j,xs=[.int i,.int j]/\Q (.int (if j<i then j else i)) H):=by
 intro E U H h xs ds Q r hr o
 unfold ab5 at o
 split at o
 .cases r with|cons r rs=>cases rs with|cons q rs=>cases r;cases q;cases rs;exact⟨_,_,rfl,ans o (.int _) hr⟩
 .exact o.elim
noncomputable def au4:List D->Hd->R D
 |[.int i],h=>.ok (.int i) h
 |[.bl k],h=>.ok (.int (if k then 1 else 0)) h
 |_,_=>.no
theorem au5:afx K au4 (λxs H Q=>(∃i,xs=[.int i]/\Q (.int i) H)\/∃k,xs=[.bl k]/\Q (.int (if k then 1 else 0)) H):=by
 intro E U H h xs ds Q r hr o
 unfold au4 at o
 split at o
 .cases r with|cons r rs=>cases r;cases rs;exact .inl ⟨_,rfl,ans o (.int _) hr⟩
 .cases r with|cons r rs=>cases r;cases rs;exact .inr ⟨_,rfl,ans o (.int _) hr⟩
 .exact o.elim
noncomputable def tyD(d:D)(h:Hd):Option String:=match d with
 |.non=>some "NoneType" |.bl _=>some "bool" |.int _=>some "int" |.str _=>some "str" |.tup _=>some "tuple" |.rol _=>some "list"
 |.ref i=>(match h[i]? with|some (.lst _)=>some "list" |some (.dK _)=>some "dict" |_=>none)
 |_=>none
noncomputable def aee(t T:String):Option Bool :=
 if t∈["NoneType","bool","int","str","tuple","list","dict"]/\T∈["bool","int","str","tuple","list","dict"] then some (t == T || (t == "bool" && T == "int")) else none
theorem aiv{t T:String}{b:Bool}(e:aee t T=some b):PySem.W.kitOne K (.type t) (.type T)=some b:=by
 unfold aee at e
 split at e
 .rename_i h;obtain⟨h1,h2⟩:=h;simp only[aP,bp,cH]at h1 h2
  rcases h1 with rfl|rfl|rfl|rfl|rfl|rfl|rfl<;>rcases h2 with rfl|rfl|rfl|rfl|rfl|rfl<;>(cases e;rfl)
 .cases e
noncomputable def ah8:List D->Hd->R D
 |[x,.ty T],h=>(match tyD x h with|some t=>(match aee t T with|some b=>.ok (.bl b) h|none=>.no)|none=>.no)
 |_,_=>.no
theorem azg(r:Rep K U H x d)(hr:HRep K U H h)(e:tyD d h=some t):TyOf K H x (.type t):=by
 cases r with
 |non=>cases e;exact .non
 |bl b=>cases e;exact .bl b
 |int b=>cases e;exact .int b
 |str b=>cases e;exact .str b
 |ty _=>cases e
 |tup hp r=>cases e;exact .tup hp
 |rol hp r=>cases e;obtain⟨o,hp⟩:=hp;exact .frz hp
 |scr _ _=>cases e
 |rod _ _ _=>cases e
 |rdT _ _ _=>cases e
 |exc _ _ _=>cases e
 |ins _ _ _ _=>cases e
 |ref hp =>
  obtain⟨ob,e1,e2⟩:=hr.at hp
  cases ob with
  |lst xs=>simp only[tyD,e1]at e;cases e;obtain⟨vs,h3,h4⟩:=e2;exact .lst h3
  |dK _=>simp only[tyD,e1]at e;cases e;obtain⟨vs,h3,h4⟩:=e2;exact .dK h3
  |dT _=>simp only[tyD,e1]at e;cases e
  |ins _ _=>simp only[tyD,e1]at e;cases e
theorem au6:afx K ah8 (λxs H Q=>∃x T t b,xs=[x,.ty T]/\TyOf K H x t/\PySem.W.kitOne K t (.type T)=some b/\Q (.bl b) H):=by
 intro E U H h xs ds Q r hr o
 unfold ah8 at o
 split at o
 .rename_i d T
  cases r with
  |cons r rs =>
   cases rs with
   |cons q rs =>
    cases q;cases rs
    cases ht:tyD d h with
    |none=>rw[ht]at o;exact o.elim
    |some t =>
     rw[ht]at o
     cases hb:aee t T with
     |none=>simp only[hb]at o;exact o.elim
     |some b =>
      simp only[hb]at o;exact⟨_,T,.type t,b,rfl,azg r hr ht,aiv hb,ans o (.bl _) hr⟩
 .exact o.elim
end
section
variable{X:Cx}{K:Fg}{E:XD}{a b e o:Expr}{es:List Expr}{fa fb fo:SE}{ka:SA}{pos apos cpos:Pos}{name:Str}{idn:String}
def au7(K:Fg)(g:D->List D->Hd->R D)(r:V->List V->Hp->VK->Prop):Prop:=∀(E:XD) U H h x dx xs ds Q,Rep K U H x dx->Reps K U H xs ds->HRep K U H h->out K E (a01 K) U H (g dx ds h) Q->r x xs H Q
noncomputable def isL(d:D)(h:Hd):Bool:=match d with|.ref i=>(match h[i]? with|some (.lst _)=>true|_=>false)|.rol _=>true|_=>false
noncomputable def sML(g:D->List D->Hd->R D)(f:SE)(k:SA):SE:=λτ h=>(f τ h).bind λd h1=>if isL d h1=true then (k τ h1).bind λds h2=>g d ds h2 else .no
theorem azh(r:Rep K U H x d)(hr:HRep K U H h)(e:isL d h=true):tyV K "list" x H:=by
 cases r with
 |rol hp _=>exact .inl ⟨rfl,_,hp.l⟩
 |ref hp =>
  obtain⟨ob,e1,e2⟩:=hr.at hp
  cases ob with
  |lst xs=>obtain⟨vs,h3,_⟩:=e2;exact .inl ⟨rfl,_,SqL.of h3⟩
  |dK _=>simp[isL,e1]at e
  |dT _=>simp[isL,e1]at e
  |ins _ _=>simp[isL,e1]at e
 |_=>cases e
theorem azi(slot:Slot "list" name idn)(hty:typeOf (.builtin idn)=pure (.type "method_descriptor"))(hm:MtR X idn r)(hs:au7 X.K g r)(ho:ME X E o fo)(ha:MA X E (e::es) ka)
  (hbase:attributeBase o name X.env (eval o X.env)=eval o X.env:=by rfl)
  (hfew:((backTo cpos (starEach (e::es) X.env)).all (λx => !x.1) && (backToKw cpos (keywordEach [] X.env)).all (λx=>x.1.isSome)
   && decide ((e::es).length+([]:List Keyword).length+(if ([]:List Keyword).isEmpty then 0 else 1)<30))=true:=by rfl)
  (hline:(apos.endLine == cpos.line)=true:=by rfl) (hst:starEach (e::es) X.env=(false,eval e X.env)::starEach es X.env:=by rfl) (hplain:(backTo cpos (starEach es X.env)).any (·.1)=false:=by rfl) :
  ME X E (.Call (.Attribute o name apos) (e::es) [] cpos) (sML g fo ka):=by
 refine PE.weak (b30 PySem.F.plainAttrs_list slot hty hm ho ha hbase hfew hline hst hplain) ?_
 rintro Z H Q ⟨U,τ,h,S,Rh,o⟩
 refine⟨U,τ,h,S,Rh,bu o λd h1 U1 H1 v g1 r1 hr1 o1=>?_⟩
 by_cases hc:isL d h1=true
 .rw[aU hc]at o1;refine⟨azh r1 hr1 hc,U1,τ,h1,S.mono g1,hr1,bu o1 λds h2 U2 H2 vs g2 r2 hr2 o2=>?_⟩;exact hs E U2 H2 h2 v d vs ds Q (r1.mono g2) r2 hr2 o2
 .rw[bA hc]at o1;exact o1.elim
noncomputable def a7z:D->List D->Hd->R D
 |.ref i,[y],h=>(match h[i]? with|some (.lst xs)=>if xs.length<LINE then .ok .non (h.set i (.lst (xs++[y]))) else .no|_=>.no)
 |_,_,_=>.no
theorem au8:au7 K a7z ai2:=by
 intro E U H h x dx xs ds Q rx r hr o
 unfold a7z at o
 split at o
 .rename_i i y
  cases rx with
  |@ref p _ hp =>
   cases r with
   |cons r1 rs =>
    cases rs
    split at o
    .rename_i xs hx;obtain⟨vs,h3,h4⟩:=hr.lst hp hx
     split at o
     .rename_i hc;exact⟨p,vs,_,rfl,rfl,h3,by rw[h4.len,atb];exact hc,atk (h4.snoc r1) hr hp .non o⟩
     .exact o.elim
    .exact o.elim
 .exact o.elim
noncomputable def sMS(g:D->List D->Hd->R D)(f:SE)(k:SA):SE:=λτ h=>(f τ h).bind λd h1=>match d with|.str z=>(k τ h1).bind λds h2=>g (.str z) ds h2|_=>.no
theorem au9(slot:Slot "str" name idn)(hty:typeOf (.builtin idn)=pure (.type "method_descriptor"))(hm:MtR X idn r)(hs:au7 X.K g r)(ho:ME X E o fo)(ha:MA X E (e::es) ka)
  (hbase:attributeBase o name X.env (eval o X.env)=eval o X.env:=by rfl)
  (hfew:((backTo cpos (starEach (e::es) X.env)).all (λx => !x.1) && (backToKw cpos (keywordEach [] X.env)).all (λx=>x.1.isSome)
   && decide ((e::es).length+([]:List Keyword).length+(if ([]:List Keyword).isEmpty then 0 else 1)<30))=true:=by rfl)
  (hline:(apos.endLine == cpos.line)=true:=by rfl) (hst:starEach (e::es) X.env=(false,eval e X.env)::starEach es X.env:=by rfl) (hplain:(backTo cpos (starEach es X.env)).any (·.1)=false:=by rfl) :
  ME X E (.Call (.Attribute o name apos) (e::es) [] cpos) (sMS g fo ka):=by
 refine PE.weak (b39 slot hty hm ho ha hbase hfew hline hst hplain) ?_
 rintro Z H Q ⟨U,τ,h,S,Rh,o⟩
 refine⟨U,τ,h,S,Rh,bu o λd h1 U1 H1 v g1 r1 hr1 o1=>?_⟩
 cases r1 with
 |str z=>exact⟨⟨z,rfl⟩,U1,τ,h1,S.mono g1,hr1,bu o1 λds h2 U2 H2 vs g2 r2 hr2 o2=>hs E U2 H2 h2 _ _ vs ds Q (.str z) r2 hr2 o2⟩
 |_=>exact o1.elim
noncomputable def aiw:D->List D->Hd->R D
 |.str T,[.str z],h=>(match z.cps.toList with|[c]=>.ok (.int (a4k T c)) h|_=>.no)
 |_,_,_=>.no
theorem anq:au7 K aiw (λx xs H Q=>∃T c,x=.str T/\xs=[.str ⟨#[c]⟩]/\Q (.int (a4k T c)) H):=by
 intro E U H h x dx xs ds Q rx r hr o
 unfold aiw at o
 split at o
 .cases rx
  cases r with
  |cons r1 rs =>
   cases r1;cases rs
   split at o
   .rename_i c hz;exact⟨_,c,rfl,by rw[one_sign hz],ans o (.int _) hr⟩
   .exact o.elim
 .exact o.elim
noncomputable def a80:D->List D->Hd->R D
 |.str T,[.str z],h=>(match z.cps.toList with|[c]=>if c∈T.cps.toList then .ok (.int (a4k T c)) h else .no|_=>.no)
 |_,_,_=>.no
theorem aix:au7 K a80 (λx xs H Q=>∃T c,x=.str T/\xs=[.str ⟨#[c]⟩]/\c∈T.cps.toList/\Q (.int (a4k T c)) H):=by
 intro E U H h x dx xs ds Q rx r hr o
 unfold a80 at o
 split at o
 .cases rx
  cases r with
  |cons r1 rs =>
   cases r1;cases rs
   split at o
   .rename_i c hz
    split at o
    .rename_i hc;exact⟨_,c,rfl,by rw[one_sign hz],hc,ans o (.int _) hr⟩
    .exact o.elim
   .exact o.elim
 .exact o.elim
def acr:List D->Option (List Str)
 |[]=>some []
 |.str z::r=>(acr r).map (z::·)
 |_::_=>none
theorem a92:∀{vs:List V} {xs:List D} {zs:List Str},Reps K U H vs xs->acr xs=some zs->vs=zs.map V.str
 |_,_,_,.nil,e=>by cases e;rfl
 |_,_,zs,.cons (d:=d) r rs,e=>by
  cases r with
  |str z =>
   simp only[acr,aS]at e;obtain⟨ws,h1,rfl⟩:=e;rw[a92 rs h1];rfl
  |_=>cases e
noncomputable def aiy:D->List D->Hd->R D
 |.str sep,[.ref i],h=>(match h[i]? with|some (.lst xs)=>(match acr xs with|some zs=>if (zs.map (·.length)).sum+zs.length*sep.length<=16777216 then .ok (.str (Txt.join sep zs)) h else .no|none=>.no)|_=>.no)
 |.str sep,[.rol xs],h=>(match acr xs with|some zs=>if (zs.map (·.length)).sum+zs.length*sep.length<=16777216 then .ok (.str (Txt.join sep zs)) h else .no|none=>.no)
 |_,_,_=>.no
theorem anr:au7 K aiy (λx xs H Q=>∃sep p zs,x=.str sep/\xs=[.ref p]/\SqL K H p (zs.map V.str)/\(zs.map (·.length)).sum+zs.length*sep.length<=16777216/\Q (.str (Txt.join sep zs)) H):=by
 intro E U H h x dx xs ds Q rx r hr o
 unfold aiy at o
 split at o
 .rename_i sep i;cases rx
  cases r with
  |cons r1 rs =>
   cases rs
   cases r1 with
   |@ref p _ hp =>
    split at o
    .rename_i xs hx;obtain⟨vs,h3,h4⟩:=hr.lst hp hx
     split at o
     .rename_i zs hz
      split at o
      .rename_i hc;exact⟨sep,p,zs,rfl,rfl,SqL.of (by rw[h3,a92 h4 hz]),hc,ans o (.str _) hr⟩
      .exact o.elim
     .exact o.elim
    .exact o.elim
 .rename_i sep xs;cases rx
  cases r with
  |cons r1 rs =>
   cases rs
   cases r1 with
   |@rol p vs xs hp r =>
    split at o
    .rename_i zs hz
     split at o
     .rename_i hc;exact⟨sep,p,zs,rfl,rfl,by rw[<-a92 r hz];exact hp.l,hc,ans o (.str _) hr⟩
     .exact o.elim
    .exact o.elim
 .exact o.elim
theorem a81(z:Str):Reps K U H (a2m z) (a0u z):=by
 unfold a2m a0u
 induction z.cps.toList with
 |nil=>exact .nil
 |cons c cs ih=>exact .cons (.str _) ih
noncomputable def ug:List D->Hd->R D
 |[.str z],h=>if z.length<=LINE then .ok (.tup (a0u z)) h else .no
 |[x],h=>(match a1y x h with|some xs=>.ok (.tup xs) h|none=>.no)
 |_,_=>.no
theorem aiz:afx K ug (λxs H Q=>(∃p ys,xs=[.ref p]/\((SqL K H p ys/\∀l,H l=none->Q (.ref l) (upd H l (.tup ys)))\/(SqT K H p ys/\Q (.ref p) H)))\/∃z,xs=[.str z]/\z.length<=sizeLine/\∀l,H l=none->Q (.ref l) (upd H l (.tup (a2m z)))):=by
 intro E U H h xs ds Q r hr o
 cases r with
 |nil=>exact o.elim
 |cons r rs =>
  cases rs with
  |cons _ _=>exact(show False by cases r<;>exact o).elim
  |nil =>
   cases r with
   |str z =>
    by_cases hc:z.length<=LINE
    .simp only[ug,aU hc]at o;exact .inr ⟨z,rfl,ll hc,a3t (a81 z) hr o⟩
    .simp only[ug,bA hc]at o;exact o.elim
   |@tup p vs xs hp r=>simp only[ug,a1y]at o;exact .inl ⟨p,vs,rfl,.inr ⟨SqT.of hp,ans o (.tup hp r) hr⟩⟩
   |@rol p vs xs hp r=>simp only[ug,a1y]at o;exact .inl ⟨p,vs,rfl,.inl ⟨hp.l,a3t r hr o⟩⟩
   |@ref p j hp =>
    obtain⟨ob,e1,e2⟩:=hr.at hp
    cases ob with
    |lst xs =>
     simp only[ug,a1y,e1]at o;obtain⟨vs,h3,h4⟩:=e2;exact .inl ⟨p,vs,rfl,.inl ⟨SqL.of h3,a3t h4 hr o⟩⟩
    |dK _=>simp only[ug,a1y,e1]at o;exact o.elim
    |dT _=>simp only[ug,a1y,e1]at o;exact o.elim
    |ins _ _=>simp only[ug,a1y,e1]at o;exact o.elim
   |_=>exact o.elim
def ant:List D->Option (List Bool)
 |[]=>some []
 |.bl z::r=>(ant r).map (z::·)
 |_::_=>none
def a93:List D->Option (List Int)
 |[]=>some []
 |.int z::r=>(a93 r).map (z::·)
 |_::_=>none
theorem a6w:∀{vs:List V} {xs:List D} {zs:List Bool},Reps K U H vs xs->ant xs=some zs->vs=zs.map V.bl
 |_,_,_,.nil,e=>by cases e;rfl
 |_,_,zs,.cons (d:=d) r rs,e=>by
  cases r with
  |bl z =>
   simp only[ant,aS]at e;obtain⟨ws,h1,rfl⟩:=e;rw[a6w rs h1];rfl
  |_=>cases e
theorem a4p:∀{vs:List V} {xs:List D} {zs:List Int},Reps K U H vs xs->a93 xs=some zs->vs=zs.map V.int
 |_,_,_,.nil,e=>by cases e;rfl
 |_,_,zs,.cons (d:=d) r rs,e=>by
  cases r with
  |int z =>
   simp only[a93,aS]at e;obtain⟨ws,h1,rfl⟩:=e;rw[a4p rs h1];rfl
  |_=>cases e
theorem aef(bs:List Bool):ant (bs.map D.bl)=some bs:=by
 induction bs with
 |nil=>rfl
 |cons b bs ih=>simp[ant,ih]
noncomputable def ac8:List D->Hd->R D
 |[.ref i],h=>(match h[i]? with|some (.lst xs)=>(match ant xs with|some bs=>.ok (.bl (bs.all id)) h|none=>.no)|_=>.no)
 |[.rol xs],h=>(match ant xs with|some bs=>.ok (.bl (bs.all id)) h|none=>.no)
 |_,_=>.no
theorem aua:afx K ac8 (λxs H Q=>∃(p:Addr) (bs:List Bool),xs=[.ref p]/\SqL K H p (bs.map V.bl)/\Q (.bl (bs.all id)) H):=by
 intro E U H h xs ds Q r hr o
 unfold ac8 at o
 split at o
 .cases r with
  |cons r rs =>
   cases rs
   cases r with
   |@ref p _ hp =>
    split at o
    .rename_i xs hx;obtain⟨vs,h3,h4⟩:=hr.lst hp hx
     split at o
     .rename_i bs hb;exact⟨p,bs,rfl,SqL.of (by rw[h3,a6w h4 hb]),ans o (.bl _) hr⟩
     .exact o.elim
    .exact o.elim
 .cases r with
  |cons r rs =>
   cases rs
   cases r with
   |@rol p vs xs hp r =>
    split at o
    .rename_i bs hb;exact⟨p,bs,rfl,by rw[<-a6w r hb];exact hp.l,ans o (.bl _) hr⟩
    .exact o.elim
 .exact o.elim
noncomputable def azj:List D->Hd->R D
 |[.ref i],h=>(match h[i]? with|some (.lst xs)=>(match a93 xs with|some bs=>.ok (.int bs.sum) h|none=>.no)|_=>.no)
 |[.rol xs],h=>(match a93 xs with|some bs=>.ok (.int bs.sum) h|none=>.no)
 |_,_=>.no
theorem aub:afx K azj (λxs H Q=>∃(p:Addr) (ns:List Int),xs=[.ref p]/\SqL K H p (ns.map V.int)/\Q (.int ns.sum) H):=by
 intro E U H h xs ds Q r hr o
 unfold azj at o
 split at o
 .cases r with
  |cons r rs =>
   cases rs
   cases r with
   |@ref p _ hp =>
    split at o
    .rename_i xs hx;obtain⟨vs,h3,h4⟩:=hr.lst hp hx
     split at o
     .rename_i bs hb;exact⟨p,bs,rfl,SqL.of (by rw[h3,a4p h4 hb]),ans o (.int _) hr⟩
     .exact o.elim
    .exact o.elim
 .cases r with
  |cons r rs =>
   cases rs
   cases r with
   |@rol p vs xs hp r =>
    split at o
    .rename_i bs hb;exact⟨p,bs,rfl,by rw[<-a4p r hb];exact hp.l,ans o (.int _) hr⟩
    .exact o.elim
 .exact o.elim
end
end MI
theorem L2.Room.u(r:L2.Room k A):A.units+64<PySem.cLine:=r.units
namespace MI
open L2
mutual
def eqD:D->D->Bool
 |.non,.non=>true
 |.bl a,.bl b=>a == b
 |.bl a,.int b=>(if a then 1 else 0) == b
 |.int a,.bl b=>a == (if b then 1 else 0)
 |.int a,.int b=>a == b
 |.str a,.str b=>a == b
 |.tup xs,.tup ys=>aeg xs ys
 |_,_=>false
def aeg:List D->List D->Bool
 |[],[]=>true
 |x::xs,y::ys=>eqD x y && aeg xs ys
 |_,_=>false
end
noncomputable def pur:Nat->D->Bool
 |_,.non=>true
 |_,.bl _=>true
 |_,.int _=>true
 |_,.str _=>true
 |n+1,.tup xs=>xs.all (pur n)
 |_,_=>false
def pairE(xs ys:List D)(j:Nat):Bool:=match xs[j]?,ys[j]? with|some x,some y=>eqD x y|_,_=>false
theorem a4q:∀xs ys:List D,((List.range (min xs.length ys.length)).all (pairE xs ys) && xs.length == ys.length)=aeg xs ys
 |[],[]=>by simp[aeg]
 |[],_::_=>by simp[aeg]
 |_::_,[]=>by simp[aeg]
 |x::xs,y::ys=>by
  have ih:=a4q xs ys;rw[show min (x::xs).length (y::ys).length=min xs.length ys.length+1 by simp only[bB];omega,List.range_succ_eq_map]
  rw[eX,fS];have e:(pairE (x::xs) (y::ys) ∘ Nat.succ)=pairE xs ys:=by funext j;simp[pairE]
  rw[e];simp only[aeg];rw[<-ih];have e2:((x::xs).length == (y::ys).length)=(xs.length == ys.length):=by simp
  rw[e2,Bool.and_assoc];rfl
section
variable{K:Fg}{U:List Addr}{H:Hp}
theorem a94{xs:List D}(r:Rep K U H v (.tup xs)):∃a vs,v=.ref a/\H a=some (.tup vs)/\Reps K U H vs xs:=by cases r with|@tup a vs _ h rs=>exact⟨a,vs,rfl,h,rs⟩
theorem aqs(r:Rep K U H v d)(q:Rep K U H v e)(f:a0o d=true)(g:a0o e=true):eqD d e=true:=by
 have h:=anl r f;have h':=anl q g
 cases d<;>first|(cases h;done)|(cases h;cases e<;>first|(cases h';done)|(cases h';simp[eqD]))
theorem a1g(r:Rep K U H v d)(p:pur n d=true):(∃xs,d=.tup xs)\/(a3q v=true/\a0o d=true):=by
 cases r<;>first|exact .inr ⟨rfl,rfl⟩|exact .inl ⟨_,rfl⟩|(cases n<;>cases p)
theorem a95(r:Rep K U H x d)(q:Rep K U H y e)(f:a0o d=true)(g:a0o e=true):eqV x y=eqD d e:=by
 refine fvs (P:=λd x c y=>eqV x y=eqD d c) (λd x e y h h'=>?_) r q f g
 cases d<;>first|(cases h;done)|(cases h;cases e<;>first|(cases h';done)|(cases h';first|rfl|(simp[eqV,eqD];done)))
theorem anu:∀(n:Nat) {v:V} {d e:D},Rep K U H v d->Rep K U H v e->pur n d=true->pur n e=true->eqD d e=true:=by
 intro n
 induction n with
 |zero =>
  intro v d e r q p1 p2
  rcases a1g r p1 with⟨xs,rfl⟩|⟨f1,g1⟩
  .cases p1
  rcases a1g q p2 with⟨xs,rfl⟩|⟨f2,g2⟩
  .cases p2
  exact aqs r q g1 g2
 |succ n ih =>
  intro v d e r q p1 p2
  rcases a1g r p1 with⟨xs,rfl⟩|⟨f1,g1⟩
  .rcases a1g q p2 with⟨ys,rfl⟩|⟨f2,g2⟩
   .obtain⟨a,vs,rfl,h,rs⟩:=a94 r;obtain⟨b,us,z,h',qs⟩:=a94 q;cases z
    rw[h]at h';cases h'
    simp only[eqD];simp only[pur,bI]at p1 p2
    clear h r q
    induction rs using Reps.rec (motive_1:=λ_ _ _=>True) generalizing ys with
    |nil=>cases qs;rfl
    |cons r rs _ ih2 =>
     cases qs with
     |cons q qs =>
      simp only[aeg,ba];exact⟨ih r q (p1 _ (aT ..)) (p2 _ (aT ..)),ih2 _ qs (λx hx=>p1 x (aI _ hx)) (λx hx=>p2 x (aI _ hx))⟩
    |_=>trivial
   .obtain⟨a,vs,rfl,h,rs⟩:=a94 r;cases f2
  .rcases a1g q p2 with⟨ys,rfl⟩|⟨f2,g2⟩
   .obtain⟨a,vs,rfl,h,rs⟩:=a94 q;cases f1
   .exact aqs r q g1 g2
open SeqAt in
theorem aqt{s:Shared}(hok:HOk P w H s.heap):∀(n:Nat) (A:Around) {x y:V} {u v:Value} {d e:D},Rep K U H x d->Rep K U H y e->RelV x u->RelV y v->pur n d=true->pur n e=true->A.units+n<cLine->EqAt A s u v (eqD d e):=by
 intro n
 induction n with
 |zero =>
  intro A x y u v d e r q rx ry p1 p2 hu
  rcases a1g r p1 with⟨xs,rfl⟩|⟨f1,f2⟩
  .cases p1
  .rcases a1g q p2 with⟨xs,rfl⟩|⟨g1,g2⟩
   .cases p2
   .rw[<-a95 r q f2 g2];exact ai0 rx ry f1 g1
 |succ n ih =>
  intro A x y u v d e r q rx ry p1 p2 hu
  rcases a1g r p1 with⟨xs,rfl⟩|⟨f1,f2⟩
  .cases r with
   |@tup a vs _ ha rs =>
    cases rx
    obtain⟨_,its,r1,t1⟩:=(Rd.of ha).ok hok
    rcases a1g q p2 with⟨ys,rfl⟩|⟨g1,g2⟩
    .cases q with
     |@tup b us _ hb qs =>
      cases ry
      obtain⟨_,its2,r2,t2⟩:=(Rd.of hb).ok hok
      by_cases hab:a=b
      .subst hab;rw[anu (n+1) (.tup ha rs) (.tup hb qs) p1 p2];exact EqAt.same _
      .have l1:its.toArray.size=xs.length:=by rw[aV,<-r1.length,rs.len]
       have l2:its2.toArray.size=ys.length:=by rw[aV,<-r2.length,qs.len]
       have:=RcAt.tuples (A:=A) (s:=s) (e:=pairE xs ys) t1 t2 (by omega) (λj h1 h2=>by
        have j1:j<xs.length:=by omega
        have j2:j<ys.length:=by omega
        obtain⟨v1,e1,q1⟩:=rs.get (ag j1);obtain⟨v2,e2,q2⟩:=qs.get (ag j2);obtain⟨u1,e3,q3⟩:=r1.get e1;obtain⟨u2,e4,q4⟩:=r2.get e2;have f1:its.toArray[j]=u1:=by simpa using (ah.mp e3).2
        have f2:its2.toArray[j]=u2:=by simpa using (ah.mp e4).2
        have pe:pairE xs ys j=eqD xs[j] ys[j]:=by simp[pairE,ag j1,ag j2]
        rw[f1,f2,pe];simp only[pur,bI]at p1 p2;exact ih A.in1 q1 q2 q3 q4 (p1 _ (bL j1)) (p2 _ (bL j2)) (by rw[iI];omega))
       rw[l1,l2,a4q]at this;exact EqAt.of_refs hab this
    .have e0:eqD (.tup xs) e=false:=by cases e<;>first|rfl|(cases g2;done)
     rw[e0]
     cases y with
     |non=>cases ry;exact EqAt.tuple_none t1 (by omega)
     |bl b=>cases ry;exact EqAt.tuple_bool b t1 (by omega)
     |int b=>obtain⟨t,rfl⟩:=ry;exact EqAt.tuple_int b t t1 (by omega)
     |str b=>obtain⟨t,rfl⟩:=ry;exact EqAt.tuple_str b t t1 (by omega)
     |_=>cases g1
  .rcases a1g q p2 with⟨ys,rfl⟩|⟨g1,g2⟩
   .cases q with
    |@tup b us _ hb qs =>
     cases ry
     obtain⟨_,its2,r2,t2⟩:=(Rd.of hb).ok hok;have e0:eqD d (.tup ys)=false:=by cases d<;>first|rfl|(cases f2;done)
     rw[e0]
     cases x with
     |non=>cases rx;exact EqAt.none_tuple t2 (by omega)
     |bl b=>cases rx;exact EqAt.bool_tuple b t2 (by omega)
     |int b=>obtain⟨t,rfl⟩:=rx;exact EqAt.int_tuple b t t2 (by omega)
     |str b=>obtain⟨t,rfl⟩:=rx;exact EqAt.str_tuple b t t2 (by omega)
     |_=>cases f1
   .rw[<-a95 r q f2 g2];exact ai0 rx ry f1 g1
open SeqAt in
theorem azk(ry:RelV y u)(rx:RelV x v)(fy:a3q y=true)(fx:a3q x=true):RcAt A s u v (eqV y x):=by
 cases y with
 |non =>
  cases ry
  cases x with
  |non=>cases rx;exact RcAt.none_none
  |bl b=>cases rx;exact RcAt.none_bool b
  |int b=>obtain⟨t,rfl⟩:=rx;exact RcAt.none_int b t
  |str b=>obtain⟨t,rfl⟩:=rx;exact RcAt.none_str b t
  |_=>cases fx
 |bl a =>
  cases ry
  cases x with
  |non=>cases rx;exact RcAt.bool_none a
  |bl b=>cases rx;exact RcAt.bool_bool a b
  |int b=>obtain⟨t,rfl⟩:=rx;exact RcAt.bool_int a b t
  |str b=>obtain⟨t,rfl⟩:=rx;exact RcAt.bool_str a b t
  |_=>cases fx
 |int a =>
  obtain⟨t',rfl⟩:=ry
  cases x with
  |non=>cases rx;exact RcAt.int_none a t'
  |bl b=>cases rx;exact RcAt.int_bool a t' b
  |int b=>obtain⟨t,rfl⟩:=rx;exact RcAt.int_int a t' b t
  |str b=>obtain⟨t,rfl⟩:=rx;exact RcAt.int_str a t' b t
  |_=>cases fx
 |str a =>
  obtain⟨t',rfl⟩:=ry
  cases x with
  |non=>cases rx;exact RcAt.str_none a t'
  |bl b=>cases rx;exact RcAt.str_bool a t' b
  |int b=>obtain⟨t,rfl⟩:=rx;exact RcAt.str_int a t' b t
  |str b=>obtain⟨t,rfl⟩:=rx;exact RcAt.str_str a t' b t
  |_=>cases fx
 |_=>cases fy
open SeqAt in
theorem anv(ry:RelV y u)(rx:RelV x v)(fy:a3q y=true)(fx:a3q x=true):RcNeAt A s u v (!eqV y x):=by
 cases y with
 |non =>
  cases ry
  cases x with
  |non=>cases rx;exact RcNeAt.none_none
  |bl b=>cases rx;exact RcNeAt.none_bool b
  |int b=>obtain⟨t,rfl⟩:=rx;exact RcNeAt.none_int b t
  |str b=>obtain⟨t,rfl⟩:=rx;exact RcNeAt.none_str b t
  |_=>cases fx
 |bl a =>
  cases ry
  cases x with
  |non=>cases rx;exact RcNeAt.bool_none a
  |bl b=>cases rx;exact RcNeAt.bool_bool a b
  |int b=>obtain⟨t,rfl⟩:=rx;exact RcNeAt.bool_int a b t
  |str b=>obtain⟨t,rfl⟩:=rx;exact RcNeAt.bool_str a b t
  |_=>cases fx
 |int a =>
  obtain⟨t',rfl⟩:=ry
  cases x with
  |non=>cases rx;exact RcNeAt.int_none a t'
  |bl b=>cases rx;exact RcNeAt.int_bool a t' b
  |int b=>obtain⟨t,rfl⟩:=rx;exact RcNeAt.int_int a t' b t
  |str b=>obtain⟨t,rfl⟩:=rx;exact RcNeAt.int_str a t' b t
  |_=>cases fx
 |str a =>
  obtain⟨t',rfl⟩:=ry
  cases x with
  |non=>cases rx;exact RcNeAt.str_none a t'
  |bl b=>cases rx;exact RcNeAt.str_bool a t' b
  |int b=>obtain⟨t,rfl⟩:=rx;exact RcNeAt.str_int a t' b t
  |str b=>obtain⟨t,rfl⟩:=rx;exact RcNeAt.str_str a t' b t
  |_=>cases fx
 |_=>cases fy
open SeqAt in
theorem tops{s:Shared}{A:Around}(hok:HOk P w H s.heap)(r:Rep K U H x d)(q:Rep K U H y e)(rx:RelV x u)(ry:RelV y v)(p1:pur 60 d=true)(p2:pur 60 e=true)(hu:A.units+64<cLine) :
  RcAt A s u v (eqD d e)/\RcNeAt A s u v (!eqD d e):=by
 rcases a1g r p1 with⟨xs,rfl⟩|⟨f1,f2⟩
 .cases r with
  |@tup a vs _ ha rs =>
   cases rx
   obtain⟨_,its,r1,t1⟩:=(Rd.of ha).ok hok
   rcases a1g q p2 with⟨ys,rfl⟩|⟨g1,g2⟩
   .cases q with
    |@tup b us _ hb qs =>
     cases ry
     obtain⟨_,its2,r2,t2⟩:=(Rd.of hb).ok hok;have l1:its.toArray.size=xs.length:=by rw[aV,<-r1.length,rs.len]
     have l2:its2.toArray.size=ys.length:=by rw[aV,<-r2.length,qs.len]
     have step:∀j (h1:j<its.toArray.size) (h2:j<its2.toArray.size),EqAt A.in1 s its.toArray[j] its2.toArray[j] (pairE xs ys j):=λj h1 h2=>by
      have j1:j<xs.length:=by omega
      have j2:j<ys.length:=by omega
      obtain⟨v1,e1,q1⟩:=rs.get (ag j1);obtain⟨v2,e2,q2⟩:=qs.get (ag j2);obtain⟨u1,e3,q3⟩:=r1.get e1;obtain⟨u2,e4,q4⟩:=r2.get e2;have f1:its.toArray[j]=u1:=by simpa using (ah.mp e3).2
      have f2:its2.toArray[j]=u2:=by simpa using (ah.mp e4).2
      have pe:pairE xs ys j=eqD xs[j] ys[j]:=by simp[pairE,ag j1,ag j2]
      rw[f1,f2,pe];simp only[pur,bI]at p1 p2;exact aqt hok 59 A.in1 q1 q2 q3 q4 (p1 _ (bL j1)) (p2 _ (bL j2)) (by rw[iI];omega)
     have c1:=RcAt.tuples (A:=A) (s:=s) (e:=pairE xs ys) t1 t2 (by omega) step
     have c2:=RcNeAt.tuples (A:=A) (s:=s) (e:=pairE xs ys) t1 t2 (by omega) step
     rw[l1,l2,a4q]at c1 c2;exact⟨c1,c2⟩
   .have e0:eqD (.tup xs) e=false:=by cases e<;>first|rfl|(cases g2;done)
    rw[e0]
    cases y with
    |non=>cases ry;exact⟨RcAt.tuple_none t1 (by omega),RcNeAt.tuple_none t1 (by omega)⟩
    |bl b=>cases ry;exact⟨RcAt.tuple_bool b t1 (by omega),RcNeAt.tuple_bool b t1 (by omega)⟩
    |int b=>obtain⟨t,rfl⟩:=ry;exact⟨RcAt.tuple_int b t t1 (by omega),RcNeAt.tuple_int b t t1 (by omega)⟩
    |str b=>obtain⟨t,rfl⟩:=ry;exact⟨RcAt.tuple_str b t t1 (by omega),RcNeAt.tuple_str b t t1 (by omega)⟩
    |_=>cases g1
 .rcases a1g q p2 with⟨ys,rfl⟩|⟨g1,g2⟩
  .cases q with
   |@tup b us _ hb qs =>
    cases ry
    obtain⟨_,its2,r2,t2⟩:=(Rd.of hb).ok hok;have e0:eqD d (.tup ys)=false:=by cases d<;>first|rfl|(cases f2;done)
    rw[e0]
    cases x with
    |non=>cases rx;exact⟨RcAt.none_tuple t2 (by omega),RcNeAt.none_tuple t2 (by omega)⟩
    |bl b=>cases rx;exact⟨RcAt.bool_tuple b t2 (by omega),RcNeAt.bool_tuple b t2 (by omega)⟩
    |int b=>obtain⟨t,rfl⟩:=rx;exact⟨RcAt.int_tuple b t t2 (by omega),RcNeAt.int_tuple b t t2 (by omega)⟩
    |str b=>obtain⟨t,rfl⟩:=rx;exact⟨RcAt.str_tuple b t t2 (by omega),RcNeAt.str_tuple b t t2 (by omega)⟩
    |_=>cases f1
  .rw[<-a95 r q f2 g2];exact⟨azk rx ry f1 g1,anv rx ry f1 g1⟩
noncomputable def b4n(K:Fg):R2:=λx y H Q=>∃U d e,Rep K U H x d/\Rep K U H y e/\pur 60 d=true/\pur 60 e=true/\Q (.bl (eqD d e)) H
noncomputable def b4o(K:Fg):R2:=λx y H Q=>∃U d e,Rep K U H x d/\Rep K U H y e/\pur 60 d=true/\pur 60 e=true/\Q (.bl (!eqD d e)) H
theorem aqu{X:Cx}(hu:X.A.units+64<cLine):OpR X (compareOp .Eq) (b4n X.K):=by
 intro aA s Z H x y v u Q I rx ry h
 obtain⟨U,d,e,r,q,p1,p2,hq⟩:=h;exact(tops (A:=X.A) I.hok r q rx ry p1 p2 hu).1 X.prog X.w X.xe _ ⟨.bl _,H,I,rfl,hq⟩
theorem aqv{X:Cx}(hu:X.A.units+64<cLine):OpR X (compareOp .NotEq) (b4o X.K):=by
 intro aA s Z H x y v u Q I rx ry h
 obtain⟨U,d,e,r,q,p1,p2,hq⟩:=h;exact(tops (A:=X.A) I.hok r q rx ry p1 p2 hu).2 X.prog X.w X.xe _ ⟨.bl _,H,I,rfl,hq⟩
def hEq(x y:D)(h:Hd):R D:=if pur 60 x=true/\pur 60 y=true then .ok (.bl (eqD x y)) h else .no
def hNe(x y:D)(h:Hd):R D:=if pur 60 x=true/\pur 60 y=true then .ok (.bl (!eqD x y)) h else .no
theorem aj0:a2p K hEq (b4n K):=by
 intro E U H h x y dx dy Q rx ry hr o
 unfold hEq at o
 split at o
 .rename_i hc;exact⟨U,dx,dy,rx,ry,hc.1,hc.2,ans o (.bl _) hr⟩
 .exact o.elim
theorem aj1:a2p K hNe (b4o K):=by
 intro E U H h x y dx dy Q rx ry hr o
 unfold hNe at o
 split at o
 .rename_i hc;exact⟨U,dx,dy,rx,ry,hc.1,hc.2,ans o (.bl _) hr⟩
 .exact o.elim
end
section
variable{X:Cx}{E:XD}{K:Fg}
def auc:SE:=λ_ h=>.ok (.ref h.length) (h++[.dK []])
theorem aud:ME X E (.Dict [] [] pos) auc:=by
 refine PE.weak an7 λZ H Q ⟨U,τ,h,S,Rh,o⟩=>λp hp=>?_;exact o (U++[p]) _ _ (ae4 hp _) (.ref (by rw[aR (by rw[Rh.len];exact ay _),Rh.len];simp)) (Rh.add hp ⟨[],m5,rfl,.nil⟩)
noncomputable def a0b:D->D->Hd->R D
 |.int i,.int j,h=>.ok (.int (i+j)) h
 |.str x,.str y,h=>if x.length+y.length<=LINE then .ok (.str (x++y)) h else .no
 |_,_,_=>.no
theorem aeh:a2p K a0b (λx y H Q=>rI0 (λi j=>.int (i+j)) x y H Q\/∃i j,x=.str i/\y=.str j/\i.length+j.length<=sizeLine/\Q (.str (i++j)) H):=by
 intro E U H h x y dx dy Q rx ry hr o
 cases rx with
 |int i =>
  cases ry with
  |int j=>exact .inl ⟨i,j,rfl,rfl,ans o (.int _) hr⟩
  |_=>exact o.elim
 |str i =>
  cases ry with
  |str j =>
   by_cases hc:i.length+j.length<=LINE
   .simp only[a0b,aU hc]at o;exact .inr ⟨i,j,rfl,rfl,ll hc,ans o (.str _) hr⟩
   .simp only[a0b,bA hc]at o;exact o.elim
  |_=>exact o.elim
 |_=>exact o.elim
theorem azl:bootBuiltins "min" = some (.builtin "min"):=by first|exact PySem.boot_min|exact PyProof.Rows.boot_min
theorem aue:bootBuiltins "bool" = some (.type "bool"):=by first|exact PySem.boot_bool|exact PyProof.Rows.boot_bool
theorem azm:bootBuiltins "sum" = some (.builtin "sum"):=by first|exact PySem.boot_sum|exact PyProof.Rows.boot_sum
theorem anw(h1:MG X E e g)(h2:MGs X E es ks)(hs:(assignEach (e::es) X.env).map (·.2)=assign e X.env::(assignEach es X.env).map (·.2):=by rfl):MGs X E (e::es) (dq g ks) :=
 PGs.weak (a1v h1 h2 hs) λvs Z H Q q=>ani q
end
end MI
namespace ZP
open PySem.Builtin PySem.Builtin.SmallTypes
section
variable{prog:Program}{w:World}{A:Around}{E:Value->Shared->Prop}{s:Shared}
theorem auf{α:Type}{Q:α->Shared->Prop}(hh:A.handled=none)(q:∀h' e,(∀b o,s.heap.get? b=some o->h'.get? b=some o)->(∃o,h'.get? e=some o/\o.cls=.type "StopIteration")->E (.ref e) {s with heap:=h' }) :
  wpAny (model prog w) A (stopIteration:Sem α) Q E s:=by
 have none_first:firstArgMember (.type "StopIteration") []=pure Value.none:=by first|rfl|(simp only[firstArgMember];rfl)
 rw[stopIteration]
 apply ai
 rw[newExc,newTuple]
 apply ai
 apply cU _ (by size_fits)
 rw[none_first,pure_bind]
 apply cU _ (by size_fits)
 apply wpAny_raiseNew_none hh
 exact q _ _ (λb o z=>ar _ (ar _ z)) ⟨_,aO _ rfl,rfl⟩
theorem anx(hi:s.heap.IsTupleIter it t i)(ht:s.heap.IsTuple t aC)(hx:aC[i]? = some x)
  (q:∀h',h'.IsTupleIter it t (i+1)->Heap.SameBut it s.heap h'->Q x {s with heap:=h' }):wpAny (model prog w) A (nextOf (.ref it)) Q E s:=by
 have ty:=hi.typeIs;obtain⟨o,e1,e2,e3⟩:=id hi;obtain⟨p,f1,f2,n,f3⟩:=ht;rw[nextOf]
 apply ai
 apply cB (name:=Str.ofString "__next__") ty dS
 apply cn dS ty gD _ (gi _)
 change wpAny (model prog w) A.in1 (field (.ref it) 0>>=_) _ _ _
 apply ai;apply dY e1 e3 (x:=.ref t) rfl
 change wpAny (model prog w) A.in1 (field (.ref it) 1>>=_) _ _ _
 apply ai;apply dY e1 e3 (x:=.int i 0) rfl
 change wpAny (model prog w) A.in1 (seqItems? (.ref t)>>=_) _ _ _
 apply ai;apply fk f1 f3
 dsimp only;rw[dN,hx]
 apply ai
 obtain⟨c,dd,dt,sl⟩:=o;simp only at e2 e3;subst e2 e3
 apply wpAny_setField e1 rfl (fW 1)
 apply aJ
 exact⟨x,rfl,aJ (q _ ⟨_,dD _ e1 rfl,rfl,rfl⟩ (dv ..))⟩
theorem auh{it t:Addr}{i:Nat}{aC:Array Value}{Q:Value->Shared->Prop}(hh:A.handled=none)(hi:s.heap.IsTupleIter it t i)(ht:s.heap.IsTuple t aC)(hx:aC[i]? = none)
  (q:∀h' e,Heap.ExtBut it s.heap h'->(∃o,h'.get? e=some o/\o.cls=.type "StopIteration")->E (.ref e) {s with heap:=h' }):wpAny (model prog w) A (nextOf (.ref it)) Q E s:=by
 have ty:=hi.typeIs;obtain⟨o,e1,e2,e3⟩:=id hi;obtain⟨p,f1,f2,n,f3⟩:=ht;rw[nextOf]
 apply ai
 apply cB (name:=Str.ofString "__next__") ty dS
 apply cn dS ty gD _ (gi _)
 change wpAny (model prog w) A.in1 (field (.ref it) 0>>=_) _ _ _
 apply ai;apply dY e1 e3 (x:=.ref t) rfl
 change wpAny (model prog w) A.in1 (field (.ref it) 1>>=_) _ _ _
 apply ai;apply dY e1 e3 (x:=.int i 0) rfl
 change wpAny (model prog w) A.in1 (seqItems? (.ref t)>>=_) _ _ _
 apply ai;apply fk f1 f3
 dsimp only;rw[dN,hx];dsimp only;obtain⟨c,dd,dt,sl⟩:=o;simp only at e2 e3;subst e2 e3
 apply ai;apply fB
 apply ai;apply wpAny_setField e1 rfl (dE 1)
 apply auf (show A.in1.handled=none from hh)
 exact λh' e k z=>q h' e (λb o nb eb=>k b o ((dv ..).extBut b o nb eb)) z
theorem aj2{A:Around}(hh:A.handled=none)(it t:Addr)(ne:t≠it)(aC:Array Value):Draws prog w A it [it,t] aC.size (λi v=>aC[i]? = some v) (λi h=>h.IsTupleIter it t i/\h.IsTuple t aC) where
 live:=λ_ _ st=>let ⟨o,e,_⟩:=st.1; ⟨o,e⟩
 frame:=λ_ _ _ st k=>⟨let ⟨o,e,r⟩:=st.1; ⟨o,k it (by simp) o e,r⟩,let ⟨o,e,r⟩:=st.2; ⟨o,k t (by simp) o e,r⟩⟩
 item:=λi s Q E hi st q=>anx st.1 st.2 (cD hi) λh' a b=>q _ h' s.toks (cD hi) ⟨a,st.2.extBut b.extBut ne⟩ b
 done:=λs Q E st q=>auh hh st.1 st.2 (by simp) q
end
structure Ap (z TI TO i1 i2:Addr) (p q:List Addr):Prop where
 m1:i1∈p
 m2:i2∈q
 z1:z∉p
 z2:z∉q
 o1:TO∉p
 o2:TO∉q
 oz:TO≠z
 x1:i1∉q
 x2:i2∉p
section
variable{prog:Program}{w:World}{A:Around}{E:Value->Shared->Prop}{s:Shared}{z TI TO i1 i2:Addr}{p q:List Addr}{n1 n2 k:Nat}{P1 P2:Nat->Value->Prop}{S1 S2:Nat->Heap->Prop}{a b:Value}
theorem far{D:Draws prog w A i1 p n1 P1 S1}(sb:Heap.SameBut c h h')(nc:c∉p)(st:S1 k h):S1 k h':=D.frame _ _ _ st λx hx o e=>sb.extBut x o (λy=>nc (y ▸ hx)) e
theorem aj3(hz:IsZip s.heap z TI TO .none)(hi:IsPair s.heap TI (.ref i1) (.ref i2))(ho:IsPair s.heap TO a b)(oz:TO≠z)
  (go:∀h1,IsZip h1 z TI TO .ellipsis->Heap.SameBut z s.heap h1->wpAny (model prog w) A (nextOf (.ref i1))
   (λx s2=>IsPair s2.heap TO a b/\∀h3,IsPair h3 TO x b->Heap.SameBut TO s2.heap h3->wpAny (model prog w) A (nextOf (.ref i2))
    (λy s4=>IsPair s4.heap TO x b/\∀h5,IsPair h5 TO x y->Heap.SameBut TO s4.heap h5->IsZip h5 z TI TO .ellipsis/\∀h8,IsZip h8 z TI TO (rawInt h5.objs.size)->IsPair h8 h5.objs.size x y->h8.objs.size=h5.objs.size+1->
     (∀c o,c≠z->h5.get? c=some o->h8.get? c=some o)->Q (.done (.ret (.ref h5.objs.size))) {s4 with heap:=h8})
    (λe s4=>wpAny (model prog w) A (setField (.ref z) 0 .none) (λ_ s5=>E e s5) E s4) {s2 with heap:=h3})
   (λe s2=>wpAny (model prog w) A (setField (.ref z) 0 .none) (λ_ s3=>E e s3) E s2) {s with heap:=h1}) :
  wpAny (model prog w) A (Builtin.«zip.__next__» ⟨[.ref z],[]⟩) Q E s:=by
 change wpAny (model prog w) A (field (.ref z) 2>>=_) _ _ _
 apply ai;apply dY hz rfl (x:=.bool false) rfl
 change wpAny (model prog w) A (field (.ref z) 3>>=_) _ _ _
 apply ai;apply dY hz rfl (x:=.ref TI) rfl
 apply ai;apply fk hi rfl
 change wpAny (model prog w) A (ownedTupleIsFree (.ref z)>>=_) _ _ _
 apply ai
 rw[ownedTupleIsFree]
 apply ai;apply dY hz rfl (x:=.none) rfl
 apply aJ
 rw[aU rfl]
 apply ai;apply fB
 apply ai;apply dY hz rfl (x:=.ref TO) rfl
 apply ai;apply eP hz (dE _)
 intro h1 z1 b1
 apply ai
 simp only[List.zipIdx_cons,List.zipIdx_nil,List.forIn_cons,List.forIn_nil]
 apply ai;apply ai;apply iq
 change wpAny (model prog w) A (nextOf (.ref i1)>>=_) _ _ _
 apply ai
 apply bO (go h1 z1 b1) _ λ_ _ r=>r
 rintro x s2 ⟨o2,g2⟩
 apply aJ
 apply ai;apply fk o2 rfl
 apply ai;apply wpAny_updateSeq_pair o2
 intro h3 o3 b3
 apply ai;apply wpAny_letGo;apply aJ
 apply ai;apply ai;apply iq
 change wpAny (model prog w) A (nextOf (.ref i2)>>=_) _ _ _
 apply ai
 apply bO (g2 h3 o3 b3) _ λ_ _ r=>r
 rintro y s4 ⟨o4,g4⟩
 apply aJ
 apply ai;apply fk o4 rfl
 apply ai;apply wpAny_updateSeq_pair o4
 intro h5 o5 b5
 obtain⟨z5,g5⟩:=g4 h5 o5 b5
 apply ai;apply wpAny_letGo;apply aJ;apply aJ
 apply ai;apply fk o5 rfl
 apply ai;refine wpAny_newTuple ?_ (by show 2<=sizeLine;decide)
 change wpAny (model prog w) A (ownedTupleHandOut (.ref z) (.ref h5.objs.size)>>=_) _ _ _
 apply ai
 rw[ownedTupleHandOut];have z6:IsZip (h5.push {cls:=.type "tuple",data:=.seq #[x,y]}) z TI TO .ellipsis:=ar _ z5;have lt:z<h5.objs.size:=aX z5
 apply ai;apply eP z6 (dE _)
 intro h7 z7 b7
 apply eP z7 (by show 1<5;decide)
 intro h8 z8 b8
 apply aJ
 refine g5 h8 z8 (b8.extBut _ _ (iK lt) (b7.extBut _ _ (iK lt) (aO _ rfl))) ?_ λc o nc e=>b8.extBut _ _ nc (b7.extBut _ _ nc (ar _ e));rw[b8.1,b7.1,cb]
theorem anz{Q:Value->Shared->Prop}(D1:Draws prog w A i1 p n1 P1 S1)(D2:Draws prog w A i2 q n2 P2 S2)(ap:Ap z TI TO i1 i2 p q)(hz:IsZip s.heap z TI TO .none)(hi:IsPair s.heap TI (.ref i1) (.ref i2))(ho:IsPair s.heap TO a b)
  (s1:S1 k s.heap) (s2:S2 k s.heap) (k1:k<n1) (k2:k<n2)
  (hQ:∀x y h' tk,P1 k x->P2 k y->IsZip h' z TI TO (rawInt s.heap.objs.size)->IsPair h' TO x y->S1 (k+1) h'->S2 (k+1) h'->IsPair h' s.heap.objs.size x y->h'.objs.size=s.heap.objs.size+1->
   (∀c o,c≠z->c≠TO->c≠i1->c≠i2->s.heap.get? c=some o->h'.get? c=some o)->Q (.ref s.heap.objs.size) {s with heap:=h',toks:=tk}) :
  wpAny (model prog w) A (Builtin.«zip.__next__» ⟨[.ref z],[]⟩) (λfin s'=>∃v,fin=.done (.ret v)/\Q v s') E s:=by
 have ni1:i1≠z:=λe=>ap.z1 (e ▸ ap.m1);have ni2:i2≠z:=λe=>ap.z2 (e ▸ ap.m2);have no1:TO≠i1:=λe=>ap.o1 (e ▸ ap.m1);have no2:TO≠i2:=λe=>ap.o2 (e ▸ ap.m2);refine aj3 hz hi ho ap.oz λh1 z1 b1=>?_;refine D1.item k _ _ _ k1 (far (D:=D1) b1 ap.z1 s1) λx h2 t2 px st2 b2=>?_;refine⟨b2.extBut _ _ no1 (b1.extBut _ _ ap.oz ho),λh3 o3 b3=>?_⟩;refine D2.item k _ _ _ k2 (far (D:=D2) b3 ap.o2 (far (D:=D2) b2 ap.x1 (far (D:=D2) b1 ap.z2 s2))) λy h4 t4 py st4 b4=>?_;refine⟨b4.extBut _ _ no2 o3,λh5 o5 b5=>⟨b5.extBut _ _ ap.oz.symm (b4.extBut _ _ ni2.symm (b3.extBut _ _ ap.oz.symm (b2.extBut _ _ ni1.symm z1))),λh8 z8 t8 l8 k8=>⟨_,rfl,?_⟩⟩⟩
 have sz:h5.objs.size=s.heap.objs.size:=by rw[b5.1,b4.1,b3.1,b2.1,b1.1]
 have g1:S1 (k+1) h8:=D1.frame _ _ _ (far (D:=D1) b5 ap.o1 (far (D:=D1) b4 ap.x2 (far (D:=D1) b3 ap.o1 st2))) λc hc o e=>k8 c o (λy=>ap.z1 (y ▸ hc)) e;have g2:S2 (k+1) h8:=D2.frame _ _ _ (far (D:=D2) b5 ap.o2 st4) λc hc o e=>k8 c o (λy=>ap.z2 (y ▸ hc)) e;rw[sz]at z8 t8 l8 ⊢;exact hQ x y h8 t4 px py z8 (k8 _ _ ap.oz o5) g1 g2 t8 l8 λc o c1 c2 c3 c4 e=>k8 c o c1 (b5.extBut _ _ c2 (b4.extBut _ _ c4 (b3.extBut _ _ c2 (b2.extBut _ _ c3 (b1.extBut _ _ c1 e)))))
theorem aui(D1:Draws prog w A i1 p n1 P1 S1)(D2:Draws prog w A i2 q n2 P2 S2)(ap:Ap z TI TO i1 i2 p q)(hz:IsZip s.heap z TI TO .none)(hi:IsPair s.heap TI (.ref i1) (.ref i2))(ho:IsPair s.heap TO a b)
  (s1:S1 k s.heap) (s2:S2 k s.heap) (kk:k=n1\/(k<n1/\k=n2))
  (hE:∀h' tk e,(∀c o,c≠z->c≠TO->c≠i1->c≠i2->s.heap.get? c=some o->h'.get? c=some o)->(∃o,h'.get? e=some o/\o.cls=.type "StopIteration")->E (.ref e) {s with heap:=h',toks:=tk}) :
  wpAny (model prog w) A (Builtin.«zip.__next__» ⟨[.ref z],[]⟩) Q E s:=by
 have ni1:i1≠z:=λe=>ap.z1 (e ▸ ap.m1);have ni2:i2≠z:=λe=>ap.z2 (e ▸ ap.m2);have no1:TO≠i1:=λe=>ap.o1 (e ▸ ap.m1);have stop:∀{h:Heap} {e:Addr},(∃o,h.get? e=some o/\o.cls=.type "StopIteration")->IsZip h z TI TO .ellipsis->e≠z:=λ{h e} ⟨o,eo,ec⟩ zz y=>by
  subst y;rw[zz]at eo;cases eo;simp at ec
 refine aj3 hz hi ho ap.oz λh1 z1 b1=>?_
 rcases kk with rfl|⟨k1,rfl⟩
 .refine D1.done _ _ _ (far (D:=D1) b1 ap.z1 s1) λh2 e x2 st=>?_;have z2:IsZip h2 z TI TO .ellipsis:=x2 _ _ ni1.symm z1;have ne:=stop st z2;obtain⟨oe,f1,f2⟩:=st;refine eP z2 (dE _) λh3 _ b3=>?_;exact hE h3 _ e (λc o c1 _ c3 _ y=>b3.extBut _ _ c1 (x2 _ _ c3 (b1.extBut _ _ c1 y))) ⟨oe,b3.extBut _ _ ne f1,f2⟩
 .refine D1.item k _ _ _ k1 (far (D:=D1) b1 ap.z1 s1) λx h2 t2 px st2 b2=>?_;refine⟨b2.extBut _ _ no1 (b1.extBut _ _ ap.oz ho),λh3 o3 b3=>?_⟩;refine D2.done _ _ _ (far (D:=D2) b3 ap.o2 (far (D:=D2) b2 ap.x1 (far (D:=D2) b1 ap.z2 s2))) λh4 e x4 st=>?_;have z4:IsZip h4 z TI TO .ellipsis:=x4 _ _ ni2.symm (b3.extBut _ _ ap.oz.symm (b2.extBut _ _ ni1.symm z1));have ne:=stop st z4;obtain⟨oe,f1,f2⟩:=st;refine eP z4 (dE _) λh5 _ b5=>?_;exact hE h5 _ e (λc o c1 c2 c3 c4 y=>b5.extBut _ _ c1 (x4 _ _ c4 (b3.extBut _ _ c2 (b2.extBut _ _ c3 (b1.extBut _ _ c1 y))))) ⟨oe,b5.extBut _ _ ne f1,f2⟩
theorem next_item{Q:Option Value->Shared->Prop}(D1:Draws prog w A.in1 i1 p n1 P1 S1)(D2:Draws prog w A.in1 i2 q n2 P2 S2)(ap:Ap z TI TO i1 i2 p q)(hz:IsZip s.heap z TI TO .none)(hi:IsPair s.heap TI (.ref i1) (.ref i2))(ho:IsPair s.heap TO a b)
  (s1:S1 k s.heap) (s2:S2 k s.heap) (k1:k<n1) (k2:k<n2)
  (hQ:∀x y h' tk,P1 k x->P2 k y->IsZip h' z TI TO (rawInt s.heap.objs.size)->IsPair h' TO x y->S1 (k+1) h'->S2 (k+1) h'->IsPair h' s.heap.objs.size x y->h'.objs.size=s.heap.objs.size+1->
   (∀c o,c≠z->c≠TO->c≠i1->c≠i2->s.heap.get? c=some o->h'.get? c=some o)->Q (some (.ref s.heap.objs.size)) {s with heap:=h',toks:=tk}):wpAny (model prog w) A (pyNext (.ref z)) Q E s:=by
 have ty:s.TypeIs (.ref z) "zip":=⟨_,hz,rfl⟩;rw[pyNext]
 apply ai;apply iA
 apply cB (name:=Str.ofString "__next__") ty gE
 apply cn gE ty F.entry_zip_next _ (F.args_zip_next_1 _)
 exact anz D1 D2 ap hz hi ho s1 s2 k1 k2 λx y h' tk c1 c2 c3 c4 c5 c6 c7 c8 c9=>aJ (hQ x y h' tk c1 c2 c3 c4 c5 c6 c7 c8 c9)
theorem next_end(D1:Draws prog w A.in1 i1 p n1 P1 S1)(D2:Draws prog w A.in1 i2 q n2 P2 S2)(ap:Ap z TI TO i1 i2 p q)(hz:IsZip s.heap z TI TO .none)(hi:IsPair s.heap TI (.ref i1) (.ref i2))(ho:IsPair s.heap TO a b)
  (s1:S1 k s.heap) (s2:S2 k s.heap) (kk:k=n1\/(k<n1/\k=n2))
  (hQ:∀h' tk,(∀c o,c≠z->c≠TO->c≠i1->c≠i2->s.heap.get? c=some o->h'.get? c=some o)->Q none {s with heap:=h',toks:=tk}):wpAny (model prog w) A (pyNext (.ref z)) Q E s:=by
 have ty:s.TypeIs (.ref z) "zip":=⟨_,hz,rfl⟩;rw[pyNext]
 apply ai;apply iA
 apply cB (name:=Str.ofString "__next__") ty gE
 apply cn gE ty F.entry_zip_next _ (F.args_zip_next_1 _)
 refine aui D1 D2 ap hz hi ho s1 s2 kk ?_
 rintro h' tk e kp ⟨o,f1,f2⟩
 refine ai (wpAny_isInstance (b:=true) (T := "StopIteration") ⟨o,f1,f2⟩ isSubtype_stop (aJ (hQ h' tk kp)))
end
end ZP
namespace ZP
open PySem.Builtin PySem.Builtin.SmallTypes L2
inductive Srk where
 |tup (a:Addr)|lst (a:Addr)|str (x:Str)
def Srk.v:Srk->V
 |.tup a=>.ref a
 |.lst a=>.ref a
 |.str x=>.str x
noncomputable def its(H:Hp):Srk->Option (List V)
 |.tup a=>match H a with|some (.tup vs)=>some vs|_=>none
 |.lst a=>match H a with|some (.lst vs)=>some vs|some (.frz _ (.lst vs))=>some vs|_=>none
 |.str x=>some (a2m x)
def own(it:Addr)(t:Tok):Srk->Nat->Heap->Prop
 |.tup a,i,h=>h.IsTupleIter it a i
 |.lst a,i,h=>h.IsListIter it a i
 |.str x,i,h=>h.IsStrIter it (strIterType x) x t i
noncomputable def iob(t:Tok):Srk->Obj
 |.tup a=>{cls:=.type "tuple_iterator",data:=.fields #[.ref a,.int 0 0]}
 |.lst a=>{cls:=.type "list_iterator",data:=.fields #[.ref a,.int 0 0]}
 |.str x=>{cls:=.type (strIterType x),data:=.fields #[.str x t,.int 0 0]}
def val(t:Tok):Srk->Value
 |.tup a=>.ref a
 |.lst a=>.ref a
 |.str x=>.str x t
def cont(h:Heap):Srk->List Value->Prop
 |.tup a,us=>h.IsTuple a us.toArray
 |.lst a,us=>h.IsList a us.toArray
 |.str x,us=>True
theorem b1z{h:Heap}(e:h.get? it=some (iob t k)):own it t k 0 h:=by
 cases k with
 |tup a=>exact⟨_,e,rfl,rfl⟩
 |lst a=>exact⟨_,e,rfl,rfl⟩
 |str x=>exact⟨_,e,rfl,rfl⟩
theorem a2t(o:own it t k i h):∃ob,h.get? it=some ob/\∀v,ob.data≠.cell v:=by
 cases k with
 |tup a=>obtain⟨ob,e,_,d⟩:=o;exact⟨ob,e,λv z=>by rw[d]at z;cases z⟩
 |lst a=>obtain⟨ob,e,_,d⟩:=o;exact⟨ob,e,λv z=>by rw[d]at z;cases z⟩
 |str x=>obtain⟨ob,e,_,d⟩:=o;exact⟨ob,e,λv z=>by rw[d]at z;cases z⟩
theorem a0v{h':Heap}(o:own it t k i h)(kk:∀ob,h.get? it=some ob->h'.get? it=some ob):own it t k i h':=by
 cases k with
 |tup a=>obtain⟨ob,e,r⟩:=o;exact⟨ob,kk _ e,r⟩
 |lst a=>obtain⟨ob,e,r⟩:=o;exact⟨ob,kk _ e,r⟩
 |str x=>obtain⟨ob,e,r⟩:=o;exact⟨ob,kk _ e,r⟩
section
variable{P:Program}{w:World}{H:Hp}{s:Shared}
theorem a5r(I:Inv X aA Z H s)(e:its H k=some xs):∃us,cont s.heap k us/\((∀x,k≠.str x)->Vals xs us):=by
 cases k with
 |tup a =>
  cases q:H a with
  |none=>simp[its,q]at e
  |some o =>
   cases o with
   |tup vs =>
    simp[its,q]at e;subst e
    obtain⟨us,r,t,_⟩:=I.tuple (SqT.of q);exact⟨us,t,λ_=>r⟩
   |_=>simp[its,q]at e
 |lst a =>
  cases q:H a with
  |none=>simp[its,q]at e
  |some o =>
   cases o with
   |lst vs =>
    simp[its,q]at e;subst e
    obtain⟨us,r,t,_⟩:=I.list (SqL.of q);exact⟨us,t.isList,λ_=>r⟩
   |frz ob u =>
    cases u with
    |lst vs =>
     simp[its,q]at e;subst e
     obtain⟨us,r,t,_⟩:=I.list (.inl (.inr ⟨_,q⟩));exact⟨us,t.isList,λ_=>r⟩
    |_=>simp[its,q]at e
   |_=>simp[its,q]at e
 |str x=>exact⟨[],True.intro,λn=>absurd rfl (n x)⟩
theorem a2u(I:Inv X aA Z H s)(e:its H k=some xs)(hn:H it=none) :
  ∃(cs:List Addr) (P1:Nat->Value->Prop) (S1:Nat->Heap->Prop),(∀A:Around,A.handled=none->Draws X.prog X.w A it (it::cs) xs.length P1 S1)/\(∀i,own it t k i s.heap->S1 i s.heap)/\(∀i h,S1 i h->own it t k i h)/\(∀c∈cs,H c≠none) /\
   ∀i v,P1 i v->∃x,xs[i]? = some x/\RelV x v:=by
 cases k with
 |tup a =>
  obtain⟨us,c,r⟩:=a5r I e;have r:=r (by intro x z;cases z)
  have ha:H a≠none:=λz=>by simp[its,z]at e
  have l:us.toArray.size=xs.length:=by rw[aV,r.length]
  refine⟨[a],λi v=>us.toArray[i]? = some v,λi h=>h.IsTupleIter it a i/\h.IsTuple a us.toArray,λA hA=>?_,λi o=>⟨o,c⟩,λi h z=>z.1,λc hc=>by rw[av.mp hc];exact ha,λi v z=>?_⟩
  .have:=aj2 (prog:=X.prog) (w:=X.w) hA it a (λy=>ha (y ▸ hn)) us.toArray
   rw[l]at this;exact this
  .have z':us[i]? = some v:=by simpa using z
   have hi:i<xs.length:=by rw[r.length];exact(ah.mp z').1
   obtain⟨u,e1,e2⟩:=r.get (ag hi);rw[z']at e1;cases e1
   exact⟨_,ag hi,e2⟩
 |lst a =>
  obtain⟨us,c,r⟩:=a5r I e;have r:=r (by intro x z;cases z)
  have ha:H a≠none:=λz=>by simp[its,z]at e
  have l:us.toArray.size=xs.length:=by rw[aV,r.length]
  refine⟨[a],λi v=>us.toArray[i]? = some v,λi h=>h.IsListIter it a i/\h.IsList a us.toArray,λA hA=>?_,λi o=>⟨o,c⟩,λi h z=>z.1,λc hc=>by rw[av.mp hc];exact ha,λi v z=>?_⟩
  .have:=Draws.list (prog:=X.prog) (w:=X.w) hA it a (λy=>ha (y ▸ hn)) us.toArray
   rw[l]at this;exact this
  .have z':us[i]? = some v:=by simpa using z
   have hi:i<xs.length:=by rw[r.length];exact(ah.mp z').1
   obtain⟨u,e1,e2⟩:=r.get (ag hi);rw[z']at e1;cases e1
   exact⟨_,ag hi,e2⟩
 |str x =>
  cases e
  have l:(a2m x).length=x.cps.size:=by simp[a2m]
  refine⟨[],λi v=>∃c u,x.cps[i]? = some c/\v=.str ⟨#[c]⟩ u,λi h=>h.IsStrIter it (strIterType x) x t i,λA hA=>?_,λi o=>o,λi h z=>z,λc hc=>(by cases hc),λi v z=>?_⟩
  .rw[l]
   cases ha:x.cps.all (· < 128)
   .have:=Draws.strWide (prog:=X.prog) (w:=X.w) hA it x t
    simpa[strIterType,ha] using this
   .have:=Draws.strAscii (prog:=X.prog) (w:=X.w) hA it x t
    simpa[strIterType,ha] using this
  .obtain⟨c,u,e1,rfl⟩:=z;exact⟨.str ⟨#[c]⟩,by simp[a2m,e1],⟨_,rfl⟩⟩
end
noncomputable def ItZ(k1 k2:Srk):It where
 go:=λi H=>∃xs ys x y,its H k1=some xs/\its H k2=some ys/\xs[i]? = some x/\ys[i]? = some y
 yld:=λi H v H'=>∃xs ys x y p,its H k1=some xs/\its H k2=some ys/\xs[i]? = some x/\ys[i]? = some y/\H p=none/\v=.ref p/\H'=upd H p (.tup [x,y])
 stop:=λi H=>∃xs ys,its H k1=some xs/\its H k2=some ys/\(i=xs.length\/(i<xs.length/\i=ys.length))
def tnZ(z TI TO i1 i2:Addr)(t1 t2:Tok)(k1 k2:Srk)(i:Nat)(h:Heap):Prop :=
 IsZip h z TI TO .none/\IsPair h TI (.ref i1) (.ref i2)/\(∃a b,IsPair h TO a b)/\own i1 t1 k1 i h/\own i2 t2 k2 i h
structure Far (z TI TO i1 i2:Addr):Prop where
 a:TI≠z
 b:TO≠z
 c:i1≠z
 d:i2≠z
 e:TI≠TO
 f:TI≠i1
 g:TI≠i2
 h:TO≠i1
 i:TO≠i2
 j:i1≠i2
theorem a2v{X:Cx}{aA:List (Addr×Obj)}{Z:St}{H:Hp}{s:Shared}{h':Heap}{t':Nat}{ch:List Addr}(I:Inv X aA Z H s)(hf:∀b∈ch,FpOk X aA H b)(k:∀b o,b∉ch->s.heap.get? b=some o->h'.get? b=some o) :
  Inv X aA Z H {s with heap:=h',toks:=t' }:=by
 have nit:∀b u,H b=some u->b∉ch:=λb u e z=>by rw[(hf b z).1]at e;cases e
 refine I.step (g':=s.gens) (d':=s.drawn) (ch:=ch) (λb hb=>?_) (λb o _ _ hc e _=>k b o hc e) (λb o _ _ hc e _=>⟨o.slots,k b o hc e⟩) (λ_ _ _ _ n=>n) (λb o hc e=>⟨o,k b o hc e⟩) (λ_ _ e=>e) (λ_ _ _ e=>e)
  (λb ps e=>⟨#[],by rw[e];simp⟩) (λm hm=>?_) (λb u e=>?_) I.bare
 .obtain⟨_,f1,_,f3,f4,f5⟩:=hf b hb;exact⟨f3,f1,f4,f5⟩
 .obtain⟨o,es,ep,ho,r⟩:=hm;exact⟨o,es,ep,k _ o (λz=>(hf _ z).2.1 rfl) ho,r⟩
 .refine(I.hok b u e).stay (λc v hc q=>k c v ?_ q) (λ_ q=>q) λ_ _ q=>q
  rcases hc with z|z
  .rw[z];exact nit b u e
  .exact nit c _ z
theorem ao0{P:Program}{w:World}{K:Fg}{elts:List Expr}{x1:Nat}{pos:Pos}{z TI TO i1 i2:Addr}{t1 t2:Tok}{k1 k2:Srk}(f:Far z TI TO i1 i2):Turn P w K (.Tuple elts x1 pos) (ItZ k1 k2) [z,TI,TO,i1,i2] z (tnZ z TI TO i1 i2 t1 t2 k1 k2) where
 mem:=by simp
 obj:=λi h st b hb=>by
  obtain⟨h1,h2,⟨a,b',h3⟩,h4,h5⟩:=st;simp only[aP,bp,cH]at hb
  rcases hb with rfl|rfl|rfl|rfl|rfl
  .exact⟨_,h1,λv z=>(by cases z)⟩
  .exact⟨_,h2,λv z=>(by cases z)⟩
  .exact⟨_,h3,λv z=>(by cases z)⟩
  .exact a2t h4
  .exact a2t h5
 keep:=λi h h' st k=>by
  obtain⟨h1,h2,⟨a,b',h3⟩,h4,h5⟩:=st;exact⟨k z (by simp) _ h1,k TI (by simp) _ h2,⟨a,b',k TO (by simp) _ h3⟩,a0v h4 λob e=>k i1 (by simp) ob e,a0v h5 λob e=>k i2 (by simp) ob e⟩
 item:=by
  intro X hP hw hK hc i aA s Z H E I hf st hg
  subst hP hw hK;obtain⟨xs,ys,x,y,e1,e2,g1,g2⟩:=hg;obtain⟨h1,h2,⟨a,b,h3⟩,h4,h5⟩:=st;have n:∀c∈[z,TI,TO,i1,i2],H c=none:=λc hc=>(hf c hc).1;obtain⟨cs,P1,S1,D1,a1,b1,c1,d1⟩:=a2u I (t:=t1) e1 (n i1 (by simp))
  obtain⟨ds,P2,S2,D2,a2,b2,c2,d2⟩:=a2u I (t:=t2) e2 (n i2 (by simp))
  have hd:=I.ok.hd hc;have out1:∀c,H c=none->c∉cs:=λc e z=>c1 c z e;have out2:∀c,H c=none->c∉ds:=λc e z=>c2 c z e;have ap:Ap z TI TO i1 i2 (i1::cs) (i2::ds):=⟨by simp,by simp,by simp[f.c.symm,out1 z (n z (by simp))],by simp[f.d.symm,out2 z (n z (by simp))],by simp[f.h,out1 TO (n TO (by simp))],by simp[f.i,out2 TO (n TO (by simp))],f.b,by simp[f.j,out2 i1 (n i1 (by simp))],by simp[f.j.symm,out1 i2 (n i2 (by simp))]⟩
  refine next_item (D1 X.A.in1 hd) (D2 X.A.in1 hd) ap h1 h2 h3 (a1 i h4) (a2 i h5) (ah.mp g1).1 (ah.mp g2).1 λu v h' tk pu pv z' to' s1' s2' pr sz kp=>?_;obtain⟨x',q1,r1⟩:=d1 i u pu;obtain⟨y',q2,r2⟩:=d2 i v pv;rw[g1]at q1;cases q1
  rw[g2]at q2;cases q2
  refine⟨_,rfl,wpAny_letOwnedTupleGo_zip z' λh2' z2' sb=>?_⟩;have hp:H s.heap.objs.size=none:=I.hok.fresh (ay _);have lt:∀c∈[z,TI,TO,i1,i2],c<s.heap.objs.size:=λc hc=>by
   simp only[aP,bp,cH]at hc
   rcases hc with rfl|rfl|rfl|rfl|rfl
   .exact aX h1
   .exact aX h2
   .exact aX h3
   .obtain⟨_,e,_⟩:=a2t h4;exact aX e
   .obtain⟨_,e,_⟩:=a2t h5;exact aX e
  have all:∀c o,c∉[z,TI,TO,i1,i2]->s.heap.get? c=some o->h2'.get? c=some o:=λc o nc e=>by
   simp only[aP,bp,cH,not_or]at nc;exact(sb.2 c nc.1).trans (kp c o nc.1 nc.2.2.1 nc.2.2.2.1 nc.2.2.2.2 e)
  have nT:∀c∈[z,TI,TO,i1,i2],c≠s.heap.objs.size:=λc hc=>bT (lt c hc);have I0:Inv X aA Z (upd H s.heap.objs.size (.tup [x,y])) {s with heap:=s.heap.push {cls:=.type "tuple",data:=.seq #[u,v]} } :=
   I.laid (t':=s.toks) (o:=.tup [x,y]) (λb o e=>ar _ e) (ay _) ⟨by show 2<=sizeLine;decide,[u,v],.cons r1 (.cons r2 .nil),⟨_,aO _ rfl,rfl,_,rfl⟩⟩
  have I1:Inv X aA Z (upd H s.heap.objs.size (.tup [x,y])) {s with heap:=h2',toks:=tk}:=by
   refine a2v (s:={s with heap:=s.heap.push {cls:=.type "tuple",data:=.seq #[u,v]} }) (ch:=[z,TI,TO,i1,i2]) I0 (λb hb=>?_) λc o nc e=>?_
   .obtain⟨f0,f1⟩:=hf b hb;exact⟨by rw[ik (nT b hb)];exact f0,f1⟩
   .rcases fg e with⟨rfl,rfl⟩|e
    .exact(sb.2 _ (nT z (by simp)).symm).trans pr
    .exact all c o nc e
  refine⟨.ref s.heap.objs.size,_,I1,rfl,⟨xs,ys,x,y,_,e1,e2,g1,g2,hp,rfl,rfl⟩,⟨z2',?_,⟨u,v,(sb.2 _ f.b).trans to'⟩,a0v (b1 _ _ s1') λob e=>(sb.2 _ f.c).trans e,a0v (b2 _ _ s2') λob e=>(sb.2 _ f.d).trans e⟩,λb hb=>?_⟩
  .exact(sb.2 _ f.a).trans (kp TI _ f.a f.e f.f f.g h2)
  .rw[ik (nT b hb)];exact n b hb
 done:=by
  intro X hP hw hK hc i aA s Z H E I hf st hg
  subst hP hw hK;obtain⟨xs,ys,e1,e2,g⟩:=hg;obtain⟨h1,h2,⟨a,b,h3⟩,h4,h5⟩:=st;have n:∀c∈[z,TI,TO,i1,i2],H c=none:=λc hc=>(hf c hc).1;obtain⟨cs,P1,S1,D1,a1,b1,c1,d1⟩:=a2u I (t:=t1) e1 (n i1 (by simp))
  obtain⟨ds,P2,S2,D2,a2,b2,c2,d2⟩:=a2u I (t:=t2) e2 (n i2 (by simp))
  have hd:=I.ok.hd hc;have out1:∀c,H c=none->c∉cs:=λc e z=>c1 c z e;have out2:∀c,H c=none->c∉ds:=λc e z=>c2 c z e;have ap:Ap z TI TO i1 i2 (i1::cs) (i2::ds):=⟨by simp,by simp,by simp[f.c.symm,out1 z (n z (by simp))],by simp[f.d.symm,out2 z (n z (by simp))],by simp[f.h,out1 TO (n TO (by simp))],by simp[f.i,out2 TO (n TO (by simp))],f.b,by simp[f.j,out2 i1 (n i1 (by simp))],by simp[f.j.symm,out1 i2 (n i2 (by simp))]⟩
  refine next_end (D1 X.A.in1 hd) (D2 X.A.in1 hd) ap h1 h2 h3 (a1 i h4) (a2 i h5) g λh' tk kp=>⟨rfl,a2v I hf λc o nc e=>?_⟩;simp only[aP,bp,cH,not_or]at nc;exact kp c o nc.1 nc.2.2.1 nc.2.2.2.1 nc.2.2.2.2 e
 self:=λ_ _ _ _ _ st h=>wpAny_pyIter_zip st.1 h
theorem aj4(c:cont h k us)(o:Obj):cont (h.push o) k us:=by
 cases k with
 |tup a=>obtain⟨ob,e,r⟩:=c;exact⟨ob,ar _ e,r⟩
 |lst a=>obtain⟨ob,e,r⟩:=c;exact⟨ob,ar _ e,r⟩
 |str x=>trivial
theorem a0w{s:Shared}(c:cont s.heap k us)(q:Q (.ref s.heap.objs.size) {s with heap:=s.heap.push (iob t k)}) :
  wpAny (model prog w) A (pyIter (val t k)) Q E s:=by
 cases k with
 |tup a=>exact wpAny_pyIter_tuple c q
 |lst a=>exact fJ c q
 |str x=>exact wpAny_pyIter_strU q
def mk2(h:Heap)(t1 t2:Tok)(k1 k2:Srk):Heap:=(h.push (iob t1 k1)).push (iob t2 k2)
noncomputable def mk5(h:Heap)(t1 t2:Tok)(k1 k2:Srk):Heap :=
 (((mk2 h t1 t2 k1 k2).push {cls:=.type "tuple",data:=.seq #[.ref h.objs.size,.ref (h.objs.size+1)]}).push {cls:=.type "tuple",data:=.seq #[.none,.none]}).push
  {cls:=.type "zip",data:=.fields #[.none,.bool false,.bool false,.ref (h.objs.size+2),.ref (h.objs.size+3)]}
theorem ao1(t1 t2:Tok)(k1 k2:Srk)(us1 us2:List Value):Meets (Builtin.«zip.__new__» ⟨[.type "zip",val t1 k1,val t2 k2],[]⟩)
  (λ_ R s=>cont s.heap k1 us1/\cont s.heap k2 us2/\R (.ok (.ret (.ref (s.heap.objs.size+4)))) {s with heap:=mk5 s.heap t1 t2 k1 k2}) :=
 .of_wp λprog w A R s h=>by
  obtain⟨hp,g,d,tk,os⟩:=s;obtain⟨c1,c2,h⟩:=h;have sub:=sub_zip;have c1':cont (Shared.heap ⟨hp,g,d,tk,os⟩) k1 us1:=c1;have c2':cont (Shared.heap ⟨hp.push (iob t1 k1),g,d,tk,os⟩) k2 us2:=aj4 c2 _
  wp_walk using a0w (t:=t1) c1',a0w (t:=t2) c2'
  refine⟨_,rfl,?_⟩;simpa[mk5,mk2,cb,ownedTupleFields,iB] using h
theorem b3g(n:Nat):Far (n+4) (n+2) (n+3) n (n+1):=by
 refine⟨?_,?_,?_,?_,?_,?_,?_,?_,?_,?_⟩<;>(intro z;have z:(_:Nat)=_:=z;omega)
theorem b5q(n b:Nat)(h:b∈[n+4,n+2,n+3,n,n+1]):n<=b:=by
 simp only[aP,bp,cH]at h;omega
section
variable{X:Cx}{elts:List Expr}{x1:Nat}{tpos:Pos}
noncomputable def b5r(ta:TA):TI:=λZ H R=>ta Z H λvs H1=>∃k1 k2 xs ys,vs=[Srk.v k1,Srk.v k2]/\its H1 k1=some xs/\its H1 k2=some ys/\R (ItZ k1 k2) H1
theorem aei{k:Srk}(r:RelV k.v u):∃t,u=val t k:=by
 cases k with
 |tup a=>cases r;exact⟨0,rfl⟩
 |lst a=>cases r;exact⟨0,rfl⟩
 |str x=>obtain⟨t,rfl⟩:=r;exact⟨t,rfl⟩
theorem azn(hg:Gl X "zip")(hm:X.mg "zip" = none)(hb:bootBuiltins "zip" = some (.type "zip"))(ha:PA X [e1,e2] ta)
  (h1:starEach [e1,e2] X.env=[(false,eval e1 X.env),(false,eval e2 X.env)]:=by rfl) (h2:starEach [e2] X.env=[(false,eval e2 X.env)]:=by rfl):PI X (.Tuple elts x1 tpos) (.Call (.Name "zip" p) [e1,e2] [] pos) (b5r ta):=by
 intro aA s Z H R I h
 refine dG (a3j I hg hm hb ?_ (by decide) (by decide))
 refine cp (thn (ha pos aA s Z H _ I h) λus s1 ⟨vs,H1,I1,r1,q1⟩=>?_) (by rw[h1,h2]) (by rw[h2];rfl)
 obtain⟨k1,k2,xs,ys,rfl,e1,e2,q⟩:=q1;obtain⟨v1,v2,rfl,rv1,rv2⟩:=vals2 r1;obtain⟨t1,rfl⟩:=aei rv1;obtain⟨t2,rfl⟩:=aei rv2;obtain⟨us1,c1,_⟩:=a5r I1 e1;obtain⟨us2,c2,_⟩:=a5r I1 e2;refine callType_new F.called_zip (by decide) (F.typeCall_zip_2 _ _) (F.newCall_zip_2 _ _) (λobj=>F.args_object_init_3 obj _ _) F.entry_zip_new (ao1 t1 t2 k1 k2 us1 us2) ⟨c1,c2,?_⟩
 have z2:(mk2 s1.heap t1 t2 k1 k2).objs.size=s1.heap.objs.size+2:=by simp[mk2,cb]
 have at0:(mk5 s1.heap t1 t2 k1 k2).get? s1.heap.objs.size=some (iob t1 k1):=by
  unfold mk5 mk2;exact ar _ (ar _ (ar _ (ar _ (aO _ (by cases k1<;>rfl)))))
 have at1:(mk5 s1.heap t1 t2 k1 k2).get? (s1.heap.objs.size+1)=some (iob t2 k2):=by
  unfold mk5 mk2;have:=aO (o:=iob t2 k2) (s1.heap.push (iob t1 k1)) (by cases k2<;>rfl)
  rw[cb]at this;exact ar _ (ar _ (ar _ this))
 have at2:IsPair (mk5 s1.heap t1 t2 k1 k2) (s1.heap.objs.size+2) (.ref s1.heap.objs.size) (.ref (s1.heap.objs.size+1)):=by
  unfold mk5;rw[<-z2];exact ar _ (ar _ (aO _ rfl))
 have at3:IsPair (mk5 s1.heap t1 t2 k1 k2) (s1.heap.objs.size+3) .none .none:=by
  unfold mk5;have:=aO (o:={cls:=.type "tuple",data:=.seq #[.none,.none]}) ((mk2 s1.heap t1 t2 k1 k2).push {cls:=.type "tuple",data:=.seq #[.ref s1.heap.objs.size,.ref (s1.heap.objs.size+1)]}) rfl;rw[cb,z2]at this;exact ar _ this
 have at4:IsZip (mk5 s1.heap t1 t2 k1 k2) (s1.heap.objs.size+4) (s1.heap.objs.size+2) (s1.heap.objs.size+3) .none:=by
  unfold mk5;have:=aO (o:={cls:=.type "zip",data:=.fields #[.none,.bool false,.bool false,.ref (s1.heap.objs.size+2),.ref (s1.heap.objs.size+3)]}) (((mk2 s1.heap t1 t2 k1 k2).push {cls:=.type "tuple",data:=.seq #[.ref s1.heap.objs.size,.ref (s1.heap.objs.size+1)]}).push {cls:=.type "tuple",data:=.seq #[.none,.none]}) rfl;rw[cb,cb,z2]at this;exact this
 have keepA:∀b o,s1.heap.get? b=some o->(mk5 s1.heap t1 t2 k1 k2).get? b=some o:=λb o e=>by
  unfold mk5 mk2;exact ar _ (ar _ (ar _ (ar _ (ar _ e))))
 have I2:Inv X aA Z H1 {s1 with heap:=mk5 s1.heap t1 t2 k1 k2}:=I1.kept (t':=s1.toks) keepA
 refine⟨⟨_,at4,rfl⟩,?_⟩;refine wpAny_pyIter_zip (s:={s1 with heap:=mk5 s1.heap t1 t2 k1 k2}) at4 ?_
 refine⟨s1.heap.objs.size+4,[s1.heap.objs.size+4,s1.heap.objs.size+2,s1.heap.objs.size+3,s1.heap.objs.size,s1.heap.objs.size+1],tnZ _ _ _ _ _ t1 t2 k1 k2,ItZ k1 k2,H1,rfl,I2,ao0 (b3g s1.heap.objs.size),
  ⟨at4,at2,⟨_,_,at3⟩,b1z at0,b1z at1⟩,λb hb=>?_,q⟩
 have:s1.heap.objs.size<=b:=b5q _ b hb
 exact I1.fpOk this (I1.hok.fresh this)
end
end ZP
namespace MI
open L2 ZP
def srcOf(d:D)(h:Hd):Option (List D×(Hd->Prop)):=match d with
 |.tup xs=>some (xs,λ_=>True)
 |.rol xs=>some (xs,λ_=>True)
 |.str x=>some (a0u x,λ_=>True)
 |.ref i=>(match h[i]? with|some (.lst xs)=>some (xs,λh=>h[i]? = some (.lst xs))|_=>none)
 |_=>none
noncomputable def auj(x y:D)(h:Hd):R Itm:=match srcOf x h,srcOf y h with
 |some (xs,c1),some (ys,c2)=>.ok ⟨(xs.zip ys).map λp=>.tup [p.1,p.2],λh=>c1 h/\c2 h⟩ h
 |_,_=>.no
def acs(f g:SE):SI:=λτ h=>(f τ h).bind λx h1=>(g τ h1).bind λy h2=>auj x y h2
theorem aej(r:Rep K U H v d)(hr:HRep K U H h)(e:srcOf d h=some (xs,ck)) :
  ∃k:Srk,v=k.v/\ck h/\∀U' H' h',Gr U H U' H'->HRep K U' H' h'->ck h'->∃vs,its H' k=some vs/\Reps K U' H' vs xs:=by
 cases r with
 |@tup a vs ys ha rs =>
  cases e
  exact⟨.tup a,rfl,True.intro,λU' H' h' g _ _=>⟨vs,by simp[its,g.tup _ _ ha],rs.mono g⟩⟩
 |@rol a vs ys ha rs =>
  cases e
  refine⟨.lst a,rfl,True.intro,λU' H' h' g _ _=>⟨vs,?_,rs.mono g⟩⟩;obtain⟨o,q⟩:=ha.mono g;simp[its,q]
 |str x =>
  cases e
  exact⟨.str x,rfl,True.intro,λU' H' h' g _ _=>⟨_,rfl,a81 x⟩⟩
 |@ref a i ha =>
  obtain⟨ob,e1,e2⟩:=hr.at ha
  cases ob with
  |lst zs =>
   simp only[srcOf,e1]at e;cases e
   refine⟨.lst a,rfl,e1,λU' H' h' g hr' c=>?_⟩;obtain⟨us,q1,q2⟩:=hr'.obj i a _ (g.at ha) c;exact⟨us,by simp[its,q1],q2⟩
  |dK _=>simp only[srcOf,e1]at e;cases e
  |dT _=>simp only[srcOf,e1]at e;cases e
  |ins _ _=>simp only[srcOf,e1]at e;cases e
 |_=>cases e
theorem azo(hg:Gl X "zip")(hm:X.mg "zip" = none)(hb:bootBuiltins "zip" = some (.type "zip"))(ha:ME X E e1 f)(hb':ME X E e2 g)
  (h1:starEach [e1,e2] X.env=[(false,eval e1 X.env),(false,eval e2 X.env)]:=by rfl) (h2:starEach [e2] X.env=[(false,eval e2 X.env)]:=by rfl) :
  MI X E (.Tuple elts x1 tpos) (.Call (.Name "zip" p) [e1,e2] [] pos) (acs f g):=by
 rintro aA s Z H Rr I ⟨U,τ,h,S,Rh,o⟩
 refine azn hg hm hb (a5n ha (a5n hb' aal (by rw[h2];rfl)) (by rw[h1,h2])) h1 h2 aA s Z H Rr I ?_
 refine⟨U,τ,h,S,Rh,bu o λd h1 U1 H1 v g1 r1 hr1 o1=>?_⟩;refine⟨U1,τ,h1,S.mono g1,hr1,bu o1 λd2 h2 U2 H2 u g2 r2 hr2 o2=>?_⟩;unfold auj at o2
 split at o2
 .rename_i xs c1 ys c2 q1 q2;obtain⟨k1,rfl,k1c,k1f⟩:=aej (r1.mono g2) hr2 q1;obtain⟨k2,rfl,k2c,k2f⟩:=aej r2 hr2 q2;obtain⟨vs1,w1,w2⟩:=k1f U2 H2 h2 (.refl _ _) hr2 k1c;obtain⟨vs2,w3,w4⟩:=k2f U2 H2 h2 (.refl _ _) hr2 k2c;refine⟨k1,k2,vs1,vs2,rfl,w1,w3,o2 U2 H2 _ (.refl _ _) ?_ hr2⟩
  intro U3 H3 h3 g3 hr3 c
  obtain⟨us1,a1,a2⟩:=k1f U3 H3 h3 g3 hr3 c.1;obtain⟨us2,a3,a4⟩:=k2f U3 H3 h3 g3 hr3 c.2;refine⟨λi d ed=>?_,us1,us2,a1,a3,?_⟩
  .simp only[aE,aS]at ed;obtain⟨⟨x,y⟩,ez,rfl⟩:=ed;obtain⟨ex,ey⟩:=cc.mp ez;obtain⟨v1,b1,b2⟩:=a2.get ex;obtain⟨v2,b3,b4⟩:=a4.get ey;refine⟨⟨us1,us2,v1,v2,a1,a3,b1,b3⟩,λx H' yl=>?_⟩;obtain⟨xs',ys',x',y',p,c1,c2,c3,c4,c5,rfl,rfl⟩:=yl;rw[a1]at c1;cases c1
   rw[a3]at c2;cases c2
   rw[b1]at c3;cases c3
   rw[b3]at c4;cases c4
   exact⟨xu c5 _,.tup m5 (.cons (b2.mono (xu c5 _)) (.cons (b4.mono (xu c5 _)) .nil)),hr3.aside c5 _⟩
  .rw[ax,gF,a2.len,a4.len];omega
 .exact o2.elim
theorem azp:bootBuiltins "zip" = some (.type "zip"):=by first|exact PySem.boot_zip|exact PyProof.Rows.boot_zip|rfl
end MI
namespace MI
open L2
def FrzOf(L:List Addr)(H H2:Hp):Prop:=∀a,(a∉L->H2 a=H a)/\(a∈L->∃o u,H a=some u/\H2 a=some (.frz o u))
def ag1(H:Hp)(L:List Addr):Prop:=∀a∈L,(∃xs,H a=some (.lst xs))\/(∃kvs,H a=some (.dK kvs))\/(∃kvs,H a=some (.dT kvs))\/∃C dx fs,H a=some (.ins C dx fs)
def still:HO->Prop
 |.lst _=>False|.dK _=>False|.dT _=>False|.ins _ _ _=>False
 |_=>True
theorem FrzOf.still(f:FrzOf L H H2)(ab:ag1 H L)(e:H a=some u)(st:MI.still u):H2 a=some u:=by
 rw[(f a).1 λz=>?_]
 .exact e
 .rcases ab a z with⟨_,q⟩|⟨_,q⟩|⟨_,q⟩|⟨_,_,_,q⟩<;>(rw[e]at q;cases q;exact st)
theorem Inv.frz{X:Cx}{aA:List (Addr×Obj)}{Z:St}{H:Hp}{s:Shared}{L:List Addr}(I:Inv X aA Z H s)(ab:ag1 H L):∃H2,FrzOf L H H2/\Inv X aA Z H2 s:=by
 have obj:∀a∈L,∀u,H a=some u->∃o,s.heap.get? a=some o:=λa ha u e=>by
  rcases ab a ha with⟨_,q⟩|⟨_,q⟩|⟨_,q⟩|⟨_,_,_,q⟩
  .obtain⟨_,_,_,_,z⟩:=I.hok a _ q;exact⟨_,z⟩
  .obtain⟨_,_,_,_,z⟩:=I.hok a _ q;obtain⟨o,_,_,z,_⟩:=z;exact⟨o,z⟩
  .obtain⟨_,_,_,_,o,_,_,z,_⟩:=I.hok a _ q;exact⟨o,z⟩
  .obtain⟨_,_,_,z,_⟩:=I.hok a _ q;exact⟨_,z⟩
 let H2:Hp:=λa=>if a∈L then (match s.heap.get? a,H a with|some o,some u=>some (.frz o u)|_,w=>w) else H a
 have f:FrzOf L H H2:=λa=>⟨λh=>by simp[H2,h],λh=>by
  obtain⟨u,e⟩:∃u,H a=some u:=by
   rcases ab a h with⟨_,q⟩|⟨_,q⟩|⟨_,q⟩|⟨_,_,_,q⟩<;>exact⟨_,q⟩
  obtain⟨o,eo⟩:=obj a h u e;exact⟨o,u,e,by simp[H2,h,e,eo]⟩⟩
 refine⟨H2,f,?_⟩;have mv:∀a u,ObjOk X.prog X.w H s.heap a u->ObjOk X.prog X.w H2 s.heap a u:=λa u x=>x.stay (λb v _ q=>q) (λc q=>f.still ab q True.intro) λc xs q=>f.still ab q True.intro;have ok:HOk X.prog X.w H2 s.heap:=λa u e=>by
  by_cases hl:a∈L
  .obtain⟨u0,e0⟩:∃u,H a=some u:=by
    rcases ab a hl with⟨_,q⟩|⟨_,q⟩|⟨_,q⟩|⟨_,_,_,q⟩<;>exact⟨_,q⟩
   obtain⟨o,eo⟩:=obj a hl u0 e0;have e':H2 a=some (.frz o u0):=by simp[H2,hl,e0,eo]
   rw[e']at e;cases e
   exact⟨eo,mv a u0 (I.hok a u0 e0)⟩
  .rw[(f a).1 hl]at e;exact mv a u (I.hok a u e)
 have fn:∀b,H b=none->H2 b=none:=λb n=>by
  rw[(f b).1 λz=>?_]
  .exact n
  .rcases ab b z with⟨_,q⟩|⟨_,q⟩|⟨_,q⟩|⟨_,_,_,q⟩<;>(rw[n]at q;cases q)
 have un:Un X.fs [] H H2 s.heap s.heap:=⟨λb o q _ _ _=>q,λb o q _ _ _=>⟨o.slots,q⟩,λb o _ n _=>fn b n,λb o q _=>⟨o,q⟩,λb xs q=>f.still ab q True.intro,λb o u q=>f.still ab q True.intro,λb ps q=>⟨#[],by rw[f.still ab q True.intro];simp⟩⟩
 exact I.un (t':=s.toks) un ok
theorem aj5(h:PE X e t):PE X e (λZ H Q=>t Z H λv H1=>∃L,ag1 H1 L/\∀H2,FrzOf L H1 H2->Q v H2):=λaA s Z H Q I q =>
 thn (h aA s Z H _ I q) λu s' ⟨v,H1,I1,r,L,ab,k⟩=>let ⟨H2,f,I2⟩:=Inv.frz I1 ab; ⟨v,H2,I2,r,k H2 f⟩
noncomputable def a1u{α β:Type}(f:α->Option β):List α->Option (List β)
 |[]=>some []
 |x::xs=>match f x,a1u f xs with|some y,some ys=>some (y::ys)|_,_=>none
open Classical in
def a3u(n:Nat)(h:Hd):Nat->D->Option D
 |0,_=>none
 |k+1,d=>if clo n d then some d else match d with
  |.tup xs=>(a1u (a3u n h k) xs).map .tup
  |.rol xs=>(a1u (a3u n h k) xs).map .rol
  |.scr xs=>(a1u (a3u n h k) xs).map .scr
  |.rod ks xs=>(a1u (a3u n h k) xs).map (.rod ks)
  |.rdT ks xs=>(a1u (a3u n h k) xs).map (.rdT ks)
  |.ins c ks xs=>(a1u (a3u n h k) xs).map (.ins c ks)
  |.ref i=>match h[i]? with
   |some (.lst xs)=>(a1u (a3u n h k) xs).map .rol
   |some (.dK kvs)=>(a1u (a3u n h k) (kvs.map (·.2))).map (.rod (kvs.map (·.1)))
   |some (.dT kvs)=>(a1u (a3u n h k) (kvs.map (·.2))).map (.rdT (kvs.map (·.1)))
   |some (.ins c kvs)=>(a1u (a3u n h k) (kvs.map (·.2))).map (.ins c (kvs.map (·.1)))
   |none=>none
  |_=>none
open Classical in
def azq(n:Nat)(h:Hd)(k:Nat)(o:O):Option O:=if a5q n o then some o else match o with
 |.lst xs=>(a1u (a3u n h k) xs).map .lst
 |.dK kvs=>(a1u (a3u n h k) (kvs.map (·.2))).map λys=>.dK ((kvs.map (·.1)).zip ys)
 |.dT kvs=>(a1u (a3u n h k) (kvs.map (·.2))).map λys=>.dT ((kvs.map (·.1)).zip ys)
 |.ins c kvs=>(a1u (a3u n h k) (kvs.map (·.2))).map λys=>.ins c ((kvs.map (·.1)).zip ys)
abbrev FU:Nat:=20
def ag2(n:Nat):R D->R D
 |.ok d h1=>match a3u n h1 FU d,a1u (azq n h1 FU) (h1.take n) with|some d',some g=>.ok d' g|_,_=>.no
 |_=>.no
open Classical in
def awm(n:Nat):R D->R D
 | .ok (.ref i) h1=>(match h1[i]? with
   |some o=>if n<=i/\a5q n o/\∀u∈h1.take n,a5q n u then .ok (.ref n) (h1.take n++[o]) else .no
   |none=>.no)
 |_=>.no
section
variable{K:Fg}{U U':List Addr}{H H' H2:Hp}{h1:Hd}{n:Nat}{L:List Addr}
theorem aek(f:FrzOf L H' H2)(ab:ag1 H' L)(κ:List Addr):Gw κ H' κ H2:=⟨⟨[],by simp⟩,λa vs e=>f.still ab e True.intro,λa o u e=>f.still ab e True.intro⟩
theorem mj(ih:∀{v d d'},Rep K U H v d->f d=some d'->Rep K κ H2 v d'):∀{vs:List V} {ds ds':List D},Reps K U H vs ds->a1u f ds=some ds'->Reps K κ H2 vs ds'
 |_,_,_,.nil,e=>by cases e;exact .nil
 |_,x::xs,_,.cons r rs,e=>by
  unfold a1u at e
  split at e
  .rename_i y ys h1 h2;cases e
   exact .cons (ih r h1) (mj ih rs h2)
  .cases e
theorem a6x(hr:HRep K U' H' h1)(hL:∀(i:Nat) a,U'[i]? = some a->n<=i->a∈L)(f:FrzOf L H' H2)(ab:ag1 H' L):∀(k:Nat) {v:V} {d d':D},Rep K U' H' v d->a3u n h1 k d=some d'->Rep K (U'.take n) H2 v d':=by
 intro k
 induction k with
 |zero=>intro v d d' r e;cases e
 |succ k ih =>
  intro v d d' r e
  unfold a3u at e
  split at e
  .rename_i c;cases e
   exact(r.cut c).monoW (aek f ab _)
  .rename_i c
   cases r with
   |tup h rs =>
    simp only[aS]at e;obtain⟨ys,e1,rfl⟩:=e;exact .tup (f.still ab h True.intro) (mj (λr e=>ih r e) rs e1)
   |rol h rs =>
    simp only[aS]at e;obtain⟨ys,e1,rfl⟩:=e;exact .rol (h.monoW (aek f ab U')) (mj (λr e=>ih r e) rs e1)
   |scr h rs =>
    simp only[aS]at e;obtain⟨ys,e1,rfl⟩:=e;exact .scr (h.monoW (aek f ab U')) (mj (λr e=>ih r e) rs e1)
   |rod h ek rs =>
    simp only[aS]at e;obtain⟨ys,e1,rfl⟩:=e;exact .rod (f.still ab h True.intro) ek (mj (λr e=>ih r e) rs e1)
   |rdT h ek rs =>
    simp only[aS]at e;obtain⟨ys,e1,rfl⟩:=e;exact .rdT (f.still ab h True.intro) ek (mj (λr e=>ih r e) rs e1)
   |@ref a i ha =>
    have hi:n<=i:=by
     simp only[clo]at c;omega
    obtain⟨o,u,e1,e2⟩:=(f a).2 (hL i a ha hi);obtain⟨ob,h3,h4⟩:=hr.at ha;simp only[h3]at e
    cases ob with
    |lst xs =>
     simp only[aS]at e;obtain⟨ys,e3,rfl⟩:=e;obtain⟨vs,h5,h6⟩:=h4;rw[e1]at h5;cases h5
     exact .rol ⟨o,e2⟩ (mj (λr e=>ih r e) h6 e3)
    |dK kvs =>
     simp only[aS]at e;obtain⟨ys,e3,rfl⟩:=e;obtain⟨us,h5,h6,h7⟩:=h4;rw[e1]at h5;cases h5
     exact .rod e2 h6 (mj (λr e=>ih r e) h7 e3)
    |dT kvs =>
     simp only[aS]at e;obtain⟨ys,e3,rfl⟩:=e;obtain⟨us,h5,h6,h7⟩:=h4;rw[e1]at h5;cases h5
     exact .rdT e2 h6 (mj (λr e=>ih r e) h7 e3)
    |ins c kvs =>
     simp only[aS]at e;obtain⟨ys,e3,rfl⟩:=e;obtain⟨C,dx,us,h5,hn,h6,h7⟩:=h4;rw[e1]at h5;cases h5
     exact .ins e2 hn h6 (mj (λr e=>ih r e) h7 e3)
   |non=>simp only[clo,eA]at c
   |exc _ _ _=>simp only[clo,eA]at c
   |ins h hn ek rs =>
    simp only[aS]at e;obtain⟨ys,e1,rfl⟩:=e;exact .ins (f.still ab h True.intro) hn ek (mj (λr e=>ih r e) rs e1)
   |bl b=>simp only[clo,eA]at c
   |int b=>simp only[clo,eA]at c
   |str b=>simp only[clo,eA]at c
   |ty b=>simp only[clo,eA]at c
theorem a6f{κ:Type}{H:Hp}{us:List (κ×V)}{ks:List κ}{ys:List D}(e:us.map (·.1)=ks)(r:Reps K U H (us.map (·.2)) ys):KRep K U H us (ks.zip ys):=by
 have l:ks.length=ys.length:=by rw[<-e,ax,<-r.len,ax]
 refine⟨?_,?_⟩
 .rw[List.map_fst_zip (by omega)];exact e
 .rw[List.map_snd_zip (by omega)];exact r
theorem auk(hr:HRep K U' H' h1)(hL:∀(i:Nat) a,U'[i]? = some a->n<=i->a∈L)(f:FrzOf L H' H2)(ab:ag1 H' L){k:Nat}(na:a∉L)(r:ORep K U' H' a o)(e:azq n h1 k o=some o'):ORep K (U'.take n) H2 a o':=by
 have same:H2 a=H' a:=(f a).1 na;unfold azq at e
 split at e
 .rename_i c;cases e
  exact(r.cut c).monoW (aek f ab _) same
 .cases o with
  |lst xs =>
   simp only[aS]at e;obtain⟨ys,e1,rfl⟩:=e;obtain⟨vs,h3,h4⟩:=r;exact⟨vs,by rw[same];exact h3,mj (λr e=>a6x hr hL f ab k r e) h4 e1⟩
  |dK kvs =>
   simp only[aS]at e;obtain⟨ys,e1,rfl⟩:=e;obtain⟨us,h3,h4,h5⟩:=r;exact⟨us,by rw[same];exact h3,a6f h4 (mj (λr e=>a6x hr hL f ab k r e) h5 e1)⟩
  |dT kvs =>
   simp only[aS]at e;obtain⟨ys,e1,rfl⟩:=e;obtain⟨us,h3,h4,h5⟩:=r;exact⟨us,by rw[same];exact h3,a6f h4 (mj (λr e=>a6x hr hL f ab k r e) h5 e1)⟩
  |ins c kvs =>
   simp only[aS]at e;obtain⟨ys,e1,rfl⟩:=e;obtain⟨C,dx,us,h3,hn,h4,h5⟩:=r;exact⟨C,dx,us,by rw[same];exact h3,hn,a6f h4 (mj (λr e=>a6x hr hL f ab k r e) h5 e1)⟩
theorem a3g{α β:Type}{f:α->Option β}:∀{xs:List α} {ys:List β},a1u f xs=some ys->xs.length=ys.length/\∀(i:Nat) y,ys[i]? = some y->∃x,xs[i]? = some x/\f x=some y
 |[],_,e=>by cases e;exact⟨rfl,λi y e=>by simp at e⟩
 |x::xs,ys,e=>by
  unfold a1u at e
  split at e
  .rename_i y ys h1 h2;cases e
   obtain⟨l,g⟩:=a3g h2;refine⟨by simp[l],λi z e=>?_⟩
   cases i with
   |zero=>simp at e;subst e;exact⟨x,rfl,h1⟩
   |succ i=>simpa using g i z (by simpa using e)
  .cases e
theorem aj6(hr:HRep K U' H' h1)(M:List Addr)(hM:∀a∈M,a∈U'):ag1 H' M:=λa ha=>by
 obtain⟨i,hi⟩:=bR (hM a ha);obtain⟨o,_,q⟩:=hr.at hi
 cases o with
 |lst xs=>obtain⟨vs,h,_⟩:=q;exact .inl ⟨_,h⟩
 |dK xs=>obtain⟨vs,h,_⟩:=q;exact .inr (.inl ⟨_,h⟩)
 |dT xs=>obtain⟨vs,h,_⟩:=q;exact .inr (.inr (.inl ⟨_,h⟩))
 |ins _ _=>obtain⟨C,dx,vs,h,_⟩:=q;exact .inr (.inr (.inr ⟨_,_,_,h⟩))
theorem a6y{α:Type}{l:List α}(nd:l.Nodup){i j:Nat}{a:α}(h1:l[i]? = some a)(h2:l[j]? = some a):i=j:=by
 obtain⟨l1,e1⟩:=ah.mp h1;obtain⟨l2,e2⟩:=ah.mp h2
 rcases eB i j with l|l|l
 .exact absurd (e1.trans e2.symm) (bH.mp nd i j l1 l2 l)
 .exact l
 .exact absurd (e2.trans e1.symm) (bH.mp nd j i l2 l1 l)
theorem azr(g:Gr U H U' H')(f:FrzOf L H' H2)(ab:ag1 H' L)(hL:∀a∈L,H a=none)(hm:∀a∈m,H a=none):Gr U H (U++m) H2:=by
 refine⟨⟨m,rfl,hm⟩,λa vs e=>f.still ab (g.tup a vs e) True.intro,λa o u e=>f.still ab (g.frz a o u e) True.intro,λa u e hn=>?_,λa u e=>?_⟩
 .rw[(f a).1 λz=>by rw[hL a z]at e;cases e]
  exact g.oth a u e hn
 .obtain⟨u',e'⟩:=g.kp a u e;rw[(f a).1 λz=>by rw[hL a z]at e;cases e]
  exact⟨u',e'⟩
theorem aj7{d d':D}{v:V}{g':Hd}(g:Gr U H U' H')(rb:Rep K U' H' v d)(hr:HRep K U' H' h1)(e:ag2 U.length (.ok d h1)=.ok d' g') :
  ∃L,ag1 H' L/\∀H2,FrzOf L H' H2->Gr U H U H2/\Rep K U H2 v d'/\HRep K U H2 g':=by
 obtain⟨m,rfl,hm⟩:=g.pre;have tk:(U++m).take U.length=U:=by simp
 have ab:ag1 H' m:=aj6 hr m λa ha=>bb _ ha;have hL:∀(i:Nat) a,(U++m)[i]? = some a->U.length<=i->a∈m:=λi a e hi=>by
  rw[aR hi]at e;exact aW e
 refine⟨m,ab,λH2 f=>?_⟩;unfold ag2 at e;simp only at e
 split at e
 .rename_i dd gg e1 e2;cases e
  refine⟨by simpa using azr g f ab hm (m:=[]) (by simp),by have:=a6x hr hL f ab FU rb e1;rwa[tk]at this,?_⟩
  obtain⟨l,gt⟩:=a3g e2;have hl:=hr.len;have ln:U.length<=h1.length:=by rw[<-hl];simp
  refine⟨(bZ.mp hr.nd).1,by rw[<-l,bY];omega,λi a o q1 q2=>?_⟩
  obtain⟨x,hx,fx⟩:=gt i o q2;have hi:i<U.length:=(ah.mp q1).1;rw[fE,aU hi]at hx;have q3:(U++m)[i]? = some a:=by rw[aL hi];exact q1
  have na:a∉m:=λz=>(bZ.mp hr.nd).2.2 a (aW q1) a z rfl;have:=auk hr hL f ab na (hr.obj i a x q3 hx) fx
  rwa[tk]at this
 .cases e
theorem ao2(g:Gr U H U' H')(rb:Rep K U' H' v d)(hr:HRep K U' H' h1)(e:awm U.length (.ok d h1)=.ok d' g') :
  ∃b,H b=none/\Gr U H (U++[b]) H'/\Rep K (U++[b]) H' v d'/\HRep K (U++[b]) H' g':=by
 obtain⟨m,rfl,hm⟩:=g.pre;have tk:(U++m).take U.length=U:=by simp
 have up:∀b,Gw U H' (U++[b]) H':=λb=>⟨⟨[b],rfl⟩,λ_ _ h=>h,λ_ _ _ h=>h⟩
 cases rb with
 |@ref b i hb =>
  unfold awm at e;simp only at e
  split at e
  .rename_i ob ho
   split at e
   .rename_i hc;obtain⟨hi,c1,c2⟩:=hc;cases e
    have hb':=hb;rw[aR hi]at hb';have bm:b∈m:=aW hb';obtain⟨nd1,nd2,nd3⟩:=bZ.mp hr.nd;have hl:=hr.len;have ln:U.length<=h1.length:=by rw[<-hl];simp
    have lt:(h1.take U.length).length=U.length:=by rw[bY];omega
    refine⟨b,hm b bm,⟨⟨[b],rfl,by simpa using hm b bm⟩,g.tup,g.frz,g.oth,g.kp⟩,.ref (by simp),?_⟩
    refine⟨bZ.mpr ⟨nd1,by simp,λa ha c hc z=>nd3 a ha c (by rw[av.mp hc];exact bm) z⟩,by simp[lt],λj a o q1 q2=>?_⟩
    by_cases hj:j<U.length
    .rw[aL hj]at q1;rw[aL (by omega)]at q2
     have q2':=q2;rw[fE,aU hj]at q2';have:=(hr.obj j a o (by rw[aL hj];exact q1) q2').cut (c2 o (aW q2))
     rw[tk]at this;exact this.monoW (up b) rfl
    .have hj2:j<(U++[b]).length:=(ah.mp q1).1;have:j=U.length:=by simp at hj2;omega
     subst this;rw[aR (ay _)]at q1;rw[aR (by omega),lt]at q2
     simp at q1 q2
     subst q1 q2;have:=(hr.obj i b ob hb ho).cut c1;rw[tk]at this;exact this.monoW (up b) rfl
   .cases e
  .cases e
 |_=>cases e
end
def sZ(f:SE):SE:=λτ h=>ag2 h.length (f τ h)
abbrev b5s(Q:VK):VK:=λv H1=>∃L,ag1 H1 L/\∀H2,FrzOf L H1 H2->Q v H2
theorem b3h(q:lift K E (a01 K) (sZ fa) Z H Q):lift K E (a01 K) fa Z H (b5s Q):=by
 obtain⟨U,τ,h,S,Rh,o⟩:=q;refine⟨U,τ,h,S,Rh,?_⟩;unfold sZ at o;rw[<-Rh.len]at o
 cases hf:fa τ h with
 |ok d h1 =>
  rw[hf]at o
  intro U' H' v g r hr
  cases hz:ag2 U.length (.ok d h1) with
  |ok d' g' =>
   rw[hz]at o;obtain⟨L,ab,k⟩:=aj7 g r hr hz;refine⟨L,ab,λH2 f=>?_⟩;obtain⟨k1,k2,k3⟩:=k H2 f;exact o U H2 v k1 k2 k3
  |ex c hx=>unfold ag2 at hz;simp only at hz;split at hz<;>cases hz
  |no=>rw[hz]at o;exact o.elim
 |ex c h1=>rw[hf]at o;exact o.elim
 |no=>rw[hf]at o;exact o.elim
theorem b5t(ha:ME X E e fa):ME X E e (sZ fa):=PE.weak (aj5 ha) λZ H Q q=>b3h q
def refOf:D->Option Nat
 |.ref i=>some i
 |_=>none
def a3v(ds:List D):List Nat:=ds.filterMap refOf
noncomputable def a2w:Nat->List D->List D
 |_,[]=>[]
 |k,d::ds=>match d with
  |.ref _=>.ref k::a2w (k+1) ds
  |d=>d::a2w k ds
def yc:Hd->List Nat->List O->Hd
 |h,i::is,o::os=>yc (h.set i o) is os
 |h,_,_=>h
def isRef(d:D):Prop:=∃i,d=.ref i
open Classical in
def azs(m:Bool)(F:SF)(ds:List D)(h:Hd):R D:=match a1u (λi=>h[i]?) (a3v ds) with
 |none=>.no
 | some os=>if (a3v ds).Nodup/\(∀d∈ds,clo 0 d\/isRef d)/\(∀o∈os,a5q 0 o) then
   (match (if m then awm os.length (F (a2w 0 ds) os) else ag2 os.length (F (a2w 0 ds) os)) with
   | .ok d h1=>if ∀o∈h1,a5q 0 o then
     (if m then .ok (.ref h.length) (yc h (a3v ds) h1++h1.drop os.length)
      else if clo 0 d then .ok d (yc h (a3v ds) h1) else .no) else .no
   |_=>.no)
  else .no
def jg(m:Bool)(n:Nat)(F:SF):SF:=λds h=>if ds.length=n then azs m F ds h else .no
section
variable{K:Fg}{U U':List Addr}{H H' H2:Hp}{h h1:Hd}{n:Nat}
theorem aqw(κ:List Addr):Gw [] H κ H:=⟨⟨κ,rfl⟩,λ_ _ h=>h,λ_ _ _ h=>h⟩
theorem Rep.any(r:Rep K U H v d)(c:MI.clo 0 d)(κ:List Addr):Rep K κ H v d:=by
 have:=r.cut c
 rw[List.take_zero]at this;exact this.monoW (aqw κ)
theorem ORep.any(r:ORep K U H a o)(c:a5q 0 o)(κ:List Addr):ORep K κ H a o:=by
 have:=r.cut c
 rw[List.take_zero]at this;exact this.monoW (aqw κ) rfl
theorem ab6{α:Type}(l:List α):∀{is:List Nat},(∀i∈is,i<l.length)->∃ys,a1u (λi=>l[i]?) is=some ys
 |[],_=>⟨[],rfl⟩
 |i::is,hi=>by
  obtain⟨ys,e⟩:=ab6 l (is:=is) λj hj=>hi j (aI _ hj);have:=hi i aT;exact⟨l[i]::ys,by unfold a1u;rw[e,ag this]⟩
theorem a5s:∀{ds:List D} {vs:List V} {pre κ:List Addr},Reps K U H vs ds->(∀d∈ds,clo 0 d\/isRef d)->a1u (λi=>U[i]?) (a3v ds)=some κ->Reps K (pre++κ) H vs (a2w pre.length ds)
 |[],_,_,_,.nil,_,_=>.nil
 |d::ds,_,pre,κ,.cons r rs,hc,e=>by
  have hc':∀d∈ds,clo 0 d\/isRef d:=λx hx=>hc x (aI _ hx)
  by_cases hd:isRef d
  .obtain⟨i,rfl⟩:=hd;have e':a1u (λi=>U[i]?) (i::a3v ds)=some κ:=e;unfold a1u at e'
   split at e'
   .rename_i a κ' h1 h2
    cases e'
    cases r with
    |ref ha =>
     rw[ha]at h1;cases h1
     have:=a5s (pre:=pre++[a]) rs hc' h2
     simp only[cV,List.singleton_append,aw,aM]at this;refine .cons (.ref ?_) this;rw[aR (ay _)];simp
   .cases e'
  .have c:=(hc d aT).resolve_right hd;have e1:a3v (d::ds)=a3v ds:=by
    unfold a3v
    cases d<;>first|rfl|exact absurd ⟨_,rfl⟩ hd
   have e2:a2w pre.length (d::ds)=d::a2w pre.length ds:=by
    cases d<;>first|rfl|exact absurd ⟨_,rfl⟩ hd
   rw[e1]at e;rw[e2];exact .cons (r.any c _) (a5s rs hc' e)
theorem a1h:∀{is:List Nat} {os:List O} {h:Hd},(yc h is os).length=h.length
 |[],_,_=>by simp[yc]
 |_::_,[],_=>by simp[yc]
 |i::is,o::os,h=>by rw[yc,a1h,iN]
theorem a5t:∀{is:List Nat} {os:List O} {h:Hd},i∉is->(yc h is os)[i]? = h[i]?
 |[],_,_,_=>by simp[yc]
 |_::_,[],_,_=>by simp[yc]
 |j::is,o::os,h,n=>by
  rw[yc,a5t λz=>n (aI _ z),dZ λz=>n (by rw[z];exact aT)]
theorem ab7:∀{is:List Nat} {os:List O} {h:Hd} {j:Nat},is.Nodup->is[j]? = some i->os[j]? = some o->i<h.length->(yc h is os)[i]? = some o
 |[],_,_,_,_,e,_,_=>by simp at e
 |_::_,[],_,_,_,_,e,_=>by simp at e
 |k::is,o'::os,h,j,nd,e1,e2,hl=>by
  cases j with
  |zero =>
   simp at e1 e2
   subst e1 e2;rw[yc,a5t (cN.mp nd).1,da hl]
  |succ j =>
   rw[yc];exact ab7 (j:=j) (cN.mp nd).2 (by simpa using e1) (by simpa using e2) (by simpa using hl)
theorem ab8{α:Type}{l:List α}(nl:l.Nodup){is:List Nat}{ys:List α}(e:a1u (λi=>l[i]?) is=some ys)(ni:is.Nodup):ys.Nodup:=by
 obtain⟨le,g⟩:=a3g e;refine bH.mpr λi j hi hj lt z=>?_;obtain⟨x,h1,h2⟩:=g i _ (ag hi);obtain⟨y,h3,h4⟩:=g j _ (ag hj);rw[<-z]at h4;have:=a6y nl h2 h4;subst this;have:=a6y ni h1 h3;omega
theorem ael{is:List Nat}{κ m:List Addr}{g:Hd}(hr:HRep K U H h)(e1:a1u (λi=>U[i]?) is=some κ)(nd:is.Nodup)(gr:Gr κ H (κ++m) H2)(hg:HRep K (κ++m) H2 g)(cg:∀o∈g,a5q 0 o)(hm:m.length<=1) :
  Gr U H (U++m) H2/\HRep K (U++m) H2 (yc h is g++g.drop κ.length):=by
 obtain⟨l1,g1⟩:=a3g e1;have mn:∀a∈m,H a=none:=by
  obtain⟨m',e,hm'⟩:=gr.pre;rw[List.append_cancel_left e];exact hm'
 have sub:∀a∈κ,a∈U:=λa ha=>by
  obtain⟨j,hj⟩:=bR ha;obtain⟨i,_,q⟩:=g1 j a hj;exact aW q
 have some_of:∀a∈U,∃u,H a=some u:=λa ha=>by
  obtain⟨i,hi⟩:=bR ha;obtain⟨o,_,q⟩:=hr.at hi;obtain⟨u,q,_⟩:=q.some;exact⟨u,q⟩
 have G:Gr U H (U++m) H2:=⟨⟨m,rfl,mn⟩,gr.tup,gr.frz,λa u e n=>gr.oth a u e λz=>n (sub a z),gr.kp⟩;have lg:=hg.len;rw[aw]at lg;refine⟨G,?_,?_,λj a o q1 q2=>?_⟩
 .refine bZ.mpr ⟨hr.nd,(bZ.mp hg.nd).2.1,λa ha b hb z=>?_⟩;obtain⟨u,q⟩:=some_of a ha;rw[z,mn b hb]at q;cases q
 .rw[aw,aw,a1h,cZ,hr.len];omega
 .by_cases hj:j<U.length
  .rw[aL hj]at q1;rw[aL (by rw[a1h,<-hr.len];exact hj)]at q2
   by_cases hp:j∈is
   .obtain⟨k,hk⟩:=bR hp;have hkl:k<κ.length:=by rw[<-l1];exact(ah.mp hk).1
    obtain⟨i,h3,h4⟩:=g1 k _ (ag hkl);rw[hk]at h3;cases h3
    rw[q1]at h4;have hkg:k<g.length:=by omega
    have e5:=ab7 (h:=h) nd hk (ag hkg) (by rw[<-hr.len];exact hj)
    rw[e5]at q2;cases q2
    have ea:(κ++m)[k]? = some a:=by rw[aL hkl,ag hkl];exact h4.symm
    exact(hg.obj k a _ ea (ag hkg)).any (cg _ (bL hkg)) _
   .rw[a5t hp]at q2;have r:=hr.obj j a o q1 q2;obtain⟨u,hu,_⟩:=r.some;have na:a∉κ:=λz=>by
     obtain⟨k,hk⟩:=bR z;obtain⟨i,h3,h4⟩:=g1 k a hk;have:=a6y hr.nd q1 h4;subst this;exact hp (aW h3)
    exact r.mono G (by rw[hu];exact gr.oth a u hu na)
  .have q1':=q1;rw[aR (by omega)]at q1
   rw[aR (by rw[a1h,<-hr.len];omega),a1h,<-hr.len,gP]at q2
   have ea:(κ++m)[κ.length+(j-U.length)]? = some a:=by rw[aR (by omega)];simpa using q1
   exact(hg.obj _ a o ea q2).any (cg o (aW q2)) _
theorem aj8{m:Bool}{F:SF}{vs:List V}{ds:List D}{Q:VK}(r:Reps K U H vs ds)(hr:HRep K U H h)(o:out K X0 (a01 K) U H (jg m n F ds h) Q)(E:XK) :
  ae9 K n F vs H (λv H1=>∃L,ag1 H1 L/\∀H2,FrzOf L H1 H2->Q v H2) E:=by
 unfold jg at o
 split at o
 .rename_i hl;refine⟨by rw[r.len];exact hl,?_⟩
  unfold azs at o
  split at o
  .exact o.elim
  .rename_i os hos
   split at o
   .rename_i hc;obtain⟨nd,hd,hcl⟩:=hc;obtain⟨l0,g0⟩:=a3g hos;obtain⟨κ,e1⟩:=ab6 U (is:=a3v ds) λi hi=>by
     obtain⟨j,hj⟩:=bR hi;have hjl:j<os.length:=by rw[<-l0];exact(ah.mp hj).1
     obtain⟨x,h3,h4⟩:=g0 j _ (ag hjl);rw[hj]at h3;cases h3
     rw[hr.len];exact(ah.mp h4).1
    obtain⟨l1,g1⟩:=a3g e1;have lk:κ.length=os.length:=by omega
    have R0:Reps K κ H vs (a2w 0 ds):=by simpa using a5s (pre:=[]) r hd e1
    have H0:HRep K κ H os:=by
     refine⟨ab8 hr.nd e1 nd,lk,λj a ob q1 q2=>?_⟩;obtain⟨i,h3,h4⟩:=g1 j a q1;obtain⟨i',h5,h6⟩:=g0 j ob q2;rw[h3]at h5;cases h5
     exact(hr.obj i a ob h4 h6).any (hcl ob (aW q2)) _
    refine⟨κ,a2w 0 ds,os,R0,H0,?_⟩
    cases hF:F (a2w 0 ds) os with
    |no=>rw[hF]at o;cases m<;>exact o.elim
    |ex c hx=>rw[hF]at o;cases m<;>exact o.elim
    |ok d h1 =>
     rw[hF]at o
     intro U' H' v g rb hr1
     rw[<-lk]at o
     cases m with
     |false =>
      simp only[cG,eV]at o
      cases hz:ag2 κ.length (.ok d h1) with
      |ok d' g' =>
       rw[hz]at o;simp only at o;obtain⟨L,ab,k⟩:=aj7 g rb hr1 hz;refine⟨L,ab,λH2 f=>?_⟩;obtain⟨k1,k2,k3⟩:=k H2 f
       split at o
       .rename_i cg
        split at o
        .rename_i cd;have q:=ael (m:=[]) hr e1 nd (by simpa using k1) (by simpa using k3) cg (by simp)
         have lg:=k3.len;have dr:g'.drop κ.length=[]:=cF (by omega)
         rw[dr,bX,bX]at q;exact o U H2 v q.1 (k2.any cd _) q.2
        .exact o.elim
       .exact o.elim
      |ex c hx=>rw[hz]at o;exact o.elim
      |no=>rw[hz]at o;exact o.elim
     |true =>
      simp only[dQ]at o
      cases hz:awm κ.length (.ok d h1) with
      |ok d' g' =>
       rw[hz]at o;simp only at o;obtain⟨b,hb,k1,k2,k3⟩:=ao2 g rb hr1 hz;refine⟨[],λa ha=>(by simp at ha),λH2 f=>?_⟩
       have e2:H2=H':=by funext a;exact(f a).1 (by simp)
       subst e2
       split at o
       .rename_i cg;have q:=ael (m:=[b]) hr e1 nd k1 k3 cg (by simp)
        refine o (U++[b]) H2 v q.1 ?_ q.2;have hd':d'=.ref κ.length:=by
         unfold awm at hz
         split at hz
         .rename_i i h2 hh
          injection hh with z1 z2
          split at hz
          .split at hz
           .injection hz with z3 z4;exact z3.symm
           .cases hz
          .cases hz
         .cases hz
        subst hd'
        cases k2 with
        |ref hk =>
         rw[aR (ay _)]at hk;simp at hk;subst hk;exact .ref (by rw[<-hr.len];simp)
       .exact o.elim
      |ex c hx=>rw[hz]at o;exact o.elim
      |no=>rw[hz]at o;exact o.elim
   .exact o.elim
 .exact o.elim
end
theorem aem(m:Bool){X:Cx}(G:Dn X.prog X.w X.K X.mg X.base k x ps (ae9 X.K n F) f fd)(hr:Room k X.A)(hg:Gl X x)(ha:MA X X0 (e::es) ka)
  (hdb:(x == ("__debug__" : Str))=false:=by decide) (he:starEach (e::es) X.env=(false,eval e X.env)::starEach es X.env:=by rfl) (hpl:(backTo pos (starEach es X.env)).any (·.1)=false:=by rfl):ME X X0 (.Call (.Name x p) (e::es) [] pos) (sA (jg m n F) ka):=by
 refine PE.weak (aj5 (aso G.ok hr hg G.m G.kp G.b .nil axz ha hdb he hpl)) ?_
 rintro Z H Q ⟨U,τ,h,S,Rh,o⟩
 refine⟨U,τ,h,S,Rh,bu o λds h1 U1 H1 vs g1 r1 hr1 o1=>?_⟩;rw[bX];exact aj8 r1 hr1 o1 _
theorem aj9(m:Bool){X:Cx}(G:Dn X.prog X.w X.K X.mg X.base k x ps (ae9 X.K n F) f fd)(hr:Room k X.A)(hg:Gl X x)(hdb:(x == ("__debug__" : Str))=false:=by decide) :
  ME X X0 (.Call (.Name x p) [] [] pos) (sA (jg m n F) bc):=by
 refine PE.weak (aj5 (an2 G.ok hr hg G.m G.kp G.b .nil axz hdb)) ?_
 rintro Z H Q ⟨U,τ,h,S,Rh,o⟩
 exact aj8 (vs:=[]) .nil Rh o E0
def ag3:SS:=λ_ _=>.no
section
variable{X:Cx}{E:XD}
theorem azt:MSs X E st ag3:=λ_ _ _ _ _ _ ⟨_,_,_,_,_,o⟩=>o.elim
end
theorem aqx(h:PS X st t):PS X st (λD Z H=>t {D with nx:=λZ' H1=>∃L,ag1 H1 L/\∀H2,FrzOf L H1 H2->D.nx Z' H2} Z H):=λaA s Z H D I q =>
 thn (h aA s Z H _ I q) λf s' k=>by
  cases f with
  |next =>
   obtain⟨Z',H1,I1,L,ab,k⟩:=k;obtain⟨H2,f,I2⟩:=Inv.frz I1 ab;exact⟨Z',H2,I2,k H2 f⟩
  |brk=>exact k
  |cont=>exact k
  |ret u=>exact k
theorem aqy(q:a8z K E (jj i f) N Z H):lift K E (a01 K) f Z H (λv H1=>N.nx (Z.set i (some v)) H1):=by
 obtain⟨U,τ,h,S,Rh,o⟩:=q;exact⟨U,τ,h,S,Rh,um o λd h1 U1 H1 v g1 r1 hr1 o1=>o1 U1 H1 _ (.refl _ _) ((S.mono g1).set r1 i) hr1⟩
theorem aul(ht:amh K n g t)(q:lift K E (a01 K) (ji fi t fe ix) Z H Q):aic (lift K E (az1 K) fi) (zf n ix) g (lift K E (a01 K) fe) Z H Q:=by
 obtain⟨U,τ,h,Sr,Rh,o⟩:=q;refine⟨U,τ,h,Sr,Rh,bu o λit h1 U1 H1 J g1 r1 hr1 o1=>?_⟩
 by_cases hl:it.xs.length<=LINE
 .rw[aU hl]at o1;exact ae7 r1 ht (a4n (Sr.mono g1) ix) hr1 hl o1
 .rw[bA hl]at o1;exact o1.elim
theorem ao3(ht:amh K n g t)(q:lift K E (a01 K) (xx fi t fc fe ix) Z H Q):a5p (lift K E (az1 K) fi) (zf n ix) g (lift K E aqh fc) (lift K E (a01 K) fe) Z H Q:=by
 obtain⟨U,τ,h,Sr,Rh,o⟩:=q;refine⟨U,τ,h,Sr,Rh,bu o λit h1 U1 H1 J g1 r1 hr1 o1=>?_⟩
 by_cases hl:it.xs.length<=LINE
 .rw[aU hl]at o1;exact ab2 r1 ht (a4n (Sr.mono g1) ix) hr1 hl o1
 .rw[bA hl]at o1;exact o1.elim
section
variable{X:Cx}{E:XD}{aD tg aF cnd:Expr}{aB:Scope}{pos spos pos':Pos}{cl:List (Str×Addr)}{ts fr:List Str}{ix:List Nat}{fi:SI}{g:TG}{t:D->Option Sd}{fe:SE}{fc:ST}{i:Nat}{x:Str}
theorem a4r(hN:X.N.Nodup)(hi':X.N[i]? = some x)(hx:Loc X.env.scope x)(hc:X.calm=true)(S:CSc X aB cl ts fr ix)(hi:MI X E tg aF fi)(hg:∀C fp s H,PG (cxC X (ts++fr) aB cl C fp s H) tg g)(ht:amh X.K ts.length g t)(he:∀C fp s H,ME (cxC X (ts++fr) aB cl C fp s H) E aD fe)
  (hs:∀x,foldedSetIterable aF X.env x=pure x:=by intro _;rfl) (hsw:swapsWith (.ListComp aD [⟨tg,aF,[],0⟩] aB pos) (some (.Name x pos')) spos.line X.env=pure true:=by rfl) (hf:Hf X x:=by with_unfolding_all first|exact .inl rfl|exact .inr rfl|assumption) :
  MS X E (.Assign [.Name x pos'] (.ListComp aD [⟨tg,aF,[],0⟩] aB pos) spos) (jj i (sZ (ji fi t fe ix))) :=
 PS.weak (aqx (anb (te:=lift X.K E (a01 X.K) fe) hN hi' hx hc S hi hg he hs hsw hf)) λN Z H q=>aul ht (b3h (aqy q))
theorem a96(hN:X.N.Nodup)(hi':X.N[i]? = some x)(hx:Loc X.env.scope x)(hc:X.calm=true)(S:CSc X aB cl ts fr ix)(hi:MI X E tg aF fi)(hg:∀C fp s H,PG (cxC X (ts++fr) aB cl C fp s H) tg g)(ht:amh X.K ts.length g t)(he:∀C fp s H,ME (cxC X (ts++fr) aB cl C fp s H) E aD fe)
  (hq:∀C fp s H,MT (cxC X (ts++fr) aB cl C fp s H) E cnd fc)
  (hs:∀x,foldedSetIterable aF X.env x=pure x:=by intro _;rfl) (hsw:swapsWith (.ListComp aD [⟨tg,aF,[cnd],0⟩] aB pos) (some (.Name x pos')) spos.line X.env=pure true:=by rfl) (hf:Hf X x:=by with_unfolding_all first|exact .inl rfl|exact .inr rfl|assumption) :
  MS X E (.Assign [.Name x pos'] (.ListComp aD [⟨tg,aF,[cnd],0⟩] aB pos) spos) (jj i (sZ (xx fi t fc fe ix))) :=
 PS.weak (aqx (afu (te:=lift X.K E (a01 X.K) fe) (tc:=lift X.K E aqh fc) hN hi' hx hc S hi hg he hq hs hsw hf)) λN Z H q=>ao3 ht (b3h (aqy q))
end
theorem azu(Fu:Fun K x qual st f fd)(S:FnScope N ps (jm st))
  (hb:∀(cdv:Value) (A:Around) (outer:List Env) (s:Shared) (H:Hp) (E:XK),Room k (A.deeper (PyProof.Rows.envOfC qual (jm st) s.heap.objs.size f cdv))->MSs (ame CX0 P w K mg base N qual (jm st) f cdv A outer s H E).nox X0 (a02 st) b) :
  FnOk P w K mg base CX0 (k+1) f fd ps (ae9 K ps.length (ju b N.length)):=az7 Fu S hb λds h _ _ _=>Rf.same rfl
end MI
namespace MI
open L2 HT
theorem ag4{s:Shared}(ht:PyProof.Rows.IsTup s.heap t aC)(hs:s.heap.IsSliceOf sl vl vu .none)(pl:IsPart vl lo)(pu:IsPart vu hi)
  (hw:HT.sIx aC.size 0 lo=0/\HT.sIx aC.size aC.size hi=aC.size) (h:Q (.ref t) s):wpAny (model prog w) A (getItem (.ref t) (.ref sl)) Q E s:=by
 obtain⟨os,f1,f2,f3⟩:=id hs;have ty:s.TypeIs (.ref sl) "slice":=⟨os,f1,f2⟩;have tt:s.TypeIs (.ref t) "tuple":=ht.typeIs;rw[getItem]
 try apply dI
 first|(apply ai;apply aJ)|skip
 apply ai;apply wpAny_sequenceKey tt (by decide)
 apply ai
 apply cB (name:=Str.ofString "__getitem__") tt cq
 apply cn cq tt PyProof.Rows.entry_tuple_getitem _ (PyProof.Rows.args_tuple_getitem _ _)
 change wpAny (model prog w) A.in1 (Builtin.Tuple.tupleItemsOf (.ref t)>>=_) _ _ s
 apply ai;apply PyProof.Rows.tupleItemsOf_ ht
 apply ai;apply gO ty
 rw[aU (by decide)]
 apply ai;apply HT.a2l hs pl pu
 rw[hw.1,hw.2];dsimp only;rw[aU (by simp)]
 apply ai
 rw[Builtin.Tuple.tupleIsExact]
 apply ai;apply gO tt
 apply aJ
 rw[aU (by decide)]
 apply ai;apply fB
 apply aJ
 exact⟨_,rfl,aJ h⟩
def b4p(K:Fg):V->Option Int->Option Int->Hp->VK->Prop:=λx lo hi H Q=>∃a xs,x=.ref a/\SqT K H a xs/\whole xs.length lo hi/\Q (.ref a) H
theorem ao4:SlR X (b4p X.K):=by
 intro aA s Z H x v vl vu lo hi sl Q I rx hs pl pu h
 obtain⟨a,xs,rfl,hx,hw,q⟩:=h;cases rx
 obtain⟨its,r,ht,hz⟩:=I.tuple hx;have aH:its.toArray.size=xs.length:=by rw[aV];exact r.length.symm
 exact⟨"tuple",_,cq.lookup,ht.typeIs,ag4 ht hs pl pu (by rw[aH];exact hw) ⟨.ref a,H,I,rfl,q⟩⟩
noncomputable def ami(d:D)(lo hi:Option Int)(h:Hd):R D:=match d with
 |.tup xs=>if whole xs.length lo hi then .ok (.tup xs) h else .ok (.tup (a8u xs lo hi)) h
 |d=>gSl d lo hi h
noncomputable def a6z(f:SE)(l u:SO):SE:=λτ h=>(f τ h).bind λd h1=>(l τ h1).bind λlo h2=>(u τ h2).bind λhi h3=>ami d lo hi h3
theorem aum(rx:Rep K U H x d)(hr:HRep K U H h)(o:out K E (a01 K) U H (ami d lo hi h) Q):(b37 x lo hi H Q\/b2x K x lo hi H Q\/b2z K x lo hi H Q)\/b4p K x lo hi H Q:=by
 cases rx with
 |@tup p vs xs hp r =>
  by_cases hc:whole xs.length lo hi
  .simp only[ami,aU hc]at o;exact .inr ⟨p,vs,rfl,SqT.of hp,by rw[r.len];exact hc,ans o (.tup hp r) hr⟩
  .simp only[ami,bA hc]at o;exact .inl (.inr (.inl ⟨p,vs,rfl,SqT.of hp,by rw[r.len];exact hc,a3t (a4o r lo hi) hr o⟩))
 |non=>exact o.elim
 |bl _=>exact o.elim
 |int _=>exact o.elim
 |ty _=>exact o.elim
 |str z=>exact .inl (aed (.str z) hr o)
 |rol a b=>exact .inl (aed (.rol a b) hr o)
 |scr a b=>exact .inl (aed (.scr a b) hr o)
 |rod a b c=>exact o.elim
 |rdT a b c=>exact o.elim
 |exc a b c=>exact o.elim
 |ins _ _ _ _=>exact o.elim
 |ref a=>exact .inl (aed (.ref a) hr o)
theorem aja(he:ME X E e fa)(hl:MO X E lo l)(hu:MO X E hi u):ME X E (.Subscript e (.Slice lo hi none p2) pos) (a6z fa l u):=by
 refine PE.weak (an4 ((ay8.or (axu.or asx)).or ao4) he hl hu) ?_
 rintro Z H Q ⟨U,τ,h,S,Rh,o⟩
 refine⟨U,τ,h,S,Rh,bu o λd h1 U1 H1 v g1 r1 hr1 o1=>?_⟩;refine⟨U1,τ,h1,S.mono g1,hr1,bu o1 λlo h2 U2 H2 lv g2 r2 hr2 o2=>?_⟩;refine⟨U2,τ,h2,(S.mono g1).mono g2,hr2,bu o2 λhi h3 U3 H3 hv g3 r3 hr3 o3=>?_⟩
 cases r2;cases r3
 exact aum ((r1.mono g2).mono g3) hr3 o3
end MI
namespace L2
open PyProof.Rows
theorem ao5:b4i X (b1v X.K):=by
 intro aA s Z H o i ov iv Q I ro ri h
 obtain⟨p,xs,k,z,rfl,rfl,hq,he,q⟩:=h;cases ro
 obtain⟨t,rfl⟩:=ri;obtain⟨its,r,pl,hz⟩:=I.list hq;obtain⟨j,h1,h2,h3,h4,h5⟩:=a8o he;obtain⟨w,ew,rw'⟩:=r.get h2;have len:=r.length;have l63:=a5y;have done:EP X aA Z Q w s:=⟨z,H,I,rw',q⟩
 by_cases neg:k<0
 .have ej:(k+(its.toArray.size:Int)).toNat=j:=by
   rw[iM neg h4]at h1;rw[aV,<-len];exact bS h1
  exact wpAny_getItem_list_neg pl.isList neg (by rw[aV];omega) (by omega) (by rw[ej];simpa using ew) done
 .have ej:k.toNat=j:=by
   rw[iY (by omega) h5]at h1
   exact bS h1
  exact wpAny_getItem_list pl.isList (by omega) (by omega) (by rw[ej];simpa using ew) done
theorem ab9(bs:List Bool):((List.range bs.length).any λi=>(bs[i]?).getD true)=bs.any id:=by
 have e:(List.range bs.length).map (λi=>(bs[i]?).getD true)=bs:=by
  apply fV (by simp)
  intro i h1 h2
  simp[h2]
 have f:((List.range bs.length).map λi=>(bs[i]?).getD true).any id=bs.any id:=by rw[e]
 rw[<-f,gR];rfl
theorem acu{X:Cx}(hc:X.calm=true):CallR X (.builtin "any") (λxs H Q=>∃(p:Addr) (bs:List Bool),xs=[.ref p]/\SqL X.K H p (bs.map V.bl)/\Q (.bl (bs.any id)) H):=by
 intro aA s Z H xs us Q I r h
 obtain⟨p,bs,rfl,hq,q⟩:=h;obtain⟨u,rfl,rx⟩:=vals1 r;cases rx
 obtain⟨its,r',pl,hz⟩:=I.list hq;have hl:=r'.length;rw[ax]at hl;have hlt:p<s.heap.objs.size:=by obtain⟨_,e,_⟩:=pl.isList;exact aX e
 refine call_any_walk (fJ pl.isList ?_);refine⟨s.heap.objs.size,[s.heap.objs.size,p],[s.heap.objs.size],its.toArray.size,_,_,λi=>(bs[i]?).getD true,rfl,Walks.list (A:=X.A.in1) (I.ok.hd hc) _ p (bT hlt) its.toArray,
  ⟨⟨_,aO _ rfl,rfl,rfl⟩,pl.isList.push _⟩,λi v s' Q' E' hP hQ=>?_,λh' tk hk=>?_⟩
 .have hP':its[i]? = some v:=by simpa using hP
  have hi:i<bs.length:=by
   have:=(ah.mp hP').1
   omega
  obtain⟨u,e,ru⟩:=r'.get (i:=i) (x:=.bl bs[i]) (by simp[hi])
  rw[hP']at e;cases e
  cases ru
  simp only[ag hi,d0]at hQ;exact cT hQ
 .have e:((List.range its.toArray.size).any λi=>(bs[i]?).getD true)=bs.any id:=by
   rw[aV,<-hl];exact ab9 bs
  rw[e];exact⟨.bl _,H,I.kept λb x e=>hk b x (λhm=>by rw[av.mp hm]at e;exact cO _ (aX e)) (ar _ e),rfl,q⟩
end L2
namespace MI
open L2
noncomputable def amj(x y:D)(h:Hd):R D:=match x,y with
 |.ref p,.int i=>(match h[p]? with|some (.lst xs)=>(match atI xs i with|some d=>.ok d h|none=>.no)|_=>.no)
 |_,_=>.no
theorem aun:a2p K amj (b1v K):=by
 intro E U H h x y dx dy Q rx ry hr o
 cases rx with
 |@ref p i hp =>
  cases ry with
  |int k =>
   simp only[amj]at o
   split at o
   .rename_i xs hx;obtain⟨vs,h3,h4⟩:=hr.lst hp hx
    split at o
    .rename_i d he;obtain⟨v,h1,h2⟩:=aec h4 he;exact⟨p,vs,k,v,rfl,rfl,SqL.of h3,h1,ans o h2 hr⟩
    .exact o.elim
   .exact o.elim
  |_=>exact o.elim
 |_=>exact o.elim
noncomputable def a3i(g:D->D->Hd->R D)(fo fi fe:SE):SS:=λτ h=>(fo τ h).fl λo h1=>(fi τ h1).fl λi h2=>(amj o i h2).fl λx h3=>(fe τ h3).fl λy h4=>(g x y h4).fl λz h5=>match put o i z h5 with|some h6=>.nx τ h6|none=>.no
section
variable{X:Cx}{E:XD}{e o i:Expr}{fa fb fc:SE}{pos:Pos}
theorem ajb(ho:ME X E o fa)(hi:ME X E i fb)(he:ME X E e fc)(hp:OpR X (inplaceOp op) r)(hs:a2p X.K gg r)
  (ha:∀ov iv new,augStore i ov iv new=(do holding [new,ov,iv] (setItem ov iv new);release [new,ov,iv] [];pure .next):=by intros;rfl):MS X E (.AugAssign (.Subscript o i tpos) op e pos) (a3i gg fa fb fc):=by
 refine PS.weak (ash ho hi ao5 he hp set_list ha) ?_
 rintro N Z H ⟨U,τ,h,S,Rh,oo⟩
 refine⟨U,τ,h,S,Rh,um oo λd h1 U1 H1 v g1 r1 hr1 o1=>?_⟩;refine⟨U1,τ,h1,S.mono g1,hr1,um o1 λd2 h2 U2 H2 u g2 r2 hr2 o2=>?_⟩;refine aun E U2 H2 h2 v u d d2 _ (r1.mono g2) r2 hr2 (um o2 λd3 h3 U3 H3 w g3 r3 hr3 o3=>?_);have S3:=((S.mono g1).mono g2).mono g3;refine⟨U3,τ,h3,S3,hr3,um o3 λd4 h4 U4 H4 y g4 r4 hr4 o4=>?_⟩;refine hs E U4 H4 h4 w y d3 d4 _ (r3.mono g4) r4 hr4 (um o4 λd5 h5 U5 H5 z g5 r5 hr5 o5=>?_)
 cases hq:put d d2 d5 h5 with
 |none=>rw[hq]at o5;exact o5.elim
 |some h6 =>
  rw[hq]at o5;exact aim ((((r1.mono g2).mono g3).mono g4).mono g5) (((r2.mono g3).mono g4).mono g5) r5 hr5 hq λH' g6 hr6=>o5 U5 H' Z g6 (((S3.mono g4).mono g5).mono g6) hr6
end
noncomputable def awn:List D->Hd->R D
 |[.ref i],h=>(match h[i]? with|some (.lst xs)=>(match ant xs with|some bs=>.ok (.bl (bs.any id)) h|none=>.no)|_=>.no)
 |[.rol xs],h=>(match ant xs with|some bs=>.ok (.bl (bs.any id)) h|none=>.no)
 |_,_=>.no
theorem auo:afx K awn (λxs H Q=>∃(p:Addr) (bs:List Bool),xs=[.ref p]/\SqL K H p (bs.map V.bl)/\Q (.bl (bs.any id)) H):=by
 intro E U H h xs ds Q r hr o
 unfold awn at o
 split at o
 .cases r with
  |cons r rs =>
   cases rs
   cases r with
   |@ref p _ hp =>
    split at o
    .rename_i xs hx;obtain⟨vs,h3,h4⟩:=hr.lst hp hx
     split at o
     .rename_i bs hb;exact⟨p,bs,rfl,SqL.of (by rw[h3,a6w h4 hb]),ans o (.bl _) hr⟩
     .exact o.elim
    .exact o.elim
 .cases r with
  |cons r rs =>
   cases rs
   cases r with
   |@rol p vs xs hp r =>
    split at o
    .rename_i bs hb;exact⟨p,bs,rfl,by rw[<-a6w r hb];exact hp.l,ans o (.bl _) hr⟩
    .exact o.elim
 .exact o.elim
end MI
namespace TPM
open PySem.W L2 HT MI
theorem ag5(t b:Addr)(items2:Array Value)(n n2:Nat)(dd dd2:Option Addr)(sl sl2:Array (Option Value)) :
  Meets (Builtin.«tuple.__add__» ⟨[.ref t,.ref b],[]⟩) (λ_ R s=>s.heap.get? t=some {cls:=.type "tuple",dict:=dd,data:=.seq #[] n,slots:=sl}/\s.heap.get? b=some {cls:=.type "tuple",dict:=dd2,data:=.seq items2 n2,slots:=sl2}/\R (.ok (.ret (.ref b))) s):=by
 refine .of_wp λprog w A R s h=>?_;obtain⟨hp,g,d,tk,os⟩:=s;obtain⟨hl,hb,h⟩:=h
 wp_walk
 refine fA sub_tuple_self ?_
 wp_walk
 exact⟨_,rfl,h⟩
def azv(K:Fg):R2:=λx y H Q=>∃a b ys,x=.ref a/\y=.ref b/\SqT K H a []/\SqT K H b ys/\Q (.ref b) H
theorem aup:OpR X (binaryOp .Add) (azv X.K):=by
 intro aA s Z H x y v u Q I rx ry h
 obtain⟨a,b,ys,rfl,rfl,ha,hb,q⟩:=h;cases rx
 cases ry
 obtain⟨its,r1,p1,_⟩:=I.tuple ha;obtain⟨its2,r2,p2,_⟩:=I.tuple hb;cases r1
 obtain⟨⟨cls,dd,data,sl⟩,ho,hc,n,hd⟩:=id p1;obtain⟨⟨cls2,dd2,data2,sl2⟩,ho2,hc2,n2,hd2⟩:=id p2;simp only at hc hd hc2 hd2;subst hc hd hc2 hd2;exact concat_meets ⟨_,ho,rfl⟩ ⟨_,ho2,rfl⟩ iF seq_tuple_add F.slot_tuple_add F.entry_tuple_add (F.args_tuple_add_2 _ _) (ag5 a b its2.toArray n n2 dd dd2 sl sl2) ⟨ho,ho2,⟨.ref b,H,I,rfl,q⟩⟩
end TPM
namespace L2
open PyProof.Rows
section
variable{X:Cx}
theorem Inv.lstR(I:Inv X aA Z H s)(hH:Rd H l (.lst xs)):xs.length<=sizeLine/\∃(its:List Value) (n:Nat),Vals xs its/\xs.length=its.length/\s.heap.get? l=some {cls:=.type "list",data:=.seq its.toArray n}:=by
 obtain⟨z,its,n,r,e⟩:=hH.ok I.hok;exact⟨z,its,n,r,r.length,e⟩
noncomputable def azw:R2:=λx y H Q=>∃l b xs zs,x=.ref l/\y=.ref b/\Rd H l (.lst xs)/\Rd H b (.lst zs)/\xs.length+zs.length<=sizeLine/\∀p,H p=none->Q (.ref p) (upd H p (.lst (xs++zs)))
theorem auq:OpR X (binaryOp .Add) azw:=λaA s Z H x y v u Q I rx ry ⟨l,b,xs,zs,ex,ey,h1,h2,hz,q⟩=>by
 subst ex ey;cases rx
 cases ry
 obtain⟨_,as,_,va,la,ea⟩:=I.lstR h1;obtain⟨_,bs,_,vb,lb,eb⟩:=I.lstR h2;have app:as.toArray++bs.toArray=(as++bs).toArray:=by simp
 refine PySem.P.add_list ea eb ?_ (by simp;omega)
 rw[app];exact⟨.ref _,_,I.lnew (t':=s.toks) (va.append vb) (by simpa using hz),rfl,q _ I.fresh⟩
noncomputable def azx:R2:=λx y H Q=>∃l k xs,x=.ref l/\y=.int k/\Rd H l (.lst xs) /\ -(2^63)<=k/\k<2^63/\xs.length*k.toNat<=sizeLine/\∀p,H p=none->Q (.ref p) (upd H p (.lst (List.replicate k.toNat xs).flatten))
theorem aur(its:List Value)(k:Nat):List.foldl (λx1 x2=>x1++x2) #[] (List.replicate (if its.toArray.isEmpty=true then 0 else k) its.toArray)=(List.replicate k its).flatten.toArray:=by
 have g:∀m:Nat,List.foldl (λx1 x2=>x1++x2) #[] (List.replicate m its.toArray)=(List.replicate m its).flatten.toArray:=λm=>by simpa using foldl_rep its m []
 cases its with
 |nil=>simp
 |cons a r=>rw[bA (by simp),g]
theorem aus:OpR X (binaryOp .Mult) azx:=λaA s Z H x y v u Q I rx ry ⟨l,k,xs,ex,ey,h1,k1,k2,hz,q⟩=>by
 subst ex ey;cases rx
 obtain⟨t,rfl⟩:=ry;obtain⟨_,as,n,va,la,ea⟩:=I.lstR h1;have few:as.toArray.size*k.toNat<=sizeLine:=by rw[aV,<-la];exact hz
 have top:(sizeLine:Nat)<=(2^63-1) / 8:=by decide
 refine wpAny_binaryOp_repeat_ref (T := "list") (U := "int") (by decide) ⟨_,ea,rfl⟩ (λs'=>typeIs_int s' k t) noFill_list_mul F.fills_int_mul F.slot_int_rmul repeat_list F.slot_int_index.lookup
  (gu F.slot_int_rmul (typeIs_int s k t) F.entry_int_rmul (F.args_int_rmul_2 _ _) (int___rmul___int_list k t l as.toArray n)
   ⟨ea,rfl,⟨_,ea,rfl⟩,gu F.slot_list_mul ⟨_,ea,rfl⟩ F.entry_list_mul (F.args_list_mul_2 _ _)
    (AutoListH.list___mul___list_int_3 l as.toArray n k t (by rw[fitsIndex_both k1 k2];exact bJ) (by omega) (by rw[an5 few];exact bJ)) ⟨ea,?_⟩⟩)
 rw[aur];exact⟨.ref _,_,I.lnew (t':=s.toks) (va.rep k.toNat) (by rw[len_rep,Nat.mul_comm];exact hz),rfl,q _ I.fresh⟩
end
end L2
namespace MI
open L2 TPM
noncomputable def a1z(d:D)(h:Hd):Option (List D):=match d with
 |.rol xs=>some xs
 |.ref i=>(match h[i]? with|some (.lst xs)=>some xs|_=>none)
 |_=>none
section
variable{K:Fg}{U:List Addr}{H:Hp}{h:Hd}
theorem a4s(r:Rep K U H x d)(hr:HRep K U H h)(e:a1z d h=some xs):∃a vs,x=.ref a/\Rd H a (.lst vs)/\Reps K U H vs xs:=by
 cases r with
 |@rol a vs ys hp rs=>cases e;exact⟨a,vs,rfl,.inr hp,rs⟩
 |@ref a i hp =>
  obtain⟨ob,e1,e2⟩:=hr.at hp;simp only[a1z,e1]at e
  cases ob with
  |lst ys=>cases e;obtain⟨vs,h3,h4⟩:=e2;exact⟨a,vs,rfl,.inl h3,h4⟩
  |_=>cases e
 |_=>cases e
noncomputable def jb:D->D->Hd->R D
 |.int i,.int j,h=>.ok (.int (i+j)) h
 |.str x,.str y,h=>if x.length+y.length<=LINE then .ok (.str (x++y)) h else .no
 |.tup [],.tup ys,h=>.ok (.tup ys) h
 |.tup (x::xs),.tup ys,h=>if (x::xs).length+ys.length<=LINE then .ok (.tup (x::xs++ys)) h else .no
 |x,y,h=>match a1z x h,a1z y h with
  |some xs,some ys=>if xs.length+ys.length<=LINE then .ok (.ref h.length) (h++[.lst (xs++ys)]) else .no
  |_,_=>.no
theorem ajc(e1:a1z x h=some xs)(e2:a1z y h=some ys):jb x y h=if xs.length+ys.length<=LINE then .ok (.ref h.length) (h++[.lst (xs++ys)]) else .no:=by
 cases x<;>first|(cases e1;done)|(cases y<;>first|(cases e2;done)|(simp only[jb,e1,e2]))
theorem aut(x y:D)(h:Hd):(∃i j,x=.int i/\y=.int j)\/(∃i j,x=.str i/\y=.str j)\/(∃xs ys,x=.tup xs/\y=.tup ys)\/(∃xs ys,a1z x h=some xs/\a1z y h=some ys)\/jb x y h=.no:=by
 cases e1:a1z x h with
 |some xs =>
  cases e2:a1z y h with
  |some ys=>exact .inr (.inr (.inr (.inl ⟨xs,ys,rfl,rfl⟩)))
  |none =>
   refine .inr (.inr (.inr (.inr ?_)))
   cases x<;>first|(cases e1;done)|(simp only[jb,e1,e2])
 |none =>
  cases x with
  |int i=>cases y<;>first|exact .inl ⟨_,_,rfl,rfl⟩|exact .inr (.inr (.inr (.inr rfl)))
  |str i=>cases y<;>first|exact .inr (.inl ⟨_,_,rfl,rfl⟩)|exact .inr (.inr (.inr (.inr rfl)))
  |tup i=>cases y<;>first|exact .inr (.inr (.inl ⟨_,_,rfl,rfl⟩))|(cases i<;>exact .inr (.inr (.inr (.inr rfl))))
  |_=>refine .inr (.inr (.inr (.inr ?_)));simp only[jb,e1]
theorem ao6:a2p K jb (λx y H Q=>(rI0 (λi j=>.int (i+j)) x y H Q\/(∃i j,x=.str i/\y=.str j/\i.length+j.length<=sizeLine/\Q (.str (i++j)) H)\/axv K x y H Q\/azw x y H Q)\/azv K x y H Q):=by
 intro E U H h x y dx dy Q rx ry hr o
 rcases aut dx dy h with⟨i,j,rfl,rfl⟩|⟨i,j,rfl,rfl⟩|⟨xs,ys,rfl,rfl⟩|⟨xs,ys,e1,e2⟩|e
 .cases rx;cases ry
  exact .inl (.inl ⟨i,j,rfl,rfl,ans o (.int _) hr⟩)
 .cases rx;cases ry
  simp only[jb]at o
  split at o
  .rename_i hc;exact .inl (.inr (.inl ⟨i,j,rfl,rfl,ll hc,ans o (.str _) hr⟩))
  .exact o.elim
 .cases rx with
  |@tup a vs _ ha r1 =>
  cases ry with
  |@tup b us _ hb r2 =>
  cases xs with
  |nil=>cases r1;exact .inr ⟨a,b,us,rfl,rfl,SqT.of ha,SqT.of hb,ans o (.tup hb r2) hr⟩
  |cons z xs =>
   simp only[jb]at o
   split at o
   .rename_i hc;refine .inl (.inr (.inr (.inl ⟨a,b,vs,us,rfl,rfl,SqT.of ha,SqT.of hb,λz=>(by subst z;cases r1),ll (by rw[r1.len,r2.len];exact hc),λz=>?_,λ_=>?_⟩)))
    .subst z;cases r2
     rw[bX]at o;exact ans o (.tup ha r1) hr
    .exact a3t (r1.app r2) hr o
   .exact o.elim
 .rw[ajc e1 e2]at o;obtain⟨a,vs,rfl,h1,h2⟩:=a4s rx hr e1;obtain⟨b,us,rfl,h3,h4⟩:=a4s ry hr e2
  split at o
  .rename_i hc;exact .inl (.inr (.inr (.inr ⟨a,b,vs,us,rfl,rfl,h1,h3,ll (by rw[h2.len,h4.len];exact hc),a1a (h2.app h4) hr o⟩)))
  .exact o.elim
 .rw[e]at o;exact o.elim
theorem auu(ha:ME X E a fa)(hb:ME X E b fb):ME X E (.BinOp a .Add b pos) (s2 jb fa fb) :=
 afy (OpR.or (axf.or (afn.or (asv.or auq))) aup) ao6 ha hb
open Classical in
def a0p(x y:D)(h:Hd):R D:=match y with
 |.int k=>(match x with
  |.int i=>if CMul i k then .ok (.int (i*k)) h else .no
  |_=>match a1z x h with
   |some xs=>if (-(2^63)<=k/\k<2^63)/\xs.length*k.toNat<=LINE then .ok (.ref h.length) (h++[.lst (List.replicate k.toNat xs).flatten]) else .no
   |none=>.no)
 |_=>.no
theorem ao7:a2p K a0p (λx y H Q=>rI CMul (λi j=>.int (i*j)) x y H Q\/azx x y H Q):=by
 intro E U H h x y dx dy Q rx ry hr o
 cases dy with
 |int k =>
  obtain rfl:=ait ry
  cases hx:a1z dx h with
  |some xs =>
   obtain⟨a,vs,rfl,h1,h2⟩:=a4s rx hr hx;have o':out K E (a01 K) U H (if (-(2^63)<=k/\k<2^63)/\xs.length*k.toNat<=LINE then .ok (.ref h.length) (h++[.lst (List.replicate k.toNat xs).flatten]) else .no) Q:=by
    cases dx<;>first|(cases hx;done)|(simp only[a0p,hx]at o;exact o)
   split at o'
   .rename_i hc;exact .inr ⟨a,k,vs,rfl,rfl,h1,hc.1.1,hc.1.2,ll (by rw[h2.len];exact hc.2),a1a (h2.flat _) hr o'⟩
   .exact o'.elim
  |none =>
   cases dx with
   |int i =>
    obtain rfl:=ait rx
    by_cases hc:CMul i k
    .simp only[a0p,aU hc]at o;exact .inl ⟨i,k,rfl,rfl,hc,ans o (.int _) hr⟩
    .simp only[a0p,bA hc]at o;exact o.elim
   |_=>simp only[a0p,hx]at o;exact o.elim
 |_=>exact o.elim
theorem auv(ha:ME X E a fa)(hb:ME X E b fb):ME X E (.BinOp a .Mult b pos) (s2 a0p fa fb):=afy (axh.or aus) ao7 ha hb
end
end MI
namespace MI
open L2
noncomputable def a82(d:D)(h:Hd):Option (List Int):=match d with
 |.ref i=>(match h[i]? with|some (.lst xs)=>a93 xs|_=>none)
 |.rol xs=>a93 xs
 |_=>none
theorem aba(r:Rep K U H v d)(hr:HRep K U H h)(e:a82 d h=some ns):∃p,v=.ref p/\SqL K H p (ns.map V.int):=by
 unfold a82 at e
 split at e
 .cases r with
  |@ref p _ hp =>
   split at e
   .rename_i xs hx;obtain⟨vs,h3,h4⟩:=hr.lst hp hx;exact⟨p,rfl,SqL.of (by rw[h3,a4p h4 e])⟩
   .cases e
 .cases r with
  |@rol p vs xs hp r=>exact⟨p,rfl,by rw[<-a4p r e];exact hp.l⟩
 .cases e
end MI
namespace L2
open PyProof.Rows
section
variable{X:Cx}
theorem a97:CallR X (.builtin "sorted") (λxs H Q=>∃(p:Addr) (ns:List Int),xs=[.ref p]/\SqL X.K H p (ns.map V.int)/\ns.length<64/\∀l,H l=none->Q (.ref l) (upd H l (.lst ((PySem.W.sortI ns).map V.int)))):=by
 intro aA s Z H xs us Q I r ⟨p,ns,e,hq,h64,q⟩
 subst e;obtain⟨u,rfl,ru⟩:=vals1 r;cases ru
 obtain⟨its,r',pl,hz⟩:=I.list hq;have hI:IntsAre its ns:=intsAre_of r';have hl:its.length=ns.length:=by have:=r'.length;simp at this;omega
 refine sorted_ints pl.isList hI (by omega) λout ns' a1 a2 a3=>?_
 obtain⟨e,he⟩:=sortedAll_at s.heap its out;have e2:ns'=PySem.W.sortI ns:=PySem.W.eq_sortI a2 a3;subst e2;have ln:(PySem.W.sortI ns).length=ns.length:=(gS ns).length_eq;refine⟨.ref (s.heap.objs.size+1),_,I.laid (t':=s.toks) (λ_ _=>sortedAll_old) (fK _) (show ObjOk X.prog X.w _ _ _ (.lst ((PySem.W.sortI ns).map V.int)) from ⟨by rw[ax,ln];have:=eS;omega,out.toList,e,a4i a1,by simpa[seqObj] using he⟩),rfl,q _ (I.hok.fresh (fK _))⟩
end
end L2
namespace MI
open L2
noncomputable def a3w:List D->Hd->R D
 |[d],h=>(match a82 d h with|some ns=>if ns.length<64 then .ok (.ref h.length) (h++[.lst ((PySem.W.sortI ns).map D.int)]) else .no|none=>.no)
 |_,_=>.no
theorem a83:∀ns:List Int,Reps K U H (ns.map V.int) (ns.map D.int)
 |[]=>.nil
 |n::ns=>.cons (.int n) (a83 ns)
theorem ag6:afx K a3w (λxs H Q=>∃(p:Addr) (ns:List Int),xs=[.ref p]/\SqL K H p (ns.map V.int)/\ns.length<64/\∀l,H l=none->Q (.ref l) (upd H l (.lst ((PySem.W.sortI ns).map V.int)))):=by
 intro E U H h xs ds Q r hr o
 unfold a3w at o
 split at o
 .cases r with
  |cons r rs =>
   cases rs
   split at o
   .rename_i ns e
    split at o
    .rename_i hl;obtain⟨p,rfl,q⟩:=aba r hr e;exact⟨p,ns,rfl,q,hl,a1a (a83 _) hr o⟩
    .exact o.elim
   .exact o.elim
 .exact o.elim
end MI
namespace L2
open PyProof.Rows
noncomputable def ixI(n:Int):List Int->Option Nat
 |[]=>none
 |a::l=>if a=n then some 0 else (ixI n l).map (·+1)
theorem aen:∀{l:List Int} {j:Nat},ixI n l=some j->l[j]? = some n/\∀i,i<j->l[i]?≠some n
 |[],_,h=>by cases h
 |a::l,j,h=>by
  unfold ixI at h
  split at h
  .rename_i e;cases h
   exact⟨by rw[e];rfl,λi hi=>absurd hi (cC i)⟩
  .rename_i e;obtain⟨k,hk,rfl⟩:=aS.mp h;obtain⟨h1,h2⟩:=aen hk;refine⟨h1,λi hi=>?_⟩
   cases i with
   |zero=>intro z;exact e (bS z)
   |succ i=>exact h2 i (fH hi)
theorem aeo:∀{l:List Int},n∈l->∃j,ixI n l=some j
 |[],h=>by cases h
 |a::l,h=>by
  unfold ixI
  split
  .exact⟨0,rfl⟩
  .rename_i e
   rcases aP.mp h with h|h
   .exact absurd h.symm e
   .obtain⟨j,hj⟩:=aeo h;exact⟨j+1,by rw[hj];rfl⟩
def eqI(n:Int):Value->Bool
 |.int a _=>a == n
 |_=>false
def ajd(K:Fg):V->List V->Hp->VK->Prop:=λx vs H Q=>∃(l:Addr) (ns:List Int) (n:Int) (j:Nat),x=.ref l/\vs=[.int n]/\SqL K H l (ns.map V.int)/\ixI n ns=some j/\Q (.int (j:Nat)) H
theorem aje:MtR X "list.index" (ajd X.K):=by
 intro aA s Z H x vs v us Q I rx rv h
 obtain⟨l,ns,n,j,rfl,rfl,hq,hj,q⟩:=h;cases rx
 obtain⟨u,rfl,ru⟩:=rv.one;obtain⟨t,rfl⟩:=ru;obtain⟨its,r,⟨⟨cls,dict,data,slots⟩,m,e1,e2,e3,e4⟩,hz⟩:=I.list hq;have e2:cls=.type "list":=e2;have e3:dict=none:=e3;have e4:data=.seq its.toArray m:=e4;subst e2 e3 e4;have hl:its.length=ns.length:=by have:=r.length;simp at this;omega
 have each:∀i (h:i<its.length),∃a t,its[i]=.int a t/\ns[i]? = some a:=λi h=>by
  obtain⟨y,h1,h2⟩:=r.get (show(ns.map V.int)[i]? = some (V.int (ns[i]'(by omega))) by rw[aE,ag (by omega)];rfl)
  obtain⟨t,rfl⟩:=h2;exact⟨_,t,(ah.mp h1).2,ag _⟩
 obtain⟨p1,p2⟩:=aen hj;have jl:j<ns.length:=(ah.mp p1).1;rw[ax]at hz;rw[eS]at hz;refine gu F.slot_list_index ⟨_,e1,rfl⟩ F.entry_list_index (F.args_list_index_2 _ _)
  (SeqAt.list_indexAt l its.toArray m none slots (.int n t) (eqI n) j (by simp;omega) (by omega) ?_ ?_) ⟨e1,λy hy=>?_,.int (j:Nat),H,I.tok _,⟨_,rfl⟩,q⟩
 .obtain⟨a,t,h1,h2⟩:=each j (by omega)
  rw[p1]at h2;cases h2
  rw[List.getElem_toArray,h1];exact dU _
 .intro i hi hij
  obtain⟨a,t,h1,h2⟩:=each i (by simpa using hi)
  rw[List.getElem_toArray,h1];exact cI.mpr λz=>p2 i hij (by rw[h2,z])
 .obtain⟨i,hi,rfl⟩:=eG (List.mem_toArray.mp hy);obtain⟨a,t',h1,_⟩:=each i hi;rw[h1];exact SeqAt.EqAt.int_int a t' n t
end L2
namespace MI
open L2
noncomputable def a70(d:D)(ds:List D)(h:Hd):R D:=match a82 d h,ds with
 |some ns,[.int n]=>(match ixI n ns with|some j=>.ok (.int (j:Nat)) h|none=>.no)
 |_,_=>.no
theorem ag7:au7 K a70 (ajd K):=by
 intro E U H h x dx xs ds Q rx r hr o
 unfold a70 at o
 split at o
 .rename_i ns n e
  cases r with
  |cons r rs =>
   cases r;cases rs
   split at o
   .rename_i j hj;obtain⟨p,rfl,q⟩:=aba rx hr e;exact⟨p,ns,n,j,rfl,rfl,q,hj,ans o (.int _) hr⟩
   .exact o.elim
 .exact o.elim
def amk:D->Option Key
 |.int i=>some (.inl i)
 |.str x=>some (.inr x)
 |_=>none
def awo:D->Option (List Key)
 |.tup xs=>a1u amk xs
 |_=>none
noncomputable def a3x{κ:Type}[DecidableEq κ](kvs:List (κ×D))(k:κ):Option D:=(kvs.find? λkv=>decide (kv.1=k)).map (·.2)
noncomputable def putD{κ:Type}[DecidableEq κ](kvs:List (κ×D))(k:κ)(d:D):List (κ×D):=if (kvs.any λkv=>decide (kv.1=k))=true then kvs.map λkv=>if kv.1=k then (kv.1,d) else kv else kvs++[(k,d)]
section
variable{K:Fg}{U:List Addr}{H:Hp}{h:Hd}
theorem a98{v:V}{d:D}{k:Key}(r:Rep K U H v d)(e:amk d=some k):v=kV k:=by
 cases r with
 |int i=>cases e;rfl
 |str x=>cases e;rfl
 |_=>cases e
theorem aep:∀{vs:List V} {ds:List D} {ks:List Key},Reps K U H vs ds->a1u amk ds=some ks->vs=ks.map kV
 |_,_,_,.nil,e=>by cases e;rfl
 |_,d::ds,_,.cons r rs,e=>by
  unfold a1u at e
  split at e
  .rename_i y ys h1 h2;cases e
   rw[a98 r h1,aep rs h2];rfl
  .cases e
theorem ajf{v:V}{d:D}{ks:List Key}(r:Rep K U H v d)(e:awo d=some ks):∃b,v=.ref b/\H b=some (.tup (ks.map kV)):=by
 cases r with
 |@tup a vs xs hp rs=>exact⟨a,rfl,by rw[<-aep rs e];exact hp⟩
 |_=>cases e
theorem a99{κ:Type}[DecidableEq κ](k:κ):∀{us:List (κ×V)} {kvs:List (κ×D)},KRep K U H us kvs->match a3x kvs k with|some d=>∃v,adx us k=some v/\Rep K U H v d|none=>adx us k=none
 |[],[],_=>rfl
 |[],_::_,r=>by have:=aQ List.length r.1;simp at this
 |_::_,[],r=>by have:=aQ List.length r.1;simp at this
 |(a,v)::us,(b,d)::kvs,r=>by
  obtain⟨e,rs⟩:=r;simp only[bg,List.cons.injEq]at e;obtain⟨e1,e2⟩:=e;subst e1
  cases rs with
  |cons r1 rs =>
   by_cases hk:a=k
   .simp only[a3x,adx,cW,hk,decide_true,iS];exact⟨v,rfl,r1⟩
   .have ih:=a99 k (us:=us) (kvs:=kvs) ⟨e2,rs⟩;simp only[a3x,adx,cW,hk,decide_false]at ih ⊢;exact ih
theorem aeq{κ:Type}[DecidableEq κ]{us:List (κ×V)}{kvs:List (κ×D)}(k:κ){v:V}{d:D}(r:KRep K U H us kvs)(rv:Rep K U H v d):KRep K U H (putK us k v) (putD kvs k d):=by
 have anyEq:∀{us:List (κ×V)} {kvs:List (κ×D)},us.map (·.1)=kvs.map (·.1)->(us.any λkv=>decide (kv.1=k))=(kvs.any λkv=>decide (kv.1=k)):=λ{us kvs} e=>by
  have h1:(us.any λkv=>decide (kv.1=k))=(us.map (·.1)).any λa=>decide (a=k):=by rw[gR];rfl
  have h2:(kvs.any λkv=>decide (kv.1=k))=(kvs.map (·.1)).any λa=>decide (a=k):=by rw[gR];rfl
  rw[h1,h2,e]
 have rmap:∀{us:List (κ×V)} {kvs:List (κ×D)},KRep K U H us kvs->KRep K U H (us.map λkv=>if kv.1=k then (kv.1,v) else kv) (kvs.map λkv=>if kv.1=k then (kv.1,d) else kv):=λ{us}=>by
  induction us with
  |nil=>intro kvs r;cases kvs with
   |nil=>exact⟨rfl,.nil⟩
   |cons _ _=>have:=aQ List.length r.1;simp at this
  |cons a us ih=>intro kvs r;cases kvs with
   |nil=>have:=aQ List.length r.1;simp at this
   |cons b kvs =>
    obtain⟨e,rs⟩:=r;simp only[bg,List.cons.injEq]at e;obtain⟨e1,e2⟩:=e
    cases rs with
    |cons r1 rs =>
     obtain⟨i1,i2⟩:=ih ⟨e2,rs⟩;obtain⟨a1,a2⟩:=a;obtain⟨b1,b2⟩:=b;simp only at e1;subst e1
     by_cases hk:a1=k
     .simp only[bg,hk,dQ];exact⟨by simp only[bg,i1],.cons rv i2⟩
     .simp only[bg,hk,eV];exact⟨by simp only[bg,i1],.cons r1 i2⟩
 have ae:=anyEq r.1;unfold putK putD;rw[ae]
 split
 .exact rmap r
 .exact⟨by simp[r.1],by simpa using r.2.snoc rv⟩
noncomputable def aqz(x y:D)(h:Hd):Option (Option D):=match x with
 |.ref i=>(match h[i]? with
  |some (.dK kvs)=>(amk y).map λk=>a3x kvs k
  |some (.dT kvs)=>(awo y).map λk=>a3x kvs k
  |_=>none)
 |.rod ks xs=>(amk y).map λk=>a3x (ks.zip xs) k
 |.rdT ks xs=>(awo y).map λk=>a3x (ks.zip xs) k
 |_=>none
def b3i(K:Fg)(U:List Addr)(H:Hp)(a:Addr)(y:V):Option D->Prop
 |some d=>∃v,ai6 H a y (some v)/\Rep K U H v d
 |none=>ai6 H a y none
theorem ajg{κ:Type}{us:List (κ×V)}{ks:List κ}{xs:List D}(e:us.map (·.1)=ks)(r:Reps K U H (us.map (·.2)) xs):KRep K U H us (ks.zip xs):=a6f e r
theorem a9a(rx:Rep K U H x dx)(ry:Rep K U H y dy)(hr:HRep K U H h)(e:aqz dx dy h=some r):∃a,x=.ref a/\b3i K U H a y r:=by
 have goK:∀{a:Addr} {us:List (Key×V)} {kvs:List (Key×D)},Rd H a (.dK us)->KRep K U H us kvs->(amk dy).map (λk=>a3x kvs k)=some r->b3i K U H a y r:=λ{a us kvs} rd kr e=>by
  simp only[aS]at e;obtain⟨k,ek,rfl⟩:=e;have ey:=a98 ry ek;have q:=a99 k kr
  cases hv:a3x kvs k with
  |none=>rw[hv]at q;exact .inl ⟨us,k,rd,ey,q.symm⟩
  |some d=>rw[hv]at q;obtain⟨v,q1,q2⟩:=q;exact⟨v,.inl ⟨us,k,rd,ey,q1.symm⟩,q2⟩
 have goT:∀{a:Addr} {us:List (List Key×V)} {kvs:List (List Key×D)},Rd H a (.dT us)->KRep K U H us kvs->(awo dy).map (λk=>a3x kvs k)=some r->b3i K U H a y r:=λ{a us kvs} rd kr e=>by
  simp only[aS]at e;obtain⟨k,ek,rfl⟩:=e;obtain⟨b,ey,eb⟩:=ajf ry ek;have q:=a99 k kr
  cases hv:a3x kvs k with
  |none=>rw[hv]at q;exact .inr ⟨us,k,b,rd,ey,eb,q.symm⟩
  |some d=>rw[hv]at q;obtain⟨v,q1,q2⟩:=q;exact⟨v,.inr ⟨us,k,b,rd,ey,eb,q1.symm⟩,q2⟩
 cases rx with
 |@ref a i ha =>
  obtain⟨ob,e1,e2⟩:=hr.at ha;simp only[aqz,e1]at e
  cases ob with
  |lst _=>cases e
  |dK kvs=>obtain⟨us,h3,h4⟩:=e2;exact⟨a,rfl,goK (.inl h3) h4 e⟩
  |dT kvs=>obtain⟨us,h3,h4⟩:=e2;exact⟨a,rfl,goT (.inl h3) h4 e⟩
  |ins _ _=>cases e
 |@rod a o us ks xs hp ek rs=>exact⟨a,rfl,goK (.inr ⟨o,hp⟩) (ajg ek rs) e⟩
 |@rdT a o us ks xs hp ek rs=>exact⟨a,rfl,goT (.inr ⟨o,hp⟩) (ajg ek rs) e⟩
 |_=>cases e
def abb(x y:D)(h:Hd):R D:=match aqz x y h with
 |some (some d)=>.ok d h
 |_=>.no
noncomputable def ag8(neg:Bool)(y x:D)(h:Hd):R D:=match aqz x y h with
 |some r=>.ok (.bl (if neg then !r.isSome else r.isSome)) h
 |none=>.no
def b4q:R2:=λy x H Q=>∃a o,x=.ref a/\ai6 H a y o/\Q (.bl o.isSome) H
def ajh:R2:=λy x H Q=>∃a o,x=.ref a/\ai6 H a y o/\Q (.bl (!o.isSome)) H
theorem u1{A:Around}(hu:A.units+64<cLine):A.units+1<cLine:=by omega
theorem azy{X:Cx}(hu:X.A.units+64<cLine):OpR X (compareOp .In) b4q:=λaA s Z H y x v u Q I ry rx ⟨a,o,ex,g,q⟩=>by
 subst ex;obtain rfl:u=Value.ref a:=rx;exact b5j (u1 hu) I g ry λs3 I3=>⟨.bl o.isSome,H,I3,rfl,q⟩
theorem aji{X:Cx}(hu:X.A.units+64<cLine):OpR X (compareOp .NotIn) ajh:=λaA s Z H y x v u Q I ry rx ⟨a,o,ex,g,q⟩=>by
 subst ex;obtain rfl:u=Value.ref a:=rx;exact asz (u1 hu) I g ry λs3 I3=>⟨.bl (!o.isSome),H,I3,rfl,q⟩
theorem auw:a2p K (ag8 false) b4q:=by
 intro E U H h y x dy dx Q ry rx hr o
 unfold ag8 at o
 split at o
 .rename_i r e;obtain⟨a,rfl,q⟩:=a9a rx ry hr e
  cases r with
  |none=>exact⟨a,none,rfl,q,ans o (.bl _) hr⟩
  |some d=>obtain⟨v,q,_⟩:=q;exact⟨a,some v,rfl,q,ans o (.bl _) hr⟩
 .exact o.elim
theorem ag9:a2p K (ag8 true) ajh:=by
 intro E U H h y x dy dx Q ry rx hr o
 unfold ag8 at o
 split at o
 .rename_i r e;obtain⟨a,rfl,q⟩:=a9a rx ry hr e
  cases r with
  |none=>exact⟨a,none,rfl,q,ans o (.bl _) hr⟩
  |some d=>obtain⟨v,q,_⟩:=q;exact⟨a,some v,rfl,q,ans o (.bl _) hr⟩
 .exact o.elim
variable{X:Cx}{E:XD}{a b e o i:Expr}{fa fb fc:SE}{pos:Pos}
theorem auy(hu:X.A.units+64<cLine)(ha:ME X E a fa)(hb:ME X E b fb)(hs:b33 b):ME X E (.Subscript a b pos) (s2 abb fa fb):=by
 refine PE.weak (at6 (u1 hu) ha hb hs) ?_
 rintro Z H Q ⟨U,τ,h,S,Rh,o⟩
 refine⟨U,τ,h,S,Rh,bu o λd h1 U1 H1 v g1 r1 hr1 o1=>?_⟩;refine⟨U1,τ,h1,S.mono g1,hr1,bu o1 λd2 h2 U2 H2 u g2 r2 hr2 o2=>?_⟩;unfold abb at o2
 split at o2
 .rename_i dd e;obtain⟨p,rfl,w,q1,q2⟩:=a9a (r1.mono g2) r2 hr2 e;exact⟨p,w,rfl,q1,ans o2 q2 hr2⟩
 .exact o2.elim
noncomputable def ar0(o k v:D)(h:Hd):Option Hd:=match o with
 |.ref i=>(match h[i]? with
  |some (.dK kvs)=>(match amk k with|some kk=>if kvs.length<LINE then some (h.set i (.dK (putD kvs kk v))) else none|none=>none)
  |some (.dT kvs)=>(match awo k with|some kk=>if kvs.length<LINE then some (h.set i (.dT (putD kvs kk v))) else none|none=>none)
  |_=>none)
 |_=>none
noncomputable def a71(fe fo fi:SE):SS:=λτ h=>(fe τ h).fl λv h1=>(fo τ h1).fl λo h2=>(fi τ h2).fl λk h3=>match ar0 o k v h3 with|some h4=>.nx τ h4|none=>.no
theorem KRep.mono{κ:Type}{U':List Addr}{H':Hp}{us:List (κ×V)}{kvs:List (κ×D)}(g:Gr U H U' H')(r:KRep K U H us kvs):KRep K U' H' us kvs:=⟨r.1,r.2.mono g⟩
theorem ao8{h':Hd}{o k v:V}{od kd vd:D}{Q:Hp->Prop}(r1:Rep K U H o od)(r2:Rep K U H k kd)(r3:Rep K U H v vd)(hr:HRep K U H h)(e:ar0 od kd vd h=some h')(q:∀H',Gr U H U H'->HRep K U H' h'->Q H') :
  ∃a H4,o=.ref a/\b32 H a k v H4/\Q H4:=by
 cases r1 with
 |@ref a i ha =>
  obtain⟨ob,h1,h2⟩:=hr.at ha;simp only[ar0,h1]at e
  cases ob with
  |lst _=>cases e
  |dK kvs =>
   obtain⟨us,h3,h4⟩:=h2
   cases hk:amk kd with
   |none=>simp only[hk]at e;cases e
   |some kk =>
    simp only[hk]at e
    split at e
    .rename_i hl;cases e
     have lu:us.length=kvs.length:=by simpa using aQ List.length h4.1
     exact⟨a,_,rfl,.inl ⟨us,kk,h3,a98 r2 hk,by rw[atb,lu];exact hl,rfl⟩,q _ (a3k hr ha _) (hr.put ha ⟨_,m5,(aeq kk h4 r3).mono (a3k hr ha _)⟩)⟩
    .cases e
  |dT kvs =>
   obtain⟨us,h3,h4⟩:=h2
   cases hk:awo kd with
   |none=>simp only[hk]at e;cases e
   |some kk =>
    simp only[hk]at e
    split at e
    .rename_i hl;cases e
     have lu:us.length=kvs.length:=by simpa using aQ List.length h4.1
     obtain⟨b,eb,tb⟩:=ajf r2 hk;exact⟨a,_,rfl,.inr ⟨us,kk,b,h3,eb,tb,by rw[atb,lu];exact hl,rfl⟩,q _ (a3k hr ha _) (hr.put ha ⟨_,m5,(aeq kk h4 r3).mono (a3k hr ha _)⟩)⟩
    .cases e
  |ins _ _=>cases e
 |_=>cases e
theorem auz(hu:X.A.units+64<cLine)(he:ME X E e fa)(ho:ME X E o fb)(hi:ME X E i fc)(hs:swapsWith e (some (.Subscript o i pos')) pos.line X.env=pure false:=by rfl):MS X E (.Assign [.Subscript o i pos'] e pos) (a71 fa fb fc):=by
 refine PS.weak (at7 (u1 hu) ho hi he hs) ?_
 rintro N Z H ⟨U,τ,h,S,Rh,oo⟩
 refine⟨U,τ,h,S,Rh,um oo λd h1 U1 H1 v g1 r1 hr1 o1=>?_⟩;refine⟨U1,τ,h1,S.mono g1,hr1,um o1 λd2 h2 U2 H2 u g2 r2 hr2 o2=>?_⟩;refine⟨U2,τ,h2,(S.mono g1).mono g2,hr2,um o2 λd3 h3 U3 H3 w g3 r3 hr3 o3=>?_⟩
 cases hp:ar0 d2 d3 d h3 with
 |none=>rw[hp]at o3;exact o3.elim
 |some h4 =>
  rw[hp]at o3;exact ao8 (r2.mono g3) r3 ((r1.mono g2).mono g3) hr3 hp λH' g4 hr4=>o3 U3 H' Z g4 ((((S.mono g1).mono g2).mono g3).mono g4) hr4
noncomputable def gD1(x y:D)(h:Hd):R D:=match amk x with
 |some k=>.ok (.ref h.length) (h++[.dK [(k,y)]])
 |none=>.no
theorem ajj{p:Addr}{o:HO}{ob:O}(hr:HRep K U H h)(pn:p∉U)(gw:Gw U H (U++[p]) (upd H p o))(q:ORep K (U++[p]) (upd H p o) p ob):HRep K (U++[p]) (upd H p o) (h++[ob]):=by
 refine⟨bZ.mpr ⟨hr.nd,by simp,λa ha b hb z=>pn (by rw[av.mp hb]at z;rw[<-z];exact ha)⟩,by simp[hr.len],λj a o' q1 q2=>?_⟩
 by_cases hj:j<U.length
 .rw[aL hj]at q1;rw[aL (by rw[<-hr.len];exact hj)]at q2
  exact(hr.obj j a o' q1 q2).monoW gw (ik λz=>pn (by rw[<-z];exact aW q1))
 .have hj2:j<(U++[p]).length:=(ah.mp q1).1;have:j=U.length:=by simp at hj2;omega
  subst this;rw[aR (ay _)]at q1;rw[hr.len,aR (ay _)]at q2;simp at q1 q2;subst q1 q2;exact q
theorem b3j(ha:ME X E a fa)(hb:ME X E b fb):ME X E (.Dict [some a] [b] pos) (s2 gD1 fa fb):=by
 refine PE.weak (at9 (an8 ha hb at8) rfl rfl (by simp) (by simp)) ?_
 rintro Z H Q ⟨U,τ,h,S,Rh,o⟩ p hp
 have pn:p∉U:=Rh.notin hp;have g0:Gr U H U (upd H p (.dK [])):=xu hp _;unfold s2 at o;refine⟨U,τ,h,S.mono g0,Rh.aside hp _,?_⟩
 cases hfa:fa τ h with
 |no=>rw[hfa]at o;exact o.elim
 |ex c hx=>rw[hfa]at o;exact a0s (Rp:=a01 X.K) (r:=.ex c hx) (Q:=Q) o g0
 |ok d h1 =>
  rw[hfa]at o
  intro U1 H1 v g1 r1 hr1
  refine⟨U1,τ,h1,(S.mono g0).mono g1,hr1,?_⟩;simp only[R.bind]at o
  cases hfb:fb τ h1 with
  |no=>rw[hfb]at o;exact o.elim
  |ex c hx=>rw[hfb]at o;exact a0s (Rp:=a01 X.K) (r:=.ex c hx) (Q:=Q) o (g0.trans g1)
  |ok d2 h2 =>
   rw[hfb]at o
   intro U2 H2 u g2 r2 hr2
   have g12:=g1.trans g2;have e2:H2 p=some (.dK []):=g12.oth p _ m5 pn;simp only[gD1]at o
   cases hk:amk d with
   |none=>rw[hk]at o;exact o.elim
   |some k =>
    rw[hk]at o;refine⟨e2,[(k,u)],?_,by simp,?_⟩
    .rw[a98 (r1.mono g2) hk];rfl
    .obtain⟨m,em,hm⟩:=g12.pre;have nm:∀c∈m,c≠p/\H c=none:=λc hc=>by
      have q:=hm c hc
      by_cases z:c=p
      .subst z;rw[m5]at q;cases q
      .rw[ik z]at q;exact⟨z,q⟩
     have pn2:p∉U2:=λz=>by
      rw[em]at z
      rcases b9.mp z with z|z
      .exact pn z
      .exact(nm p z).1 rfl
     have ne:∀{c u'},H c=some u'->c≠p:=λe=>j5 e hp;have up:∀{c u'},H c=some u'->(upd H p (.dK [])) c=some u':=λe=>by rw[ik (ne e)];exact e
     have gw:Gw U2 H2 (U2++[p]) (upd H2 p (.dK [(k,u)])):=⟨⟨[p],rfl⟩,λc vs e=>by rw[ik (λz=>by subst z;rw[e2]at e;cases e)];exact e,λc o u' e=>by rw[ik (λz=>by subst z;rw[e2]at e;cases e)];exact e⟩
     have G:Gr U H (U2++[p]) (upd H2 p (.dK [(k,u)])):=by
      refine⟨⟨m++[p],by rw[em];simp,λc hc=>?_⟩,λc vs e=>?_,λc o u' e=>?_,λc u' e hn=>?_,λc u' e=>?_⟩
      .rcases b9.mp hc with hc|hc
       .exact(nm c hc).2
       .rw[av.mp hc];exact hp
      .rw[ik (ne e)];exact g12.tup _ _ (up e)
      .rw[ik (ne e)];exact g12.frz _ _ _ (up e)
      .rw[ik (ne e)];exact g12.oth _ _ (up e) hn
      .obtain⟨w,q⟩:=g12.kp _ _ (up e);exact⟨w,by rw[ik (ne e)];exact q⟩
     refine o (U2++[p]) _ (.ref p) G (.ref (by rw[aR (by rw[hr2.len];exact ay _),hr2.len];simp)) (ajj hr2 pn2 gw ⟨_,m5,rfl,.cons (r2.monoW gw) .nil⟩)
end
end MI
namespace ZP
open PySem.Builtin PySem.Builtin.SmallTypes L2
noncomputable def a65(it:Addr):Obj:={cls:=.type "enumerate",data:=.fields #[.none,.bool false,.ref it,rawInt 0,.none,.none]}
theorem ajk(t:Tok)(k:Srk)(us:List Value):Meets (Builtin.«enumerate.__new__» ⟨[.type "enumerate",val t k],[]⟩)
  (λ_ R s=>cont s.heap k us/\R (.ok (.ret (.ref (s.heap.objs.size+1)))) {s with heap:=(s.heap.push (iob t k)).push (a65 s.heap.objs.size)}) :=
 .of_wp λprog w A R s h=>by
  obtain⟨hp,g,d,tk,os⟩:=s;obtain⟨c,h⟩:=h;have sub:=sub_enumerate;have c':cont (Shared.heap ⟨hp,g,d,tk,os⟩) k us:=c;have fin:R (.ok (.ret (.ref (hp.push (iob t k)).objs.size))) {heap:=(hp.push (iob t k)).push (a65 hp.objs.size),gens:=g,drawn:=d,toks:=tk,os:=os}:=by simpa[cb] using h
  wp_walk
  refine wpAny_stack_any λst=>aJ ?_
  split
  .rename_i cl _ _ _ _ _
   cases (cl == Value.type "enumerate")
   .wp_walk using a0w (t:=t) c'
    exact⟨_,rfl,fin⟩
   .wp_walk using a0w (t:=t) c'
    exact⟨_,rfl,fin⟩
  .wp_walk using a0w (t:=t) c'
   exact⟨_,rfl,fin⟩
noncomputable def ItE(k:Srk):It where
 go:=λi H=>∃xs x,its H k=some xs/\xs[i]? = some x
 yld:=λi H v H'=>∃xs x p,its H k=some xs/\xs[i]? = some x/\H p=none/\v=.ref p/\H'=upd H p (.tup [.int i,x])
 stop:=λi H=>∃xs,its H k=some xs/\i=xs.length
def tnE(e it:Addr)(t:Tok)(k:Srk)(i:Nat)(h:Heap):Prop:=(∃old,IsEnum h e it i old)/\own it t k i h
theorem ajl(ne:e≠it):Turn P w K (.Tuple elts x1 pos) (ItE k) [e,it] e (tnE e it t k) where
 mem:=by simp
 obj:=λi h st b hb=>by
  obtain⟨⟨old,h1⟩,h4⟩:=st;simp only[aP,bp,cH]at hb
  rcases hb with rfl|rfl
  .exact⟨_,h1,λv z=>(by cases z)⟩
  .exact a2t h4
 keep:=λi h h' st kk=>by
  obtain⟨⟨old,h1⟩,h4⟩:=st;exact⟨⟨old,kk e (by simp) _ h1⟩,a0v h4 λob q=>kk it (by simp) ob q⟩
 item:=by
  intro X hP hw hK hc i aA s Z H E I hf st hg
  subst hP hw hK;obtain⟨xs,x,e1,g1⟩:=hg;obtain⟨⟨old,h1⟩,h4⟩:=st;have n:∀c∈[e,it],H c=none:=λc hc=>(hf c hc).1;obtain⟨cs,P1,S1,D1,a1,b1,c1,d1⟩:=a2u I (t:=t) e1 (n it (by simp))
  have hd:=I.ok.hd hc;have ef:e∉it::cs:=by
   intro z
   rcases aP.mp z with z|z
   .exact ne z
   .exact c1 e z (n e (by simp))
  refine wpAny_pyNext_enum_itemD (D1 X.A.in1 hd) h1 (a1 i h4) (ah.mp g1).1 ne ef λu h' tk pu eo s1' pr sz kp=>?_;obtain⟨x',q1,r1⟩:=d1 i u pu;rw[g1]at q1;cases q1
  refine⟨_,rfl,wpAny_letOwnedTupleGo_enum eo λh2' z2' sb=>?_⟩;have hp:H s.heap.objs.size=none:=I.hok.fresh (ay _);have lt:∀c∈[e,it],c<s.heap.objs.size:=λc hc=>by
   simp only[aP,bp,cH]at hc
   rcases hc with rfl|rfl
   .exact aX h1
   .obtain⟨_,q,_⟩:=a2t h4;exact aX q
  have nT:∀c∈[e,it],c≠s.heap.objs.size:=λc hc=>bT (lt c hc);have all:∀c o,c∉[e,it]->s.heap.get? c=some o->h2'.get? c=some o:=λc o nc q=>by
   simp only[aP,bp,cH,not_or]at nc;exact(sb.2 c nc.1).trans (kp c o nc.1 nc.2 q)
  have I0:Inv X aA Z (upd H s.heap.objs.size (.tup [.int i,x])) {s with heap:=s.heap.push {cls:=.type "tuple",data:=.seq #[.int i tk,u]} } :=
   I.laid (t':=s.toks) (o:=.tup [.int i,x]) (λb o q=>ar _ q) (ay _) ⟨by show 2<=sizeLine;decide,[.int i tk,u],.cons ⟨tk,rfl⟩ (.cons r1 .nil),⟨_,aO _ rfl,rfl,_,rfl⟩⟩
  have I1:Inv X aA Z (upd H s.heap.objs.size (.tup [.int i,x])) {s with heap:=h2',toks:=tk+1}:=by
   refine a2v (s:={s with heap:=s.heap.push {cls:=.type "tuple",data:=.seq #[.int i tk,u]} }) (ch:=[e,it]) I0 (λb hb=>?_) λc o nc q=>?_
   .obtain⟨f0,f1⟩:=hf b hb;exact⟨by rw[ik (nT b hb)];exact f0,f1⟩
   .rcases fg q with⟨rfl,rfl⟩|q
    .exact(sb.2 _ (nT e (by simp)).symm).trans pr
    .exact all c o nc q
  refine⟨.ref s.heap.objs.size,_,I1,rfl,⟨xs,x,_,e1,g1,hp,rfl,rfl⟩,⟨⟨u,by simpa using z2'⟩,a0v (b1 _ _ s1') λob q=>(sb.2 _ ne.symm).trans q⟩,λb hb=>?_⟩
  rw[ik (nT b hb)];exact n b hb
 done:=by
  intro X hP hw hK hc i aA s Z H E I hf st hg
  subst hP hw hK;obtain⟨xs,e1,rfl⟩:=hg;obtain⟨⟨old,h1⟩,h4⟩:=st;have n:∀c∈[e,it],H c=none:=λc hc=>(hf c hc).1;obtain⟨cs,P1,S1,D1,a1,b1,c1,d1⟩:=a2u I (t:=t) e1 (n it (by simp))
  have hd:=I.ok.hd hc;refine wpAny_pyNext_enum_endD (D1 X.A.in1 hd) h1 (a1 _ h4) λh' ex=>⟨rfl,a2v (t':=s.toks) I hf λc o nc q=>?_⟩;simp only[aP,bp,cH,not_or]at nc;exact ex c o nc.2 q
 self:=λ_ _ _ _ _ st h=>by
  obtain⟨⟨old,h1⟩,_⟩:=st;exact fL h1 h
section
variable{X:Cx}{elts:List Expr}{x1:Nat}{tpos:Pos}
def b3k(ta:TA):TI:=λZ H R=>ta Z H λvs H1=>∃k xs,vs=[Srk.v k]/\its H1 k=some xs/\R (ItE k) H1
theorem av0(hg:Gl X "enumerate")(hm:X.mg "enumerate" = none)(ha:PA X [e1] ta)
  (h1:starEach [e1] X.env=[(false,eval e1 X.env)]:=by rfl):PI X (.Tuple elts x1 tpos) (.Call (.Name "enumerate" p) [e1] [] pos) (b3k ta):=by
 intro aA s Z H R I h
 refine dG (a3j I hg hm gG ?_ (by decide) (by decide))
 refine cp (thn (ha pos aA s Z H _ I h) λus s1 ⟨vs,H1,I1,r1,q1⟩=>?_) (by rw[h1];rfl) (by rfl)
 obtain⟨k,xs,rfl,e1,q⟩:=q1;obtain⟨v1,rfl,rv1⟩:=vals1 r1;obtain⟨t,rfl⟩:=aei rv1;obtain⟨us1,c1,_⟩:=a5r I1 e1;refine callType_new fF (by decide) (F.typeCall_enumerate_1 _) (F.newCall_enumerate_1 _) (λobj=>F.args_object_init_2 obj _) F.entry_enumerate_new (ajk t k us1) ⟨c1,?_⟩
 have at0:((s1.heap.push (iob t k)).push (a65 s1.heap.objs.size)).get? s1.heap.objs.size=some (iob t k):=ar _ (aO _ (by cases k<;>rfl))
 have at1:IsEnum ((s1.heap.push (iob t k)).push (a65 s1.heap.objs.size)) (s1.heap.objs.size+1) s1.heap.objs.size 0 .none:=by
  have:=aO (o:=a65 s1.heap.objs.size) (s1.heap.push (iob t k)) rfl
  rw[cb]at this;exact this
 have keepA:∀b o,s1.heap.get? b=some o->((s1.heap.push (iob t k)).push (a65 s1.heap.objs.size)).get? b=some o:=λb o q=>ar _ (ar _ q);have I2:Inv X aA Z H1 {s1 with heap:=(s1.heap.push (iob t k)).push (a65 s1.heap.objs.size)}:=I1.kept (t':=s1.toks) keepA
 refine⟨⟨_,at1,rfl⟩,?_⟩;refine fL (s:={s1 with heap:=(s1.heap.push (iob t k)).push (a65 s1.heap.objs.size)}) at1 ?_
 refine⟨s1.heap.objs.size+1,[s1.heap.objs.size+1,s1.heap.objs.size],tnE _ _ t k,ItE k,H1,rfl,I2,ajl (by intro z;have z:(_:Nat)=_:=z;omega),⟨⟨.none,at1⟩,b1z at0⟩,λb hb=>?_,q⟩
 have:s1.heap.objs.size<=b:=by
  simp only[aP,bp,cH]at hb
  rcases hb with rfl|rfl
  .exact fK _
  .exact ay _
 exact I1.fpOk this (I1.hok.fresh this)
end
end ZP
namespace MI
open L2 ZP
noncomputable def aga(x:D)(h:Hd):R Itm:=match srcOf x h with
 |some (xs,c)=>.ok ⟨((List.range xs.length).zip xs).map λp=>.tup [.int (p.1:Nat),p.2],c⟩ h
 |none=>.no
def a2x(f:SE):SI:=λτ h=>(f τ h).bind aga
theorem av1(hg:Gl X "enumerate")(hm:X.mg "enumerate" = none)(ha:ME X E e1 f)
  (h1:starEach [e1] X.env=[(false,eval e1 X.env)]:=by rfl):MI X E (.Tuple elts x1 tpos) (.Call (.Name "enumerate" p) [e1] [] pos) (a2x f):=by
 rintro aA s Z H Rr I ⟨U,τ,h,S,Rh,o⟩
 refine av0 hg hm (a5n ha aal (by rw[h1];rfl)) h1 aA s Z H Rr I ?_
 refine⟨U,τ,h,S,Rh,bu o λd h1 U1 H1 v g1 r1 hr1 o1=>?_⟩;unfold aga at o1
 split at o1
 .rename_i xs c q1;obtain⟨k,rfl,kc,kf⟩:=aej r1 hr1 q1;obtain⟨vs,w1,w2⟩:=kf U1 H1 h1 (.refl _ _) hr1 kc;refine⟨k,vs,rfl,w1,o1 U1 H1 _ (.refl _ _) ?_ hr1⟩
  intro U3 H3 h3 g3 hr3 c3
  obtain⟨us,a1,a2⟩:=kf U3 H3 h3 g3 hr3 c3;refine⟨λi d ed=>?_,us,a1,?_⟩
  .simp only[aE,aS]at ed;obtain⟨⟨j,y⟩,ez,rfl⟩:=ed;obtain⟨ex,ey⟩:=cc.mp ez;have hj:j=i:=by
    obtain⟨_,q⟩:=ah.mp ex;simpa using q.symm
   subst hj;obtain⟨v2,b3,b4⟩:=a2.get ey;refine⟨⟨us,v2,a1,b3⟩,λx H' yl=>?_⟩;obtain⟨xs',x',p,c1,c3,c5,rfl,rfl⟩:=yl;rw[a1]at c1;cases c1
   rw[b3]at c3;cases c3
   exact⟨xu c5 _,.tup m5 (.cons (.int _) (.cons (b4.mono (xu c5 _)) .nil)),hr3.aside c5 _⟩
  .rw[ax,gF,b6,a2.len];omega
 .exact o1.elim
end MI
namespace L2
open PyProof.Rows
def Itd(lo:Int)(n:Nat):It:=⟨λi _=>i<n,λi H x H'=>H'=H/\x=.int (lo-i),λi _=>n<=i⟩
theorem ajm{P:Program}{w:World}{K:Fg}{tg:Expr}(it:Addr)(lo:Int)(n:Nat):Turn P w K tg (Itd lo n) [it] it (λi h=>IsRangeIter h it (lo-(i:Nat)) ((n:Int)-(i:Nat)) (-1)) where
 mem:=by simp
 obj:=λi h st b hb=>by
  cases av.mp hb
  exact⟨_,st,λv z=>nomatch (show Data.fields _=Data.cell v from z)⟩
 keep:=λi h h' st k=>k it (by simp) _ st
 item:=by
  intro X hP hw hK hc i aA s Z H E I hf st hg
  subst hP hw hK;obtain⟨f0,f1,f2,f3,f4,f5⟩:=hf it (by simp)
  have hg:i<n:=hg;refine wpAny_pyNext_range_item st (by omega) λh' st' sb=>?_
  have I1:Inv X aA Z H {s with heap:=h',toks:=s.toks+1}:=I.turned (λb o hb e=>sb.extBut b o hb e) f0 f1 f3 f4 f5
  have e1:lo-(i:Nat) + -1=lo-((i+1:Nat):Int):=by omega
  have e2:(n:Int)-(i:Nat)-1=(n:Int)-((i+1:Nat):Int):=by omega
  have st2:IsRangeIter h' it (lo-((i+1:Nat):Int)) ((n:Int)-((i+1:Nat):Int)) (-1):=by rw[<-e1,<-e2];exact st'
  exact⟨_,rfl,ahg (s:={s with heap:=h',toks:=s.toks+1}) (n := "range_iterator") st' rfl rfl (by decide) ⟨.int (lo-i),H,I1,⟨_,rfl⟩,⟨rfl,rfl⟩,st2,λb hb=>(hf b hb).1⟩⟩
 done:=by
  intro X hP hw hK hc i aA s Z H E I hf st hg
  subst hP hw hK;obtain⟨f0,f1,f2,f3,f4,f5⟩:=hf it (by simp)
  exact wpAny_pyNext_range_end (I.ok.hd hc) st (by have:n<=i:=hg;omega) λh' eb=>⟨rfl,I.turned (t':=s.toks) (λb o hb e=>eb b o hb e) f0 f1 f3 f4 f5⟩
 self:=λ_ _ _ _ _ st h=>fG st h
end L2
namespace MI
open L2
def ao9(lo:Int)(n:Nat):List D:=(List.range n).map λi=>D.int (lo-(i:Nat))
noncomputable def azz(ds:List D)(h:Hd):R Itm:=match ds with
 |[.int i,.int j,.int k]=>if k = -1/\B62 i/\B62 j then .ok ⟨ao9 i (i-j).toNat,λ_=>True⟩ h else .no
 |_=>.no
theorem b00(lo:Int)(n:Nat):anj K U0 H0 (Itd lo n) ⟨ao9 lo n,λ_=>True⟩:=by
 intro U H h g hr _
 refine⟨λi d ed=>?_,by show n<=(ao9 lo n).length;simp[ao9]⟩
 simp only[ao9,aE,aS]at ed;obtain⟨j,ej,rfl⟩:=ed;obtain⟨hj,e⟩:=ah.mp ej;simp at e hj;subst e;refine⟨hj,λy H' q=>?_⟩;obtain⟨rfl,rfl⟩:=q;exact⟨.refl _ _,.int _,hr⟩
theorem b01:bootBuiltins "any" = some (.builtin "any"):=by decide +kernel
theorem ajn:bootBuiltins "sorted" = some (.builtin "sorted"):=by decide +kernel
theorem az{α β:Type}(a:α)(h:Hd)(k:α->Hd->R β):(R.ok a h).bind k=k a h:=rfl
theorem a1i{α:Type}(a:α)(h:Hd)(k:α->Hd->Fl):(R.ok a h).fl k=k a h:=rfl
noncomputable def thn(r:Fl)(g:SS):Fl:=match r with|.nx τ h=>g τ h|r=>r
theorem yt(f g:SS)(τ:Sd)(h:Hd):di f g τ h=thn (f τ h) g:=by unfold di thn;cases f τ h<;>rfl
theorem a0x(τ:Sd)(h:Hd)(g:SS):thn (.nx τ h) g=g τ h:=rfl
theorem abd(d:D)(h:Hd)(g:SS):thn (.rt d h) g=.rt d h:=rfl
noncomputable def toR(r:Fl):R D:=match r with|.rt d h1=>.ok d h1|.nx _ h1=>.ok .non h1|.ex c h1=>.ex c h1|_=>.no
theorem dh(b:SS)(n:Nat)(ds:List D)(h:Hd):ju b n ds h=toR (b (a6v n ds) h):=by unfold ju toR;cases b (a6v n ds) h<;>rfl
theorem abe(d:D)(h:Hd):toR (.rt d h)=.ok d h:=rfl
theorem aer(τ:Sd)(h:Hd):toR (.nx τ h)=.ok .non h:=rfl
theorem a2a:∀{xs:List D},clos n xs↔∀x∈xs,clo n x
 |[]=>by simp[clos]
 |x::xs=>by simp[clos,a2a (xs:=xs)]
theorem dg(i:Int):clo n (.int i):=by simp[clo]
theorem gq(i:Str):clo n (.str i):=by simp[clo]
theorem jw(i:Bool):clo n (.bl i):=by simp[clo]
theorem a0c:clo n .non:=by simp[clo]
theorem o6:clos n []:=by simp[clos]
theorem dz(a:clo n x)(b:clos n xs):clos n (x::xs):=by simp only[clos];exact⟨a,b⟩
theorem jx(h:clos n xs):clo n (.tup xs):=by simpa[clo] using h
theorem a03(h:clos n xs):clo n (.rol xs):=by simpa[clo] using h
theorem g8{α:Type}{n:Nat}{f:α->D}{l:List α}(h:∀a∈l,clo n (f a)):clos n (l.map f):=by
 rw[a2a]
 intro x hx
 obtain⟨a,ha,rfl⟩:=bq.mp hx;exact h a ha
mutual
theorem ajo(hm:n<=m):∀{d:D},clo n d->clo m d
 |.non,_=>by simp[clo]
 |.bl _,_=>by simp[clo]
 |.int _,_=>by simp[clo]
 |.str _,_=>by simp[clo]
 |.ty _,_=>by simp[clo]
 |.tup xs,h=>by simp only[clo]at h ⊢;exact a0d hm h
 |.rol xs,h=>by simp only[clo]at h ⊢;exact a0d hm h
 |.scr xs,h=>by simp only[clo]at h ⊢;exact a0d hm h
 |.rod _ xs,h=>by simp only[clo]at h ⊢;exact a0d hm h
 |.rdT _ xs,h=>by simp only[clo]at h ⊢;exact a0d hm h
 |.exc _,_=>by simp[clo]
 |.ins _ _ xs,h=>by simp only[clo]at h ⊢;exact a0d hm h
 |.ref i,h=>by simp only[clo]at h ⊢;omega
theorem a0d(hm:n<=m):∀{xs:List D},clos n xs->clos m xs
 |[],_=>by simp[clos]
 |x::xs,h=>by simp only[clos]at h ⊢;exact⟨ajo hm h.1,a0d hm h.2⟩
end
theorem vq(hm:n<=m)(h:a5q n o):a5q m o:=by
 cases o with
 |lst xs=>exact a0d hm h
 |dK kvs=>exact a0d hm h
 |dT kvs=>exact a0d hm h
 |ins _ _=>exact a0d hm h
theorem a9b{α:Type}{f:α->Option α}:∀{xs:List α},(∀x∈xs,f x=some x)->a1u f xs=some xs
 |[],_=>rfl
 |x::xs,h=>by
  unfold a1u;rw[h x aT,a9b λy hy=>h y (aI _ hy)]
theorem a9c(c:clo n d):a3u n h (k+1) d=some d:=by unfold a3u;rw[aU c]
theorem aoa(c:a5q n o):azq n h k o=some o:=by unfold azq;rw[aU c]
theorem a9d{n k i:Nat}{h:Hd}{xs:List D}(hi:n<=i)(e:h[i]? = some (.lst xs))(c:clos n xs):a3u n h (k+2) (.ref i)=some (.rol xs):=by
 unfold a3u;rw[bA (by simp only[clo];omega)]
 simp only[e];rw[a9b λx hx=>a9c (a2a.mp c x hx)];rfl
theorem aob(e:a1u (a3u n h k) xs=some ys)(nc:¬ clos n xs):a3u n h (k+1) (.tup xs)=some (.tup ys):=by
 unfold a3u;rw[bA (by simpa only[clo] using nc)]
 simp only[e,iS]
theorem a72{n:Nat}{d d':D}{h1:Hd}(e:a3u n h1 FU d=some d')(c:∀o∈h1.take n,a5q n o):ag2 n (.ok d h1)=.ok d' (h1.take n):=by
 unfold ag2;simp only[e];rw[a9b λo ho=>aoa (c o ho)]
theorem gf{h1:Hd}(e:clo n d)(c:∀o∈h1.take n,a5q n o):ag2 n (.ok d h1)=.ok d (h1.take n):=a72 (a9c e) c
theorem a4t(hi:n<=i)(e:h1[i]? = some (.lst xs))(cx:clos n xs)(c:∀o∈h1.take n,a5q n o):ag2 n (.ok (.ref i) h1)=.ok (.rol xs) (h1.take n):=a72 (a9d hi e cx) c
theorem yg(e:f τ h=.ok (.ref h.length) (h++[.lst xs]))(cx:clos h.length xs)(c:∀o∈h,a5q h.length o):sZ f τ h=.ok (.rol xs) h:=by
 unfold sZ;rw[e,a4t (ay _) (by simp) cx (by simpa using c)]
 simp
def Pu(F:SF)(n:Nat)(ds:List D)(d:D):Prop:=∀h,jg false n F ds h=.ok d h
def Dr(F:SF)(n:Nat)(ds:List D)(o:O)(d:D)(o':O):Prop:=∀p h,h[p]? = some o->jg false n F (.ref p::ds) h=.ok d (h.set p o')
theorem a6g:∀{ds:List D},(∀d∈ds,clo 0 d)->a3v ds=[]/\a2w 0 ds=ds/\∀k,a2w k ds=ds
 |[],_=>⟨rfl,rfl,λ_=>rfl⟩
 |d::ds,h=>by
  obtain⟨a,b,c⟩:=a6g (ds:=ds) λx hx=>h x (aI _ hx);have hd:=h d aT;have nr:refOf d=none:=by cases d<;>first|rfl|(simp only[clo]at hd;omega)
  refine⟨?_,?_,λk=>?_⟩
  .simpa[a3v,nr] using a
  .cases d<;>first|(simp only[clo]at hd;omega)|(simp only[a2w,b])
  .cases d<;>first|(simp only[clo]at hd;omega)|(simp only[a2w,c])
theorem Pu.of{ds:List D}(hn:ds.length=n)(cd:∀x∈ds,clo 0 x)(e:F ds []=r)(z:ag2 0 r=.ok d [])(c:clo 0 d):Pu F n ds d:=λh=>by
 obtain⟨p1,p2,_⟩:=a6g cd;unfold jg;rw[aU hn];unfold azs;rw[p1];simp only[a1u,e9,cG,eV];rw[aU ⟨fP,λx hx=>.inl (cd x hx),λo ho=>by simp at ho⟩,p2,e,z]
 simp[c,yc]
theorem Dr.of{ds:List D}(hn:ds.length+1=n)(cd:∀x∈ds,clo 0 x)(co:a5q 0 o)(e:F (.ref 0::ds) [o]=r)(z:ag2 1 r=.ok d [o'])(c:clo 0 d)(co':a5q 0 o'):Dr F n ds o d o':=λp h hp=>by
 obtain⟨p1,_,p3⟩:=a6g cd;have e1:a3v (.ref p::ds)=[p]:=by
  have:a3v (.ref p::ds)=p::a3v ds:=rfl
  rw[this,p1]
 have e2:a2w 0 (.ref p::ds)=.ref 0::ds:=by
  have:a2w 0 (.ref p::ds)=.ref 0::a2w 1 ds:=rfl
  rw[this,p3]
 unfold jg;rw[aU (by simpa using hn)]
 unfold azs;rw[e1];simp only[a1u,hp,aM,cG,eV];have all:∀x∈(D.ref p::ds),clo 0 x\/isRef x:=λx hx=>by
  rcases aP.mp hx with rfl|hx
  .exact .inr ⟨p,rfl⟩
  .exact .inl (cd x hx)
 rw[aU ⟨by simp,all,λu hu=>by rw[av.mp hu];exact co⟩,e2,e,z]
 simp[c,co',yc]
theorem b02{ds:List D}(hn:ds.length=n)(cd:∀x∈ds,clo 0 x)(e:F ds []=.ok (.ref i) h1)(ho:h1[i]? = some o)(co:a5q 0 o)(h:Hd):jg true n F ds h=.ok (.ref h.length) (h++[o]):=by
 obtain⟨p1,p2,_⟩:=a6g cd;unfold jg;rw[aU hn];unfold azs;rw[p1];simp only[a1u,e9,dQ];rw[aU ⟨fP,λx hx=>.inl (cd x hx),λo ho=>by simp at ho⟩,p2,e]
 unfold awm;simp only[ho];rw[aU ⟨bU _,co,by simp⟩]
 simp[co,yc]
theorem aoc(g:SG)(b:SS)(τ:Sd)(h:Hd):forL (λ_=>True) g b [] τ h=.nx τ h:=by rw[forL,aU True.intro]
noncomputable def trn(r:Fl)(k:Sd->Hd->Fl):Fl:=match r with|.nx τ h=>k τ h|.ct τ h=>k τ h|.bk τ h=>.nx τ h|r=>r
theorem ajp(g:SG)(b:SS)(x:D)(xs:List D)(τ τ1:Sd)(h h1:Hd)(e:g x τ h=.nx τ1 h1):forL (λ_=>True) g b (x::xs) τ h=trn (b τ1 h1) (forL (λ_=>True) g b xs):=by
 rw[forL,aU True.intro,e];dsimp only;unfold trn
 cases b τ1 h1<;>rfl
theorem b03(τ:Sd)(h:Hd)(k:Sd->Hd->Fl):trn (.nx τ h) k=k τ h:=rfl
theorem b04(d:D)(h:Hd)(k:Sd->Hd->Fl):trn (.rt d h) k=.rt d h:=rfl
theorem a2b{g:SG}{b:SS}{α:Type}(f:α->D)(I:List α->Sd->Hd->Prop)(Rt:D->Hd->Prop):∀(xs pre:List α) (τ:Sd) (h:Hd),
  (∀pre' x post τ h,pre++xs=pre'++x::post->I pre' τ h->∃τ1 h1,g (f x) τ h=.nx τ1 h1/\((∃τ2 h2,b τ1 h1=.nx τ2 h2/\I (pre'++[x]) τ2 h2)\/∃d h2,b τ1 h1=.rt d h2/\Rt d h2))->I pre τ h->
  (∃τ' h',forL (λ_=>True) g b (xs.map f) τ h=.nx τ' h'/\I (pre++xs) τ' h')\/∃d h',forL (λ_=>True) g b (xs.map f) τ h=.rt d h'/\Rt d h'
 |[],pre,τ,h,_,i0=>.inl ⟨τ,h,aoc ..,by simpa using i0⟩
 |x::xs,pre,τ,h,st,i0=>by
  obtain⟨τ1,h1,e1,q⟩:=st pre x xs τ h rfl i0;rw[bg,ajp _ _ _ _ _ _ _ _ e1]
  rcases q with⟨τ2,h2,e2,i2⟩|⟨d,h2,e2,r⟩
  .rw[e2,b03];have:=a2b f I Rt xs (pre++[x]) τ2 h2 (λpre' y post τ h e=>st pre' y post τ h (by simpa using e)) i2
   simpa using this
  .rw[e2,b04];exact .inr ⟨d,h2,rfl,r⟩
theorem o7{g:SG}{b:SS}{α:Type}(f:α->D)(I:List α->Sd->Hd->Prop)(xs:List α)(τ:Sd)(h:Hd)
  (st:∀pre x post τ h,xs=pre++x::post->I pre τ h->∃τ1 h1,g (f x) τ h=.nx τ1 h1/\∃τ2 h2,b τ1 h1=.nx τ2 h2/\I (pre++[x]) τ2 h2) (i0:I [] τ h) :
  ∃τ' h',forL (λ_=>True) g b (xs.map f) τ h=.nx τ' h'/\I xs τ' h':=by
 rcases a2b f I (λ_ _=>False) xs [] τ h (λpre' x post τ h e i=>let ⟨τ1,h1,a,b⟩:=st pre' x post τ h e i; ⟨τ1,h1,a,.inl b⟩) i0 with⟨τ',h',a,b⟩|⟨_,_,_,z⟩
 .exact⟨τ',h',a,b⟩
 .exact z.elim
theorem a9e{f:D->Hd->R D}{α:Type}(g:α->D)(I:List α->List D->Hd->Prop):∀(xs pre:List α) (ys:List D) (h:Hd),
  (∀pre' x post ys h,pre++xs=pre'++x::post->I pre' ys h->∃y h',f (g x) h=.ok y h'/\I (pre'++[x]) (ys++[y]) h')->I pre ys h->∃zs h',mapR (λ_=>True) f (xs.map g) h=.ok zs h'/\I (pre++xs) (ys++zs) h'
 |[],pre,ys,h,_,i0=>⟨[],h,by rw[dM,mapR,aU True.intro],by simpa using i0⟩
 |x::xs,pre,ys,h,st,i0=>by
  obtain⟨y,h1,e1,i1⟩:=st pre x xs ys h rfl i0;obtain⟨zs,h',e2,i2⟩:=a9e g I xs (pre++[x]) (ys++[y]) h1 (λpre' z post ys h e=>st pre' z post ys h (by simpa using e)) i1
  refine⟨y::zs,h',?_,by simpa using i2⟩
  rw[bg,mapR,aU True.intro,e1];show(mapR _ f (xs.map g) h1).bind _=_;rw[e2];rfl
theorem abf{f:D->Hd->R D}{α:Type}(g F:α->D){h:Hd}:∀{xs:List α},(∀x∈xs,f (g x) h=.ok (F x) h)->mapR (λ_=>True) f (xs.map g) h=.ok (xs.map F) h
 |[],_=>by rw[dM,mapR,aU True.intro];rfl
 |x::xs,st=>by
  rw[bg,mapR,aU True.intro,st x aT];show(mapR _ f (xs.map g) h).bind _=_;rw[abf g F λy hy=>st y (aI _ hy)];rfl
theorem abg{f:D->Hd->R (Option D)}{α:Type}(g:α->D)(F:α->Option D){h:Hd}:∀{xs:List α},(∀x∈xs,f (g x) h=.ok (F x) h)->amg (λ_=>True) f (xs.map g) h=.ok (xs.filterMap F) h
 |[],_=>by rw[dM,amg,aU True.intro];rfl
 |x::xs,st=>by
  rw[bg,amg,aU True.intro,st x aT];show(amg _ f (xs.map g) h).bind _=_;rw[abg g F λy hy=>st y (aI _ hy)];show R.ok ((F x).toList++xs.filterMap F) h=_
  cases e:F x<;>simp[de,e]
theorem ajq(I:Nat->Sd->Hd->Prop)(N:Sd->Hd->Prop)(Rt:D->Hd->Prop)
  (st:∀m τ h,I m τ h->(∃h1,c τ h=.ok false h1/\N τ h1)\/∃h1,c τ h=.ok true h1/\((∃τ2 h2 m',f τ h1=.nx τ2 h2/\m'<m/\I m' τ2 h2)\/∃d h2,f τ h1=.rt d h2/\Rt d h2)) :
  ∀(m n:Nat) (τ:Sd) (h:Hd),m<n->I m τ h->(∃τ' h',sWh c f n τ h=.nx τ' h'/\N τ' h')\/∃d h',sWh c f n τ h=.rt d h'/\Rt d h':=by
 intro m
 induction m using Nat.strongRecOn with
 |ind m ih =>
  intro n τ h hn i0
  cases n with
  |zero=>omega
  |succ n =>
   rcases st m τ h i0 with⟨h1,e1,q⟩|⟨h1,e1,q⟩
   .exact .inl ⟨τ,h1,by rw[sWh,e1];rfl,q⟩
   .rcases q with⟨τ2,h2,m',e2,lt,i2⟩|⟨d,h2,e2,r⟩
    .have e3:sWh c f (n+1) τ h=sWh c f n τ2 h2:=by
      rw[sWh,e1,a1i,aU rfl,e2]
     rw[e3];exact ih m' lt n τ2 h2 (by omega) i2
    .refine .inr ⟨d,h2,?_,r⟩;rw[sWh,e1,a1i,aU rfl,e2]
structure KD (P:Program) (w:World) (K:Fg) (a:Addr) (kvs:List (Str×Str)):Prop where
 sys:(a == sysModules)=false
 ex:∃(o:Obj) (vs:List (Key×Value)),K.lookup a=some o/\KV (kvs.map λp=>((.inr p.1:Key),V.str p.2)) vs/\∀h:Heap,h.get? a=some o->h.DictOf (kh P w) a vs
section
variable{X:Cx}{E:XD}{e:Expr}{fa:SE}{pos p:Pos}{a:Addr}{kvs:List (Str×Str)}{x:Str}
theorem KD.at(kd:KD X.prog X.w X.K a kvs)(I:Inv X aA Z H s):∃vs,KV (kvs.map λp=>((.inr p.1:Key),V.str p.2)) vs/\s.heap.DictOf (kh X.prog X.w) a vs:=by
 obtain⟨o,vs,l,r,d⟩:=kd.ex;exact⟨vs,r,d _ (I.bk _ _ (I.mod.kin _ _ l))⟩
end
mutual
def toPy:D->Option PyData
 |.non=>some .none
 |.bl b=>some (.bool b)
 |.int i=>some (.int i)
 |.str x=>some (.str x)
 |.tup xs=>(av2 xs).map .tuple
 |.rol xs=>(av2 xs).map .list
 |.rod [] []=>some (.dict [])
 |_=>none
def av2:List D->Option (List PyData)
 |[]=>some []
 |x::xs=>match toPy x,av2 xs with|some p,some ps=>some (p::ps)|_,_=>none
end
mutual
def noL:D->Bool
 |.rol _=>false
 |.tup xs=>b4r xs
 |_=>true
def b4r:List D->Bool
 |[]=>true
 |x::xs=>noL x && b4r xs
end
theorem abh:CallR X (.builtin "isinstance") (λxs H Q=>∃a o us T b,xs=[.ref a,.ty T]/\H a=some (.frz o (.dK us))/\PySem.W.kitOne X.K (.type "dict") (.type T)=some b/\Q (.bl b) H):=by
 intro aA s Z H xs us Q I r h
 obtain⟨a,o,kv,T,b,rfl,ea,e,q⟩:=h;obtain⟨u,w',rfl,rx,rt⟩:=vals2 r;cases rt
 obtain rfl:u=Value.ref a:=rx
 obtain⟨_,_,_,vs,_,p⟩:=(show ObjOk X.prog X.w H s.heap a (.frz o (.dK kv)) from I.hok a _ ea)
 obtain⟨o',es,ep,h1,h2,_⟩:=p;exact cJ hR I.kIn ⟨o',h1,h2.1⟩ e (λz=>nomatch z) λtk=>⟨.bl b,H,I.tok tk,rfl,q⟩
noncomputable def qw:List D->Hd->R D
 |[.rod ks xs,.ty T],h=>(match aee "dict" T with|some b=>.ok (.bl b) h|none=>.no)
 |ds,h=>ah8 ds h
theorem aod:afx K qw (λxs H Q=>(∃x T t b,xs=[x,.ty T]/\TyOf K H x t/\PySem.W.kitOne K t (.type T)=some b/\Q (.bl b) H)\/∃a o us T b,xs=[.ref a,.ty T]/\H a=some (.frz o (.dK us))/\PySem.W.kitOne K (.type "dict") (.type T)=some b/\Q (.bl b) H):=by
 intro E U H h xs ds Q r hr o
 unfold qw at o
 split at o
 .split at o
  .rename_i b hb
   cases r with
   |cons r1 rs =>
    cases rs with
    |cons r2 rs2 =>
     cases rs2
     cases r2
     cases r1 with
     |rod hp ek rr=>exact .inr ⟨_,_,_,_,b,rfl,hp,aiv hb,ans o (.bl _) hr⟩
  .exact o.elim
 .exact .inl (au6 E U H h xs _ Q r hr o)
end MI
namespace SRC
open L2 MI
def vy:SE :=
 (s2 jb (s2 a0p (sI 2) (sA b1y (aa (sV 0) bc))) (sA au4 (aa (s2 gLt (sV 0) (sI 0)) bc)))
def zj:SS :=
 (di (jj 1 (sZ (ji (sIt (sZ (a6z (sV 0) oN (oS (sI 63))))) t1 vy [])))
 (my (sA a5m (aa (sV 1) (aa (sI 0) (aa (sI 0) (aa (sI 0) (aa (s2 a5z (sA azj (aa (sV 1) bc)) (sI 2147483647)) bc))))))))
def a1j:SS :=
 (di (a3i a0b (sV 0) (sI 3) (sI 1))
 (di (sIf (a2n (sT (s2 hEq (s2 gIx (sV 0) (sI 2)) (sI 0))) (sT (s2 gLt (s2 gIx (sV 0) (sI 1)) (sA vm (aa (s2 gIx (sV 0) (sI 0)) bc)))))
 (di (jj 2 (s2 gIx (s2 gIx (sV 0) (sI 0)) (s2 gIx (sV 0) (sI 1))))
 (di (a3i a0b (sV 0) (sI 1) (sI 1))
 (sIf (sT (s2 gGe (sV 2) (s2 a7y (sI 10) (sI 18))))
 (afz (sV 2) (sV 0) (sI 2))
 (afz (s2 a5z (s2 jb (s2 a0p (s2 gIx (sV 0) (sI 4)) (sI 31)) (sV 2)) (sI 2147483647)) (sV 0) (sI 4)))))
 sNx)
 (di (sIf (sT (s2 gGt (s2 gIx (sV 0) (sI 2)) (sI 0)))
 (di (jj 3 (s2 a5z (s2 gIx (sV 0) (sI 2)) (sV 1)))
 (di (a3i ac6 (sV 0) (sI 2) (sV 1))
 (my (sV 3))))
 sNx)
 (di (jj 3 (s2 a5z (s2 a7y (s2 jb (s2 jb (s2 gIx (sV 0) (sI 4)) (sI 1)) (s2 a0p (s2 gIx (sV 0) (sI 3)) (sI 7919))) (sI 3)) (sI 2147483647)))
 (my (s2 a5z (s2 ac6 (s2 a5z (s2 a7y (s2 jb (s2 a0p (sV 3) (sI 48271)) (s2 gIx (sV 0) (sI 3))) (sI 2)) (sI 2147483629)) (sI 64)) (sV 1)))))))
def yh:SS :=
 (di (jj 0 (sC (.str " !\"#$&'()*+,-./0123456789:;<=>?@ABCDEFGHIJKLMNOPQRSTUVWXYZ[\\]^_`")))
 (my (s2 jb (sV 0) (sC (.str "abcdefghijklmnopqrstuvwxyz{|}~\n")))))
def vz(aj:SF)(lq:SF):SS :=
 (di (jj 4 (sA (jg false 2 aj) (aa (sV 0) (aa (sA vm (aa (sV 1) bc)) bc))))
 (di (aag 2 a0b (s2 gIx (sV 1) (sV 4)))
 (jj 1 (s2 jb (a6z (sV 1) oN (oS (sV 4))) (a6z (sV 1) (oS (s2 jb (sV 4) (sI 1))) oN)))))
def zp(aj:SF)(lq:SF):SS :=
 (di (jj 1 (sA (jg false 0 lq) bc))
 (di (jj 2 (sC (.str "")))
 (di (a3f (sRg zg (aa (s2 jb (sI 1) (sA (jg false 2 aj) (aa (sV 0) (aa (sI 6) bc)))) bc)) (kN 3) (vz aj lq))
 (my (sV 2)))))
def uo(aj:SF):SS :=
 (a1x (sML a7z (sV 3) (aa (ab0 (sT (s2 gLt (sA (jg false 2 aj) (aa (sV 0) (aa (sI 5) bc))) (sI 2))) (sA (jg false 2 aj) (aa (sV 0) (aa (sI 6) bc))) (s1 a1b (sI 1))) bc)))
def uq(aj:SF):SE :=
 (sA (jg false 2 aj) (aa (sV 1) (aa (sV 2) bc)))
def a1c(aj:SF):SE :=
 (ab0 (a2n (sT (s2 gLt (s2 gIx (sV 2) (sV 0)) (sI 0))) (sT (s2 gLe (sV 0) (sV 3)))) (s2 afj (sV 1) (sI 1)) (sV 0))
def yu(aj:SF):SE :=
 (sV 1)
def qm(aj:SF):SS :=
 (di (jj 7 (sZ (ji (sIt (sV 1)) t1 (uq aj) [0,2])))
 (di (sIf (sT (s2 gGt (sV 5) (sI 0)))
 (jj 7 (sZ (ji (sIt (sV 7)) t1 (a1c aj) [2,3,4])))
 sNx)
 (di (sIf (a2n (sT (s2 hEq (sV 5) (sI 1))) (sT (s2 hEq (sV 4) (s2 afj (sV 2) (sI 1)))))
 (jj 7 (sZ (ji (sIt (sV 7)) t1 (yu aj) [4])))
 sNx)
 (a1x (sML a7z (sV 6) (aa (sV 7) bc))))))
def a3y(aj:SF):SS :=
 (di (jj 3 (sA a5m (aa (s1 a1b (sI 1)) bc)))
 (di (a3f (sRg a4m (aa (sI 1) (aa (sV 2) bc))) (kN 4) (uo aj))
 (di (jj 5 (sA (jg false 2 aj) (aa (sV 0) (aa (sI 3) bc))))
 (di (jj 6 (sA a5m bc))
 (di (a3f (sRg zg (aa (sV 2) bc)) (kN 4) (qm aj))
 (my (sA a0r (aa (sV 6) (aa (sV 3) bc)))))))))
def ur(aj:SF)(gj:SF)(dj:SF):SS :=
 (sIf (sT (s2 (gIn true) (sV 8) (sV 6)))
 (a1x (sML a7z (sV 6) (aa (sV 8) bc)))
 sNx)
def yw(aj:SF)(gj:SF)(dj:SF):ST :=
 (sT (s2 gLt (sV 7) (sA vm (aa (sV 6) bc))))
def ut(aj:SF)(gj:SF)(dj:SF):SS :=
 (di (a3f (sIt (s2 gIx (sV 4) (s2 gIx (sV 6) (sV 7)))) (kN 8) (ur aj gj dj))
 (aag 7 a0b (sI 1)))
def yx(aj:SF)(gj:SF)(dj:SF):SE :=
 (sML a70 (sV 1) (aa (sV 0) bc))
def uv(aj:SF)(gj:SF)(dj:SF):SE :=
 (sA ug (aa (sZ (ji (sIt (s2 gIx (sV 1) (sV 0))) t1 (yx aj gj dj) [2])) bc))
def uw(aj:SF)(gj:SF)(dj:SF):SE :=
 (s2 gIx (sV 1) (sV 0))
def a0e(aj:SF)(gj:SF)(dj:SF):SS :=
 (di (jj 2 (sA (jg false 1 dj) (aa (sV 0) bc)))
 (di (jj 3 (s2 jb (sI 2) (sA (jg false 2 aj) (aa (sV 0) (aa (sI 7) bc)))))
 (di (sIf (sT (s2 hEq (sA (jg false 2 aj) (aa (sV 0) (aa (sI 6) bc))) (sI 0)))
 (jj 3 (s2 jb (sI 1) (sA (jg false 2 aj) (aa (sV 0) (aa (sV 1) bc)))))
 sNx)
 (di (a4l (sA (jg false 3 gj) (aa (sV 0) (aa (sV 2) (aa (sA ab5 (aa (sV 3) (aa (sV 1) bc))) bc)))) (a0n 2 (dq (kN 4) (dq (kN 5) a0t))))
 (di (jj 6 (sA a5m (aa (sI 0) bc)))
 (di (jj 7 (sI 0))
 (di (sWh (yw aj gj dj) (ut aj gj dj) 100000)
 (di (jj 6 (sA a3w (aa (sV 6) bc)))
 (di (jj 9 (sA ug (aa (sZ (ji (sIt (sV 6)) t1 (uv aj gj dj) [4,6])) bc)))
 (my (sA a0r (aa (sV 2) (aa (sV 9) (aa (sA ug (aa (sZ (ji (sIt (sV 6)) t1 (uw aj gj dj) [5])) bc)) bc))))))))))))))
def ux:SS :=
 (di (jj 3 (s2 gIx (s2 gIx (s2 gIx (sV 0) (sI 1)) (sV 3)) (sMS aiw (s2 gIx (sV 0) (sI 0)) (aa (s2 gIx (sV 1) (sV 5)) bc))))
 (sIf (sT (s2 gGe (s2 gIx (s2 gIx (sV 0) (sI 2)) (sV 3)) (sI 0)))
 (jj 4 (sA a0r (aa (s2 gIx (s2 gIx (sV 0) (sI 2)) (sV 3)) (aa (s2 jb (sV 5) (sI 1)) bc))))
 sNx))
def a0f:SS :=
 (di (jj 3 (sI 0))
 (di (jj 4 (sC .non))
 (di (a3f (sRg a4m (aa (sV 2) (aa (sA vm (aa (sV 1) bc)) bc))) (kN 5) ux)
 (my (sV 4)))))
def n6:SS :=
 (sIf (sOr (a4f (a1w (sA qw (aa (sV 2) (aa (sC (.ty "int")) bc))))) (a1w (sA qw (aa (sV 2) (aa (sC (.ty "bool")) bc)))))
 (my (sC (.bl false)))
 sNx)
def qd:SS :=
 (di (sIf (sOr (a4f (a1w (sA qw (aa (sV 0) (aa (sC (.ty "tuple")) bc))))) (sT (s2 hNe (sA vm (aa (sV 0) bc)) (sV 1))))
 (my (sC (.bl false)))
 sNx)
 (di (a3f (sIt (sV 0)) (kN 2) n6)
 (my (sC (.bl true)))))
end SRC
namespace L2
open PySem.W PyProof.Rows Builtin Builtin.ObjectAttr Builtin.Getset_descriptor
section
variable{prog:Program}{w:World}{A:Around}{E:Value->Shared->Prop}{s:Shared}{K:Frag}{x D:Addr}{ox:Obj}{odo:Option Obj}
structure XKit (K:Frag) (D:Addr):Prop where
 ga:findIn K (.ref D) "__getattribute__" = some (some (.builtin "BaseException.__getattribute__"))
 gn:findIn K (.ref D) "__getattr__" = some none
 cl:(clsIn K D).isSome=true
 ca:findIn K (.ref D) "__class__" = some (some (.builtin "object.__class__"))
 sp:specialIn K (.builtin "object.__class__") "__get__" = some (some (.builtin "getset_descriptor.__get__"))
 tk:takesIn K (.builtin "object.__class__")=some true
 ob:mroIn K D (.type "object")=some true
 be:subIn K (.ref D) (.type "BaseException")=some true
 kc:kitCls K (.ref D) (.ref D)=some true
theorem XKit.at(Z:XKit K D):∃c o cd sl,K.lookup D=some ⟨c,o,.cls cd,sl⟩:=by
 have:=Z.cl
 unfold clsIn at this
 split at this
 .exact⟨_,_,_,_, ‹_›⟩
 .cases this
end
end L2
namespace ZP
open PySem.Builtin PySem.Builtin.SmallTypes L2
noncomputable def qt(it:Addr)(a:Int):Obj:={cls:=.type "enumerate",data:=.fields #[.none,.bool false,.ref it,rawInt a,.none,.none]}
theorem agb(t:Tok)(k:Srk)(us:List Value)(a:Int)(u:Tok)(hf:fitsIndex a=true):Meets (Builtin.«enumerate.__new__» ⟨[.type "enumerate",val t k],[(Str.ofString "start",.int a u)]⟩)
  (λ_ R s=>cont s.heap k us/\R (.ok (.ret (.ref (s.heap.objs.size+1)))) {s with heap:=(s.heap.push (iob t k)).push (qt s.heap.objs.size a)}) :=
 .of_wp λprog w A R s h=>by
  obtain⟨hp,g,d,tk,os⟩:=s;obtain⟨c,h⟩:=h;have sub:=sub_enumerate;have c':cont (Shared.heap ⟨hp,g,d,tk,os⟩) k us:=c;have fin:R (.ok (.ret (.ref (hp.push (iob t k)).objs.size))) {heap:=(hp.push (iob t k)).push (qt hp.objs.size a),gens:=g,drawn:=d,toks:=tk,os:=os}:=by simpa[cb] using h
  have ks:((Str.ofString "start") == (Str.ofString "start"))=true:=dU _
  wp_walk
  refine wpAny_stack_any λst=>aJ ?_
  split
  .rename_i cl _ _ _ _ _
   cases (cl == Value.type "enumerate")
   .wp_walk using a0w (t:=t) c'
    exact⟨_,rfl,fin⟩
   .wp_walk using a0w (t:=t) c'
    exact⟨_,rfl,fin⟩
  .wp_walk using a0w (t:=t) c'
   exact⟨_,rfl,fin⟩
def Is2(r0:Result)(s0:Shared):Result->Shared->Prop:=λr s1=>r=r0/\s1=s0
theorem ajr:Meets (Builtin.«object.__init__» ⟨[self,v],[(Str.ofString "start",.int a u)]⟩) (λ_ R s=>s.TypeIs self "enumerate"/\R (.ok (.ret .none)) s) :=
 .of_wp λprog w A R s h=>by
  obtain⟨hT,hq⟩:=h;have hl:=fF.init.lookup;have hm:=fF.made
  wp_walk
  exact⟨_,rfl,hq⟩
theorem acv{s:Shared}(hf:fitsIndex a=true)(c:cont s.heap k us)
  (q:Q (.ref (s.heap.objs.size+1)) {s with heap:=(s.heap.push (iob t k)).push (qt s.heap.objs.size a)}):wpAny (model prog w) A (call (.type "enumerate") [val t k] [(Str.ofString "start",.int a u)]) Q E s:=by
 have hct:checkTypeCall "enumerate" ⟨[val t k],[(Str.ofString "start",.int a u)]⟩=pure ():=by kernel_rfl
 have hcn:checkBuiltinCall "enumerate.__new__" ⟨[.type "enumerate",val t k],[(Str.ofString "start",.int a u)]⟩=pure ():=by kernel_rfl
 have hok:∀obj,argsOk "object.__init__" ⟨[obj,val t k],[(Str.ofString "start",.int a u)]⟩:=λobj=>by unfold argsOk;kernel_rfl
 obtain⟨h1,h2,⟨c0,tl,hmro⟩,hmade,hpl,hsub,hini⟩:=fF;refine wpAny_call (gH ?_);show wpAny _ _ (callAny (.type "enumerate") _) _ _ _;refine aJ ⟨Code.quiet_builtin _ (by decide +kernel),gI F.entry_type_call ?_⟩
 rw[Around.under_plain (weight_type_call_type _ _ _) (units_type_call_type _ _ _)]
 wp_walk
 have hT:Shared.TypeIs {s with heap:=(s.heap.push (iob t k)).push (qt s.heap.objs.size a)} (.ref (s.heap.objs.size+1)) "enumerate":=by
  refine⟨qt s.heap.objs.size a,?_,rfl⟩;have:=aO (o:=qt s.heap.objs.size a) (s.heap.push (iob t k)) rfl;rw[cb]at this;exact this
 have hli:=hini.lookup;have hbi:=hini.bind (.ref (s.heap.objs.size+1));have N1:codeAny (model prog w) A.in1 (Code.call (.builtin "enumerate.__new__") ⟨[.type "enumerate",val t k],[(Str.ofString "start",.int a u)]⟩) (Is2 (.ok (.ret (.ref (s.heap.objs.size+1)))) {s with heap:=(s.heap.push (iob t k)).push (qt s.heap.objs.size a)}) s :=
  codeAny_call_builtin hpl F.entry_enumerate_new (fA hcn (agb t k us a u hf prog w A.in1 (Is2 (.ok (.ret (.ref (s.heap.objs.size+1)))) {s with heap:=(s.heap.push (iob t k)).push (qt s.heap.objs.size a)}) s ⟨c,rfl,rfl⟩))
 have N2:codeAny (model prog w) A.in1 (Code.call (.builtin "object.__init__") ⟨[.ref (s.heap.objs.size+1),val t k],[(Str.ofString "start",.int a u)]⟩) (Is2 (.ok (.ret .none)) {s with heap:=(s.heap.push (iob t k)).push (qt s.heap.objs.size a)}) {s with heap:=(s.heap.push (iob t k)).push (qt s.heap.objs.size a)} :=
  codeAny_call_builtin hini.plain F.entry_object_init (hini.check _ _ _ _ _ _ _ _ hT (hok _) (ajr prog w A.in1 (Is2 (.ok (.ret .none)) {s with heap:=(s.heap.push (iob t k)).push (qt s.heap.objs.size a)}) {s with heap:=(s.heap.push (iob t k)).push (qt s.heap.objs.size a)} ⟨hT,rfl,rfl⟩))
 refine fQ N1 λr s1 hr=>?_;obtain⟨rfl,rfl⟩:=hr;dsimp only
 wp_walk
 refine fQ N2 λr s1 hr=>?_;obtain⟨rfl,rfl⟩:=hr;dsimp only
 wp_walk
 exact q
theorem shifted{prog:Program}{w:World}{A:Around}{it:Addr}{fp:List Addr}{n:Nat}{P:Nat->Value->Prop}{St:Nat->Heap->Prop}(a:Nat)(D:Draws prog w A it fp n P St) :
  Draws prog w A it fp (a+n) (λi v=>P (i-a) v) (λi h=>a<=i/\St (i-a) h) where
 live:=λi h z=>D.live _ h z.2
 frame:=λi h h' z k=>⟨z.1,D.frame _ h h' z.2 k⟩
 item:=λi s Q E hi z hQ=>D.item (i-a) s Q E (by omega) z.2 λx h' tk p st sb=>hQ x h' tk p ⟨Nat.le_succ_of_le z.1,by rw[Nat.succ_sub z.1];exact st⟩ sb
 done:=λs Q E z hE=>D.done s Q E (by have:=z.2;rwa[eI]at this) hE
noncomputable def b3l(a:Nat)(k:Srk):It where
 go:=λi H=>∃xs x,its H k=some xs/\xs[i]? = some x
 yld:=λi H v H'=>∃xs x p,its H k=some xs/\xs[i]? = some x/\H p=none/\v=.ref p/\H'=upd H p (.tup [.int ((a+i:Nat):Int),x])
 stop:=λi H=>∃xs,its H k=some xs/\i=xs.length
def b4s(a:Nat)(e it:Addr)(t:Tok)(k:Srk)(i:Nat)(h:Heap):Prop:=(∃old,IsEnum h e it ((a+i:Nat):Int) old)/\own it t k i h
theorem agc(ne:e≠it):Turn P w K (.Tuple elts x1 pos) (b3l a k) [e,it] e (b4s a e it t k) where
 mem:=by simp
 obj:=λi h st b hb=>by
  obtain⟨⟨old,h1⟩,h4⟩:=st;simp only[aP,bp,cH]at hb
  rcases hb with rfl|rfl
  .exact⟨_,h1,λv z=>(by cases z)⟩
  .exact a2t h4
 keep:=λi h h' st kk=>by
  obtain⟨⟨old,h1⟩,h4⟩:=st;exact⟨⟨old,kk e (by simp) _ h1⟩,a0v h4 λob q=>kk it (by simp) ob q⟩
 item:=by
  intro X hP hw hK hc i aA s Z H E I hf st hg
  subst hP hw hK;obtain⟨xs,x,e1,g1⟩:=hg;obtain⟨⟨old,h1⟩,h4⟩:=st;have n:∀c∈[e,it],H c=none:=λc hc=>(hf c hc).1;obtain⟨cs,P1,S1,D1,a1,b1,c1,d1⟩:=a2u I (t:=t) e1 (n it (by simp))
  have hd:=I.ok.hd hc;have ef:e∉it::cs:=by
   intro z
   rcases aP.mp z with z|z
   .exact ne z
   .exact c1 e z (n e (by simp))
  have li:a+i<a+xs.length:=Nat.add_lt_add_left (ah.mp g1).1 a;refine wpAny_pyNext_enum_itemD (shifted a (D1 X.A.in1 hd)) h1 ⟨Nat.le_add_right _ _,by rw[eI];exact a1 i h4⟩ li ne ef λu h' tk pu eo s1' pr sz kp=>?_
  obtain⟨_,s1'⟩:=s1';rw[iB,eI]at s1';rw[eI]at pu;obtain⟨x',q1,r1⟩:=d1 i u pu;rw[g1]at q1;cases q1
  refine⟨_,rfl,wpAny_letOwnedTupleGo_enum eo λh2' z2' sb=>?_⟩;have hp:H s.heap.objs.size=none:=I.hok.fresh (ay _);have lt:∀c∈[e,it],c<s.heap.objs.size:=λc hc=>by
   simp only[aP,bp,cH]at hc
   rcases hc with rfl|rfl
   .exact aX h1
   .obtain⟨_,q,_⟩:=a2t h4;exact aX q
  have nT:∀c∈[e,it],c≠s.heap.objs.size:=λc hc=>bT (lt c hc);have all:∀c o,c∉[e,it]->s.heap.get? c=some o->h2'.get? c=some o:=λc o nc q=>by
   simp only[aP,bp,cH,not_or]at nc;exact(sb.2 c nc.1).trans (kp c o nc.1 nc.2 q)
  have I0:Inv X aA Z (upd H s.heap.objs.size (.tup [.int ((a+i:Nat):Int),x])) {s with heap:=s.heap.push {cls:=.type "tuple",data:=.seq #[.int ((a+i:Nat):Int) tk,u]} } :=
   I.laid (t':=s.toks) (o:=.tup [.int ((a+i:Nat):Int),x]) (λb o q=>ar _ q) (ay _) ⟨by show 2<=sizeLine;decide,[.int ((a+i:Nat):Int) tk,u],.cons ⟨tk,rfl⟩ (.cons r1 .nil),⟨_,aO _ rfl,rfl,_,rfl⟩⟩
  have I1:Inv X aA Z (upd H s.heap.objs.size (.tup [.int ((a+i:Nat):Int),x])) {s with heap:=h2',toks:=tk+1}:=by
   refine a2v (s:={s with heap:=s.heap.push {cls:=.type "tuple",data:=.seq #[.int ((a+i:Nat):Int) tk,u]} }) (ch:=[e,it]) I0 (λb hb=>?_) λc o nc q=>?_
   .obtain⟨f0,f1⟩:=hf b hb;exact⟨by rw[ik (nT b hb)];exact f0,f1⟩
   .rcases fg q with⟨rfl,rfl⟩|q
    .exact(sb.2 _ (nT e (by simp)).symm).trans pr
    .exact all c o nc q
  refine⟨.ref s.heap.objs.size,_,I1,rfl,⟨xs,x,_,e1,g1,hp,rfl,rfl⟩,⟨⟨u,by simpa[Int.add_assoc] using z2'⟩,a0v (b1 _ _ s1') λob q=>(sb.2 _ ne.symm).trans q⟩,λb hb=>?_⟩
  rw[ik (nT b hb)];exact n b hb
 done:=by
  intro X hP hw hK hc i aA s Z H E I hf st hg
  subst hP hw hK;obtain⟨xs,e1,rfl⟩:=hg;obtain⟨⟨old,h1⟩,h4⟩:=st;have n:∀c∈[e,it],H c=none:=λc hc=>(hf c hc).1;obtain⟨cs,P1,S1,D1,a1,b1,c1,d1⟩:=a2u I (t:=t) e1 (n it (by simp))
  have hd:=I.ok.hd hc;refine wpAny_pyNext_enum_endD (D1 X.A.in1 hd) h1 (a1 _ h4) λh' ex=>⟨rfl,a2v (t':=s.toks) I hf λc o nc q=>?_⟩;simp only[aP,bp,cH,not_or]at nc;exact ex c o nc.2 q
 self:=λ_ _ _ _ _ st h=>by
  obtain⟨⟨old,h1⟩,_⟩:=st;exact fL h1 h
section
variable{X:Cx}{elts:List Expr}{x1:Nat}{tpos:Pos}
noncomputable def b05(ta tk:TA):TI:=λZ H R=>ta Z H λvs H1=>tk Z H1 λzs H2=>∃k xs,∃a:Nat,vs=[Srk.v k]/\its H2 k=some xs/\zs=[.int (a:Nat)]/\a<=16777216/\R (b3l a k) H2
theorem aoe(hg:Gl X "enumerate")(hm:X.mg "enumerate" = none)(ha:PA X [e1] ta)(hkw:PK X [⟨some "start",e2,kpos⟩] tk)
  (h1:starEach [e1] X.env=[(false,eval e1 X.env)]:=by rfl):PI X (.Tuple elts x1 tpos) (.Call (.Name "enumerate" p) [e1] [⟨some "start",e2,kpos⟩] pos) (b05 ta tk):=by
 intro aA s Z H R I h
 refine dG (a3j I hg hm gG ?_ (by decide) (by decide))
 have hpl:((backTo pos (starEach [e1] X.env)).any (·.1) || (backToKw pos (keywordEach [⟨some "start",e2,kpos⟩] X.env)).any (·.1.isNone))=false:=by rw[h1];rfl
 refine PySem.W.callWith_of (P:=λ_=>True) hpl (λh _=>⟨.machine,.inr (.inl rfl),PySem.W.Looks.of_pure rfl⟩) (PyProof.Rows.evalArgs_kw2 (by rfl) (thn (ha pos aA s Z H _ I h) λus s1 ⟨vs,H1,I1,r,q⟩=>?_) (by rw[h1];rfl))
 refine thn (hkw pos aA s1 Z H1 _ I1 q) λws s2 ⟨zs,H2,I2,rz,q2⟩=>⟨trivial,?_⟩;obtain⟨k,xs,a,rfl,e1,rfl,la,q⟩:=q2;obtain⟨v1,rfl,rv1⟩:=vals1 r;obtain⟨v2,rfl,u,rfl⟩:=vals1 rz;obtain⟨t,rfl⟩:=aei rv1;obtain⟨us1,c1,_⟩:=a5r I2 e1;refine acv (us:=us1) (by unfold fitsIndex;simp;omega) c1 ?_
 have at0:((s2.heap.push (iob t k)).push (qt s2.heap.objs.size a)).get? s2.heap.objs.size=some (iob t k):=ar _ (aO _ (by cases k<;>rfl))
 have at1:IsEnum ((s2.heap.push (iob t k)).push (qt s2.heap.objs.size a)) (s2.heap.objs.size+1) s2.heap.objs.size (a:Nat) .none:=by
  have:=aO (o:=qt s2.heap.objs.size a) (s2.heap.push (iob t k)) rfl
  rw[cb]at this;exact this
 have keepA:∀b o,s2.heap.get? b=some o->((s2.heap.push (iob t k)).push (qt s2.heap.objs.size a)).get? b=some o:=λb o q=>ar _ (ar _ q);have I3:Inv X aA Z H2 {s2 with heap:=(s2.heap.push (iob t k)).push (qt s2.heap.objs.size a)}:=I2.kept (t':=s2.toks) keepA
 refine fL (s:={s2 with heap:=(s2.heap.push (iob t k)).push (qt s2.heap.objs.size a)}) at1 ?_
 refine⟨s2.heap.objs.size+1,[s2.heap.objs.size+1,s2.heap.objs.size],b4s a _ _ t k,b3l a k,H2,rfl,I3,agc (by intro z;have z:(_:Nat)=_:=z;omega),⟨⟨.none,at1⟩,b1z at0⟩,λb hb=>?_,q⟩
 have:s2.heap.objs.size<=b:=by
  simp only[aP,bp,cH]at hb
  rcases hb with rfl|rfl
  .exact fK _
  .exact ay _
 exact I2.fpOk this (I2.hok.fresh this)
end
end ZP
namespace MI
open L2 ZP
noncomputable def ar3(x y:D)(h:Hd):R Itm:=match srcOf x h,y with
 |some (xs,c),.int n=>if 0<=n/\n<=16777216 then .ok ⟨((List.range xs.length).zip xs).map λp=>.tup [.int ((n.toNat+p.1:Nat):Int),p.2],c⟩ h else .no
 |_,_=>.no
def abi(f g:SE):SI:=λτ h=>(f τ h).bind λx h1=>(g τ h1).bind λy h2=>ar3 x y h2
theorem aof(hg:Gl X "enumerate")(hm:X.mg "enumerate" = none)(ha:ME X E e1 f)(hb:ME X E e2 g)
  (h1:starEach [e1] X.env=[(false,eval e1 X.env)]:=by rfl):MI X E (.Tuple elts x1 tpos) (.Call (.Name "enumerate" p) [e1] [⟨some "start",e2,kpos⟩] pos) (abi f g):=by
 rintro aA s Z H Rr I ⟨U,τ,h,S,Rh,o⟩
 refine aoe hg hm (a5n ha aal (by rw[h1];rfl)) (asp hb axt) h1 aA s Z H Rr I ?_
 refine⟨U,τ,h,S,Rh,bu o λd h1 U1 H1 v g1 r1 hr1 o1=>?_⟩;refine⟨U1,τ,h1,S.mono g1,hr1,bu o1 λd2 h2 U2 H2 v2 g2 r2 hr2 o2=>?_⟩;have r1:=r1.mono g2;unfold ar3 at o2
 split at o2
 .rename_i xs c n q1
  split at o2
  .rename_i hn;obtain⟨k,rfl,kc,kf⟩:=aej r1 hr2 q1;obtain⟨vs,w1,w2⟩:=kf U2 H2 h2 (.refl _ _) hr2 kc;cases r2
   obtain⟨m,rfl⟩:=cL hn.1;refine⟨k,vs,m,rfl,w1,rfl,by omega,o2 U2 H2 _ (.refl _ _) ?_ hr2⟩
   intro U3 H3 h3 g3 hr3 c3
   obtain⟨us,a1,a2⟩:=kf U3 H3 h3 g3 hr3 c3;refine⟨λi d ed=>?_,us,a1,?_⟩
   .simp only[aE,aS]at ed;obtain⟨⟨j,y⟩,ez,rfl⟩:=ed;obtain⟨ex,ey⟩:=cc.mp ez;have hj:j=i:=by
     obtain⟨_,q⟩:=ah.mp ex;simpa using q.symm
    subst hj;obtain⟨v2,b3,b4⟩:=a2.get ey;refine⟨⟨us,v2,a1,b3⟩,λx H' yl=>?_⟩;obtain⟨xs',x',p,c1,c3,c5,rfl,rfl⟩:=yl;rw[a1]at c1;cases c1
    rw[b3]at c3;cases c3
    exact⟨xu c5 _,.tup m5 (.cons (.int _) (.cons (b4.mono (xu c5 _)) .nil)),hr3.aside c5 _⟩
   .rw[ax,gF,b6,a2.len];omega
  .exact o2.elim
 .exact o2.elim
end MI
namespace AT
open L2
theorem aog{α:Type}(x0:α)(xs:List α):atI (x0::xs) 0=some x0:=yf (j:=0) rfl
theorem aoh{α:Type}(x0 x1:α)(xs:List α):atI (x0::x1::xs) 1=some x1:=yf (j:=1) rfl
theorem aoi{α:Type}(x0 x1 x2:α)(xs:List α):atI (x0::x1::x2::xs) 2=some x2:=yf (j:=2) rfl
theorem aoj{α:Type}(x0 x1 x2 x3:α)(xs:List α):atI (x0::x1::x2::x3::xs) 3=some x3:=yf (j:=3) rfl
theorem aok{α:Type}(x0 x1 x2 x3 x4:α)(xs:List α):atI (x0::x1::x2::x3::x4::xs) 4=some x4:=yf (j:=4) rfl
theorem aol{α:Type}(x0 x1 x2 x3 x4 x5:α)(xs:List α):atI (x0::x1::x2::x3::x4::x5::xs) 5=some x5:=yf (j:=5) rfl
theorem aom{α:Type}(x0 x1 x2 x3 x4 x5 x6:α)(xs:List α):atI (x0::x1::x2::x3::x4::x5::x6::xs) 6=some x6:=yf (j:=6) rfl
theorem aon{α:Type}(x0 x1 x2 x3 x4 x5 x6 x7:α)(xs:List α):atI (x0::x1::x2::x3::x4::x5::x6::x7::xs) 7=some x7:=yf (j:=7) rfl
theorem x10:ixN 1 0=some 0:=rfl
theorem x20:ixN 2 0=some 0:=rfl
theorem x21:ixN 2 1=some 1:=rfl
theorem x30:ixN 3 0=some 0:=rfl
theorem x31:ixN 3 1=some 1:=rfl
theorem x32:ixN 3 2=some 2:=rfl
theorem x40:ixN 4 0=some 0:=rfl
theorem x41:ixN 4 1=some 1:=rfl
theorem x42:ixN 4 2=some 2:=rfl
theorem x43:ixN 4 3=some 3:=rfl
theorem x50:ixN 5 0=some 0:=rfl
theorem x51:ixN 5 1=some 1:=rfl
theorem x52:ixN 5 2=some 2:=rfl
theorem x53:ixN 5 3=some 3:=rfl
theorem x54:ixN 5 4=some 4:=rfl
theorem x60:ixN 6 0=some 0:=rfl
theorem x61:ixN 6 1=some 1:=rfl
theorem x62:ixN 6 2=some 2:=rfl
theorem x63:ixN 6 3=some 3:=rfl
theorem x64:ixN 6 4=some 4:=rfl
theorem x65:ixN 6 5=some 5:=rfl
theorem x70:ixN 7 0=some 0:=rfl
theorem x71:ixN 7 1=some 1:=rfl
theorem x72:ixN 7 2=some 2:=rfl
theorem x73:ixN 7 3=some 3:=rfl
theorem x74:ixN 7 4=some 4:=rfl
theorem x75:ixN 7 5=some 5:=rfl
theorem x76:ixN 7 6=some 6:=rfl
def b4t(x:Int):Int:=if x<0 then -x else x
theorem ajs(x:Int)(h:MI.Hd):MI.b1y [.int x] h=.ok (.int (b4t x)) h:=rfl
theorem p18(h:MI.Hd):MI.a7y (.int 10) (.int 18) h=.ok (.int 1000000000000000000) h:=by rw[MI.a7y,aU (by decide)];rfl
theorem b06{i:Int}(c:0<=j/\j<=1000000/\i.natAbs<2^64):MI.a7y (.int i) (.int j) h=.ok (.int (i^j.toNat)) h:=by rw[MI.a7y,aU c]
end AT
namespace MI
open L2 SeqAt
noncomputable def b4u(neg:Bool)(K:Fg):R2:=λx y H Q=>∃(U:List Addr) (p q:Addr) (vs us:List V) (xs ys:List D),x=.ref p/\y=.ref q/\Rd H p (.lst vs)/\Rd H q (.lst us)/\Reps K U H vs xs/\Reps K U H us ys/\xs.all (pur 59)=true/\ys.all (pur 59)=true/\Q (.bl (if neg then !aeg xs ys else aeg xs ys)) H
theorem aoo(I:Inv X aA Z H s)(hu:X.A.units+64<cLine)(h1:Rd H p (.lst vs))(h2:Rd H q (.lst us))(rs:Reps X.K U H vs xs)(qs:Reps X.K U H us ys)(p1:xs.all (pur 59)=true)(p2:ys.all (pur 59)=true) :
  RcAt X.A s (.ref p) (.ref q) (aeg xs ys)/\RcNeAt X.A s (.ref p) (.ref q) (!aeg xs ys):=by
 obtain⟨its,r1,pl1,z1⟩:=I.list (.inl h1);obtain⟨its2,r2,pl2,z2⟩:=I.list (.inl h2);have l1:its.toArray.size=xs.length:=by rw[aV,<-r1.length,rs.len]
 have l2:its2.toArray.size=ys.length:=by rw[aV,<-r2.length,qs.len]
 by_cases hl:xs.length=ys.length
 .have step:∀j (h1:j<its.toArray.size) (h2:j<its2.toArray.size),EqAt X.A.in1 s its.toArray[j] its2.toArray[j] (pairE xs ys j):=λj h1 h2=>by
   have j1:j<xs.length:=by omega
   have j2:j<ys.length:=by omega
   obtain⟨v1,e1,q1⟩:=rs.get (ag j1);obtain⟨v2,e2,q2⟩:=qs.get (ag j2);obtain⟨u1,e3,q3⟩:=r1.get e1;obtain⟨u2,e4,q4⟩:=r2.get e2;have f1:its.toArray[j]=u1:=by simpa using (ah.mp e3).2
   have f2:its2.toArray[j]=u2:=by simpa using (ah.mp e4).2
   have pe:pairE xs ys j=eqD xs[j] ys[j]:=by simp[pairE,ag j1,ag j2]
   rw[f1,f2,pe];rw[bI]at p1 p2;exact aqt I.hok 59 X.A.in1 q1 q2 q3 q4 (p1 _ (bL j1)) (p2 _ (bL j2)) (by rw[iI];omega)
  have c1:=RcAt.lists (A:=X.A) (s:=s) (e:=pairE xs ys) pl1.isList pl2.isList (by omega) (by omega) step
  have c2:=RcNeAt.lists (A:=X.A) (s:=s) (e:=pairE xs ys) pl1.isList pl2.isList (by omega) (by omega) step
  have ea:=a4q xs ys;rw[hl,Nat.min_self,dU,ja,<-hl]at ea;rw[l1,ea]at c1 c2;exact⟨c1,c2⟩
 .have ne:(its.toArray.size != its2.toArray.size)=true:=by rw[l1,l2];simpa using hl
  have ea:=a4q xs ys;rw[cI.mpr hl,gY]at ea;rw[<-ea];exact⟨RcAt.lists_lengths pl1.isList pl2.isList ne (by omega),RcNeAt.lists_lengths pl1.isList pl2.isList ne (by omega)⟩
theorem b07{X:Cx}(hu:X.A.units+64<cLine):OpR X (compareOp .NotEq) (b4u true X.K):=by
 intro aA s Z H x y v u Q I rx ry h
 obtain⟨U,p,q,vs,us,xs,ys,rfl,rfl,h1,h2,r1,r2,p1,p2,hq⟩:=h
 cases rx;cases ry
 exact(aoo I hu h1 h2 r1 r2 p1 p2).2 X.prog X.w X.xe _ ⟨.bl _,H,I,rfl,hq⟩
noncomputable def b3m(neg:Bool)(x y:D)(h:Hd):R D:=match a1z x h,a1z y h with
 |some xs,some ys=>if xs.all (pur 59)=true/\ys.all (pur 59)=true then .ok (.bl (if neg then !aeg xs ys else aeg xs ys)) h else .no
 |_,_=>.no
theorem av3(neg:Bool):a2p K (b3m neg) (b4u neg K):=by
 intro E U H h x y dx dy Q rx ry hr o
 unfold b3m at o
 split at o
 .rename_i xs ys e1 e2
  split at o
  .rename_i hc;obtain⟨a,vs,rfl,h1,r1⟩:=a4s rx hr e1;obtain⟨b,us,rfl,h2,r2⟩:=a4s ry hr e2;exact⟨U,a,b,vs,us,xs,ys,rfl,rfl,h1,h2,r1,r2,hc.1,hc.2,ans o (.bl _) hr⟩
  .exact o.elim
 .exact o.elim
end MI
namespace SETA
open PySem.SetTable
def ah9(xs:Array Nat):Prop:=∀i j (hi:i<xs.size) (hj:j<xs.size),i<j->xs[i]<xs[j]
theorem av4(xs:Array Nat)(ri:ah9 xs)(j:Nat):∀(fuel lo hi:Nat),hi-lo<=fuel->lo<=hi->hi<=xs.size->(∀i (h:i<xs.size),i<lo->xs[i]<j)->(∀i (h:i<xs.size),hi<=i->j<=xs[i])->
  lo<=below.go xs j fuel lo hi/\below.go xs j fuel lo hi<=hi/\(∀i (h:i<xs.size),i<below.go xs j fuel lo hi->xs[i]<j)/\∀i (h:i<xs.size),below.go xs j fuel lo hi<=i->j<=xs[i]:=by
 intro fuel
 induction fuel with
 |zero =>
  intro lo hi h1 h2 h3 a b
  have:lo=hi:=by omega
  subst this;exact⟨ay _,ay _,a,b⟩
 |succ fuel ih =>
  intro lo hi h1 h2 h3 a b
  unfold below.go
  split
  .rename_i c;have hm:(lo+hi) / 2<xs.size:=by omega
   have e:xs.getD ((lo+hi) / 2) j=xs[(lo+hi) / 2]:=by simp[Array.getD,hm]
   dsimp only;rw[e]
   split
   .rename_i q;have r:=ih ((lo+hi) / 2+1) hi (by omega) (by omega) h3 (λi h z=>by
     by_cases y:i=(lo+hi) / 2
     .subst y;exact q
     .exact Nat.lt_trans (ri i _ h hm (by omega)) q) b
    exact⟨by omega,r.2.1,r.2.2⟩
   .rename_i q;have r:=ih lo ((lo+hi) / 2) (by omega) (by omega) (by omega) a (λi h z=>by
     by_cases y:i=(lo+hi) / 2
     .subst y;omega
     .have:=ri _ i hm h (by omega);omega)
    exact⟨r.1,by omega,r.2.2⟩
  .have:lo=hi:=by omega
   subst this;exact⟨ay _,ay _,a,b⟩
theorem a1k(ri:ah9 xs)(j:Nat):below xs j<=xs.size/\(∀i (h:i<xs.size),i<below xs j->xs[i]<j)/\∀i (h:i<xs.size),below xs j<=i->j<=xs[i]:=by
 have:=av4 xs ri j xs.size 0 xs.size (by omega) (by omega) (ay _) (λi _ z=>absurd z (cC i)) λi h z=>absurd h (by omega)
 exact⟨this.2.1,this.2.2⟩
theorem below_at(ri:ah9 xs)(hk:k<xs.size):below xs xs[k]=k:=by
 obtain⟨h1,h2,h3⟩:=a1k ri xs[k]
 apply bW
 intro z
 rcases gQ z with c|c
 .have:=h3 (below xs xs[k]) (by omega) (ay _)
  have:=ri (below xs xs[k]) k (by omega) hk c
  omega
 .have:=h2 k hk c
  omega
theorem agd(ri:ah9 xs)(hk:k<xs.size):below xs (xs[k]+1)=k+1:=by
 obtain⟨h1,h2,h3⟩:=a1k ri (xs[k]+1)
 apply bW
 intro z
 rcases gQ z with c|c
 .have:=h3 k hk (by omega)
  omega
 .have:=h2 (k+1) (by omega) c
  have:=ri k (k+1) hk (by omega) (by omega)
  omega
theorem av5(ri:ah9 xs):below xs 0=0:=by
 obtain⟨h1,h2,h3⟩:=a1k ri 0
 apply bW
 intro z
 have:=h2 0 (by omega) (by omega)
 omega
structure Gd (t:SetTable):Prop where
 ri:ah9 t.place
 dm:t.dummies = #[]
theorem age:ah9 #[]:=λi j hi=>absurd hi (by simp)
theorem aop(f m:Nat)(l:Bool):Gd (.fresh f m l):=⟨age,rfl⟩
theorem agf(n:Nat):ah9 (Array.range n):=λi j hi hj h=>by simpa using h
theorem a73{l:List Nat}(h:l.Pairwise (· < ·)):ah9 l.toArray:=λi j hi hj c=>by
 have:=bH.mp h i j (by simpa using hi) (by simpa using hj) c
 simpa using this
theorem abj(h:ah9 xs):xs.toList.Pairwise (· < ·):=bH.mpr λi j hi hj c=>by
 have:=h i j (by simpa using hi) (by simpa using hj) c
 simpa using this
theorem a84(t:SetTable)(n:Nat):Gd (t.standIn n):=⟨agf n,rfl⟩
theorem abk(g:Gd t)(n:Nat):Gd (t.orStandIn n):=by
 unfold SetTable.orStandIn
 split
 .exact g
 .exact a84 t n
theorem a74(j:Nat):has #[] j=false:=by simp[has]
theorem agg(g:Gd t)(h:t.slot j=.empty):∀k (hk:k<t.place.size),t.place[k]≠j:=λk hk e=>by
 subst e;unfold SetTable.slot at h;simp only[below_at g.ri hk]at h;rw[aU (by simp[hk])]at h
 cases h
theorem aoq(g:Gd t):∀(fuel:Nat) (p:Probe) (j:Nat) (d:Option Nat),p.dummy=none->SetTable.probe.go t ha h fuel p=some (.empty j d)->t.slot j=.empty/\d=none:=by
 intro fuel
 induction fuel with
 |zero=>intro p j d _ z;simp[SetTable.probe.go]at z
 |succ fuel ih =>
  intro p j d hp z
  unfold SetTable.probe.go at z
  cases e:t.slot p.j with
  |empty =>
   rw[e]at z;simp only[fM,Met.empty.injEq]at z;obtain⟨rfl,rfl⟩:=z;exact⟨e,hp⟩
  |dummy =>
   exfalso
   unfold SetTable.slot at e;rw[g.dm,a74]at e;dsimp only at e
   split at e<;>simp at e
  |live i =>
   rw[e]at z;dsimp only at z
   split at z
   .cases z
   .refine ih _ j d ?_ z;unfold SetTable.advance
    split
    .exact hp
    .exact hp
theorem a75(g:Gd t)(e:t.freeSlot h=some (j,b)):(∀k (hk:k<t.place.size),t.place[k]≠j)/\b=false:=by
 unfold SetTable.freeSlot at e
 split at e
 .rename_i j' d q;obtain⟨h1,h2⟩:=aoq g _ _ _ _ rfl q;subst h2;simp only[iG,Option.isSome_none,fM,Prod.mk.injEq]at e;obtain⟨rfl,rfl⟩:=e;exact⟨agg g h1,rfl⟩
 .cases e
theorem acw(ri:ah9 xs)(h:∀k (hk:k<xs.size),xs[k]≠j):ah9 (SetTable.insertAt xs (below xs j) j):=by
 obtain⟨h1,h2,h3⟩:=a1k ri j;have e:(SetTable.insertAt xs (below xs j) j)=(xs.toList.take (below xs j)++j::xs.toList.drop (below xs j)).toArray:=by
  exact Array.ext' ((SetTable.toList_insertAt _ _ _).trans (by simp))
 rw[e];refine a73 ?_;have rl:=abj ri;rw[fY];refine⟨rl.sublist (hX _ _),gT.mpr ⟨λa ha=>?_,rl.sublist (List.drop_sublist _ _)⟩,λa ha b hb=>?_⟩
 .obtain⟨i,hi,rfl⟩:=fh.mp ha;rw[List.getElem_drop];rw[cZ,bG]at hi;have h4:=h3 (below xs j+i) (by omega) (by omega)
  have h5:=h (below xs j+i) (by omega)
  rw[fZ];omega
 .obtain⟨i,hi,rfl⟩:=fh.mp ha;rw[List.getElem_take];rw[bY,bG]at hi;have h4:=h2 i (by omega) (by omega)
  rw[fZ]
  rcases aP.mp hb with rfl|hb
  .exact h4
  .obtain⟨k,hk,rfl⟩:=fh.mp hb;rw[List.getElem_drop];rw[cZ,bG]at hk;have h6:=h3 (below xs j+k) (by omega) (by omega)
   rw[fZ];omega
theorem ar4(g:Gd t)(h:∀k (hk:k<t.place.size),t.place[k]≠j):Gd (t.put j).1:=by
 refine⟨acw g.ri h,?_⟩;show(if has t.dummies j=true then _ else t.dummies) = #[]
 rw[g.dm,a74];rfl
theorem ajt(g:Gd t)(es:Array (Int×Value))(h:Int)(x:Value):Gd (layNew t es h x).2.1/\(layNew t es h x).2.2.1=false:=by
 unfold layNew
 split
 .rename_i slot wd e;obtain⟨h1,h2⟩:=a75 g e;exact⟨abk (ar4 g h1) _,h2⟩
 .exact⟨a84 _ _,rfl⟩
theorem aju{mask f m:Nat}{t:SetTable}(e:SetTable.laid mask f m l p hs=some (t,o)):Gd t/\t.led=l:=by
 unfold SetTable.laid at e
 cases q:layClean mask hs with
 |none=>rw[q]at e;cases e
 |some owner =>
  rw[q]at e;simp only[Option.bind_eq_bind,Option.bind_some,Option.pure_def,fM,Prod.mk.injEq]at e;obtain⟨rfl,rfl⟩:=e;refine⟨⟨a73 ?_,rfl⟩,rfl⟩;have:∀l:List Nat,l.Pairwise (· < ·)->((l.filterMap λj=>(owner.getD j none).map (j, ·)).map (·.1)).Pairwise (· < ·):=λl hl=>by
   have sub:((l.filterMap λj=>(owner.getD j none).map (j, ·)).map (·.1)).Sublist l:=by
    clear hl
    induction l with
    |nil=>exact .slnil
    |cons a l ih =>
     cases q:owner.getD a none with
     |none =>
      rw[i7 (by rw[q];rfl)]
      exact .cons _ ih
     |some b =>
      rw[i8 (b:=(a,b)) (by rw[q];rfl),bg]
      exact .cons₂ _ ih
   exact hl.sublist sub
  exact this _ List.pairwise_lt_range
theorem a9f(t:SetTable)(n:Nat):(t.orStandIn n).led=t.led:=by
 unfold SetTable.orStandIn
 split<;>rfl
theorem agh(t:SetTable)(es:Array (Int×Value))(h:Int)(x:Value):(layNew t es h x).2.1.led=t.led:=by
 unfold layNew
 split
 .exact a9f _ _
 .rfl
theorem ajv(t:SetTable)(es:Array (Int×Value))(n:Nat):(relayAll t es n).2.1.led=t.led:=by
 unfold relayAll
 split
 .rename_i t' o e;dsimp only
  split
  .exact(aju e).2
  .rfl
 .rfl
end SETA
namespace SETH
def it:Nat->Nat->Nat
 |0,x=>x
 |n+1,x=>it n (5*x+1)
theorem ajw(m:Nat):∀(n x:Nat),it (n+m) x=it m (it n x)
 |0,x=>by rw[dF];rfl
 |n+1,x=>by rw[show n+1+m=(n+m)+1 by omega];exact ajw m n _
theorem ar5:∀k:Nat,∃c,∀x,it (2^k) x=(4*(2^k*(2*c+1))+1)*x+2^k*(2*c+1)
 |0=>⟨0,λx=>by show 5*x+1=_;omega⟩
 |k+1=>by
  obtain⟨c,h⟩:=ar5 k;refine⟨2*c*(2^k*(2*c+1))+c+2^k*(2*c+1),λx=>?_⟩;have e:2^(k+1)=2^k+2^k:=by rw[gU];omega
  rw[e,ajw,h,h]
  generalize 2^k=P
  grind
theorem full:∀(k x y:Nat),∃n,n<2^k/\it n x%2^k=y%2^k
 |0,x,y=>⟨0,by decide,by rw[Nat.pow_zero,Nat.mod_one,Nat.mod_one]⟩
 |k+1,x,y=>by
  obtain⟨n,hn,e⟩:=full k x y;obtain⟨c,h⟩:=ar5 k;have hp:0<2^k:=Nat.pow_pos (by decide)
  rw[gU]
  by_cases q:it n x / 2^k%2=y / 2^k%2
  .exact⟨n,by omega,by rw[iZ,iZ,e,q]⟩
  .refine⟨n+2^k,by omega,?_⟩
   rw[ajw,h]
   generalize 2^k=P at *
   generalize it n x=z at *
   have:(4*(P*(2*c+1))+1)*z+P*(2*c+1)=(z+P)+P*2*(2*(2*c+1)*z+c):=by grind
   rw[this,Nat.add_mul_mod_self_left,iZ,iZ,Nat.add_mod_right,e,Nat.add_div_right _ hp]
   congr 2
   omega
def im(M:Nat):Nat->Nat->Nat
 |0,x=>x
 |n+1,x=>im M n ((x*5+1)%M)
theorem b08(M:Nat):∀(n x:Nat),im M n x%M=it n x%M
 |0,x=>rfl
 |n+1,x=>by
  show im M n _%M=it n _%M;rw[b08 M n];have:∀n a b,a%M=b%M->it n a%M=it n b%M:=by
   intro n
   induction n with
   |zero=>exact λa b h=>h
   |succ n ih=>exact λa b h=>ih _ _ (by rw[Nat.add_mod,Nat.mul_mod,h,<-Nat.mul_mod,<-Nat.add_mod])
  exact this n _ _ (by rw[Nat.mod_mod,Nat.mul_comm])
theorem b09(hM:0<M):∀(n x:Nat),x<M->im M n x<M
 |0,x,h=>h
 |n+1,x,h=>b09 hM n _ (fN _ hM)
theorem av6(hx:x<2^k)(hy:y<2^k):∃n,n<2^k/\im (2^k) n x=y:=by
 obtain⟨n,hn,e⟩:=full k x y;refine⟨n,hn,?_⟩;rw[<-b08,Nat.mod_eq_of_lt hy,Nat.mod_eq_of_lt (b09 (by omega) n x hx)]at e
 exact e
open PySem.SetTable
def ls(mask:Nat):Nat->Nat×Nat->Nat×Nat
 |0,x=>x
 |n+1,x=>ls mask n (leap mask x.1 x.2)
theorem ar6(mask m:Nat):∀(n:Nat) (x:Nat×Nat),ls mask (n+m) x=ls mask m (ls mask n x)
 |0,x=>by rw[dF];rfl
 |n+1,x=>by rw[show n+1+m=(n+m)+1 by omega];exact ar6 mask m n _
theorem a85(mask:Nat):∀(n:Nat) (x:Nat×Nat),(ls mask n x).2=x.2 / 32^n
 |0,x=>by rw[Nat.pow_zero,Nat.div_one];rfl
 |n+1,x=>by
  show(ls mask n _).2=_;rw[a85 mask n,gU,Nat.mul_comm,<-Nat.div_div_eq_div_mul];rfl
theorem b0a(mask:Nat):∀(n:Nat) (x:Nat×Nat),x.1<=mask->(ls mask n x).1<=mask
 |0,x,h=>h
 |n+1,x,h=>b0a mask n _ (dP (fN _ (dE _)))
theorem b0b(mask:Nat):∀(n i:Nat),ls mask n (i,0)=(im (mask+1) n i,0)
 |0,i=>rfl
 |n+1,i=>by
  show ls mask n (leap mask i 0)=(im (mask+1) n _,0);rw[<-b0b mask n];rfl
theorem hit{mask k i p y:Nat}(hk:mask+1=2^k)(hi:i<=mask)(hp:p<2^64)(hy:y<=mask):∃m,m<mask+14/\(ls mask m (i,p)).1=y:=by
 have e:ls mask 13 (i,p)=((ls mask 13 (i,p)).1,0):=by
  refine Prod.ext rfl ?_;rw[a85];show p / 32^13=0;exact Nat.div_eq_of_lt (by omega)
 have h13:=b0a mask 13 (i,p) hi;obtain⟨n,hn,en⟩:=av6 (k:=k) (x:=(ls mask 13 (i,p)).1) (y:=y) (by omega) (by omega)
 refine⟨13+n,by omega,?_⟩
 rw[ar6,e,b0b];show im (mask+1) n _=y;rw[hk];exact en
end SETH
namespace SETH
open PySem.SetTable SETA
theorem a76(mask i:Nat):i<=runEnd mask i:=by unfold runEnd;split<;>omega
theorem a77{mask i:Nat}(h:i<=mask):runEnd mask i<=mask:=by unfold runEnd;split<;>omega
theorem aes(mask i:Nat):runEnd mask i-i<=9:=by unfold runEnd;split<;>omega
theorem abl{mask:Nat}{owner:Array (Option Nat)}:∀(fuel i p m:Nat),m<fuel->i<=mask->owner.getD (ls mask m (i,p)).1 (some 0)=none->∃j,layClean.free mask owner fuel i p=some j/\j<=mask/\owner.getD j (some 0)=none
 |0,i,p,m,h,_,_=>absurd h (cC _)
 |fuel+1,i,p,m,h,hi,e=>by
  unfold layClean.free;have ge:=a76 mask i;have le:=a77 hi
  split
  .rename_i k hk;refine⟨_,rfl,?_,?_⟩
   .have:=fm hk
    rw[aY]at this;omega
   .have:=iT hk
    exact gZ.mp this
  .rename_i hk
   cases m with
   |zero =>
    have:=cX.mp hk 0 (aY.mpr (by omega))
    exact absurd (gZ.mpr e) this
   |succ m=>exact abl fuel _ _ m (by omega) (dP (fN _ (dE _))) e
theorem a66{t:SetTable}{p:Probe}(h:p.more > 0):t.advance p={p with j:=p.j+1,more:=p.more-1}:=by unfold advance;rw[aU h]
theorem a67{t:SetTable}{p:Probe}(h:p.more=0):t.advance p={p with j:=(leap t.mask p.i p.perturb).1,more:=runEnd t.mask (leap t.mask p.i p.perturb).1-(leap t.mask p.i p.perturb).1,i:=(leap t.mask p.i p.perturb).1,perturb:=(leap t.mask p.i p.perturb).2}:=by unfold advance;rw[bA (by omega)]
theorem acx{t:SetTable}:∀(fuel m:Nat) (p:Probe),p.more+10*m+1<fuel->t.slot (ls t.mask (m+1) (p.i,p.perturb)).1=.empty->∃j d,probe.go t (λ_=>h+1) h fuel p=some (.empty j d)
 |0,m,p,hf,_=>absurd hf (cC _)
 |fuel+1,m,p,hf,e=>by
  have ne:(h+1 == h)=false:=by simpa using (by omega:h+1≠h)
  have next:∀d,∃j d',probe.go t (λ_=>h+1) h fuel (t.advance {p with dummy:=d})=some (.empty j d'):=λd=>by
   by_cases hm:p.more > 0
   .rw[a66 (by exact hm)]
    exact acx fuel m _ (by show p.more-1+10*m+1<fuel;omega) e
   .rw[a67 (by show p.more=0;omega)]
    cases m with
    |zero =>
     cases fuel with
     |zero=>omega
     |succ fuel =>
      have e:t.slot (leap t.mask p.i p.perturb).1=.empty:=e;unfold probe.go;simp only[e];exact⟨_,_,rfl⟩
    |succ m =>
     have:=aes t.mask (leap t.mask p.i p.perturb).1
     exact acx fuel m _ (by show runEnd t.mask (leap t.mask p.i p.perturb).1-(leap t.mask p.i p.perturb).1+10*m+1<fuel;omega) e
  unfold probe.go
  split
  .exact⟨_,_,rfl⟩
  .exact next _
  .rw[ne];exact next p.dummy
theorem ajx{t:SetTable}(hd:t.dummies = #[])(hy:∀k (hk:k<t.place.size),t.place[k]≠y):t.slot y=.empty:=by
 unfold slot;dsimp only;rw[bA,hd,a74]
 .rfl
 .intro c
  have c:t.place[below t.place y]? = some y:=by simpa using c
  obtain⟨hk,e⟩:=gL.mp c;exact hy _ hk e
theorem a9g{t:SetTable}(hk:t.mask+1=2^k)(hd:t.dummies = #[])(hy:y<=t.mask)(fr:∀k (hk:k<t.place.size),t.place[k]≠y)(h:Int):∃r,t.freeSlot h=some r:=by
 have sl:=ajx hd fr;have hi:bits h%(t.mask+1)<=t.mask:=dP (fN _ (dE _));have hb:bits h<2^64:=by unfold bits;omega
 obtain⟨m,hm,e⟩:=hit hk hi hb hy;have r9:=aes t.mask (bits h%(t.mask+1));have:∃j d,t.probe (λ_=>h+1) h (t.probeStart h)=some (.empty j d):=by
  unfold probe turns
  cases m with
  |zero =>
   have e:bits h%(t.mask+1)=y:=e;rw[show 10*(t.mask+15)=(10*(t.mask+15)-1)+1 by omega]
   unfold probe.go probeStart;simp only[e,sl];exact⟨_,_,rfl⟩
  |succ m=>exact acx _ m _ (by show runEnd t.mask (bits h%(t.mask+1))-bits h%(t.mask+1)+10*m+1<_;omega) (by rw[<-e]at sl;exact sl)
 obtain⟨j,d,x⟩:=this;unfold freeSlot;rw[x];exact⟨_,rfl⟩
theorem ajy:∀l:List (Option Nat),(l.filterMap id).length<l.length->∃i,∃h:i<l.length,l[i]=none
 |[],h=>absurd h (cO _)
 |none::l,_=>⟨0,dE _,rfl⟩
 |some x::l,h=>by
  obtain⟨i,hi,e⟩:=ajy l (by simpa using h)
  exact⟨i+1,Nat.succ_lt_succ hi,e⟩
theorem aet(k:Nat):∀(l:List (Option Nat)) (i:Nat) (h:i<l.length),l[i]=none->((l.set i (some k)).filterMap id).Perm (k::l.filterMap id)
 |x::l,0,_,e=>by
  have e:x=none:=e;subst e;simp
 |x::l,i+1,h,e=>by
  have ih:=aet k l i (fH h) e
  cases x with
  |none=>simpa using ih
  |some x =>
   simp only[List.set_cons_succ,de,id];exact(ih.cons x).trans (List.Perm.swap ..)
structure Own (mask n:Nat) (o:Array (Option Nat)):Prop where
 size:o.size=mask+1
 all:(o.toList.filterMap id).Perm (List.range n)
theorem b3n(mask:Nat):Own mask 0 (Array.replicate (mask+1) none) where
 size:=by simp
 all:=by simp
theorem Own.free{mask n:Nat}{o:Array (Option Nat)}(w:Own mask n o)(hn:n<=mask):∃y,y<=mask/\o.getD y (some 0)=none:=by
 have:=w.all.length_eq
 rw[b6]at this;obtain⟨i,hi,e⟩:=ajy o.toList (by rw[this,bG,w.size];omega)
 have hs:i<o.size:=by simpa using hi
 refine⟨i,by have:=w.size;omega,?_⟩
 simp only[Array.getD,hs,dif_pos];simpa using e
theorem Own.put{mask n j:Nat}{o:Array (Option Nat)}(w:Own mask n o)(hj:j<=mask)(e:o.getD j (some 0)=none):Own mask (n+1) (o.setIfInBounds j (some n)) where
 size:=by rw[Array.size_setIfInBounds];exact w.size
 all:=by
  have hs:j<o.size:=by have:=w.size;omega
  have e:o.toList[j]'(by simpa using hs)=none:=by
   simp only[Array.getD,hs,dif_pos]at e;simpa using e
  rw[Array.toList_setIfInBounds,gB];exact(aet n _ _ _ e).trans ((w.all.cons n).trans (List.perm_append_singleton n _).symm)
theorem aeu{mask k:Nat}(hk:mask+1=2^k)
  (hF:∀o n h j,layClean.free mask o (turns mask) (bits h%(mask+1)) (bits h)=some j->F (some (o,n)) h=some (o.setIfInBounds j (some n),n+1)) :
  ∀(hs:List Int) (o:Array (Option Nat)) (n:Nat),Own mask n o->n+hs.length<=mask+1->∃o',hs.foldl F (some (o,n))=some (o',n+hs.length)/\Own mask (n+hs.length) o'
 |[],o,n,w,_=>⟨o,rfl,w⟩
 |h::hs,o,n,w,le=>by
  rw[bB]at le ⊢;obtain⟨y,hy,e⟩:=w.free (by omega)
  have hi:bits h%(mask+1)<=mask:=dP (fN _ (dE _));obtain⟨m,hm,em⟩:=hit hk hi (p:=bits h) (by unfold bits;omega) hy
  obtain⟨j,ej,hj,fj⟩:=abl (turns mask) (bits h%(mask+1)) (bits h) m (by unfold turns;omega) hi (by rw[em];exact e)
  obtain⟨o',eo,wo⟩:=aeu hk hF hs _ (n+1) (w.put hj fj) (by omega)
  refine⟨o',?_,by rw[show n+(hs.length+1)=n+1+hs.length by omega];exact wo⟩
  rw[gA,hF o n h j ej,eo,show n+(hs.length+1)=n+1+hs.length by omega]
theorem aor{mask k:Nat}(hk:mask+1=2^k)(hs:Array Int)(le:hs.size<=mask+1)
  (hF:∀o n h j,layClean.free mask o (turns mask) (bits h%(mask+1)) (bits h)=some j->F (some (o,n)) h=some (o.setIfInBounds j (some n),n+1)) :
  ∃o,(hs.toList.foldl F (some (Array.replicate (mask+1) none,0))).map (·.1)=some o/\Own mask hs.size o:=by
 obtain⟨o,e,w⟩:=aeu hk hF hs.toList _ 0 (b3n mask) (by simpa using le)
 rw[e];exact⟨o,rfl,by simpa using w⟩
theorem agi{mask k:Nat}(hk:mask+1=2^k)(hs:Array Int)(le:hs.size<=mask+1):∃o,layClean mask hs=some o/\Own mask hs.size o:=by
 unfold layClean;rw[<-Array.foldl_toList];refine aor hk hs le λo n h j ej=>?_;simp only[Option.bind_eq_bind,Option.bind_some,ej];rfl
theorem aos{mask n:Nat}{o:Array (Option Nat)}(w:Own mask n o):((List.range (mask+1)).filterMap λj=>(o.getD j none).map (j, ·)).map (·.2)=o.toList.filterMap id:=by
 have e:o.toList=(List.range (mask+1)).map λj=>o.getD j none:=by
  refine fV (by simp[w.size]) λi h1 h2=>?_
  have hs:i<o.size:=by simpa using h1
  simp[Array.getD,hs]
 rw[e,List.filterMap_map,List.map_filterMap]
 congr 1
 funext j
 show _=o.getD j none
 cases o.getD j none<;>rfl
theorem ajz{mask k f m:Nat}(hk:mask+1=2^k)(hs:Array Int)(le:hs.size<=mask+1):∃t o,laid mask f m l p hs=some (t,o)/\t.mask=mask/\t.dummies = #[]/\t.plain=p/\t.place.size=hs.size/\(∀i (h:i<t.place.size),t.place[i]<=mask)/\o.toList.Perm (List.range hs.size):=by
 obtain⟨o,e,w⟩:=agi hk hs le;unfold laid;rw[e];have ls:=aos w;have len:((List.range (mask+1)).filterMap λj=>(o.getD j none).map (j, ·)).length=hs.size:=by
  have:=w.all.length_eq
  rw[<-ls,ax,b6]at this;exact this
 refine⟨_,_,rfl,rfl,rfl,rfl,by simpa using len,λi hi=>?_,?_⟩
 .have hm:=i9 hi;simp only[List.mem_toArray,bq,gM,aY]at hm;obtain⟨⟨a,b⟩,⟨j,hj,x⟩,y⟩:=hm
  cases g:o.getD j none with
  |none=>rw[g]at x;cases x
  |some z =>
   rw[g]at x;cases x
   exact dP (y ▸ hj)
 .show List.Perm (List.map _ _) _;exact(ls ▸ w.all)
theorem aev(n:Nat):∀(fuel a:Nat),n<2^(a+fuel)->∃b,a<=b/\sizeAbove.go n fuel (2^a)=2^b/\n<2^b
 |0,a,h=>⟨a,ay _,rfl,h⟩
 |fuel+1,a,h=>by
  unfold sizeAbove.go
  split
  .obtain⟨b,h1,h2,h3⟩:=aev n fuel (a+1) (by rw[show a+1+fuel=a+(fuel+1) by omega];exact h)
   exact⟨b,by omega,h2,h3⟩
  .exact⟨a,ay _,rfl,by omega⟩
theorem above(h:n<2^67):∃b,3<=b/\sizeAbove n=2^b/\n<2^b:=aev n 64 3 h
theorem gap:∀(l:List Nat) (a:Nat),l.Pairwise (· < ·)->(∀x∈l,a<=x)->∃y,a<=y/\y<=a+l.length/\y∉l
 |[],a,_,_=>⟨a,ay _,ay _,bp⟩
 |x::l,a,p,g=>by
  obtain⟨p1,p2⟩:=gT.mp p;have gx:=g x (aT ..);rw[bB]
  by_cases e:x=a
  .obtain⟨y,h1,h2,h3⟩:=gap l (a+1) p2 λz hz=>by have:=p1 z hz;omega
   exact⟨y,by omega,by omega,λc=>(aP.mp c).elim (λc=>by omega) h3⟩
  .exact⟨a,ay _,by omega,λc=>(aP.mp c).elim (λc=>e c.symm) λc=>by have:=p1 a c;omega⟩
structure Gs (t:SetTable):Prop where
 gd:Gd t
 pow:∃k,t.mask+1=2^k
 big:7<=t.mask
 le:∀i (h:i<t.place.size),t.place[i]<=t.mask
 plain:t.plain=true
theorem aot(f m:Nat)(l:Bool):Gs (.fresh f m l):=⟨aop f m l,⟨3,rfl⟩,ay _,λi h=>absurd h (cC _),rfl⟩
theorem a9h(g:Gd t):t.fill=t.place.size:=by unfold fill;rw[g.dm];rfl
theorem a86{t:SetTable}{p:Probe}(h:p.j+p.more<=t.mask):(t.advance p).j+(t.advance p).more<=t.mask:=by
 by_cases hm:p.more > 0
 .rw[a66 hm];show p.j+1+(p.more-1)<=_;omega
 .rw[a67 (by omega)]
  have h1:(leap t.mask p.i p.perturb).1<=t.mask:=dP (fN _ (dE _));have h2:=a77 h1;have h3:=a76 t.mask (leap t.mask p.i p.perturb).1;show(leap t.mask p.i p.perturb).1+(runEnd t.mask (leap t.mask p.i p.perturb).1-(leap t.mask p.i p.perturb).1)<=_;omega
theorem av7{t:SetTable}:∀(fuel:Nat) (p:Probe) (j:Nat) (d:Option Nat),p.j+p.more<=t.mask->probe.go t ha h fuel p=some (.empty j d)->j<=t.mask
 |0,p,j,d,_,e=>by cases e
 |fuel+1,p,j,d,hp,e=>by
  unfold probe.go at e
  split at e
  .cases e
   omega
  .exact av7 fuel _ j d (a86 (p:={p with dummy:=some p.j}) hp) e
  .split at e
   .cases e
   .exact av7 fuel _ j d (a86 hp) e
theorem av8{t:SetTable}(e:t.freeSlot h=some (j,b))(hb:b=false):j<=t.mask:=by
 unfold freeSlot at e
 split at e
 .rename_i j' d x;have:=av7 _ _ j' d (by
   have h1:bits h%(t.mask+1)<=t.mask:=dP (fN _ (dE _));have h2:=a77 h1;have h3:=a76 t.mask (bits h%(t.mask+1));show bits h%(t.mask+1)+(runEnd t.mask (bits h%(t.mask+1))-bits h%(t.mask+1))<=t.mask;omega) x
  cases d with
  |none=>cases e;exact this
  |some d=>cases e;cases hb
 .cases e
theorem ar7{xs:Array Nat}(h:z∈xs.extract a b):z∈xs:=by
 obtain⟨i,hi,e⟩:=fT.mp h;rw[Array.getElem_extract]at e;exact e ▸ i9 _
theorem a78{α:Type}(xs:Array α)(p:Nat)(x:α)(hp:p<=xs.size):(insertAt xs p x).size=xs.size+1:=by
 simp[insertAt]
 omega
theorem ak0(g:Gs t)(es:Array (Int×Value))(hs:t.place.size=es.size)(aG:t.fill*5<t.mask*3)(h:Int)(x:Value) :
  Gs (layNew t es h x).2.1/\(layNew t es h x).2.2.2=false/\(layNew t es h x).2.1.fits (layNew t es h x).1.size=true/\(layNew t es h x).2.1.mask=t.mask/\(layNew t es h x).2.1.place.size=es.size+1:=by
 have big:=g.big;have fl:=a9h g.gd;obtain⟨k,hk⟩:=g.pow;obtain⟨y,_,hy,ny⟩:=gap t.place.toList 0 (abj g.gd.ri) λ_ _=>bU _;rw[bG]at hy;obtain⟨⟨j,b⟩,e⟩:=a9g hk g.gd.dm (y:=y) (by omega) (λi hi c=>ny (by rw[<-c];simp)) h
 obtain⟨f1,f2⟩:=a75 g.gd e;have hj:=av8 e f2;have bl:=(a1k g.gd.ri j).1;have sz1:(t.put j).1.place.size=es.size+1:=by
  show(insertAt t.place _ j).size=_;rw[a78 _ _ _ bl,hs]
 have sz2:(insertAt es (t.put j).2 (h,x)).size=es.size+1:=a78 _ _ _ (by show below t.place j<=_;omega)
 have gp:=ar4 g.gd f1;have ft:(t.put j).1.fits (insertAt es (t.put j).2 (h,x)).size=true:=by
  unfold fits;rw[a9h gp,sz1,sz2];have:es.size+1<=(t.put j).1.mask:=by show _<=t.mask;omega
  simp[this]
 have pl:∀z∈(t.put j).1.place,z<=t.mask:=λz hz=>by
  have hz:z∈insertAt t.place (below t.place j) j:=hz;simp only[insertAt,Array.mem_append,Array.mem_push]at hz
  rcases hz with(hz|hz)|hz
  .obtain⟨i,hi,e⟩:=fT.mp (ar7 hz);exact e ▸ g.le i hi
  .omega
  .obtain⟨i,hi,e⟩:=fT.mp (ar7 hz);exact e ▸ g.le i hi
 have gs:Gs (t.put j).1:=⟨gp,g.pow,g.big,λi hi=>pl _ (i9 hi),g.plain⟩;have eq:layNew t es h x=(insertAt es (t.put j).2 (h,x),(t.put j).1,b,false):=by
  unfold layNew;rw[e];simp only[ft,orStandIn,dQ,Bool.not_true]
 rw[eq];exact⟨gs,rfl,ft,rfl,sz1⟩
theorem ar8{es:Array (Int×Value)}:∀l:List Nat,(∀x∈l,x<es.size)->(l.filterMap (es[·]?)).length=l.length
 |[],_=>rfl
 |x::l,h=>by
  rw[de,cD (h x (aT ..))];exact aQ (·+1) (ar8 l λz hz=>h z (aI _ hz))
theorem aou(g:Gs t)(es:Array (Int×Value))(hn:n<2^67)(big:es.size*2<=n)(pos:0<es.size) :
  Gs (relayAll t es n).2.1/\(relayAll t es n).2.2=false/\(relayAll t es n).2.1.fits (relayAll t es n).1.size=true/\(relayAll t es n).2.1.fill*5<(relayAll t es n).2.1.mask*3:=by
 obtain⟨b,h3,eb,lb⟩:=above hn;have p8:2^3<=2^b:=Nat.pow_le_pow_right (by decide) h3
 have hk:sizeAbove n-1+1=2^b:=by omega
 obtain⟨t',o,e,hm,hd,hp,hs,hl,ho⟩:=ajz (f:=t.finger) (m:=t.movedTo (sizeAbove n-1)) (l:=t.led) (p:=t.plain) hk (es.map (·.1)) (by rw[Array.size_map];omega)
 rw[Array.size_map]at hs ho;have gd':=(aju e).1;have cov:coversAll o es.size=true:=List.isPerm_iff.mpr ho;have sz:(o.filterMap (es[·]?)).size=es.size:=by
  rw[<-bG,Array.toList_filterMap,ar8 _ λx hx=>aY.mp (ho.mem_iff.mp hx),ho.length_eq,b6]
 have fl:=a9h gd';have ft:t'.fits (o.filterMap (es[·]?)).size=true:=by
  unfold fits;rw[fl,sz,hs];have:es.size<=t'.mask:=by omega
  simp[this]
 have eq:relayAll t es n=(o.filterMap (es[·]?),t',false):=by
  unfold relayAll relaid;rw[e];simp only[cov,ft,Bool.and_self,dQ]
 rw[eq];exact⟨⟨gd',⟨b,by rw[hm];exact hk⟩,by rw[hm];omega,λi hi=>by rw[hm];exact hl i hi,hp.trans g.plain⟩,rfl,ft,by show t'.fill*5<t'.mask*3;omega⟩
end SETH
namespace SETB
open PyProof.Rows SETA
def kOf:Int×Value->Int
 |(_,.int k _)=>k
 |_=>0
def AllI(l:List (Int×Value)):Prop:=∀e∈l,∃k t,e=(hashInt k,Value.int k t)
def Gr(t:SetTable):Prop:=SETH.Gs t/\t.fill*5<t.mask*3
def SetI(b:Bool)(a:Addr)(ks:List Int)(h:Heap):Prop :=
 ∃o es ep t,h.get? a=some o/\o.ExactSet/\o.data=.set es ep t/\AllI es.toList/\(es.toList.map kOf).Perm ks/\es.size<scanBound/\t.fits es.size=true/\Gr t/\t.led=b
theorem SetI.keep{h':Heap}(x:SetI b a ks h)(k:∀o,h.get? a=some o->h'.get? a=some o):SetI b a ks h':=by
 obtain⟨o,es,ep,t,ho,r⟩:=x;exact⟨o,es,ep,t,k o ho,r⟩
theorem SetI.len(x:SetI b a ks h):ks.length<scanBound:=by
 obtain⟨o,es,ep,t,_,_,_,_,p,hb,_⟩:=x;have:=p.length_eq;rw[ax,bG]at this;omega
section
variable{prog:Program}{w:World}{E:Value->Shared->Prop}{A:Around}{s:Shared}
theorem AllI.el(h:AllI l):ElemsOf (intKind prog w) l:=λe he=>by
 obtain⟨k,t,rfl⟩:=h e he;exact⟨⟨k,by simp[intKind,Value.isInt],rfl⟩,rfl⟩
theorem b4v(h:e=(hashInt j,Value.int j t)):(intKind prog w).is k e.2=decide (k=j):=by
 subst h
 by_cases q:k=j
 .subst q;simp[intKind,Value.isInt]
 .rw[aZ q];show Value.isInt k (Value.int j t)=false;simp only[Value.isInt,cI,ne_eq]
  first|exact q|exact λz=>q z.symm
theorem aew(h:AllI l):l.findIdx? (λe=>(intKind prog w).is k e.2)=none↔k∉l.map kOf:=by
 rw[List.findIdx?_eq_none_iff]
 constructor
 .intro n m
  obtain⟨e,he,q⟩:=bq.mp m;have:=n e he;obtain⟨j,t,rfl⟩:=h e he;rw[b4v rfl]at this;have:¬ k=j:=of_decide_eq_false this;exact this q.symm
 .intro n e he
  obtain⟨j,t,rfl⟩:=h e he;rw[b4v rfl];exact aZ λz=>n (bq.mpr ⟨_,he,z.symm⟩)
theorem stored(prog:Program)(w:World){es':Array (Int×Value)}{t':SetTable}{h:Heap}(ho:h.get? a=some o)(hex:o.ExactSet)(hd:o.data=.set es ep t)(al:AllI es'.toList)(p:(es'.toList.map kOf).Perm ks)(sz:es'.size<scanBound)(f:t'.fits es'.size=true)(g:Gr t')(l:t'.led=b) :
  SetI b a ks (h.update a (Obj.putSet es' t')):=by
 have e:=SetOf_store (knd:=intKind prog w) (S':=λk=>es'.toList.any λe=>(intKind prog w).is k e.2) ho hex hd al.el (λk=>bD) sz f;exact⟨_,es',ep+1,t',e.1,hex,rfl,al,p,sz,f,g,l⟩
theorem held(prog:Program)(w:World){es':Array (Int×Value)}{t':SetTable}{h:Heap}(ho:h.get? a=some o)(hex:o.ExactSet)(hd:o.data=.set es ep t)(al:AllI es'.toList)(sz:es'.size<scanBound)(f:t'.fits es'.size=true) :
  ∃o1 ep1,(h.update a (Obj.putSet es' t')).get? a=some o1/\o1.ExactSet/\o1.data=.set es' ep1 t':=by
 have e:=SetOf_store (knd:=intKind prog w) (S':=λk=>es'.toList.any λe=>(intKind prog w).is k e.2) ho hex hd al.el (λk=>bD) sz f;exact⟨_,ep+1,e.1,hex,rfl⟩
theorem size_of{t:SetTable}(hf:t.fits n=true):t.place.size=n:=by
 simp only[SetTable.fits,ba,i5]at hf;exact hf.1
theorem av9{b:Bool}{a:Addr}{o:Obj}{es es1:Array (Int×Value)}{ep:Nat}{t t2:SetTable}{ks:List Int}{wd:Bool}{g:Bool->Sem Unit}{R:Option Bool->Shared->Prop}{rl:Array (Int×Value)×SetTable×Bool}
  (hrl:rl=relayAll t2 es1 (SetTable.grown es1.size))
  (hg:∀(c:Bool) (z:Shared) (R':Unit->Shared->Prop),R' () z->wpAny (model prog w) A (g c) R' E z)
  (ho:s.heap.get? a=some o) (hex:o.ExactSet) (hd:o.data=.set es ep t) (al:AllI es1.toList) (pm:(es1.toList.map kOf).Perm ks) (sz:es1.size<scanBound) (f:t2.fits es1.size=true) (gs:SETH.Gs t2) (ld:t2.led=b) (hwd:wd=false)
  (fin:∀h',Heap.SameBut a s.heap h'->SetI b a ks h'->R (some true) {s with heap:=h' }) :
  wpAny (model prog w) A (storeSet a es1 t2>>=λ_=>if (!wd && t2.tooFull)=true then (g rl.2.2>>=λ_=>storeSet a rl.1 rl.2.1>>=λ_=>pure (some true)) else pure (some true)) R E s:=by
 have fl:=SETH.a9h gs.gd;have ps:=size_of f;have big:=gs.big;have sb:=dv s.heap a (Obj.putSet es1 t2);refine ai (wpAny_storeSet_of ho hd ?_ (fits_of_scanBound sz))
 split
 .rename_i full;have full:t2.fill*5≥t2.mask*3:=by
   rw[hwd]at full;simpa[SetTable.tooFull] using full
  have lt:es1.size<4096:=sz;have p2:=relayAll_perm t2 es1 (SetTable.grown es1.size);obtain⟨g2,_,f2,r2⟩:=SETH.aou gs es1 (n:=SetTable.grown es1.size) (by unfold SetTable.grown;split<;>omega) (by unfold SetTable.grown;split<;>omega) (by omega)
  have l2:=ajv t2 es1 (SetTable.grown es1.size);rw[<-hrl]at p2 f2 g2 l2 r2
  clear hrl
  obtain⟨es2,t3,gv⟩:=rl;have z2:es2.size<scanBound:=by
   have:=p2.length_eq
   simp only[bG]at this;omega
  obtain⟨o1,p1,ho1,hex1,hd1⟩:=held prog w ho hex hd al sz f;refine ai (hg _ _ _ (ai (wpAny_storeSet_of ho1 hd1 (aJ (fin _ (sb.trans (dv _ a _)) ?_)) (fits_of_scanBound z2))));exact stored prog w ho1 hex1 hd1 (λe he=>al e (p2.mem_iff.mp he)) ((p2.map kOf).trans pm) z2 f2 ⟨g2,r2⟩ (l2.trans ld)
 .rename_i full;have full:t2.fill*5<t2.mask*3:=by
   rw[hwd]at full;simpa[SetTable.tooFull] using full
  exact aJ (fin _ sb (stored prog w ho hex hd al pm sz f ⟨gs,full⟩ ld))
theorem agj{b:Bool}{a:Addr}{ks:List Int}{k:Int}{tk:Tok}{Q:Bool->Shared->Prop}(hS:SetI b a ks s.heap)(few:ks.length+1<scanBound)
  (q:∀(h':Heap) (r:Bool),Heap.SameBut a s.heap h'->SetI b a (L2.stepK ks k) h'->Q r {s with heap:=h' }):wpAny (model prog w) A (setAddHashed a (.int k tk) (hashInt k)) Q E s:=by
 obtain⟨o,es,ep,t,ho,hex,hd,al,pm,sz,ft,gd,ld⟩:=hS;have hk:(intKind prog w).is k (Value.int k tk)=true:=by simp[intKind,Value.isInt]
 have lk:es.size=ks.length:=by have:=pm.length_eq;rwa[ax,bG]at this
 unfold setAddHashed setAddHashedIn;refine dI (ai (dA ho hd ft ?_));dsimp only;rw[byScan_of (knd:=intKind prog w) rfl sz al.el,aU rfl];unfold setAddByScan;refine ai (ai (fB (ai (wpAny_setScan_of (knd:=intKind prog w) hk ho hd ft al.el ?_))))
 cases c:es.toList.findIdx? (λe=>(intKind prog w).is k e.2) with
 |some j =>
  have mem:k∈ks:=by
   apply bW
   intro n
   have:=(aew (prog:=prog) (w:=w) al (k:=k)).mpr λm=>n (pm.mem_iff.mp m)
   rw[this]at c;cases c
  refine aJ (aJ ?_);have:=q s.heap false (Heap.SameBut.refl a s.heap) (by rw[show L2.stepK ks k=ks from aU mem];exact⟨o,es,ep,t,ho,hex,hd,al,pm,sz,ft,gd,ld⟩)
  exact this
 |none =>
  have nm:k∉ks:=λm=>(aew (prog:=prog) (w:=w) al).mp c (pm.mem_iff.mpr m);have es1p:=layNew_perm t es (hashInt k) (.int k tk);have wd1:=(ajt gd.1.gd es (hashInt k) (.int k tk)).2;obtain⟨gs1,_,ft1,_,_⟩:=SETH.ak0 gd.1 es (size_of ft) gd.2 (hashInt k) (.int k tk);have ld1:=agh t es (hashInt k) (.int k tk)
  generalize layNew t es (hashInt k) (.int k tk)=L at es1p ft1 gs1 ld1 wd1 ⊢
  obtain⟨es1,t1,wd,gave⟩:=L;dsimp only at es1p ft1 gs1 ld1 wd1 ⊢;rw[Array.toList_push]at es1p;have al1:AllI es1.toList:=λe he=>by
   rcases b9.mp (es1p.mem_iff.mp he) with m|m
   .exact al e m
   .rw[av]at m;exact⟨k,tk,m⟩
  have pm1:(es1.toList.map kOf).Perm (L2.stepK ks k):=by
   rw[show L2.stepK ks k=ks++[k] from bA nm]
   refine(es1p.map kOf).trans ?_;rw[bE];exact pm.append_right _
  have sz1:es1.size<scanBound:=by
   have:=es1p.length_eq
   rw[bG,aw,bG,aM]at this;omega
  have fin:∀h':Heap,Heap.SameBut a s.heap h'->SetI b a (L2.stepK ks k) h'->wpAny (model prog w) A (pure true) Q E {s with heap:=h' }:=λh' sb x=>aJ (q h' true sb x)
  have way:∀(c:Bool) (z:Shared) (R:Unit->Shared->Prop),R () z->wpAny (model prog w) A (match c with|true=>rule "set.scan.the-table-gave-way" |false=>pure ()) R E z:=λc z R h=>by
   cases c
   .exact aJ h
   .exact fB h
  refine ai (way gave _ _ ?_)
  split
  .refine ai ?_;rw[hashByValue_scannable 8 (x:=.int k tk) rfl];refine aJ ?_;exact av9 rfl way ho hex hd al1 pm1 sz1 ft1 gs1 (ld1.trans ld) wd1 fin
  .rename_i z;exact absurd gs1.plain z
end
section
variable{prog:Program}{w:World}{E:Value->Shared->Prop}{A:Around}{s:Shared}
theorem SetI.typeIs(x:SetI b a ks s.heap):s.TypeIs (.ref a) "set":=by
 obtain⟨o,_,_,_,ho,hex,_⟩:=x;exact⟨o,ho,hex.1⟩
theorem aov(hS:SetI b a ks s.heap)(few:ks.length+1<scanBound)
  (q:∀h':Heap,Heap.SameBut a s.heap h'->SetI b a (L2.stepK ks k) h'->Q .none {s with heap:=h',toks:=s.toks+1}):wpAny (model prog w) A (call (.builtin "set.add") [.ref a,.int k tk]) Q E s:=by
 refine cn F.slot_set_add hS.typeIs F.entry_set_add ?_ (F.args_set_add_2 _ _);show wpAny (model prog w) _ (Builtin.«set.add» ⟨[.ref a,.int k tk],[]⟩) _ _ s;have e:Builtin.«set.add» ⟨[.ref a,.int k tk],[]⟩=(setAdd a (.int k tk)>>=λ_=>ret .none):=by
  unfold Builtin.«set.add» Builtin.Frozenset.oneOther;rfl
 rw[e];unfold setAdd;refine ai (dI (ai ((intKind prog w).pyHash (k:=k) (by simp[intKind,Value.isInt]) ?_)))
 exact agj (s:={s with toks:=s.toks+1}) hS few λh' r sb x=>aJ ⟨_,rfl,q h' sb x⟩
def ava(b:Bool):Obj:={cls:=.type "set",dict:=none,data:=.set #[] 0 (.fresh 0 0 b)}
theorem avb{h:Heap}(e:h.get? a=some (ava b)):SetI b a [] h :=
 ⟨_, #[],0,_,e,⟨rfl,rfl,rfl⟩,rfl,λe he=>by simp at he,by simp,by decide,by simp[SetTable.fits,SetTable.fresh,SetTable.fill],⟨SETH.aot _ _ _,by show 0*5<7*3;decide⟩,rfl⟩
def byT(w:World):Bool:=w.params.followText "set-order"
theorem avc(q:Q (.ref s.heap.objs.size) {s with heap:=s.heap.push (ava (!byT w))}):wpAny (model prog w) A (newSet (.type "set")) Q E s:=by
 unfold newSet setsByText;refine ai (ai (fv (aJ ?_)));exact cU q
end
end SETB
namespace SETB
open PyProof.Rows SETA PySem.Builtin
noncomputable def itO(f:Value)(i:Nat)(a:Addr)(n ep:Nat):Obj:={cls:=.type "set_iterator",data:=.fields #[f,rawInt i,.ref a,rawInt n,rawInt ep]}
theorem slot_next:Slot "set_iterator" "__next__" "set_iterator.__next__" :=
 .of (owner := "set_iterator") (n := "__next__") (by rw[typeLookup_type,builtinLookup_eq_fast];kernel_rfl) (by decide +kernel) (by decide +kernel) (by decide +kernel)
  (Or.inl (by decide +kernel)) (by rw[hG];kernel_rfl)
theorem entry_next:entryFor table "set_iterator.__next__" = some Builtin.«set_iterator.__next__»:=entryFor_of_fast (by kernel_rfl)
theorem args_next(a:Value):argsOk "set_iterator.__next__" ⟨[a],[]⟩:=by unfold argsOk;kernel_rfl
theorem agk:entryFor table "set.__iter__" = some Builtin.«frozenset.__iter__» :=
 entryFor_alias (id' := "frozenset.__iter__") (by kernel_rfl) rfl (by decide +kernel) (by kernel_rfl)
theorem ak1(a:Value):argsOk "set.__iter__" ⟨[a],[]⟩:=by unfold argsOk;kernel_rfl
section
variable{prog:Program}{w:World}{E:Value->Shared->Prop}{A:Around}{s:Shared}
theorem a9i(q:Q (byT w) s):wpAny (model prog w) A setsByText Q E s:=by
 unfold setsByText;exact ai (fv (aJ q))
theorem a79(ho:s.heap.get? a=some o)(hd:o.data=.set es ep t)(hf:t.fits es.size=true)(bt:byT w=false)(pl:t.plain=true\/es.size<=1)(ld:t.led=true)(hk:SetTable.below t.place slot=k)
  (hr:(∃h x j,es[k]? = some (h,x)/\t.place[k]? = some j/\r=some (x,j+1))\/(es[k]? = none/\r=none)) (q:Q r s):wpAny (model prog w) A (setNext a slot i ep') Q E s:=by
 subst hk;unfold setNext
 apply ai
 apply dA ho hd hf
 apply ai
 apply a9i
 simp only[bt,cG,eV]
 split
 .rename_i z;have z:(!t.plain && decide (es.size > 1))=true:=z
  rcases pl with p|p
  .rw[p]at z;cases z
  .rw[aZ (by omega),gY]at z
   cases z
 have led:∀R:Unit->Shared->Prop,R () s->wpAny (model prog w) A (if (!t.led && !es.isEmpty)=true then unsupported "set:maker-not-led" else pure ()) R E s:=λR r=>by
  rw[ld];exact aJ r
 refine ai (led _ (aJ ?_))
 rcases hr with⟨h,x,j,e,f,rfl⟩|⟨e,rfl⟩
 .rw[e,f];exact q
 .rw[e];exact q
def Tells(w:World)(a:Addr)(slot i ep:Nat)(r:Option (Value×Nat))(s:Shared):Prop:=∀(prog:Program) (A:Around) (E:Value->Shared->Prop) (Q:Option (Value×Nat)->Shared->Prop),Q r s->wpAny (model prog w) A (setNext a slot i ep) Q E s
theorem next_item{o:Obj}{es:Array (Int×Value)}{ep i slot nx:Nat}{t:SetTable}(hi:s.heap.get? it=some (itO (rawInt slot) i a es.size ep))(ho:s.heap.get? a=some o)(hd:o.data=.set es ep t)(hf:t.fits es.size=true)(hn:Tells w a slot i ep (some (x,nx)) s)
  (q:∀h':Heap,h'.get? it=some (itO (rawInt nx) (i+1) a es.size ep)->Heap.SameBut it s.heap h'->Q (some x) {s with heap:=h' }):wpAny (model prog w) A (pyNext (.ref it)) Q E s:=by
 have hT:s.TypeIs (.ref it) "set_iterator":=⟨_,hi,rfl⟩;unfold pyNext;refine ai (iA (cB (name:=Str.ofString "__next__") hT slot_next (cn slot_next hT entry_next ?_ (args_next _))));unfold Builtin.«set_iterator.__next__»;have hn':∀{A:Around} {E:Value->Shared->Prop} {Q:Option (Value×Nat)->Shared->Prop},Q _ s->wpAny (model prog w) A (setNext a (slot:Int).toNat (i:Int).toNat (ep:Int).toNat) Q E s:=λ{A E Q} r=>hn prog A E Q r
 wp_walk using hn',dA ho hd hf
 exact⟨x,rfl,aJ (q _ (dD _ (dD _ hi rfl) rfl) ((dv ..).trans (dv ..)))⟩
theorem ak2{o:Obj}{es:Array (Int×Value)}{ep i slot:Nat}{t:SetTable}(hh:A.handled=none)(hi:s.heap.get? it=some (itO (rawInt slot) i a es.size ep))(ho:s.heap.get? a=some o)(hd:o.data=.set es ep t)(hf:t.fits es.size=true)(hn:Tells w a slot i ep none s)
  (q:∀h':Heap,Heap.ExtBut it s.heap h'->Q none {s with heap:=h' }):wpAny (model prog w) A (pyNext (.ref it)) Q E s:=by
 have hT:s.TypeIs (.ref it) "set_iterator":=⟨_,hi,rfl⟩;unfold pyNext;refine ai (iA (cB (name:=Str.ofString "__next__") hT slot_next (cn slot_next hT entry_next ?_ (args_next _))));unfold Builtin.«set_iterator.__next__»;have hn':∀{A:Around} {E:Value->Shared->Prop} {Q:Option (Value×Nat)->Shared->Prop},Q _ s->wpAny (model prog w) A (setNext a (slot:Int).toNat (i:Int).toNat (ep:Int).toNat) Q E s:=λ{A E Q} r=>hn prog A E Q r
 wp_walk using hn',dA ho hd hf
 unfold raiseNew
 apply ai
 apply wpAny_handled
 rw[show A.in1.handled=_ from hh]
 wp_walk
 show wpAny (model prog w) A (isSubtype (.type "StopIteration") (.type "StopIteration")) _ _ _;rw[isSubtype_stop];exact aJ (aJ (q _ λb o hb e=>ar _ (ar _ ((dv s.heap it _).extBut b o hb e))))
end
end SETB
namespace SETB
open PyProof.Rows SETA PySem.Builtin
def slotAt(t:SetTable)(i:Nat):Nat:=if i=0 then 0 else t.place.getD (i-1) 0+1
theorem ak3(g:Gd t)(h:i<=t.place.size):SetTable.below t.place (slotAt t i)=i:=by
 unfold slotAt
 split
 .rename_i z;subst z;exact av5 g.ri
 .have hk:i-1<t.place.size:=by omega
  have e:t.place.getD (i-1) 0=t.place[i-1]:=by simp[Array.getD,hk]
  rw[e,agd g.ri hk];omega
section
variable{prog:Program}{w:World}{E:Value->Shared->Prop}{A:Around}{s:Shared}{a:Addr}{o:Obj}{es:Array (Int×Value)}{ep i:Nat}{t:SetTable}
theorem agl(ho:s.heap.get? a=some o)(hd:o.data=.set es ep t)(hf:t.fits es.size=true)(bt:byT w=false)(pl:t.plain=true\/es.size<=1)(ld:t.led=true)(g:Gd t)(hi:i<es.size):Tells w a (slotAt t i) i ep (some (es[i].2,slotAt t (i+1))) s:=λprog A E Q q=>by
 have sz:=size_of hf;refine a79 ho hd hf bt pl ld (ak3 g (by omega)) (.inl ⟨_,_,_,cD hi,cD (by omega),rfl⟩) ?_
 have e:slotAt t (i+1)=t.place[i]'(by omega)+1:=by
  unfold slotAt;rw[bA (by omega)]
  simp[Array.getD,show i<t.place.size by omega]
 rw[e]at q;exact q
theorem agm(ho:s.heap.get? a=some o)(hd:o.data=.set es ep t)(hf:t.fits es.size=true)(bt:byT w=false)(pl:t.plain=true\/es.size<=1)(ld:t.led=true)(g:Gd t):Tells w a (slotAt t es.size) es.size ep none s:=λprog A E Q q=>by
 have sz:=size_of hf;exact a79 ho hd hf bt pl ld (ak3 g (by omega)) (.inr ⟨Array.getElem?_eq_none (by omega),rfl⟩) q
theorem aow(ho:s.heap.get? a=some o)(hex:o.ExactSet)(hd:o.data=.set es ep t)(hf:t.fits es.size=true)(nd:byT w=true\/t.plain=true\/es.size<=1)
  (q:Q (.ref s.heap.objs.size) {s with heap:=s.heap.push (itO (rawInt 0) 0 a es.size ep)}):wpAny (model prog w) A (pyIter (.ref a)) Q E s:=by
 have ht:s.TypeIs (.ref a) "set":=⟨_,ho,hex.1⟩;refine wpAny_pyIter_slot ht F.slot_set_iter (cn F.slot_set_iter ht agk ?_ (ak1 _));have dr:∀{A:Around} {E:Value->Shared->Prop} {Q:Bool->Shared->Prop},Q false s->wpAny (model prog w) A (setDrawn a) Q E s:=λ{A E Q} r=>by
  unfold setDrawn;refine ai (dA ho hd hf (ai (a9i (aJ ?_))));have:(!byT w && (!t.plain && decide (es.size > 1)))=false:=by
   rcases nd with z|z|z
   .rw[z];rfl
   .rw[z];simp
   .rw[aZ (by omega)];simp
  rw[<-this]at r;exact r
 unfold Builtin.«frozenset.__iter__»
 wp_walk using dr,dA ho hd hf
 exact⟨_,rfl, "set_iterator",_,⟨_,aO _ rfl,rfl⟩,slot_next.lookup,q⟩
end
end SETB
namespace SETB
open PyProof.Rows SETA PySem.Builtin
theorem a87{α:Type}:∀(l:List α) (i:Nat) (h:i<l.length),(l[i]::l.eraseIdx i).Perm l
 |x::l,0,_=>.refl _
 |x::l,i+1,h=>(List.Perm.swap ..).trans ((a87 l i (fH h)).cons x)
theorem ak4{α:Type}(nx:Nat->Nat):∀(n k:Nat) (l:List α) (out:Array α),l.length=n->(pickOrder.go nx n k l out).toList.Perm (out.toList++l)
 |0,k,l,out,e=>by
  cases l with
  |nil=>simp[pickOrder.go]
  |cons x l=>cases e
 |n+1,k,l,out,e=>by
  have hi:nx k%l.length<l.length:=fN _ (by omega)
  unfold pickOrder.go;rw[ag hi];refine(ak4 nx n (k+1) _ _ (by rw[List.length_eraseIdx_of_lt hi];omega)).trans ?_
  rw[Array.toList_push,cV];exact(a87 l _ hi).append_left _
theorem ak5{α:Type}(nx:Nat->Nat)(xs:Array α):(pickOrder nx xs).toList.Perm xs.toList:=by
 have:=ak4 nx xs.size 0 xs.toList #[] (by simp)
 simpa[pickOrder] using this
noncomputable def aex(w:World)(a:Addr)(ep:Nat)(es:Array (Int×Value)):Array (Int×Value):=if byT w then pickOrder (w.params.setOrder a ep) es else es
theorem aey(w:World)(a:Addr)(ep:Nat)(es:Array (Int×Value)):(aex w a ep es).toList.Perm es.toList:=by
 unfold aex
 split
 .exact ak5 _ _
 .exact .refl _
theorem a4u(w:World)(a:Addr)(ep:Nat)(es:Array (Int×Value)):(aex w a ep es).size=es.size:=by
 have:=(aey w a ep es).length_eq
 simpa using this
def a9j(w:World)(t:SetTable)(i:Nat):Nat:=if byT w then 0 else slotAt t i
section
variable{prog:Program}{w:World}{E:Value->Shared->Prop}{A:Around}{s:Shared}{a:Addr}{o:Obj}{es:Array (Int×Value)}{ep i:Nat}{t:SetTable}
theorem abm(ho:s.heap.get? a=some o)(hd:o.data=.set es ep t)(hf:t.fits es.size=true)(bt:byT w=true)(q:Q (pickOrder (w.params.setOrder a ep) es) s):wpAny (model prog w) A (setWalk a) Q E s:=by
 unfold setWalk
 apply ai
 apply dA ho hd hf
 apply ai
 apply a9i
 simp only[bt,dQ];exact ai (fv (aJ q))
theorem abn(ho:s.heap.get? a=some o)(hd:o.data=.set es ep t)(hf:t.fits es.size=true)(bt:byT w=true)
  (q:Q (((pickOrder (w.params.setOrder a ep) es)[i]?).map λe=>(e.2,slot)) s):wpAny (model prog w) A (setNext a slot i ep) Q E s:=by
 unfold setNext
 apply ai
 apply dA ho hd hf
 apply ai
 apply a9i
 simp only[bt,dQ,bne_self_eq_false,cG,eV]
 first
 |exact ai (abm ho hd hf bt (aJ q))
 |exact ai (aJ (ai (abm ho hd hf bt (aJ q))))
theorem avd(ho:s.heap.get? a=some o)(hd:o.data=.set es ep t)(hf:t.fits es.size=true)(nd:byT w=true\/t.plain=true\/es.size<=1)(ld:t.led = !byT w)(g:Gd t)(hi:i<(aex w a ep es).size):Tells w a (a9j w t i) i ep (some ((aex w a ep es)[i].2,a9j w t (i+1))) s:=by
 have sz:=a4u w a ep es
 cases bt:byT w with
 |true =>
  intro prog A E Q q
  refine abn ho hd hf bt ?_;have e:pickOrder (w.params.setOrder a ep) es=aex w a ep es:=by unfold aex;rw[bt];rfl
  rw[e,cD hi];unfold a9j at q ⊢;rw[bt]at q ⊢;exact q
 |false =>
  have e:aex w a ep es=es:=by unfold aex;rw[bt];rfl
  rw[bt]at ld;have:=agl (i:=i) ho hd hf bt (nd.resolve_left (by rw[bt];decide)) ld g (by omega)
  unfold a9j;rw[bt];simp only[e,cG,eV];exact this
theorem ak6(ho:s.heap.get? a=some o)(hd:o.data=.set es ep t)(hf:t.fits es.size=true)(nd:byT w=true\/t.plain=true\/es.size<=1)(ld:t.led = !byT w)(g:Gd t):Tells w a (a9j w t es.size) es.size ep none s:=by
 have sz:=a4u w a ep es
 cases bt:byT w with
 |true =>
  intro prog A E Q q
  refine abn ho hd hf bt ?_;have e:pickOrder (w.params.setOrder a ep) es=aex w a ep es:=by unfold aex;rw[bt];rfl
  rw[e,Array.getElem?_eq_none (by omega)]
  exact q
 |false =>
  rw[bt]at ld;have:=agm ho hd hf bt (nd.resolve_left (by rw[bt];decide)) ld g
  unfold a9j;rw[bt];exact this
end
end SETB
namespace SETB
open PyProof.Rows SETA PySem.Builtin
theorem slot_self:Slot "set_iterator" "__iter__" "set_iterator.__iter__" :=
 .of (owner := "set_iterator") (n := "__iter__") (by rw[typeLookup_type,builtinLookup_eq_fast];kernel_rfl) (by decide +kernel) (by decide +kernel) (by decide +kernel)
  (Or.inl (by decide +kernel)) (by rw[hG];kernel_rfl)
theorem entry_self:entryFor table "set_iterator.__iter__" = some Builtin.«dict_keyiterator.__iter__»:=entryFor_alias (id' := "dict_keyiterator.__iter__") (by kernel_rfl) rfl (by decide +kernel) (by kernel_rfl)
theorem args_self(a:Value):argsOk "set_iterator.__iter__" ⟨[a],[]⟩:=by unfold argsOk;kernel_rfl
section
variable{prog:Program}{w:World}{A:Around}{a I:Addr}{o:Obj}{es:Array (Int×Value)}{ep:Nat}{t:SetTable}
theorem ave{s:Shared}(ht:s.TypeIs (.ref I) "set_iterator")(q:Q (.ref I) s):wpAny (model prog w) A (pyIter (.ref I)) Q E s:=by
 refine wpAny_pyIter_slot ht slot_self (cn slot_self ht entry_self ?_ (args_self _));show wpAny (model prog w) _ (ret (.ref I)) _ _ s;exact aJ ⟨_,rfl, "set_iterator",_,ht,slot_next.lookup,q⟩
theorem ak7(hh:A.handled=none)(ne:a≠I)(hd:o.data=.set es ep t)(hf:t.fits es.size=true)(nd:byT w=true\/t.plain=true\/es.size<=1)(ld:t.led = !byT w)(g:Gd t) :
  Walks prog w A I [I,a] [I] es.size (λi v=>((aex w a ep es)[i]?).map (·.2)=some v) (λi h=>h.get? I=some (itO (rawInt (a9j w t i)) i a es.size ep)/\h.get? a=some o) where
 sub:=λb hb=>aP.mpr (.inl (av.mp hb))
 frame:=λ_ _ _ st hk=>⟨hk I (by simp) _ st.1,hk a (by simp) _ st.2⟩
 item:=λi s Q E hi st q=>by
  have hi':i<(aex w a ep es).size:=by rw[a4u];exact hi
  refine next_item st.1 st.2 hd hf (avd st.2 hd hf nd ld g hi') λh' e sb=>?_;exact q _ h' s.toks (by rw[cD hi'];rfl) ⟨e,sb.extBut a o ne st.2⟩ λb o hb e=>sb.extBut b o (λh=>hb (by simp[h])) e
 done:=λs Q E st q=>ak2 hh st.1 st.2 hd hf (ak6 st.2 hd hf nd ld g) λh' e=>q h' s.toks λb o hb x=>e b o (λh=>hb (by simp[h])) x
 self:=λi s Q E st q=>ave ⟨_,st.1,rfl⟩ q
end
theorem ak8{A:Around}{s:Shared}(hh:A.handled=none)(hS:SetI (!byT w) a ks s.heap)
  (q:∀(es:Array (Int×Value)) (St:Nat->Heap->Prop),AllI es.toList->(es.toList.map kOf).Perm ks->∀h':Heap,(∀b o,s.heap.get? b=some o->h'.get? b=some o)->h'.objs.size=s.heap.objs.size+1->St 0 h'->
   Walks prog w A s.heap.objs.size [s.heap.objs.size,a] [s.heap.objs.size] es.size (λi v=>(es[i]?).map (·.2)=some v) St->Q (.ref s.heap.objs.size) {s with heap:=h' }):wpAny (model prog w) A (pyIter (.ref a)) Q E s:=by
 obtain⟨o,es,ep,t,ho,hex,hd,al,pm,sz,ft,gr,ld⟩:=hS;have nd:byT w=true\/t.plain=true\/es.size<=1:=.inr (.inl gr.1.plain);refine aow ho hex hd ft nd ?_;have ne:a≠s.heap.objs.size:=λc=>by
  rw[c]at ho;simp[Heap.get?]at ho
 have W:=ak7 (prog:=prog) (I:=s.heap.objs.size) hh ne hd ft nd ld gr.1.gd;have pp:=aey w a ep es;rw[<-a4u w a ep es]at W;refine q (aex w a ep es) _ (λe he=>al e (pp.mem_iff.mp he)) ((pp.map kOf).trans pm) _ (λb o e=>ar _ e) (by simp[Heap.push]) ⟨?_,ar _ ho⟩ W
 have s0:a9j w t 0=0:=by unfold a9j slotAt;simp
 rw[s0,a4u];exact aO _ rfl
end SETB
namespace SETB
open PyProof.Rows SETA PySem.Builtin
section
variable{prog:Program}{w:World}{A:Around}{s:Shared}{E:Value->Shared->Prop}{a:Addr}{ks:List Int}
theorem aox(ht:s.TypeIs (.ref a) "set")(q:Q false s):wpAny (model prog w) A (Builtin.List.listLengthHint (.ref a)) Q E s:=by
 unfold Builtin.List.listLengthHint;refine ai (iP ht F.slot_set_len.lookup ?_);have sp:splitId "set.__len__" = some ("set","__len__"):=by decide +kernel
 dsimp only;rw[sp];dsimp only
 apply ai
 apply wpAny_isInstance (T := "set") (b:=true) ht (by rw[hG];kernel_rfl)
 rw[bA (by decide)]
 refine wpAny_ite_split (λ_=>?_) λn=>absurd (by decide +kernel) n
 apply ai
 apply gO ht
 exact aJ q
theorem acy(hh:A.handled=none)(hS:SetI (!byT w) a ks s.heap)
  (q:∀(vs:List Value) (js:List Int) (s':Shared),js.Perm ks->vs.length=js.length->(∀(i:Nat) (v:Value),vs[i]? = some v->∃k t,js[i]? = some k/\v=Value.int k t)->Moved [] (λx y=>y=x) s s'->s.heap.objs.size<=s'.heap.objs.size->Q vs s'):wpAny (model prog w) A (collect (.ref a)) Q E s:=by
 unfold collect
 apply ai
 apply wpAny_runValue
 apply gI F.entry_proto_collect
 rw[g7 F.plain_proto_collect _];unfold Builtin.«proto.collect»
 wp_walk
 refine⟨plainId_quiet F.plain_list_iadd _,gI F.entry_list_iadd ?_⟩;rw[g7 F.plain_list_iadd _];obtain⟨o,ho,hT⟩:∃o,s.heap.get? a=some o/\o.cls=.type "set":=by
  obtain⟨o,es,ep,t,ho,hex,_⟩:=hS;exact⟨o,ho,hex.1⟩
 have lt:=aX ho;have up:∀b x,s.heap.get? b=some x->(s.heap.push {cls:=.type "list",data:=.seq #[]}).get? b=some x:=λb x e=>ar _ e;have sz0:(s.heap.push {cls:=.type "list",data:=.seq #[]}).objs.size=s.heap.objs.size+1:=by simp[Heap.push]
 have hL:(s.heap.push {cls:=.type "list",data:=.seq #[]}).get? s.heap.objs.size=some {cls:=.type "list",data:=.seq #[]}:=aO _ rfl;have hS0:=hS.keep λx e=>up a x e;have few:=hS.len
 generalize s.heap.push {cls:=.type "list",data:=.seq #[]}=h0 at up sz0 hL hS0 ⊢
 show wpAny (model prog w) A.in1 (Builtin.List.listExtendWith (.ref s.heap.objs.size) (.ref a) (.ref s.heap.objs.size)) _ _ _;unfold Builtin.List.listExtendWith
 apply ai
 have ht0:({s with heap:=h0}:Shared).TypeIs (.ref a) "set":=⟨o,up a o ho,hT⟩
 apply gO ht0
 have far:s.heap.objs.size≠a:=iK lt;rw[bA (by simp[Builtin.List.listSameRef,far])]
 apply ai
 refine ak8 (s:={s with heap:=h0}) hh hS0 λes St al pm h1 ext sz1 st W=>?_
 apply ai
 apply dI
 have ht1:({s with heap:=h1}:Shared).TypeIs (.ref a) "set":=⟨o,ext a o (up a o ho),hT⟩
 apply aox ht1
 refine wpAny_ite_split (λ_=>?_) λn=>absurd (by decide +kernel) n
 apply ai
 apply fB
 apply ai
 have n1:es.size=ks.length:=by
  have:=pm.length_eq
  rwa[ax,bG]at this
 have hL1:=ext _ _ hL;show wpAny (model prog w) A.in1 (updateSeq s.heap.objs.size (·.push .none)>>=λ_=>updateSeq s.heap.objs.size (·.pop)) _ _ _;refine ai (wpAny_updateSeq hL1 rfl ?_);have hL2:=dD (Obj.mapSeq (·.push Value.none)) hL1 rfl;refine wpAny_updateSeq hL2 rfl ?_;have hL3:=dD (Obj.mapSeq (·.pop)) hL2 rfl;have oth:∀b x,b≠s.heap.objs.size->h1.get? b=some x->((h1.update s.heap.objs.size (Obj.mapSeq (·.push Value.none))).update s.heap.objs.size (Obj.mapSeq (·.pop))).get? b=some x :=
  λb x hb e=>(dR _ _ (fI hb)).trans ((dR _ _ (fI hb)).trans e)
 have hf:s.heap.objs.size∉[h0.objs.size,a]:=λc=>by
  simp only[aP,bp,cH]at c
  rcases c with c|c
  .exact bT (Nat.lt_of_lt_of_eq (fW _) sz0.symm) c
  .exact far c
 refine aJ ⟨plainId_quiet F.plain_extend_loop _,codeAny_extend_loopS W.toS (by have:ks.length<4096:=few;rw[n1];unfold sizeLine;omega) _ hf _ es.size 0 _ _ _ rfl (bU _)
  (W.frame 0 h1 _ st λb hb x e=>oth b x (λc=>hf (c ▸ hb)) e) hL3 (ItemsOf.nil _) λs' acc c' hm hA hI=>?_⟩
 show wpAny (model prog w) A (load s.heap.objs.size>>=_) _ _ s'
 apply ai
 apply wpAny_load hA
 refine aJ (q acc.toList (es.toList.map kOf) s' pm (by rw[bG,hI.1,ax,bG]) (λi v e=>?_) ⟨λb x _ e=>?_,hm.gens,hm.drawn,hm.os,hm.toks⟩ (eR (aX hA)))
 .have this:(es[i]?).map (·.2)=some v:=hI.2 i v (by simpa using e)
  cases g:es[i]? with
  |none=>rw[g]at this;cases this
  |some y =>
   rw[g]at this;have m:y∈es.toList:=by
    obtain⟨hi,z⟩:=gL.mp g;rw[<-z];simp
   obtain⟨k,t,rfl⟩:=al y m;cases this
   exact⟨k,t,by simp[g,kOf],rfl⟩
 .have lb:=aX e;refine hm.heap b x (λc=>?_) (oth b x (bT lb) (ext b x (up b x e)));simp only[aP,bp,cH]at c
  rcases c with c|c
  .exact bT lb c
  .exact bT (Nat.lt_of_lt_of_eq (eC lb) sz0.symm) c
end
end SETB
namespace SETB
open PyProof.Rows SETA PySem.Builtin
section
variable{prog:Program}{w:World}{A:Around}{s:Shared}{E:Value->Shared->Prop}{a:Addr}{ks:List Int}
theorem ints_of{vs:List Value}{js:List Int}(len:vs.length=js.length)(h:∀(i:Nat) (v:Value),vs[i]? = some v->∃k t,js[i]? = some k/\v=Value.int k t):IntsAre vs js:=by
 have all:∀v,v∈vs->∃n t,v=Value.int n t:=λv hv=>by
  obtain⟨i,hi,e⟩:=fh.mp hv;obtain⟨k,t,_,z⟩:=h i v (by rw[ag hi,e])
  exact⟨k,t,z⟩
 have e:vs.map numOf=js:=by
  refine fV (by rw[ax,len]) λi h1 h2=>?_
  have hi:i<vs.length:=by omega
  obtain⟨k,t,x,z⟩:=h i vs[i] (ag hi);rw[List.getElem_map,z];rw[ag h2]at x;cases x
  rfl
 have:=intsAre_map vs all
 rwa[e]at this
theorem agn(hh:A.handled=none)(hS:SetI (!byT w) a ks s.heap)(h64:ks.length<64)
  (q:∀(l:Addr) (out:Array Value) (e:Nat) (s':Shared),s.heap.objs.size<=l->IntsAre out.toList (PySem.W.sortI ks)->s'.heap.get? l=some (seqObj "list" out e)->Moved [] (λx y=>y=x) s s'->Q (.ref l) s') :
  wpAny (model prog w) A (call (.builtin "sorted") [.ref a]) Q E s:=by
 refine Calls.call_function_entry kind_sorted plain_sorted entry_sorted (args_sorted1 _) ?_;unfold Builtin.«sorted»
 apply ai (m:=checkCount "sorted" 1 1 _)
 apply aJ
 apply ai
 refine acy hh hS λvs js s1 pj len it mv up=>?_;have hI:=ints_of len it;have l64:vs.length<64:=by rw[len,pj.length_eq];exact h64
 apply ai
 refine wpAny_newList ?_ (hsz:=by rw[eS];omega)
 have hL:(s1.heap.push (seqObj "list" vs.toArray 0)).get? s1.heap.objs.size=some (seqObj "list" vs.toArray 0):=aO _ rfl
 apply ai
 apply dI
 refine cn slot_list_sort (s:={s1 with heap:=s1.heap.push (seqObj "list" vs.toArray 0)}) ⟨_,hL,rfl⟩ entry_list_sort (list_sort_tree hL hI l64 λout ns a1 a2 a3=>⟨_,rfl,?_⟩) (args_list_sort _)
 have e2:ns=PySem.W.sortI ks:=PySem.W.eq_sortI (a2.trans pj) a3;subst e2;obtain⟨e,he⟩:=sortedHeap_at (out:=out) hL;refine aJ ⟨_,rfl,q _ out e _ ?_ a1 he ⟨λb x hb g=>?_,mv.gens,mv.drawn,mv.os,mv.toks⟩⟩
 .exact up
 .have g1:=mv.heap b x hb g;have lt:=aX g1;show(sortedHeap _ _ _ _).get? b=some x;rw[sortedHeap_old (bT lt) (by rw[size_push'];exact eC lt)]
  exact ar _ g1
end
end SETB
namespace L2
open PyProof.Rows SETB
def avf(w:World)(a:Addr)(ks:List Int):HO:=.ext λh=>SetI (!byT w) a ks h
section
variable{X:Cx}
theorem a7a(hc:X.calm=true):CallR X (.builtin "sorted") (λxs H Q=>∃(p:Addr) (ks:List Int),xs=[.ref p]/\H p=some (avf X.w p ks)/\ks.length<64/\∀l,H l=none->Q (.ref l) (upd H l (.lst ((PySem.W.sortI ks).map V.int)))):=by
 intro aA s Z H xs us Q I r ⟨p,ks,e,hp,h64,q⟩
 subst e;obtain⟨u,rfl,ru⟩:=vals1 r;cases ru
 obtain⟨hS,_⟩:=I.hok p _ hp;refine agn (I.ok.hd hc) hS h64 λl out e s' hl a1 he mv=>?_;obtain⟨h',g',d',t',o'⟩:=s';obtain⟨mh,mg,md,mo,mt⟩:=mv;dsimp only at mh mg md mo mt he;subst mg md mo;have ln:(PySem.W.sortI ks).length=ks.length:=(gS ks).length_eq;refine⟨.ref l,_,I.laid (t':=t') (λb u g=>mh b u (by simp) g) hl (show ObjOk X.prog X.w _ _ _ (.lst ((PySem.W.sortI ks).map V.int)) from ⟨by rw[ax,ln];have:=eS;omega,out.toList,e,a4i a1,by simpa[seqObj] using he⟩),rfl,q _ (I.hok.fresh hl)⟩
theorem avh(x:SetI (!byT w) a ks h):ObjOk P w H h a (avf w a ks):=by
 refine⟨x,?_,λh1 h2 p k=>p.keep k⟩;obtain⟨o,_,_,_,ho,_⟩:=x;exact⟨o,ho⟩
end
end L2
namespace L2
open PyProof.Rows SETB
section
variable{prog:Program}{w:World}{A:Around}{R:Result->Shared->Prop}{s:Shared}{aD t0 i0 t1 i1:Expr}{aB:Scope}{pos:Pos}{it acc:Value}{env:Env}
theorem ago(J:Nat->Shared->Prop)
  (step:∀m z,J m z->wpAny (model prog w) A (pyNext it) (λgot z1=>match got with
   |none=>R (.ok .next) z1
   |some v=>wpAny (model prog w) A (letOwnedTupleGo t1 it v) (λ_ z2=>wpAny (model prog w) A (assign t1 env v) (λ_ z3=>wpAny (model prog w) A (eval aD env) (λx z4 =>
     wpAny (model prog w) A (call (.builtin "set.add") [acc,x]) (λ_ z5=>∃m',m'<m/\J m' z5) (λ_ _=>False) z4)
     (λ_ _=>False) z3) (λ_ _=>False) z2) (λ_ _=>False) z1) (λ_ _=>False) z)
  (m:Nat) (j0:J m s):codeAny (model prog w) A (.compLoop (.SetComp aD [⟨t0,i0,[],0⟩,⟨t1,i1,[],0⟩] aB pos) 1 it acc env) R s:=by
 refine codeAny_loop rfl J (λm z hj=>(wpAny_noted ?_:wpAny _ _ ((compTurn (.SetComp aD [⟨t0,i0,[],0⟩,⟨t1,i1,[],0⟩] aB pos) 1 it acc env).onRaise _) _ _ z)) m j0;show wpAny (model prog w) _ (standAt i1.pos>>=λ_=>pyNext it>>=_) _ _ z
 apply ai
 apply dB
 apply ai
 refine bO (step m z hj) (λgot z1 h1=>?_) λ_ _ no=>no.elim
 match got,h1 with
 |none,h1=>exact aJ h1
 |some v,h1 =>
  apply ai
  refine bO h1 (λ_ z2 h2=>?_) λ_ _ no=>no.elim
  apply ai
  refine bO h2 (λ_ z3 h3=>?_) λ_ _ no=>no.elim;show wpAny (model prog w) _ ((eval aD env>>=λx=>standAt aD.pos>>=λ_=>call (.builtin "set.add") [acc,x]>>=λ_=>pure ())>>=_) _ _ _
  apply ai
  apply ai
  refine bO h3 (λx z4 h4=>?_) λ_ _ no=>no.elim
  apply ai
  apply dB
  apply ai
  exact bO h4 (λ_ z5 h5=>aJ (aJ ⟨rfl,h5⟩)) λ_ _ no=>no.elim
theorem acz(h0:codeAny (model prog w) A (.compLoop (.SetComp aD [⟨t0,i0,[],0⟩,⟨t1,i1,[],0⟩] aB pos) 1 it acc env) R s)
  (h:wpAny (model prog w) A (pyIter it) (λit' s'=>codeAny (model prog w) A (.compLoop (.SetComp aD [⟨t0,i0,[],0⟩,⟨t1,i1,[],0⟩] aB pos) 1 it' acc env) R s') (λ_ _=>False) s) :
  codeAny (model prog w) A (.compStart (.SetComp aD [⟨t0,i0,[],0⟩,⟨t1,i1,[],0⟩] aB pos) 1 it acc env) R s:=by
 apply gH
 show wpAny (model prog w) _ ((compStart (.SetComp aD [⟨t0,i0,[],0⟩,⟨t1,i1,[],0⟩] aB pos) 1 it acc env).onRaise _) _ _ s
 apply iq
 unfold compStart;show wpAny (model prog w) _ (ask>>=_) _ _ s
 apply ai
 apply fv
 refine wpAny_ite ?_
 split
 .first
  |exact aJ ⟨rfl,h0⟩
  |exact ai (aJ (aJ ⟨rfl,h0⟩))
 .apply ai
  apply fB
  show wpAny (model prog w) _ (standAt i1.pos>>=_) _ _ s
  apply ai
  apply dB
  apply ai
  exact bO h (λit' s' h'=>aJ ⟨rfl,h'⟩) λ_ _ no=>no.elim
theorem ad0(J:Nat->Shared->Prop)
  (step:∀m z,J m z->wpAny (model prog w) A (pyNext it) (λgot z1=>match got with
   |none=>R (.ok .next) z1
   |some v=>wpAny (model prog w) A (letOwnedTupleGo t0 it v) (λ_ z2=>wpAny (model prog w) A (assign t0 env v) (λ_ z3=>wpAny (model prog w) A (eval i1 env) (λx z4 =>
     wpAny (model prog w) A (foldedSetIterable i1 env x) (λy z5=>wpAny (model prog w) A (pyIter y) (λit1 z6 =>
      codeAny (model prog w) A (.compStart (.SetComp aD [⟨t0,i0,[],0⟩,⟨t1,i1,[],0⟩] aB pos) 1 it1 acc env) (λr z7=>∃f,r=.ok f/\∃m',m'<m/\J m' z7) z6) (λ_ _=>False) z5) (λ_ _=>False) z4)
     (λ_ _=>False) z3) (λ_ _=>False) z2) (λ_ _=>False) z1) (λ_ _=>False) z)
  (m:Nat) (j0:J m s):codeAny (model prog w) A (.compLoop (.SetComp aD [⟨t0,i0,[],0⟩,⟨t1,i1,[],0⟩] aB pos) 0 it acc env) R s:=by
 refine codeAny_loop rfl J (λm z hj=>(wpAny_noted ?_:wpAny _ _ ((compTurn (.SetComp aD [⟨t0,i0,[],0⟩,⟨t1,i1,[],0⟩] aB pos) 0 it acc env).onRaise _) _ _ z)) m j0;show wpAny (model prog w) _ (standAt i0.pos>>=λ_=>pyNext it>>=_) _ _ z
 apply ai
 apply dB
 apply ai
 refine bO (step m z hj) (λgot z1 h1=>?_) λ_ _ no=>no.elim
 match got,h1 with
 |none,h1=>exact aJ h1
 |some v,h1 =>
  apply ai
  refine bO h1 (λ_ z2 h2=>?_) λ_ _ no=>no.elim
  apply ai
  refine bO h2 (λ_ z3 h3=>?_) λ_ _ no=>no.elim;show wpAny (model prog w) _ (eval i1 env>>=_) _ _ _
  apply ai
  refine bO h3 (λx z4 h4=>?_) λ_ _ no=>no.elim
  apply ai
  apply dB
  show wpAny (model prog w) _ (foldedSetIterable i1 env x>>=_) _ _ _
  apply ai
  refine bO h4 (λy z5 h5=>?_) λ_ _ no=>no.elim;show wpAny (model prog w) _ (holding [y] (pyIter y)>>=_) _ _ _
  apply ai
  apply dI
  refine bO h5 (λit1 z6 h6=>?_) λ_ _ no=>no.elim
  apply ai
  refine wpAny_runOwn (fQ h6 λr z7 h7=>?_);obtain⟨f,rfl,h8⟩:=h7;exact aJ ⟨rfl,h8⟩
end
theorem ak9:eval (.SetComp aD gens aB pos) env =
  comprehension (.SetComp aD gens aB pos) aB env (firstIterPos gens pos) (newSet (.type "set")) (firstAsync gens) (firstIter gens env):=rfl
section
variable{prog:Program}{w:World}{A:Around}{R:Result->Shared->Prop}{s:Shared}{aD t0 i0 t1 i1:Expr}{aB:Scope}{pos:Pos}{it acc:Value}{env:Env}
theorem abo(h0:codeAny (model prog w) A (.compLoop (.SetComp aD [⟨t0,i0,[],0⟩,⟨t1,i1,[],0⟩] aB pos) 0 it acc env) R s)
  (h:wpAny (model prog w) A (pyIter it) (λit' s'=>codeAny (model prog w) A (.compLoop (.SetComp aD [⟨t0,i0,[],0⟩,⟨t1,i1,[],0⟩] aB pos) 0 it' acc env) R s') (λ_ _=>False) s) :
  codeAny (model prog w) A (.compStart (.SetComp aD [⟨t0,i0,[],0⟩,⟨t1,i1,[],0⟩] aB pos) 0 it acc env) R s:=by
 apply gH
 show wpAny (model prog w) _ ((compStart (.SetComp aD [⟨t0,i0,[],0⟩,⟨t1,i1,[],0⟩] aB pos) 0 it acc env).onRaise _) _ _ s
 apply iq
 unfold compStart;show wpAny (model prog w) _ (ask>>=_) _ _ s
 apply ai
 apply fv
 refine wpAny_ite ?_
 split
 .first
  |exact aJ ⟨rfl,h0⟩
  |exact ai (aJ (aJ ⟨rfl,h0⟩))
 .apply ai
  apply fB
  show wpAny (model prog w) _ (standAt i0.pos>>=_) _ _ s
  apply ai
  apply dB
  apply ai
  exact bO h (λit' s' h'=>aJ ⟨rfl,h'⟩) λ_ _ no=>no.elim
end
section
variable{X:Cx}
theorem agp(I:Inv X aA Z H s)
  (hf:∀b∈fp,FpOk X aA H b) (hC:s.heap.objs.size<=C) (hacc:s.heap.objs.size<=acc)
  (J:Inv (cxC X N aB cl C fp s H) [] Z' H' s') (hn:H' acc=none) (hob:ObjOk X.prog X.w (upd H' acc ho) h' acc ho) (sb:Heap.SameBut C s'.heap h') :
  Inv X aA Z (upd H' acc ho) {s' with heap:=h' }:=a7w (Y:=cxC X N aB cl C fp s H) I hf hC hacc ⟨rfl,rfl,rfl,rfl,rfl,rfl,rfl⟩ J hn hob sb
theorem FpOk.on(f:FpOk Y aA H b)(hp:Y.pn=[])(hn:H' b=none)(ne:b∉L):FpOk Y (xr L h) H' b:=by
 obtain⟨_,f1,f2,f3,f4,_⟩:=f;refine⟨hn,f1,f2,f3,f4,λp hq z=>ne ?_⟩;rw[hp]at hq;have:=(aai (show p∈xr L h from hq)).1
 rw[<-z];exact this
def b4w(w:World)(wi1:TI)(s0:St)(g0 g1:TG)(te:TE)(Q:VK)(J0:It)(H1:Hp):Prop :=
 ∃W:Nat->Nat->List Int->Hp->Prop,(∃m,W 0 m [] H1)/\∀i m ks H,W i m ks H->
  (J0.stop i H/\∀p,H p=none->Q (.ref p) (upd H p (avf w p ks))) \/
  (J0.go i H/\∀x H',J0.yld i H x H'->g0 x s0 H' λZ2 H2=>Ext s0 Z2/\wi1 Z2 H2 λJ1 H3=>∃V:Nat->Nat->List Int->Hp->Prop,(∃n,V 0 n ks H3)/\∀j n ks H,V j n ks H->
   (J1.stop j H/\∃m',m'<m/\W (i+1) m' ks H) \/
   (J1.go j H/\∀y H',J1.yld j H y H'->g1 y Z2 H' λZ3 H4=>Ext Z2 Z3/\te Z3 H4 λz H5=>∃k,z=.int k/\ks.length+1<scanBound/\∃n',n'<n/\V (j+1) n' (stepK ks k) H5))
noncomputable def b3o(w:World)(wi0 wi1:TI)(s0:St->St)(g0 g1:TG)(te:TE):TE:=λZ H Q=>wi0 Z H λJ0 H1=>b4w w wi1 (s0 Z) g0 g1 te Q J0 H1
theorem aoy{Y:Cx}{ac it:Addr}{fp:List Addr}{tn:Nat->Heap->Prop}{J0:It}{Z0:St}{H2:Hp}{s4:Shared}{W:Nat->Nat->List Int->Hp->Prop}{Q:VK}(Yc:Y.calm=true)(no:∀v s,Y.xe v s->False)(Yn:Y.pn=[])(T:Turn Y.prog Y.w Y.K t0 J0 fp it tn)
  (stat:∀{H':Hp},(∀b∈fp,H' b=none)->∀b∈fp,FpOk Y [] H' b) (statA:∀{H':Hp},H' ac=none->FpOk Y [] H' ac) (accF:ac∉fp) (YG0:PG Y t0 g0) (YI1:PI Y t1 i1 wi1) (YG1:PG Y t1 g1) (YE:PE Y aD te) (hs1:∀env x,foldedSetIterable i1 env x=pure x)
  (turn:∀i m ks H,W i m ks H->(J0.stop i H/\∀p,H p=none->Q (.ref p) (upd H p (avf Y.w p ks))) \/
   (J0.go i H/\∀x H',J0.yld i H x H'->g0 x Z0 H' λZ2 H2=>Ext Z0 Z2/\wi1 Z2 H2 λJ1 H3=>∃V:Nat->Nat->List Int->Hp->Prop,(∃n,V 0 n ks H3)/\∀j n ks H,V j n ks H->
    (J1.stop j H/\∃m',m'<m/\W (i+1) m' ks H) \/
    (J1.go j H/\∀y H',J1.yld j H y H'->g1 y Z2 H' λZ3 H4=>Ext Z2 Z3/\te Z3 H4 λz H5=>∃k,z=.int k/\ks.length+1<scanBound/\∃n',n'<n/\V (j+1) n' (stepK ks k) H5)))
  (w0:W 0 m0 [] H2) (K0:Inv Y [] Z0 H2 s4) (st4:tn 0 s4.heap) (f0:∀b∈fp,H2 b=none) (fa:H2 ac=none) (hacc:SetI (!byT Y.w) ac [] s4.heap)
  (fin:∀s6 H6 ks,Inv Y [] Z0 H6 s6->H6 ac=none->SetI (!byT Y.w) ac ks s6.heap->(∀p,H6 p=none->Q (.ref p) (upd H6 p (avf Y.w p ks)))->R (.ok .next) s6) :
  codeAny (model Y.prog Y.w) Y.A (.compLoop (.SetComp aD [⟨t0,i0,[],0⟩,⟨t1,i1,[],0⟩] aB pos) 0 (.ref it) (.ref ac) Y.env) R s4:=by
 refine ad0 (λn s'=>∃i Z' H' ks,Inv Y [] Z' H' s'/\Ext (Z0) Z'/\tn i s'.heap/\(∀b∈fp,H' b=none)/\H' ac=none /\
  SetI (!byT Y.w) ac ks s'.heap/\W i n ks H') ?_ m0
  ⟨0,_,H2,[],K0,⟨rfl,λ_ _ z=>z⟩,st4,f0,fa,hacc,w0⟩
 rintro n s5 ⟨i,Z5,H5,ks,I5,x5,st5,fr5,fa5,ac5,w5⟩
 have I5':Inv Y [] (Z0) H5 s5:=I5.weak x5.1.symm x5.2;have hao:∃o,s5.heap.get? ac=some o/\∀v,o.data≠.cell v:=by
  obtain⟨o,es,ep,t,ho,_,hd,_⟩:=ac5;exact⟨o,ho,λv z=>by rw[hd]at z;cases z⟩
 have I5p:Inv Y (xr [ac] s5.heap) (Z0) H5 s5:=Inv.pinned (aA:=[]) (fp:=[ac]) I5' (λb hb=>by rw[av.mp hb];exact statA fa5) (λb hb=>by rw[av.mp hb];exact hao)
 have F5:∀b∈fp,FpOk Y (xr [ac] s5.heap) H5 b:=λb hb=>(stat fr5 b hb).on Yn (fr5 b hb) (λz=>accF (by rw[av.mp z]at hb;exact hb))
 obtain⟨ao,hao1,hao2⟩:=hao;have pa:(ac,ao)∈xr [ac] s5.heap:=mz (by simp) hao1
 rcases turn i n ks H5 w5 with⟨stop,qn⟩|⟨go,step⟩
 .refine thn (T.done Y rfl rfl rfl Yc i _ s5 _ H5 _ I5p F5 st5 stop) ?_
  rintro r s6 ⟨hr,I6⟩
  subst hr;have e6:=(I6.pin (ac,ao) (bb _ pa)).1;have S6:SetI (!byT Y.w) ac ks s6.heap:=ac5.keep λo ho=>by rw[hao1]at ho;cases ho;exact e6
  exact fin s6 H5 ks I6.unpinned' fa5 S6 qn
 .refine thn (T.item Y rfl rfl rfl Yc i _ s5 _ H5 _ I5p F5 st5 go) ?_
  rintro r s6 ⟨u,hr,h6⟩
  subst hr;refine thn h6 ?_
  rintro _ s7 ⟨x,H7,I7,r7,y7,st7,fr7⟩
  have fa7:H7 ac=none:=(I7.pin (ac,ao) (bb _ pa)).2.1;have ac7:=(I7.pin (ac,ao) (bb _ pa)).1;have S7:SetI (!byT Y.w) ac ks s7.heap:=ac5.keep λo ho=>by rw[hao1]at ho;cases ho;exact ac7
  have obj7:∀b∈ac::fp,∃o,s7.heap.get? b=some o/\∀v,o.data≠.cell v:=λb hb=>by
   rcases aP.mp hb with e|e
   .subst e;exact⟨_,ac7,hao2⟩
   .exact T.obj _ _ st7 b e
  have I7':Inv Y (xr (ac::fp) s7.heap) (Z0) H7 s7:=by
   refine Inv.pinned (aA:=[]) (fp:=ac::fp) I7.unpinned' (λb hb=>?_) obj7
   rcases aP.mp hb with e|e
   .subst e;exact statA fa7
   .exact stat fr7 b e
  refine bO (YG0 _ s7 _ H7 x u _ I7' r7 (step x H7 y7)) (λ_ s8 ⟨Z8,H8,I8,x8,q8⟩=>?_) no;refine bO (YI1 _ s8 _ H8 _ I8 q8) (λv8 z4 h8=>fA (hs1 _ v8) (bO h8 (λitv z6 h9=>?_) no)) no;obtain⟨it1,fp1,tn1,J1,H9,e1,I9,T1,st9,f9,V,⟨n0,v0⟩,turn1⟩:=h9;subst e1;have pin9:∀b∈ac::fp,∀o,s7.heap.get? b=some o->z6.heap.get? b=some o/\H9 b=none:=λb hb o e=>by
   obtain⟨z1,z2,_⟩:=I9.pin (b,o) (bb _ (mz hb e));exact⟨z1,z2⟩
  have apart:∀b∈fp1,b∉ac::fp:=λb hb z=>by
   obtain⟨o,e,_⟩:=obj7 b z;exact(f9 b hb).2.2.2.2.2 (b,o) (bb _ (mz z e)) rfl
  have stat1:∀{H':Hp},(∀b∈fp1,H' b=none)->∀b∈fp1,FpOk Y [] H' b:=λhn b hb=>by
   obtain⟨_,k1,k2,k3,k4,_⟩:=f9 b hb;refine⟨hn b hb,k1,k2,k3,k4,λp hp=>?_⟩;rw[Yn]at hp;exact absurd (show p∈([]:List (Addr×Obj)) from hp) (by simp)
  have S9:SetI (!byT Y.w) ac ks z6.heap:=S7.keep λo ho=>(pin9 ac (by simp) o ho).1
  have inner:codeAny (model Y.prog Y.w) Y.A (.compLoop (.SetComp aD [⟨t0,i0,[],0⟩,⟨t1,i1,[],0⟩] aB pos) 1 (.ref it1) (.ref ac) Y.env)
    (λr z7=>∃f,r=.ok f/\∃m',m'<n/\∃i Z' H' ks,Inv Y [] Z' H' z7/\Ext (Z0) Z'/\tn i z7.heap/\(∀b∈fp,H' b=none)/\H' ac=none/\SetI (!byT Y.w) ac ks z7.heap/\W i m' ks H') z6:=by
   refine ago (λn s'=>∃j Z' H' ks,Inv Y [] Z' H' s'/\Ext Z8 Z'/\tn1 j s'.heap/\(∀b∈fp1,H' b=none)/\(∀b∈fp,∀o,s7.heap.get? b=some o->s'.heap.get? b=some o/\H' b=none)/\H' ac=none/\SetI (!byT Y.w) ac ks s'.heap/\V j n ks H') ?_ n0
    ⟨0,_,H9,ks,I9.unpinned',⟨rfl,λ_ _ z=>z⟩,st9,λb hb=>(f9 b hb).1,λb hb=>pin9 b (aI _ hb),(pin9 ac (by simp) _ ac7).2,S9,v0⟩
   rintro k a5 ⟨j,τ5,G5,ks5,Q5,y5,t5,e5,o5,c5,d5,v5⟩
   have Q5':Inv Y [] Z8 G5 a5:=Q5.weak y5.1.symm y5.2;have fp5:∀b∈fp,G5 b=none:=λb hb=>by
    obtain⟨o,e,_⟩:=T.obj _ _ st7 b hb;exact(o5 b hb o e).2
   have dob:∃o,a5.heap.get? ac=some o/\∀v,o.data≠.cell v:=by
    obtain⟨o,es,ep,t,ho,_,hd,_⟩:=d5;exact⟨o,ho,λv z=>by rw[hd]at z;cases z⟩
   have objs:∀b∈ac::fp,∃o,a5.heap.get? b=some o/\∀v,o.data≠.cell v:=λb hb=>by
    rcases aP.mp hb with e|e
    .subst e;exact dob
    .obtain⟨o,e',d⟩:=T.obj _ _ st7 b e;exact⟨o,(o5 b e o e').1,d⟩
   have Q5p:Inv Y (xr (ac::fp) a5.heap) Z8 G5 a5:=by
    refine Inv.pinned (aA:=[]) (fp:=ac::fp) Q5' (λb hb=>?_) objs
    rcases aP.mp hb with e|e
    .subst e;exact statA c5
    .exact stat fp5 b e
   have FF:∀b∈fp1,FpOk Y (xr (ac::fp) a5.heap) G5 b:=λb hb=>(f9 b hb).on Yn (e5 b hb) (apart b hb);obtain⟨bo,hbo1,hbo2⟩:=dob;have keep6:∀{G6:Hp} {τ:St} {a6:Shared} {P:List (Addr×Obj)},Inv Y (xr (ac::fp) a5.heap++P) τ G6 a6->(∀b∈fp,∀o,s7.heap.get? b=some o->a6.heap.get? b=some o/\G6 b=none)/\G6 ac=none/\SetI (!byT Y.w) ac ks5 a6.heap:=λ{G6 τ a6 P} I6=>by
    refine⟨λb hb o e=>?_,?_,?_⟩
    .obtain⟨z1,z2,_⟩:=I6.pin (b,o) (bb _ (bN _ (mz (aI _ hb) (o5 b hb o e).1)));exact⟨z1,z2⟩
    .exact(I6.pin (ac,bo) (bb _ (bN _ (mz (by simp) hbo1)))).2.1
    .exact d5.keep λo ho=>by
      rw[hbo1]at ho;cases ho
      exact(I6.pin (ac,bo) (bb _ (bN _ (mz (by simp) hbo1)))).1
   rcases turn1 j k ks5 G5 v5 with⟨stop1,m',hm',w6⟩|⟨go1,step1⟩
   .refine thn (T1.done Y rfl rfl rfl Yc j _ a5 _ G5 _ Q5p FF t5 stop1) ?_
    rintro r a6 ⟨hr,Q6⟩
    subst hr;obtain⟨kk1,kk2,kk3⟩:=keep6 (P:=[]) (by rw[bX];exact Q6)
    refine⟨_,rfl,m',hm',i+1,Z8,G5,ks5,Q6.unpinned',x8,?_,fp5,c5,kk3,w6⟩;exact T.keep _ _ _ st7 λb hb o e=>(kk1 b hb o e).1
   .refine thn (T1.item Y rfl rfl rfl Yc j _ a5 _ G5 _ Q5p FF t5 go1) ?_
    rintro r a6 ⟨u1,hr,h6'⟩
    subst hr;refine thn h6' ?_
    rintro _ a7 ⟨y,G7,Q7,ry,yy,t7,e7⟩
    obtain⟨p1,p2,p3⟩:=keep6 (P:=[]) (by rw[bX];exact Q7)
    have Q7p:Inv Y (xr (ac::fp) a5.heap++xr fp1 a7.heap) Z8 G7 a7:=by
     refine Inv.pinned (fp:=fp1) Q7 (λb hb=>(f9 b hb).on Yn (e7 b hb) (apart b hb)) (T1.obj _ _ t7)
    refine bO (YG1 _ a7 _ G7 y u1 _ Q7p ry (step1 y G7 yy)) (λ_ a8 ⟨τ8,G8,Q8,z8,q8'⟩=>?_) no;refine bO (YE _ a8 _ G8 _ Q8 q8') (λyv a9 ⟨z,G9,Q9,rz,kz,ez,few,n',hn',v9⟩=>?_) no;subst ez;obtain⟨tk,rfl⟩:=rz;obtain⟨r1,r2,r3⟩:=keep6 Q9;refine aov r3 few λh' sb x'=>?_;have qo:∀b o,b≠ac->a9.heap.get? b=some o->h'.get? b=some o:=λb o hb e=>sb.extBut b o hb e;obtain⟨a0,a1,a2,a3,a4,a5'⟩:=statA (show G9 ac=none from r2)
    have nac:∀b∈fp,b≠ac:=λb hb z=>accF (z ▸ hb);have nac1:∀b∈fp1,b≠ac:=λb hb z=>apart b hb (by rw[z];simp)
    refine⟨n',hn',j+1,τ8,G9,_,(Q9.unpinned').turned (t':=a9.toks+1) qo a0 a1 a3 a4 a5',z8,?_,?_,?_,r2,x',v9⟩
    .exact T1.keep _ _ _ t7 λb hb o e=>qo b o (nac1 b hb) (Q9.pin (b,o) (bb _ (bb _ (mz hb e)))).1
    .intro b hb
     obtain⟨o,e,_⟩:=T1.obj _ _ t7 b hb;exact(Q9.pin (b,o) (bb _ (bb _ (mz hb e)))).2.1
    .intro b hb o e
     obtain⟨z1,z2⟩:=r1 b hb o e;exact⟨qo b o (nac b hb) z1,z2⟩
  exact acz inner (T1.self _ 0 _ _ _ st9 inner)
theorem avi(hc:X.calm=true)(S:CSc X aB cl ts fr ix)(hi0:PI X t0 i0 wi0)
  (hg0:∀C fp s H,PG (cxC X (ts++fr) aB cl C fp s H) t0 g0) (hi1:∀C fp s H,PI (cxC X (ts++fr) aB cl C fp s H) t1 i1 wi1) (hg1:∀C fp s H,PG (cxC X (ts++fr) aB cl C fp s H) t1 g1) (he:∀C fp s H,PE (cxC X (ts++fr) aB cl C fp s H) aD te)
  (hs0:∀x,foldedSetIterable i0 X.env x=pure x:=by intro _;rfl) (hs1:∀env x,foldedSetIterable i1 env x=pure x:=by intro _ _;rfl) :
  PE X (.SetComp aD [⟨t0,i0,[],0⟩,⟨t1,i1,[],0⟩] aB pos) (b3o X.w wi0 wi1 (zf ts.length ix) g0 g1 te):=by
 intro aA s Z H Q I h
 rw[ak9];refine wpAny_comprehension_free (use:=none) rfl hs0 S.clos S.kind S.names (thn (hi0 aA s Z H _ I h) λv s1 h1=>thn h1 λitv s2 h2=>?_);obtain⟨it,fp,tn,J,H2,e,I2,T,st2,f2,W,⟨m0,w0⟩,turn⟩:=h2;subst e;have hob:∀b∈fp,b<s2.heap.objs.size:=λb hb=>let ⟨o,e,_⟩:=T.obj _ _ st2 b hb;aX e;refine avc (aib S.own S.push S.kind λh4 hns4 hc4 hsb4=>?_);dsimp only at hns4 hc4 hsb4 ⊢
 generalize hH2:s2.heap.push (ava (!byT X.w))=G at hns4 hc4 hsb4 ⊢
 have hCs:G.objs.size=s2.heap.objs.size+1:=by rw[<-hH2,cb]
 have hCle:s2.heap.objs.size<=G.objs.size:=by omega
 have hne:G.objs.size≠s2.heap.objs.size:=by omega
 have old:∀b o,s2.heap.get? b=some o->h4.get? b=some o:=λb o e=>by
  have hlt:=aX e;exact hsb4 b o ((hH2 ▸ ar _ e))
 have hacc:SetI (!byT X.w) s2.heap.objs.size [] h4 :=
  avb (hsb4 _ _ (hH2 ▸ aO _ rfl))
 have K0:Inv (cxC X (ts++fr) aB cl G.objs.size fp s2 H2) [] (zf ts.length ix Z) H2 {s2 with heap:=h4} :=
  aie S I2 f2 hob hCle old hns4 hc4 rfl rfl
 have st4:tn 0 h4:=T.keep _ _ _ st2 λb _ o e=>old b o e;have accF:s2.heap.objs.size∉fp:=λz=>cO _ (hob _ z);have stat:∀{H':Hp},(∀b∈fp,H' b=none)->∀b∈fp,FpOk (cxC X (ts++fr) aB cl G.objs.size fp s2 H2) [] H' b:=λhn b hb =>
  aya (aay S I2 f2 hob hCle) rfl (hn b hb) hb
 have statA:∀{H':Hp},H' s2.heap.objs.size=none->FpOk (cxC X (ts++fr) aB cl G.objs.size fp s2 H2) [] H' s2.heap.objs.size:=λhn =>
  aqf (aay S I2 f2 hob hCle) rfl hn rfl (fI hne) λx c e=>aif I2 (S.sub x c e)
 have loop:codeAny (model X.prog X.w) X.A (.compLoop (.SetComp aD [⟨t0,i0,[],0⟩,⟨t1,i1,[],0⟩] aB pos) 0 (.ref it) (.ref s2.heap.objs.size) (compEnvC aB cl G.objs.size X.env))
   (compPost (model X.prog X.w) X.A X.xe none (EP X aA Z Q) (.ref s2.heap.objs.size) G.objs.size) {s2 with heap:=h4} :=
  aoy (Y:=cxC X (ts++fr) aB cl G.objs.size fp s2 H2) hc (λ_ _ h=>h) rfl T stat statA accF (hg0 _ _ _ _) (hi1 _ _ _ _) (hg1 _ _ _ _) (he _ _ _ _) hs1 turn w0 K0 st4 (λb hb=>(f2 b hb).1) (I2.hok.fresh (ay _)) hacc λs6 H6 ks I6 fa S6 qn=>by
   obtain⟨m6,hn6,_⟩:=I6.loc;refine a8w (X:=X) s2.heap.objs.size G.objs.size s6 (upd H6 s2.heap.objs.size (avf X.w s2.heap.objs.size ks)) m6 hn6 (I2.fpOk hCle (by rw[ik hne];exact I6.free)) (λh' sb=>?_) (qn _ fa)
   exact agp I2 f2 hCle (ay _) I6 fa (avh (S6.keep λo ho=>sb.extBut _ _ (fI hne) ho)) sb
 exact abo loop (T.self _ 0 _ _ _ st4 loop)
end
end L2
namespace MI
open L2 SETB
open Classical in
def setIn(ck:Hd->Prop)(fe:SE)(x:D)(rd:Sd):List D->List Int->Hd->R (List Int)
 |[],ks,h=>if ck h then .ok ks h else .no
 | y::ys,ks,h=>if ck h then (fe (some x::some y::rd) h).bind λd h1=>(match d with
   |.int k=>if ks.length<63 then setIn ck fe x rd ys (stepK ks k) h1 else .no
   |_=>.no) else .no
open Classical in
def a3l(ck:Hd->Prop)(fj:SI)(fe:SE)(rd:Sd):List D->List Int->Hd->R (List Int)
 |[],ks,h=>if ck h then .ok ks h else .no
 |x::xs,ks,h=>if ck h then (fj (some x::none::rd) h).bind λjt h1=>(setIn jt.ck fe x rd jt.xs ks h1).bind λks1 h2=>a3l ck fj fe rd xs ks1 h2 else .no
noncomputable def avj(ks:List Int)(h:Hd):R D:=if ks.length<64 then .ok (.ref h.length) (h++[.lst ((PySem.W.sortI ks).map D.int)]) else .no
def aoz(fi fj:SI)(fe:SE)(ix:List Nat):SE:=λτ h=>(fi τ h).bind λit h1=>(a3l it.ck fj fe (frs' ix τ) it.xs [] h1).bind avj
theorem a2y:∀{K:Fg} {U:List Addr} {H:Hp} (ns:List Int),Reps K U H (ns.map V.int) (ns.map D.int)
 |_,_,_,[]=>.nil
 |_,_,_,n::ns=>.cons (.int n) (a2y ns)
def b5u(w:World):List V->Hp->VK->Prop:=λxs H Q=>∃(p:Addr) (ks:List Int),xs=[.ref p]/\H p=some (avf w p ks)/\ks.length<64/\∀l,H l=none->Q (.ref l) (upd H l (.lst ((PySem.W.sortI ks).map V.int)))
theorem b0c{K:Fg}{E:XD}{w:World}{J:It}{jt:Itm}{fe:SE}{x:D}{vx:V}{r:St}{rd:Sd}{k1:List Int->Hd->R D}{U0:List Addr}{H0:Hp}{h0:Hd}{Q:VK}{M:List Int->Hp->Prop}{ks0:List Int}
  (ir:anj K U0 H0 J jt) (rx:Rep K U0 H0 vx x) (S:SRep K U0 H0 r rd) (Rh:HRep K U0 H0 h0) (o:out K E (a01 K) U0 H0 ((setIn jt.ck fe x rd jt.xs ks0 h0).bind k1) Q)
  (fin:∀ks U H h,Gr U0 H0 U H->HRep K U H h->out K E (a01 K) U H (k1 ks h) Q->M ks H) :
  ∃V:Nat->Nat->List Int->Hp->Prop,(∃n,V 0 n ks0 H0)/\∀j n ks H,V j n ks H->
   (J.stop j H/\M ks H) \/
   (J.go j H/\∀y H',J.yld j H y H'->a3p 1 y (some vx::none::r) H' λZ3 H4=>L2.Ext (some vx::none::r) Z3/\lift K E (a01 K) fe Z3 H4 λz H5=>∃k,z=.int k/\ks.length+1<scanBound/\∃n',n'<n/\V (j+1) n' (stepK ks k) H5):=by
 refine⟨λj n ks H=>n=jt.xs.length-j/\j<=jt.xs.length/\∃U h,Gr U0 H0 U H/\HRep K U H h/\out K E (a01 K) U H ((setIn jt.ck fe x rd (jt.xs.drop j) ks h).bind k1) Q,⟨_,rfl,bU _,U0,h0,.refl _ _,Rh,o⟩,?_⟩
 rintro j n ks H ⟨rfl,hj,U,h,g0,Rh,o⟩
 by_cases hlt:j<jt.xs.length
 .rw[dC hlt,setIn]at o
  by_cases hc:jt.ck h
  .rw[aU hc,R.bind_assoc]at o;obtain⟨go,yl⟩:=(ir U H h g0 Rh hc).1 j _ (ag hlt);refine .inr ⟨go,λy H' yy=>?_⟩;obtain⟨g1,r1,hr1⟩:=yl y H' yy;have o':=a0s o g1;refine⟨⟨rfl,λi v e=>?_⟩,U,some x::some jt.xs[j]::rd,h,a0a (rx.mono (g0.trans g1)) (a0a r1 (S.mono (g0.trans g1))),hr1,bu o' λd h1 U1 H1 u g2 r2 hr2 o2=>?_⟩
   .match i,e with
    |0,e=>exact e
    |1,e=>simp at e
    |i+2,e=>simpa using e
   .cases d with
    |int k =>
     cases r2
     by_cases h6:ks.length<63
     .simp only[aU h6]at o2;exact⟨k,rfl,by have:scanBound=4096:=rfl;omega,jt.xs.length-(j+1),by omega,rfl,hlt,U1,h1,(g0.trans g1).trans g2,hr2,o2⟩
     .simp only[bA h6]at o2;exact o2.elim
    |_=>exact o2.elim
  .rw[bA hc]at o;exact o.elim
 .have e:j=jt.xs.length:=by omega
  subst e;rw[cF (ay _),setIn]at o
  by_cases hc:jt.ck h
  .rw[aU hc]at o;exact .inl ⟨(ir U H h g0 Rh hc).2,fin ks U H h g0 Rh o⟩
  .rw[bA hc]at o;exact o.elim
theorem avk
  (ir:anj K U0 H0 J it) (S:SRep K U0 H0 r rd) (Rh:HRep K U0 H0 h0) (o:out K E (a01 K) U0 H0 ((a3l it.ck fj fe rd it.xs [] h0).bind avj) Q) :
  b4w w (lift K E (az1 K) fj) (List.replicate 2 none++r) (a3p 0) (a3p 1) (lift K E (a01 K) fe) (λv H=>b5u w [v] H Q) J H0:=by
 refine⟨λi m ks H=>m=it.xs.length-i/\i<=it.xs.length/\∃U h,Gr U0 H0 U H/\HRep K U H h/\out K E (a01 K) U H ((a3l it.ck fj fe rd (it.xs.drop i) ks h).bind avj) Q,⟨_,rfl,bU _,U0,h0,.refl _ _,Rh,o⟩,?_⟩
 rintro i m ks H ⟨rfl,hi,U,h,g0,Rh,o⟩
 by_cases hlt:i<it.xs.length
 .rw[dC hlt,a3l]at o
  by_cases hc:it.ck h
  .rw[aU hc,R.bind_assoc]at o;obtain⟨go,yl⟩:=(ir U H h g0 Rh hc).1 i _ (ag hlt);refine .inr ⟨go,λx H' y=>?_⟩;obtain⟨g1,r1,hr1⟩:=yl x H' y;have o':=a0s o g1;refine⟨⟨rfl,λk v e=>?_⟩,U,some it.xs[i]::none::rd,h,a0a r1 ?_,hr1,bu o' λjt h1 U1 H1 J1 g2 r2 hr2 o2=>?_⟩
   .match k,e with
    |0,e=>simp at e
    |1,e=>simp at e
    |k+2,e=>simpa using e
   .have S':=S.mono (g0.trans g1);refine⟨by simp[S'.len],λk d e=>?_⟩
    cases k with
    |zero=>simp at e
    |succ k=>simpa using S'.val k d (by simpa using e)
   .rw[R.bind_assoc]at o2;refine b0c (w:=w) (k1:=λks1 h2=>(a3l it.ck fj fe rd (it.xs.drop (i+1)) ks1 h2).bind avj) r2 (r1.mono g2) (S.mono ((g0.trans g1).trans g2)) hr2 o2 λks' U3 H3 h3 g3 hr3 o3=>?_;exact⟨it.xs.length-(i+1),by omega,rfl,hlt,U3,h3,((g0.trans g1).trans g2).trans g3,hr3,o3⟩
  .rw[bA hc]at o;exact o.elim
 .have e:i=it.xs.length:=by omega
  subst e;rw[cF (ay _),a3l]at o
  by_cases hc:it.ck h
  .rw[aU hc]at o;refine .inl ⟨(ir U H h g0 Rh hc).2,λp hp=>?_⟩;have o1:out K E (a01 K) U H (avj ks h) Q:=o;unfold avj at o1
   by_cases h6:ks.length<64
   .rw[aU h6]at o1;exact⟨p,ks,rfl,m5,h6,a1a (E:=E) (a2y _) (Rh.aside hp _) (a0s o1 (xu hp _))⟩
   .rw[bA h6]at o1;exact o1.elim
  .rw[bA hc]at o;exact o.elim
theorem avl{X:Cx}{E:XD}{aD t0 i0 t1 i1:Expr}{aB:Scope}{p pos spos:Pos}{cl:List (Str×Addr)}{a b:Str}{fr:List Str}{ix:List Nat}{fi fj:SI}{fe:SE}(hg:Gl X "sorted")(hm:X.mg "sorted" = none)(hc:X.calm=true)(S:CSc X aB cl [a,b] fr ix)(hi:MI X E t0 i0 fi)
  (hg0:∀C fp s H,PG (cxC X ([a,b]++fr) aB cl C fp s H) t0 (a3p 0)) (hj:∀C fp s H,MI (cxC X ([a,b]++fr) aB cl C fp s H) E t1 i1 fj) (hg1:∀C fp s H,PG (cxC X ([a,b]++fr) aB cl C fp s H) t1 (a3p 1)) (he:∀C fp s H,ME (cxC X ([a,b]++fr) aB cl C fp s H) E aD fe)
  (hs0:∀x,foldedSetIterable i0 X.env x=pure x:=by intro _;rfl) (hs1:∀env x,foldedSetIterable i1 env x=pure x:=by intro _ _;rfl) :
  ME X E (.Call (.Name "sorted" p) [.SetComp aD [⟨t0,i0,[],0⟩,⟨t1,i1,[],0⟩] aB spos] [] pos) (aoz fi fj fe ix):=by
 refine PE.weak (adv (a7a hc) hg hm rfl (a5n (avi (te:=lift X.K E (a01 X.K) fe) (wi1:=lift X.K E (az1 X.K) fj) hc S hi hg0 hj hg1 he hs0 hs1) aal)) ?_
 rintro Z H Q ⟨U,τ,h,Sr,Rh,o⟩
 refine⟨U,τ,h,Sr,Rh,bu o λit h1 U1 H1 J g1 r1 hr1 o1=>?_⟩;exact avk r1 (a4n (Sr.mono g1) ix) hr1 o1
end MI
namespace RCH
open L2 MI
def qz(bw:SF):SE :=
 (sA (jg false 2 bw) (aa (sV 1) (aa (sV 0) bc)))
def sr(bw:SF):SS :=
 (my (sA ug (aa (sZ (ji (sRg zg (aa (sA vm (aa (s2 gIx (sV 0) (sI 1)) bc)) bc)) t1 (qz bw) [0])) bc)))
def j4:SS :=
 (di (sIf (sT (s2 hNe (s2 gIx (sV 4) (sV 11)) (s1 a1b (sI 1))))
 (my (s2 jb (sV 9) (sV 10)))
 sNx)
 (sIf (sT (s2 (ag8 true) (sV 11) (sV 6)))
 (di (a71 (sC (.bl true)) (sV 6) (sV 11))
 (a1x (sML a7z (sV 5) (aa (sA a0r (aa (sV 11) (aa (s2 jb (sV 9) (sV 10)) bc))) bc))))
 sNx))
def qp:ST :=
 (sT (s2 gLt (sV 7) (sA vm (aa (sV 5) bc))))
def m9:SS :=
 (di (a4l (s2 gIx (sV 5) (sV 7)) (a0n 2 (dq (kN 8) (dq (kN 9) a0t))))
 (di (a3f (acs (sV 2) (s2 gIx (sV 3) (sV 8))) (a0n 2 (dq (kN 10) (dq (kN 11) a0t))) j4)
 (aag 7 a0b (sI 1))))
def vg:SS :=
 (di (a4l (sV 0) (a0n 3 (dq (kN 2) (dq (kN 3) (dq (kN 4) a0t)))))
 (di (jj 5 (sA a5m (aa (sA a0r (aa (sV 1) (aa (sC (.str "")) bc))) bc)))
 (di (jj 6 (s2 gD1 (sV 1) (sC (.bl true))))
 (di (jj 7 (sI 0))
 (di (sWh qp m9 100000)
 (my (sC .non)))))))
def a1l(au:SF):SE :=
 (s2 vp (sV 0) (sC .non))
def a3z(au:SF):SS :=
 (my (sA ug (aa (sZ (ji (sIt (sA (jg false 1 au) (aa (sV 0) bc))) t1 (a1l au) [])) bc)))
def a88(j8:SF)(iy:SF):SE :=
 (sV 0)
def a89(j8:SF)(iy:SF):ST :=
 (sT (s2 hNe (sV 1) (s1 a1b (sI 1))))
def a7b(j8:SF)(iy:SF):SS :=
 (di (jj 1 (s2 gIx (sV 0) (sI 2)))
 (my (sA (jg false 3 iy) (aa (sV 0) (aa (sA (jg false 1 j8) (aa (sV 0) bc)) (aa (sZ (xx (a2x (sV 1)) (tN 2) (a89 j8 iy) (a88 j8 iy) [])) bc))))))
def wg:SE :=
 (s2 hNe (s2 gIx (sV 1) (sV 0)) (s1 a1b (sI 1)))
def wj:SE :=
 (sV 0)
def o8:ST :=
 (a2n (sT (s2 hEq (s2 gIx (sV 2) (sV 0)) (s1 a1b (sI 1)))) (a1w (s2 gIx (sV 1) (sV 0))))
def sy:SS :=
 (di (jj 9 (sZ (aoz (sIt (sV 7)) (sIt (s2 gIx (sV 2) (sV 0))) (sV 1) [4])))
 (di (sIf (a1w (sA awn (aa (sZ (ji (sIt (sV 9)) t1 wg [5])) bc)))
 (jj 6 (sV 8))
 sNx)
 (di (jj 7 (sZ (xx (sIt (sV 9)) t1 o8 wj [1,5])))
 (sIf (a4f (a1w (sV 7)))
 (my (sV 6))
 sNx))))
def zq:SS :=
 (di (a4l (sV 0) (a0n 3 (dq (kN 3) (dq (kN 4) (dq (kN 5) a0t)))))
 (di (jj 6 (sI 0))
 (di (jj 7 (sV 2))
 (di (a3f (sRg a4m (aa (sI 1) (aa (s2 jb (sA vm (aa (sV 4) bc)) (sI 2)) bc))) (kN 8) sy)
 (my (sC .non))))))
end RCH
namespace HGT
open L2 MI
def a1m:SE :=
 (sV 0)
def a1n:ST :=
 (sT (s2 hNe (sV 1) (s1 a1b (sI 1))))
def o9:SS :=
 (sIf (a2n (a1w (s2 gIx (sV 1) (sV 8))) (sT (s2 (gIn true) (sV 8) (sV 5))))
 (a1x (sML a7z (sV 5) (aa (sV 8) bc)))
 sNx)
def yj:ST :=
 (sT (s2 gLt (sV 6) (sA vm (aa (sV 5) bc))))
def u9:SS :=
 (di (jj 7 (s2 gIx (sV 3) (s2 gIx (sV 5) (sV 6))))
 (di (a3f (sIt (sV 7)) (kN 8) o9)
 (aag 6 a0b (sI 1))))
def uc:SE :=
 (s2 (gIn false) (sV 0) (sV 1))
def uy:SS :=
 (di (a4l (sV 0) (a0n 3 (dq (kN 2) (dq (kN 3) (dq (kN 4) a0t)))))
 (di (jj 5 (xx (a2x (sV 4)) (tN 2) a1n a1m []))
 (di (jj 6 (sI 0))
 (di (sWh yj u9 100000)
 (my (ji (sRg zg (aa (sA vm (aa (sV 3) bc)) bc)) t1 uc [5]))))))
def a2z(zc:SF)(j8:SF)(j6:SF)(jk:SF):SE :=
 (sA (jg false 4 zc) (aa (sV 1) (aa (sV 2) (aa (sV 3) (aa (sV 0) bc)))))
def a3a(zc:SF)(j8:SF)(j6:SF)(jk:SF):SS :=
 (di (sIf (sT (s2 gIs (sA (jg false 1 j6) (aa (sV 0) bc)) (sC .non)))
 (my (sC .non))
 sNx)
 (di (jj 1 (sA (jg false 1 j8) (aa (sV 0) bc)))
 (di (jj 2 (sA (jg false 2 jk) (aa (sV 0) (aa (sV 1) bc))))
 (my (sA ug (aa (sZ (ji (sRg zg (aa (sA vm (aa (sV 2) bc)) bc)) t1 (a2z zc j8 j6 jk) [0,1,2])) bc))))))
def a4v(iy:SF):SS :=
 (di (sIf (a1w (s2 gIx (sV 2) (sV 3)))
 (my (sA (jg false 3 iy) (aa (sV 0) (aa (sV 1) (aa (sZ (sA a5m (aa (sV 3) bc))) bc)))))
 sNx)
 (my (ab0 (a1w (s2 gIx (sV 1) (sV 3))) (s1 a1b (sI 2)) (s1 a1b (sI 1)))))
end HGT
namespace L2
open PyProof.Rows
theorem a7c:isSubtype (.type "range_iterator") (.type "reversed")=pure false:=by rw[hG];kernel_rfl
section
variable{prog:Program}{w:World}{A:Around}{E:Value->Shared->Prop}{s:Shared}
abbrev awp(n:Int):Obj:={cls:=.type "range_iterator",data:=.fields #[rawInt (n-1),rawInt n,rawInt (-1)]}
theorem avm(h:0<=j):Builtin.Range.rangeSize 0 j 1=j:=by
 rw[rangeSize_one];split<;>omega
theorem aka(hr:IsRange s.heap r 0 j 1 t u v)(j0:0<=j)(j1:j<2^62)(h:Q (.ref s.heap.objs.size) {s with heap:=s.heap.push (awp j)}) :
  wpAny (model prog w) A (call (.builtin "range.__reversed__") [.ref r]) Q E s:=by
 refine cn fU ⟨_,hr,rfl⟩ F.entry_range_reversed ?_ (F.args_range_reversed_1 _);have sz:=avm j0;have sm:(Builtin.Range.rangeFitsLong 0 && Builtin.Range.rangeFitsLong j && Builtin.Range.rangeFitsLong 1 && Builtin.Range.rangeFitsLong (-1) && Builtin.Range.rangeFitsLong (0-1) && Builtin.Range.rangeFitsLong j)=true:=by
  have:Builtin.Range.rangeFitsLong j=true:=by unfold Builtin.Range.rangeFitsLong;simp;omega
  simp only[this,ja]
  decide
 unfold Builtin.«range.__reversed__»;unfold IsRange at hr
 wp_walk
 simp only[sz];simp only[sm,Bool.not_true,cG,eV,dQ];have e:(0:Int)+(j-1)*1=j-1:=by omega
 rw[e];refine ai ?_;unfold newFields;exact cU (aJ ⟨_,rfl,h⟩)
theorem avn(hr:IsRange s.heap r 0 j 1 t u v)(j0:0<=j)(j1:j<2^62)(h:Q₁ (.ref s.heap.objs.size) {s with heap:=s.heap.push (awp j)}) :
  codeAny (model prog w) A (.call (.builtin "reversed.__new__") ⟨[.type "reversed",.ref r],[]⟩) (wants Q₁ E) s:=by
 have ty:s.TypeIs (.ref r) "range":=⟨_,hr,rfl⟩
 apply gH
 apply ai
 refine fA (F.newCall_reversed_1 _) ?_;refine aJ ⟨plainId_quiet F.plain_reversed_new _,gI F.entry_reversed_new ?_⟩;simp only[g7 F.plain_reversed_new];unfold Builtin.«reversed.__new__»
 apply ai
 refine fA (newClass_reversed _) ?_
 try dsimp only
 apply ai
 refine fA (a:=()) (by first|rfl|kernel_rfl) ?_
 apply ai
 refine fA (a:=()) (by first|rfl|kernel_rfl) ?_
 try dsimp only
 apply ai
 refine iP ty fU.lookup ?_
 try dsimp only
 apply ai
 refine fA (fU.bind _) ?_
 try dsimp only
 have nn:¬ ((Value.builtin "range.__reversed__" == Value.none)=true):=bJ
 first
  |rw[bA nn]
  |(show wpAny _ _ (if (Value.builtin "range.__reversed__" == Value.none)=true then _ else _) _ _ _;rw[bA nn])
 apply ai
 apply fB
 refine ai (m:=runValue (.call (.builtin "range.__reversed__") ⟨[.ref r],[]⟩)) (show wpAny _ _ (call (.builtin "range.__reversed__") [.ref r]) _ _ _ from aka hr j0 j1 ?_)
 first
  |exact aJ h
  |exact ai (aJ (aJ h))
theorem ap0(hr:IsRange s.heap r 0 j 1 t u v)(j0:0<=j)(j1:j<2^62)(h:Q (.ref s.heap.objs.size) {s with heap:=s.heap.push (awp j)}):wpAny (model prog w) A (call (.type "reversed") [.ref r]) Q E s:=by
 refine callType_other (U := "range_iterator") (Q₁:=λobj s1=>obj=.ref s.heap.objs.size/\s1={s with heap:=s.heap.push (awp j)}) (by decide +kernel) F.create_reversed ⟨_,_,F.mro_reversed⟩ F.made_reversed a7c (F.typeCall_reversed_1 _) (avn hr j0 j1 ⟨rfl,rfl⟩) ?_
 rintro obj s1 ⟨rfl,rfl⟩
 exact⟨⟨_,aO _ rfl,rfl⟩,h⟩
end
section
variable{X:Cx}{tg:Expr}
noncomputable def b5v(ta:TA):TI:=λZ H R=>ta Z H λvs H1=>∃j:Int,vs=[.int j]/\0<=j/\j<2^62/\R (Itd (j-1) j.toNat) H1
theorem ad1:bootBuiltins "reversed" = some (.type "reversed"):=by first|exact PySem.boot_reversed|exact PyProof.Rows.boot_reversed|kernel_rfl
theorem b0d(hg:Gl X "reversed")(hm:X.mg "reversed" = none)(hg2:Gl X "range")(hm2:X.mg "range" = none)(ha:PA X [a] ta)(hs:starEach [a] X.env=[(false,eval a X.env)]:=by rfl)
  (hs2:starEach [Expr.Call (.Name "range" p2) [a] [] pos2] X.env=[(false,eval (.Call (.Name "range" p2) [a] [] pos2) X.env)]:=by rfl):PI X tg (.Call (.Name "reversed" p) [.Call (.Name "range" p2) [a] [] pos2] [] pos) (b5v ta):=by
 intro aA s Z H R I h
 have inner:wpAny (model X.prog X.w) X.A (eval (.Call (.Name "range" p2) [a] [] pos2) X.env) (λv s1=>∃(j:Int) (r:Addr) (t u w:Tok) (H1:Hp),v=.ref r/\IsRange s1.heap r 0 j 1 t u w/\Inv X aA Z H1 s1/\0<=j/\j<2^62/\R (Itd (j-1) j.toNat) H1) X.xe s:=by
  refine Call_ (a3j I hg2 hm2 boot_range (cp (thn (ha pos2 aA s Z H _ I h) λus s1 ⟨vs,H1,I1,r1,q1⟩=>?_) hs rfl));obtain⟨j,e,j0,j1,q⟩:=q1;subst e
  cases r1 with
  |cons r rr =>
   cases rr
   obtain⟨t,rfl⟩:=r;exact call_range_1 ⟨j,_,_,_,_,H1,rfl,IsRange.new ..,I1.kept λb o e=>ar _ e,j0,j1,q⟩
 refine Call_ (a3j I hg hm ad1 (cp ?_ hs2 rfl));rw[hs2];show wpAny _ _ (spliced ((false,eval (.Call (.Name "range" p2) [a] [] pos2) X.env)::backTo pos (starEach [] X.env))) _ _ s;refine gN (thn inner λv s1 ⟨j,r,t,u,w,H1,ev,hr,I1,j0,j1,q⟩=>hU ?_);subst ev;refine ap0 hr j0 j1 ?_;have I2:Inv X aA Z H1 {s1 with heap:=s1.heap.push (awp j)}:=I1.kept (t':=s1.toks) λb o e=>ar _ e
 have st:IsRangeIter (s1.heap.push (awp j)) s1.heap.objs.size (j-1) j (-1):=aO _ rfl;refine fG st ?_;refine⟨s1.heap.objs.size,[s1.heap.objs.size],_,_,H1,rfl,I2,ajm _ (j-1) j.toNat,?_,λb hb=>?_,q⟩
 .show IsRangeIter _ _ (j-1-((0:Nat):Int)) ((j.toNat:Int)-((0:Nat):Int)) (-1);rw[show j-1-((0:Nat):Int)=j-1 by omega,show(j.toNat:Int)-((0:Nat):Int)=j by omega]
  exact st
 .have e:b=s1.heap.objs.size:=by simpa using hb
  subst e;exact I1.fpOk (ay _) (I1.hok.fresh (ay _))
end
end L2
namespace MI
open L2
def Bz(j:Int):Prop:=0<=j/\j<2^62
instance (j:Int):Decidable (Bz j):=by unfold Bz;exact inferInstance
noncomputable def awq(ds:List D)(h:Hd):R Itm:=match ds with
 |[.int j]=>if Bz j then .ok ⟨ao9 (j-1) j.toNat,λ_=>True⟩ h else .no
 |_=>.no
theorem b0e(hg:Gl X "reversed")(hm:X.mg "reversed" = none)(hg2:Gl X "range")(hm2:X.mg "range" = none)(ha:MA X E [a] k)(hs:starEach [a] X.env=[(false,eval a X.env)]:=by rfl)
  (hs2:starEach [Expr.Call (.Name "range" p2) [a] [] pos2] X.env=[(false,eval (.Call (.Name "range" p2) [a] [] pos2) X.env)]:=by rfl):MI X E tg (.Call (.Name "reversed" p) [.Call (.Name "range" p2) [a] [] pos2] [] pos) (sRg awq k):=by
 rintro aA s Z H Rr I ⟨U,τ,h,S,Rh,o⟩
 refine b0d hg hm hg2 hm2 ha hs hs2 aA s Z H Rr I ⟨U,τ,h,S,Rh,bu o λds h1 U1 H1 vs g1 r1 hr1 o1=>?_⟩;unfold awq at o1
 split at o1
 .rename_i j
  cases r1 with
  |cons r rs =>
   cases r;cases rs
   by_cases hb:Bz j
   .rw[aU hb]at o1;exact⟨j,rfl,hb.1,hb.2,o1 U1 H1 _ (.refl _ _) (b00 (j-1) j.toNat) hr1⟩
   .rw[bA hb]at o1;exact o1.elim
 .exact o1.elim
theorem akb(h:n<=LINE):Bz (n:Int):=by
 have:n<=16777216:=h
 unfold Bz;omega
theorem ap1(n:Nat):ao9 ((n:Int)-1) n=(List.range n).map λi:Nat=>D.int ((n-1-i:Nat)):=by
 unfold ao9;refine cS λi hi=>?_;have:=aY.mp hi;exact aQ D.int (by omega)
theorem ap2(h:Hd)(z:n<=LINE):awq [.int (n:Nat)] h=.ok ⟨(List.range n).map λi:Nat=>D.int ((n-1-i:Nat)),λ_=>True⟩ h:=by
 have e:awq [.int (n:Nat)] h=if Bz (n:Int) then R.ok (⟨ao9 ((n:Int)-1) (n:Int).toNat,λ_=>True⟩:Itm) h else .no:=rfl
 have b:=akb z
 clear z
 rw[e,aU b,dN,ap1]
theorem b0f{α β:Type}(a:α)(h:Hd)(k:α->Hd->R β):(R.ok a h).bind k=k a h:=rfl
theorem b0g(e:f τ h=.ok (.int (n:Nat)) h)(z:n<=LINE):sRg awq (aa f bc) τ h=.ok ⟨(List.range n).map λi:Nat=>D.int ((n-1-i:Nat)),λ_=>True⟩ h:=by
 have a:aa f bc τ h=.ok [.int (n:Nat)] h:=by unfold aa bc;rw[e];rfl
 have q:=ap2 h z;unfold sRg;rw[a];rw[b0f,q]
end MI
namespace STP
open L2 MI
def vh:SE :=
 (s2 (gIn false) (sV 0) (sV 1))
def u5:SS :=
 (my (a0m (sA qw (aa (sV 1) (aa (sC (.ty "str")) bc))) (sA ac8 (aa (sZ (ji (sIt (sV 1)) t1 vh [0])) bc))))
def jr:SS :=
 (a1x (sML a7z (sV 6) (aa (s2 gIx (s2 gIx (sV 4) (s2 gIx (sV 6) (s1 a1b (sI 1)))) (sMS a80 (sV 3) (aa (sV 7) bc))) bc)))
def m7:SS :=
 (di (a4l (sV 0) (a0n 3 (dq (kN 3) (dq (kN 4) (dq (kN 5) a0t)))))
 (di (jj 6 (sA a5m (aa (sV 1) bc)))
 (di (a3f (sIt (sV 2)) (kN 7) jr)
 (my (sV 6)))))
def wk:SS :=
 (sIf (a2n (a1w (s2 gIx (sV 2) (sV 12))) (sT (s2 (ag8 true) (sV 12) (sV 6))))
 (di (a71 (s2 jb (sV 10) (sV 11)) (sV 6) (sV 12))
 (a1x (sML a7z (sV 7) (aa (sA a0r (aa (sV 12) (aa (s2 jb (sV 10) (sV 11)) bc))) bc))))
 sNx)
def a2c:ST :=
 (sT (s2 gLt (sV 8) (sA vm (aa (sV 7) bc))))
def a06:SS :=
 (di (a4l (s2 gIx (sV 7) (sV 8)) (a0n 2 (dq (kN 9) (dq (kN 10) a0t))))
 (di (a3f (acs (sV 3) (s2 gIx (sV 4) (sV 9))) (a0n 2 (dq (kN 11) (dq (kN 12) a0t))) wk)
 (aag 8 a0b (sI 1))))
def a1o:SS :=
 (di (a4l (sV 0) (a0n 3 (dq (kN 3) (dq (kN 4) (dq (kN 5) a0t)))))
 (di (jj 6 auc)
 (di (jj 7 (sA a5m (aa (sA a0r (aa (sV 1) (aa (sC (.str "")) bc))) bc)))
 (di (jj 8 (sI 0))
 (di (sWh a2c a06 100000)
 (my (sV 6)))))))
def zu(bz:SF):SE :=
 (s2 abb (sV 1) (sV 0))
def a3b(bz:SF):SS :=
 (di (jj 1 (sA vm (aa (s2 gIx (sV 0) (sI 1)) bc)))
 (di (jj 2 (sA (jg false 3 bz) (aa (sV 0) (aa (sI 0) (aa (sZ (s2 a0p (sZ (sA a5m (aa (sC (.bl true)) bc))) (sV 1))) bc)))))
 (my (sA ug (aa (sZ (s2 jb (sZ (sA a5m (aa (sC (.str "")) bc))) (sZ (ji (sRg a4m (aa (sI 1) (aa (sV 1) bc))) t1 (zu bz) [2])))) bc)))))
def a0y(gk:SF)(j6:SF)(jo:SF)(fu:SF):SE :=
 (sV 0)
def a0z(gk:SF)(j6:SF)(jo:SF)(fu:SF):ST :=
 (a2n (sT (s2 hNe (sV 1) (s1 a1b (sI 1)))) (sT (s2 hEq (s2 gIx (sV 3) (sV 0)) (sV 2))))
def a3c(gk:SF)(j6:SF)(jo:SF)(fu:SF):SS :=
 (di (jj 1 (sA (jg false 1 j6) (aa (sV 0) bc)))
 (di (sIf (sOr (sT (s2 gIs (sV 1) (sC .non))) (sT (s2 hEq (sV 1) (sI 0))))
 (my (sC .non))
 sNx)
 (di (jj 2 (sA (jg false 1 gk) (aa (sV 0) bc)))
 (di (jj 3 (sZ (xx (a2x (s2 gIx (sV 0) (sI 2))) (tN 2) (a0z gk j6 jo fu) (a0y gk j6 jo fu) [1,2])))
 (my (sA a0r (aa (s2 gIx (sA (jg false 1 fu) (aa (sV 0) bc)) (s2 gIx (sV 3) (sI 0))) (aa (sA (jg false 3 jo) (aa (sV 0) (aa (sV 2) (aa (s2 gIx (sV 3) (sI 0)) bc)))) bc))))))))
def a07(cu:SF):SE :=
 (sA a0r (aa (sV 0) (aa (sV 1) bc)))
def ud(cu:SF):ST :=
 (a1w (sA (jg false 3 cu) (aa (s2 gIx (sV 3) (sV 1)) (aa (s2 gIx (sV 2) (sV 1)) (aa (sV 4) bc)))))
def a08(cu:SF):SS :=
 (di (jj 9 (sZ (xx (acs (sV 3) (s2 gIx (sV 4) (sV 7))) (tN 2) (ud cu) (a07 cu) [1,5,8])))
 (di (a4l (s2 gIx (sV 9) (sI 0)) (a0n 2 (dq (kN 10) (dq (kN 7) a0t))))
 (aag 6 a0b (sV 10))))
def a1p(cu:SF):SS :=
 (di (a4l (sV 0) (a0n 3 (dq (kN 3) (dq (kN 4) (dq (kN 5) a0t)))))
 (di (jj 6 (sC (.str "")))
 (di (jj 7 (sV 2))
 (di (a3f (sRg awq (aa (s2 gIx (sV 1) (sV 2)) bc)) (kN 8) (a08 cu))
 (my (sV 6))))))
def uz:SS :=
 (di (sIf (sT (s2 hEq (sV 2) (sI 0)))
 (my (s2 hNe (sV 0) (s1 a1b (sI 1))))
 sNx)
 (my (a0m (s2 hEq (sV 0) (s1 a1b (sI 1))) (s2 hEq (sV 1) (sV 2)))))
end STP
namespace ZP
open PySem.Builtin L2
noncomputable def ItI(a:Addr)(o:Obj)(kvs:List (Key×V)):It where
 go:=λi H=>H a=some (.frz o (.dK kvs))/\∃k x,kvs[i]? = some (k,x)
 yld:=λi H v H'=>∃k x p,kvs[i]? = some (k,x)/\H p=none/\v=.ref p/\H'=upd H p (.tup [kV k,x])
 stop:=λi H=>H a=some (.frz o (.dK kvs))/\i=kvs.length
theorem b3p(e:(kh P w).is k u=true):RelV (kV k) u:=by
 rw[afi]at e
 cases k with
 |inl i=>cases u<;>first|(simp[a6k,Value.isInt]at e;done)|(simp[a6k,Value.isInt]at e;exact⟨_,by rw[e]⟩)
 |inr x=>cases u<;>first|(simp[a6k,Value.isStrOf]at e;done)|(simp[a6k,Value.isStrOf]at e;exact⟨_,by rw[e]⟩)
theorem b0h(r:KV kvs vs):∀{i:Nat} {k:Key} {x:V},kvs[i]? = some (k,x)->∃v,vs[i]? = some (k,v)/\RelV x v:=by
 unfold KV at r
 induction r with
 |nil=>intro i k x e;simp at e
 |cons h t ih =>
  rename_i p q l m
  intro i k x e
  cases i with
  |zero =>
   simp only[eF,fM]at e;subst e;exact⟨q.2,by rw[eF];exact aQ some (Prod.ext h.1.symm rfl),h.2⟩
  |succ i=>exact ih e
theorem akc(ok:HOk P w H h)(e:H a=some (.frz o (.dK kvs))):(a == sysModules)=false/\∃vs es ep,KV kvs vs/\o.data=.dict es ep/\h.DictAt (kh P w) a vs ep:=by
 obtain⟨ho,z,hd,vs,rel,o',es,ep,ho',r⟩:h.get? a=some o/\ObjOk P w H h a (.dK kvs):=ok a _ e;rw[ho]at ho'
 cases ho'
 exact⟨hd,vs,es,ep,rel,r.2.1,o,es,ho,r⟩
def tnI(it a:Addr)(ep n i:Nat)(h:Heap):Prop:=∃ok ov,IsItemIter h it a i n ep ok ov
theorem agq{o:Obj}(od:o.data=.dict es ep):Turn P w K (.Tuple elts x1 pos) (ItI a o kvs) [it] it (tnI it a ep kvs.length) where
 mem:=by simp
 obj:=λi h st b hb=>by
  obtain⟨ok,ov,h1⟩:=st;rw[av]at hb;subst hb;exact⟨_,h1,λv z=>(by cases z)⟩
 keep:=λi h h' st kk=>by
  obtain⟨ok,ov,h1⟩:=st;exact⟨ok,ov,kk it (by simp) _ h1⟩
 item:=by
  intro X hP hw hK hc i aA s Z H E I hf st hg
  subst hP hw hK;obtain⟨e1,k,x,g1⟩:=hg;obtain⟨okv,ov,h1⟩:=st;obtain⟨_,vs,es',ep',rel,od',hm⟩:=akc I.hok e1;have:ep'=ep:=by rw[od]at od';cases od';rfl
  subst this;obtain⟨v,hx,rv⟩:=b0h rel g1;have ln:kvs.length=vs.length:=rel.length;rw[ln]at h1;have ni:H it=none:=(hf it (by simp)).1
  refine wpAny_pyNext_items_item h1 hm hx λkey h' hkey ho hT hsz hk=>?_;refine⟨_,rfl,wpAny_letOwnedTupleGo_items ho λh2' z2' sb=>?_⟩;have rk:=b3p hkey;have hp:H s.heap.objs.size=none:=I.hok.fresh (ay _);have nT:it≠s.heap.objs.size:=bT (aX h1);have I0:Inv X aA Z (upd H s.heap.objs.size (.tup [kV k,x])) {s with heap:=s.heap.push {cls:=.type "tuple",data:=.seq #[key,v]} } :=
   I.laid (t':=s.toks) (o:=.tup [kV k,x]) (λb o q=>ar _ q) (ay _) ⟨by show 2<=sizeLine;decide,[key,v],.cons rk (.cons rv .nil),⟨_,aO _ rfl,rfl,_,rfl⟩⟩
  have I1:Inv X aA Z (upd H s.heap.objs.size (.tup [kV k,x])) {s with heap:=h2' }:=by
   refine a2v (s:={s with heap:=s.heap.push {cls:=.type "tuple",data:=.seq #[key,v]} }) (t':=s.toks) (ch:=[it]) I0 (λb hb=>?_) λc o nc q=>?_
   .obtain⟨f0,f1⟩:=hf b hb;rw[av]at hb;subst hb;exact⟨by rw[ik nT];exact f0,f1⟩
   .have nc':c≠it:=λz=>nc (by rw[z];simp)
    rcases fg q with⟨rfl,rfl⟩|q
    .exact(sb.2 _ nc').trans hT
    .exact(sb.2 c nc').trans (hk c o nc' q)
  rw[<-ln]at z2';refine⟨.ref s.heap.objs.size,_,I1,rfl,⟨k,x,_,g1,hp,rfl,rfl⟩,⟨key,v,z2'⟩,λb hb=>?_⟩;rw[av]at hb;subst hb;rw[ik nT];exact ni
 done:=by
  intro X hP hw hK hc i aA s Z H E I hf st hg
  subst hP hw hK;obtain⟨e1,rfl⟩:=hg;obtain⟨okv,ov,h1⟩:=st;obtain⟨_,vs,es',ep',rel,od',hm⟩:=akc I.hok e1;have:ep'=ep:=by rw[od]at od';cases od';rfl
  subst this;have ln:kvs.length=vs.length:=rel.length;rw[ln]at h1;refine wpAny_pyNext_items_end (I.ok.hd hc) h1 hm (cA (ay _)) λh' ex=>⟨rfl,a2v (t':=s.toks) I hf λc o nc q=>?_⟩;exact ex c o (λz=>nc (by rw[z];simp)) q
 self:=λ_ _ _ _ _ st h=>by
  obtain⟨ok,ov,h1⟩:=st;exact PySem.W.kcp_self h1 h
structure M0 (X:Cx) (o:Expr) (m:Str) (apos:Pos) (cpos:Pos):Prop where
 base:attributeBase o m X.env (eval o X.env)=eval o X.env
 line:(apos.endLine == cpos.line)=true
section
variable{X:Cx}{elts:List Expr}{x1:Nat}{tpos:Pos}
noncomputable def b0i(td:TE):TI:=λZ H R=>td Z H λx H1=>∃a o kvs,x=.ref a/\H1 a=some (.frz o (.dK kvs))/\R (ItI a o kvs) H1
theorem ap3(he:PE X e td)(m:M0 X e "items" apos cpos):PI X (.Tuple elts x1 tpos) (.Call (.Attribute e "items" apos) [] [] cpos) (b0i td):=by
 intro aA s Z H R I h
 refine wpAny_Call_method m.base rfl m.line ip iC PySem.F.type_dict_items (thn (he aA s Z H _ I h) λu s1 ⟨x,H1,I1,rx,a,o,kvs,ex,ea,q⟩=>?_);subst ex;obtain rfl:u=Value.ref a:=rx;obtain⟨t1,t2,_⟩:=aqc I1 (.inl ⟨kvs,.inr ⟨o,ea⟩⟩);refine⟨t1,t2,?_⟩;obtain⟨hd,vs,es,ep,rel,od,hm⟩:=akc I1.hok ea;have dd:s1.heap.DictOf (kh X.prog X.w) a vs:=by
  obtain⟨o',es',r⟩:=hm;exact⟨o',es',ep,r⟩
 refine eK rfl (PyProof.Rows.evalArgs_none ?_);refine call_meetsIn iC dd.typeIs PySem.F.entry_dict_items (PySem.F.args_dict_items_1 _) (meets_dict_items (kh X.prog X.w) a hd) ⟨⟨vs,dd⟩,?_⟩;have keepA:∀b o,s1.heap.get? b=some o->(s1.heap.push {cls:=.type "dict_items",data:=.fields #[.ref a]}).get? b=some o:=λb o q=>ar _ q;have hm2:(s1.heap.push {cls:=.type "dict_items",data:=.fields #[.ref a]}).DictAt (kh X.prog X.w) a vs ep:=by
  obtain⟨o',es',ho',r⟩:=hm;exact⟨o',es',keepA _ _ ho',r⟩
 refine wpAny_pyIter_items (s:={s1 with heap:=s1.heap.push {cls:=.type "dict_items",data:=.fields #[.ref a]} }) ⟨_,aO _ rfl,rfl,rfl⟩ hm2 ?_
 have at1:=aO (o:={cls:=.type "dict_itemiterator",data:=.fields #[.none,.bool false,.ref a,.int 0 0,.int vs.length 0,.int ep 0,.none,.none]}) (s1.heap.push {cls:=.type "dict_items",data:=.fields #[.ref a]}) rfl;have ln:vs.length=kvs.length:=rel.length.symm;have keepB:∀b o,s1.heap.get? b=some o->((s1.heap.push {cls:=.type "dict_items",data:=.fields #[.ref a]}).push {cls:=.type "dict_itemiterator",data:=.fields #[.none,.bool false,.ref a,.int 0 0,.int vs.length 0,.int ep 0,.none,.none]}).get? b=some o:=λb o q=>ar _ (keepA b o q)
 have I2:Inv X aA Z H1 {s1 with heap:=(s1.heap.push {cls:=.type "dict_items",data:=.fields #[.ref a]}).push {cls:=.type "dict_itemiterator",data:=.fields #[.none,.bool false,.ref a,.int 0 0,.int vs.length 0,.int ep 0,.none,.none]} }:=I1.kept (t':=s1.toks) keepB
 refine⟨_,[_],tnI _ a ep kvs.length,ItI a o kvs,H1,rfl,I2,agq od,⟨.none,.none,by rw[<-ln];exact at1⟩,λb hb=>?_,q⟩
 rw[av]at hb;have:s1.heap.objs.size<=b:=by rw[hb,cb];exact fK _
 exact I1.fpOk this (I1.hok.fresh this)
end
end ZP
namespace MI
open L2 ZP
def kD:Key->D
 |.inl i=>.int i
 |.inr x=>.str x
theorem b0j(k:Key):Rep K U H (kV k) (kD k):=by cases k;exact .int _;exact .str _
noncomputable def ar9(d:D)(h:Hd):R Itm:=match d with
 |.rod ks xs=>.ok ⟨(ks.zip xs).map λp=>.tup [kD p.1,p.2],λ_=>True⟩ h
 |_=>.no
def aez(f:SE):SI:=λτ h=>(f τ h).bind ar9
theorem ap4(ha:ME X E e f)(m:M0 X e "items" apos cpos):MI X E (.Tuple elts x1 tpos) (.Call (.Attribute e "items" apos) [] [] cpos) (aez f):=by
 intro aA s Z H Rr I ⟨U,τ,h,S,Rh,o⟩
 refine ap3 ha m aA s Z H Rr I ?_;refine⟨U,τ,h,S,Rh,bu o λd h1 U1 H1 v g1 r1 hr1 o1=>?_⟩
 cases r1 with
 |@rod a ob us ks xs hp ek rs =>
  refine⟨a,ob,us,rfl,hp,o1 U1 H1 _ (.refl _ _) ?_ hr1⟩
  intro U3 H3 h3 g3 hr3 c3
  have hp3:=g3.frz _ _ _ hp;have rs3:=rs.mono g3;refine⟨λi d ed=>?_,hp3,?_⟩
  .simp only[aE,aS]at ed;obtain⟨⟨k,y⟩,ez,rfl⟩:=ed;obtain⟨ex,ey⟩:=cc.mp ez;obtain⟨v2,b3,b4⟩:=rs3.get ey;rw[<-ek,aE]at ex;rw[aE]at b3;obtain⟨p,hu,rfl⟩:=aS.mp ex;rw[hu]at b3;cases b3
   refine⟨⟨hp3,p.1,p.2,hu⟩,λx H' yl=>?_⟩;obtain⟨k',x',q,c1,c5,rfl,rfl⟩:=yl;rw[hu]at c1;cases c1
   exact⟨xu c5 _,.tup m5 (.cons (b0j _) (.cons (b4.mono (xu c5 _)) .nil)),hr3.aside c5 _⟩
  .have l1:=rs.len;have l2:=aQ List.length ek;rw[ax]at l1 l2;rw[ax,gF];omega
 |_=>exact o1.elim
def ad3(x y:D)(h:Hd):R D:=match aqz x y h with
 |some r=>.ok (r.getD .non) h
 |none=>.no
noncomputable def ap5(f g:SE):SE:=λτ h=>(f τ h).bind λx h1=>match x with
 |.rod _ _=>(g τ h1).bind λy h2=>ad3 x y h2
 |_=>.no
theorem avo{X:Cx}(hu:X.A.units+64<cLine)(ha:ME X E o f)(hb:ME X E e g)(m:M1 X o "get" apos e cpos):ME X E (.Call (.Attribute o "get" apos) [e] [] cpos) (ap5 f g):=by
 refine PE.weak (an9 (u1 hu) ha hb m) ?_
 rintro Z H Q ⟨U,τ,h,S,Rh,o⟩
 refine⟨U,τ,h,S,Rh,bu o λd h1 U1 H1 v g1 r1 hr1 o1=>?_⟩
 cases r1 with
 |@rod a ob us ks xs hp ek rs =>
  refine⟨a,rfl,.inl ⟨us,.inr ⟨ob,hp⟩⟩,U1,τ,h1,S.mono g1,hr1,bu o1 λd2 h2 U2 H2 u g2 r2 hr2 o2=>?_⟩;have r1':Rep X.K U2 H2 (.ref a) (.rod ks xs):=(Rep.rod hp ek rs).mono g2;unfold ad3 at o2
  split at o2
  .rename_i r e;obtain⟨a',ea,q⟩:=a9a r1' r2 hr2 e;cases ea
   cases r with
   |none=>exact⟨none,q,ans o2 .non hr2⟩
   |some d=>obtain⟨w,q1,q2⟩:=q;exact⟨some w,q1,ans o2 q2 hr2⟩
  .exact o2.elim
 |_=>exact o1.elim
end MI
namespace RND
open L2 MI
def a7d(jq:SF)(fu:SF)(bz:SF):SE :=
 (s2 hEq (sV 0) (s1 a1b (sI 1)))
def a2d(jq:SF)(fu:SF)(bz:SF):SS :=
 (sIf (a2n (a4f (a1w (s2 gIx (sV 1) (sV 3)))) (sT (s2 (ag8 false) (sV 5) (sV 2))))
 (di (a4l (s2 abb (sV 2) (sV 5)) (a0n 2 (dq (kN 7) (dq (kN 8) a0t))))
 (my (sA a0r (aa (sV 4) (aa (sV 6) (aa (sV 7) (aa (sV 8) bc)))))))
 sNx)
def a0g(jq:SF)(fu:SF)(bz:SF):SS :=
 (a3f (aez (sA (jg false 3 bz) (aa (sV 0) (aa (sV 3) (aa (sV 1) bc))))) (a0n 2 (dq (kN 5) (dq (kN 6) a0t))) (a2d jq fu bz))
def a4w(jq:SF)(fu:SF)(bz:SF):SS :=
 (di (jj 1 (sZ (ji (sIt (s2 gIx (sV 0) (sI 2))) t1 (a7d jq fu bz) [])))
 (di (jj 2 (sA (jg false 1 jq) (aa (sV 0) bc)))
 (di (a3f (a2x (sA (jg false 1 fu) (aa (sV 0) bc))) (a0n 2 (dq (kN 3) (dq (kN 4) a0t))) (a0g jq fu bz))
 (my (sC .non)))))
def a4x(au:SF)(bz:SF):SE :=
 (s2 hEq (sV 0) (s1 a1b (sI 1)))
def a09(au:SF)(bz:SF):SS :=
 (di (jj 5 (ap5 (sA (jg false 3 bz) (aa (sV 0) (aa (sV 3) (aa (sV 1) bc)))) (sV 3)))
 (sIf (a2n (sT (s2 vp (sV 4) (sC .non))) (sT (s2 vp (sV 5) (sC .non))))
 (a71 (sA a0r (aa (sV 5) (aa (sV 4) bc))) (sV 2) (sV 3))
 sNx))
def a1q(au:SF)(bz:SF):SS :=
 (di (jj 1 (sZ (ji (sIt (s2 gIx (sV 0) (sI 2))) t1 (a4x au bz) [])))
 (di (jj 2 auc)
 (di (a3f (a2x (sA (jg false 1 au) (aa (sV 0) bc))) (a0n 2 (dq (kN 3) (dq (kN 4) a0t))) (a09 au bz))
 (my (sV 2)))))
end RND
namespace K40
open L2 MI
def a0h:SS :=
 (my (a0m (sA qw (aa (sV 0) (aa (sC (.ty "int")) bc))) (a90 (sA qw (aa (sV 0) (aa (sC (.ty "bool")) bc))))))
def a4y:SS :=
 (my (a0m (sA qw (aa (sV 0) (aa (sC (.ty "tuple")) bc))) (sCh gLe gLe (sV 1) (sA vm (aa (sV 0) bc)) (sV 2))))
def oh(iu:SF)(jy:SF)(qu:SF):SE :=
 (a0m (sA (jg false 1 jy) (aa (sV 0) bc)) (s2 gGe (sV 0) (s1 a1b (sI 2))))
def ym(iu:SF)(jy:SF)(qu:SF):SE :=
 (sA (jg false 4 iu) (aa (sV 1) (aa (sV 2) (aa (sV 3) (aa (sV 0) bc)))))
def v4(iu:SF)(jy:SF)(qu:SF):SS :=
 (di (jj 3 (sA vm (aa (s2 gIx (sV 0) (sI 1)) bc)))
 (di (sIf (sOr (a4f (a1w (sA (jg false 3 qu) (aa (sV 2) (aa (sV 3) (aa (sV 3) bc)))))) (a4f (a1w (sA ac8 (aa (sZ (ji (sIt (sV 2)) t1 (oh iu jy qu) [])) bc)))))
 (my (sC (.bl false)))
 sNx)
 (my (sA ac8 (aa (sZ (ji (sRg zg (aa (sV 3) bc)) t1 (ym iu jy qu) [0,1,2])) bc)))))
def yo(pq:SF):SE :=
 (a0m (s2 hEq (s2 gIx (sV 2) (sV 0)) (s1 a1b (sI 1))) (s2 hEq (s2 gIx (sV 1) (sV 0)) (s1 a1b (sI 1))))
def yp(pq:SF):SE :=
 (sA (jg false 3 pq) (aa (sV 3) (aa (s2 gIx (sV 2) (sV 0)) (aa (s2 gIx (sV 1) (sV 0)) bc))))
def v6(pq:SF):SS :=
 (di (a4l (sV 0) (a0n 3 (dq (kN 4) (dq (kN 5) (dq (kN 6) a0t)))))
 (di (jj 7 (s2 gIx (sV 2) (sV 3)))
 (di (sIf (a2n (sT (s2 hNe (s2 gIx (sV 6) (sV 3)) (s1 a1b (sI 1)))) (a4f (sT (sCh gLe gLe (sI 0) (sV 7) (sV 1)))))
 (my (sC (.bl false)))
 sNx)
 (di (sIf (sT (s2 hEq (sV 7) (s1 a1b (sI 2))))
 (my (sC (.bl true)))
 sNx)
 (di (sIf (sT (s2 hEq (sV 7) (s1 a1b (sI 1))))
 (my (sA ac8 (aa (sZ (ji (sIt (s2 gIx (sV 5) (sV 3))) t1 (yo pq) [2,6])) bc)))
 sNx)
 (my (sA ac8 (aa (sZ (ji (sIt (s2 gIx (sV 5) (sV 3))) t1 (yp pq) [2,6,7])) bc))))))))
def a1r:SS :=
 (di (sIf (sT (s2 hEq (sV 2) (s1 a1b (sI 2))))
 (my (sC (.bl false)))
 sNx)
 (my (ab0 (sT (s2 hNe (sV 1) (s1 a1b (sI 1)))) (s2 gGe (sV 0) (sI 1)) (s2 gGt (sV 0) (sV 2)))))
end K40
namespace K43
open L2 MI
def qe(dw:SF):SS :=
 (sIf (sT (s2 hNe (s2 gIx (sV 3) (sV 6)) (s1 a1b (sI 1))))
 (jj 4 (sA a0r (aa (s2 gIx (sV 3) (sV 6)) (aa (sV 5) bc))))
 sNx)
def yq(dw:SF):SS :=
 (di (jj 3 (s2 gIx (sV 0) (sI 2)))
 (di (jj 4 (sC .non))
 (di (a3f (abi (sA (jg false 3 dw) (aa (sV 0) (aa (sI 0) (aa (a6z (sV 1) (oS (sV 2)) oN) bc)))) (sV 2)) (a0n 2 (dq (kN 5) (dq (kN 6) a0t))) (qe dw))
 (my (sV 4)))))
def yr(m8:SF):SS :=
 (di (jj 2 (sA (jg false 2 m8) (aa (sV 0) (aa (sV 1) bc))))
 (di (sIf (sT (s2 gIs (sV 2) (sC .non)))
 (my (sC .non))
 sNx)
 (di (a4l (sV 2) (a0n 2 (dq (kN 3) (dq (kN 4) a0t))))
 (my (sA a0r (aa (s2 jb (sV 3) (a6z (sV 4) oN (oS (sV 1)))) (aa (s2 jb (sV 3) (sV 4)) bc)))))))
def qj(j7:SF)(km:SF):ST :=
 (sT (s2 gLe (sA vm (aa (s2 jb (sV 5) (sV 7)) bc)) (sV 1)))
def n8(j7:SF)(km:SF):SS :=
 (aag 5 a0b (sV 6))
def wu(j7:SF)(km:SF):SS :=
 (di (jj 2 (sA (jg false 1 km) (aa (sV 0) bc)))
 (di (sIf (sT (s2 gIs (sV 2) (sC .non)))
 (di (jj 3 (sA (jg false 1 j7) (aa (sV 0) bc)))
 (my (ab0 (a2n (sT (s2 vp (sV 3) (sC .non))) (sT (s2 gGt (sA vm (aa (s2 gIx (sV 3) (sI 1)) bc)) (sV 1)))) (sV 3) (sC .non))))
 sNx)
 (di (a4l (sV 2) (a0n 4 (dq (kN 4) (dq (kN 5) (dq (kN 6) (dq (kN 7) a0t))))))
 (di (sWh (qj j7 km) (n8 j7 km) 100000)
 (my (sA a0r (aa (sV 4) (aa (s2 jb (sV 5) (sV 7)) bc))))))))
end K43
namespace K45
open L2 MI
def ww(ph:SF):SS :=
 (di (sIf (a4f (a1w (sA (jg false 2 ph) (aa (sV 0) (aa (sV 1) bc)))))
 ag3
 sNx)
 (my (sV 1)))
def wz(qg:SF)(uf:SF):SS :=
 (my (sA (jg false 3 uf) (aa (sV 0) (aa (sA (jg false 2 qg) (aa (s2 gIx (sV 0) (sI 0)) (aa (sV 1) bc))) (aa (sV 2) bc)))))
def yz(aj:SF):SE :=
 (s2 gIx (sV 2) (sA (jg false 2 aj) (aa (sV 1) (aa (sA vm (aa (sV 2) bc)) bc))))
def a0i(aj:SF):SS :=
 (my (sMS aiy (sC (.str "")) (aa (sZ (ji (sRg zg (aa (sA (jg false 2 aj) (aa (sV 0) (aa (sV 2) bc))) bc)) t1 (yz aj) [0,1])) bc)))
def xf(jf:SF)(cj:SF)(bf:SF)(jz:SF):SS :=
 (di (jj 4 (sA (jg false 3 jf) (aa (sV 0) (aa (s2 gIx (sV 1) (sI 0)) (aa (sI 31) bc)))))
 (di (jj 5 (sA (jg false 3 cj) (aa (sV 1) (aa (sV 4) (aa (sI 0) bc)))))
 (sIf (sT (s2 vp (sV 5) (sC .non)))
 (di (jj 6 (a6z (sV 4) oN (oS (s2 jb (s2 gIx (sV 5) (sI 1)) (sV 2)))))
 (di (sIf (sT (s2 gGe (sA vm (aa (sV 4) bc)) (s2 jb (s2 gIx (sV 5) (sI 1)) (sV 2))))
 (aag 6 a0b (sA (jg false 3 jf) (aa (sV 0) (aa (s2 gIx (sV 1) (sI 0)) (aa (sI 20) bc)))))
 sNx)
 (di (jj 7 (sA (jg false 3 jz) (aa (sV 1) (aa (sV 6) (aa (sI 0) bc)))))
 (sIf (sOr (a4f (a1w (sA (jg false 2 bf) (aa (sV 7) (aa (sI 2) bc))))) (sOr (sT (s2 hNe (sV 7) (sV 5))) (sT (s2 hNe (sA (jg false 3 cj) (aa (sV 1) (aa (sV 6) (aa (sI 0) bc)))) (sV 5)))))
 ag3
 sNx))))
 sNx)))
def zx(jf:SF)(cj:SF)(bf:SF)(jz:SF):SS :=
 (di (a3f (sRg zg (aa (sI 12) bc)) (kN 3) (xf jf cj bf jz))
 (my (sC (.bl true))))
def a1d(cj:SF)(bj:SF):SE :=
 (sV 0)
def v7(cj:SF)(bj:SF):ST :=
 (sT (s2 (gIn true) (sV 0) (s2 gIx (sV 1) (sI 0))))
def zb(cj:SF)(bj:SF):SS :=
 (sIf (sOr (a4f (a1w (sA qw (aa (sV 3) (aa (sC (.ty "str")) bc))))) (sT (s2 (b3m true) (sZ (xx (sIt (sV 3)) t1 (v7 cj bj) (a1d cj bj) [0])) (sZ (sA a5m bc)))))
 ag3
 sNx)
def a0j(cj:SF)(bj:SF):SS :=
 (di (jj 2 (sA (jg false 2 bj) (aa (sV 0) (aa (sV 1) bc))))
 (di (sIf (sOr (a4f (a1w (sA qw (aa (sV 2) (aa (sC (.ty "tuple")) bc))))) (sT (s2 hNe (sA vm (aa (sV 2) bc)) (sI 2))))
 ag3
 sNx)
 (di (a3f (sIt (sV 2)) (kN 3) (zb cj bj))
 (di (jj 4 (sA (jg false 3 cj) (aa (sV 0) (aa (s2 gIx (sV 2) (sI 0)) (aa (sI 0) bc)))))
 (di (sIf (sOr (sT (s2 gIs (sV 4) (sC .non))) (sT (s2 hEq (sA (jg false 3 cj) (aa (sV 0) (aa (s2 gIx (sV 2) (sI 1)) (aa (sI 0) bc)))) (sV 4))))
 ag3
 sNx)
 (my (s2 hEq (a6z (s2 gIx (sV 2) (sI 0)) oN (oS (s2 jb (s2 gIx (sV 4) (sI 1)) (sV 1)))) (a6z (s2 gIx (sV 2) (sI 1)) oN (oS (s2 jb (s2 gIx (sV 4) (sI 1)) (sV 1)))))))))))
def xg:SS :=
 (di (sIf (a2n (sT (s2 hEq (s2 gIx (sV 2) (sV 6)) (s1 a1b (sI 1)))) (sOr (sT (s2 gGe (s2 gIx (sV 5) (sV 7)) (sI 0))) (sT (s2 hNe (s2 gIx (sV 2) (sV 7)) (s1 a1b (sI 1))))))
 ag3
 sNx)
 (di (sIf (a2n (sT (s2 gGe (s2 gIx (sV 2) (sV 6)) (sI 0))) (sOr (sT (s2 hEq (s2 gIx (sV 2) (sV 7)) (s1 a1b (sI 2)))) (a2n (sT (s2 gGe (s2 gIx (sV 5) (sV 7)) (sI 0))) (sT (s2 hEq (s2 gIx (sV 2) (sV 6)) (sI 0))))))
 ag3
 sNx)
 (sIf (a2n (sT (s2 gGe (s2 gIx (sV 2) (sV 6)) (sI 0))) (a2n (sT (s2 gLt (s2 gIx (sV 5) (sV 7)) (sI 0))) (sT (s2 gGe (s2 gIx (sV 2) (sV 7)) (s2 gIx (sV 2) (sV 6))))))
 ag3
 sNx)))
def xj:SS :=
 (di (sIf (sOr (sT (s2 gLt (s2 gIx (sV 2) (sV 6)) (s1 a1b (sI 2)))) (a2n (sT (s2 gGe (s2 gIx (sV 5) (sV 6)) (sI 0))) (a4f (sT (sCh gLe gLe (sI 0) (s2 gIx (sV 2) (sV 6)) (sV 1))))))
 ag3
 sNx)
 (a3f (sIt (s2 gIx (sV 4) (sV 6))) (kN 7) xg))
def zy:SS :=
 (di (a4l (sV 0) (a0n 3 (dq (kN 3) (dq (kN 4) (dq (kN 5) a0t)))))
 (di (a3f (sRg zg (aa (sA vm (aa (sV 2) bc)) bc)) (kN 6) xj)
 (my (sC (.bl true)))))
def a9k(aj:SF)(iz:SF)(bf:SF)(jd:SF)(iw:SF)(jc:SF)(j9:SF)(gk:SF)(ie:SF)(bj:SF)(j6:SF):SE :=
 (sA (jg false 2 jd) (aa (sV 1) (aa (sV 0) bc)))
def a9l(aj:SF)(iz:SF)(bf:SF)(jd:SF)(iw:SF)(jc:SF)(j9:SF)(gk:SF)(ie:SF)(bj:SF)(j6:SF):SE :=
 (sA (jg false 2 jd) (aa (sV 1) (aa (sV 0) bc)))
def ad4(aj:SF)(iz:SF)(bf:SF)(jd:SF)(iw:SF)(jc:SF)(j9:SF)(gk:SF)(ie:SF)(bj:SF)(j6:SF):SS :=
 (di (jj 1 (sA (jg true 1 iw) (aa (sV 0) bc)))
 (di (jj 2 (sA (jg false 2 aj) (aa (sV 1) (aa (sI 61) bc))))
 (di (jj 3 (sA (jg false 2 jc) (aa (sV 1) (aa (sI 16) bc))))
 (di (jj 4 (sA (jg false 1 j6) (aa (sV 3) bc)))
 (di (sIf (sT (s2 gIs (sV 4) (sC .non)))
 (my (a0m (s2 gIs (sA (jg false 1 gk) (aa (sV 3) bc)) (sC .non)) (sA ac8 (aa (sZ (ji (sIt (sA a0r (aa (sI 0) (aa (sI 1) (aa (sI 2) (aa (sV 2) (aa (sI 60) bc))))))) t1 (a9k aj iz bf jd iw jc j9 gk ie bj j6) [3])) bc))))
 sNx)
 (di (sIf (sOr (a4f (a1w (sA (jg false 2 bf) (aa (sA a0r (aa (sV 4) bc)) (aa (sI 1) bc))))) (sOr (sT (s2 gLt (sV 4) (sI 0))) (sT (s2 gGt (sV 4) (sA vm (aa (s2 gIx (sV 3) (sI 1)) bc))))))
 ag3
 sNx)
 (di (jj 5 (sA (jg false 1 gk) (aa (sV 3) bc)))
 (di (sIf (sOr (a4f (a1w (sA (jg false 2 bf) (aa (sV 5) (aa (sA vm (aa (s2 gIx (sV 3) (sI 1)) bc)) bc))))) (a4f (a1w (sA (jg false 3 j9) (aa (sV 3) (aa (sV 4) (aa (sV 5) bc)))))))
 ag3
 sNx)
 (di (sIf (sOr (sT (s2 vp (sA (jg false 3 ie) (aa (sV 3) (aa (sV 4) (aa (sV 5) bc)))) (sC (.bl true)))) (sT (s2 vp (sA (jg false 2 bj) (aa (sV 3) (aa (sV 4) bc))) (sC .non))))
 ag3
 sNx)
 (my (a0m (sA ac8 (aa (sZ (ji (sRg zg (aa (sV 4) bc)) t1 (a9l aj iz bf jd iw jc j9 gk ie bj j6) [3])) bc)) (sA (jg false 3 iz) (aa (sV 1) (aa (sV 3) (aa (sV 4) bc)))))))))))))))
end K45
namespace MI
open L2
theorem b0k(ha:ME X E a fa)(hb:ME X E b fb)(hp:a8p b:=by with_unfolding_all exact λ_ _=>rfl):ME X E (.Subscript a b pos) (s2 gIx fa fb):=atx ha hb hp
theorem b3q(i:Nat)(hN:X.N.Nodup)(he:ME X E e fa)(hi:X.N[i]? = some x:=by rfl)(hx:Loc X.env.scope x:=by with_unfolding_all first|exact Or.inl rfl|exact Or.inr rfl)(hs:swapsWith e (some (.Name x pos')) pos.line X.env=pure false:=by rfl)(hf:Hf X x:=by with_unfolding_all first|exact .inl rfl|exact .inr rfl|assumption) :
  MS X E (.Assign [.Name x pos'] e pos) (jj i fa):=ayw hN hi hx he hs hf
theorem b0l{X:Cx}(G:Dn X.prog X.w X.K X.mg X.base k x ps (ae9 X.K n F) f fd)(hr:Room k' X.A)(hk:k<=k')(ha:MA X X0 (e::es) ka)(hg:Gl X x:=by rfl)
  (hdb:(x == ("__debug__" : Str))=false:=by decide) (he:starEach (e::es) X.env=(false,eval e X.env)::starEach es X.env:=by rfl) (hpl:(backTo pos (starEach es X.env)).any (·.1)=false:=by rfl):ME X X0 (.Call (.Name x p) (e::es) [] pos) (sA (jg false n F) ka):=aem false G (hr.mono hk) hg ha hdb he hpl
theorem b0m(hm:X.mg "len" = none)(ha:MA X E [e] ka)(hg:Gl X "len":=by rfl)(he:starEach [e] X.env=(false,eval e X.env)::starEach [] X.env:=by rfl)(hpl:(backTo pos (starEach [] X.env)).any (·.1)=false:=by rfl):ME X E (.Call (.Name "len" p) [e] [] pos) (sA vm ka) :=
 ab1 (L2.CallR.or aas aat) au2 hg hm ayb ha (by decide) (by decide) he hpl
theorem a68(ho:OpR X (compareOp op) r)(hs:a2p X.K g r)(ha:ME X E a fa)(hb:ME X E b fb)(hm:behindInMarks op b=false:=by exact a4g _):MT X E (.Compare a [op] [b] pos) (sT (s2 g fa fb)):=a6u ho hs ha hb hm
theorem b0n(hu:X.A.units+64<cLine)(ha:ME X E a fa)(hb:ME X E b fb):MT X E (.Compare a [.Eq] [b] pos) (sT (s2 hEq fa fb)):=a6u (aqu hu) aj0 ha hb (a4g _)
theorem pgn(i:Nat)(hN:N.Nodup:=by decide +kernel)(hi:N[i]? = some x:=by rfl)(hx:∀C fp s H,Loc (cxC X N aB cl C fp s H).env.scope x:=by with_unfolding_all exact λ_ _ _ _=>Or.inl rfl)(hf:∀C fp s H,(cxC X N aB cl C fp s H).fn x=true\/(cxC X N aB cl C fp s H).env.scope.names.lookup x=some .local:=by with_unfolding_all exact λ_ _ _ _=>.inr rfl) :
  ∀C fp s H,PG (cxC X N aB cl C fp s H) (.Name x pos) (a3p i):=λC fp s H=>acd (X:=cxC X N aB cl C fp s H) hN hi (hx C fp s H) (hf C fp s H)
theorem pgm(i:Nat)(hN:N.Nodup:=by decide +kernel)(hi:N[i]? = some x:=by rfl)(hx:Loc (cxC X N aB cl C fp s H).env.scope x:=by with_unfolding_all exact Or.inl rfl)(hf:(cxC X N aB cl C fp s H).fn x=true\/(cxC X N aB cl C fp s H).env.scope.names.lookup x=some .local:=by with_unfolding_all exact .inr rfl) :
  PG (cxC X N aB cl C fp s H) (.Name x pos) (a3p i):=acd (X:=cxC X N aB cl C fp s H) hN hi hx hf
def allP(P:α->Prop):List α->Prop
 |[]=>True
 |a::l=>P a/\allP P l
theorem allP.mem{P:α->Prop}:∀{l:List α},allP P l->∀a∈l,P a
 |b::l,h,a,m=>by
  rcases aP.mp m with rfl|m
  .exact h.1
  .exact h.2.mem a m
theorem a0q{X:Cx}(ts fr:List Str)(ix:List Nat)(clos:closureFor aB X.env=pure cl:=by rfl)(kind:aB.kind=.function:=by rfl)
  (nocell:(aB.names.all λp=>p.2 != .cell)=true:=by rfl) (names:(aB.names.all λp=>p.2 != .local || aB.names.lookup p.1 == some .local)=true:=by rfl) (sub:allP (λp=>X.env.cells.lookup p.1=some p.2) cl:=by with_unfolding_all repeat' constructor)
  (has:((relabel aB X.env).names.all λp => !(p.2 == .cell || p.2 == .free) || (cl.lookup p.1).isSome)=true:=by rfl) (nofn:(ts.all λy=>(relabel aB X.env).names.lookup y == some .local)=true:=by rfl)
  (len:ix.length=fr.length:=by rfl) (vis:((fr.zip ix).all λp=>X.N[p.2]? == some p.1 && (X.env.kindOf p.1 == some .cell || X.env.kindOf p.1 == some .free) && ((relabel aB X.env).names.lookup p.1 == some .cell || (relabel aB X.env).names.lookup p.1 == some .free))=true:=by rfl) :
  CSc X aB cl ts fr ix:=.of clos kind nocell names sub.mem has nofn len vis
theorem akd{aB:Scope}(ts:List Str)(kind:aB.kind=.function:=by rfl)(h:∀y∈aB.names,y.2≠.cell/\y.2≠.free:=by decide +kernel)(names:∀y∈aB.names,y.2=.local->aB.names.lookup y.1=some .local:=by decide +kernel)
  (ht:∀y∈ts,aB.names.lookup y=some .local:=by decide +kernel):CSc X aB [] ts [] []:=.noFree kind h names ht
section
variable{α:Type}{us:List α}
theorem len0{P:List α->Prop}(h:us.length=0)(k:P []):P us:=by cases us with|nil=>exact k|cons _ _=>cases h
theorem agr{P:List α->Prop}(h:us.length=n+1)(k:∀a vs,vs.length=n->P (a::vs)):P us:=by cases us with|nil=>cases h|cons a vs=>exact k a vs (iR h)
theorem b4x{P:List α->Prop}(h:us.length=1)(k:∀a,P [a]):P us:=agr h λa _ h=>len0 (P:=λus=>P (a::us)) h (k a)
theorem b4y{P:List α->Prop}(h:us.length=2)(k:∀a b,P [a,b]):P us:=agr h λa _ h=>b4x (P:=λus=>P (a::us)) h (k a)
theorem b4z{P:List α->Prop}(h:us.length=3)(k:∀a b c,P [a,b,c]):P us:=agr h λa _ h=>b4y (P:=λus=>P (a::us)) h (k a)
theorem b50{P:List α->Prop}(h:us.length=4)(k:∀a b c d,P [a,b,c,d]):P us:=agr h λa _ h=>b4z (P:=λus=>P (a::us)) h (k a)
theorem b51{P:List α->Prop}(h:us.length=5)(k:∀a b c d e,P [a,b,c,d,e]):P us:=agr h λa _ h=>b50 (P:=λus=>P (a::us)) h (k a)
theorem b5w{P:List α->Prop}(h:us.length=6)(k:∀a b c d e f,P [a,b,c,d,e,f]):P us:=agr h λa _ h=>b51 (P:=λus=>P (a::us)) h (k a)
end
end MI
namespace K45
open L2 MI
noncomputable def top(i:Nat):Stmt:=PySem.Challenge.pw_nearreach_k45_whole_enough_and_least.main.body.getD i (.Pass ⟨0,0,0,0⟩)
structure Nm (mg:Str->Option Value):Prop where
 abs:mg "abs" = none
 all:mg "all" = none
 any:mg "any" = none
 bool:mg "bool" = none
 enumerate:mg "enumerate" = none
 int:mg "int" = none
 isinstance:mg "isinstance" = none
 len:mg "len" = none
 min:mg "min" = none
 range:mg "range" = none
 reversed:mg "reversed" = none
 sorted:mg "sorted" = none
 str:mg "str" = none
 sum:mg "sum" = none
 tuple:mg "tuple" = none
 zip:mg "zip" = none
section
variable{P:Program}{w:World}{K:Fg}{mg:Str->Option Value}{base:Heap}{f:Addr}
def MD(P:Program)(w:World)(K:Fg)(mg:Str->Option Value)(base:Heap)(f:Addr)(k:Nat)(N ps:List Str)(x:Str)(t:Stmt)(b:SS):Prop:=FnScope N ps (jm t)/\∀(cdv:Value) (A:Around) (outer:List Env) (s:Shared) (H:Hp) (E:XK),Room k (A.deeper (PyProof.Rows.envOfC x (jm t) s.heap.objs.size f cdv))->MSs (ame CX0 P w K mg base N x (jm t) f cdv A outer s H E).nox X0 (a02 t) b
theorem md{N ps:List Str}{x:Str}{t:Stmt}{b:SS}(S:FnScope N ps (jm t))(h:FnScope N ps (jm t)->∀(cdv:Value) (A:Around) (outer:List Env) (s:Shared) (H:Hp) (E:XK),Room k (A.deeper (PyProof.Rows.envOfC x (jm t) s.heap.objs.size f cdv))->MSs (ame CX0 P w K mg base N x (jm t) f cdv A outer s H E).nox X0 (a02 t) b):MD P w K mg base f k N ps x t b:=⟨S,h S⟩
def Dk(P:Program)(w:World)(K:Fg)(mg:Str->Option Value)(base:Heap)(k:Nat)(x:Str)(ps:List Str)(F:SF):Prop:=∃a d j,Dn P w K mg base j x ps (ae9 K ps.length F) a d/\j<=k
theorem dk{x:Str}{ps:List Str}{F:SF}{a:Addr}{d:FuncData}{j k:Nat}(D:Dn P w K mg base j x ps (ae9 K ps.length F) a d)(h:j<=k:=by decide):Dk P w K mg base k x ps F:=⟨a,d,j,D,h⟩
theorem b3r{X:Cx}{x:Str}{ps:List Str}{F:SF}{k n:Nat}{e:Expr}{es:List Expr}{ka:SA}{p pos:Pos}(G:Dk X.prog X.w X.K X.mg X.base k x ps F)(hr:Room k X.A)(ha:MA X X0 (e::es) ka)(hn:n=ps.length:=by rfl)(hg:Gl X x:=by rfl)(hdb:(x == ("__debug__" : Str))=false:=by decide)(he:starEach (e::es) X.env=(false,eval e X.env)::starEach es X.env:=by rfl)(hpl:(backTo pos (starEach es X.env)).any (·.1)=false:=by rfl):ME X X0 (.Call (.Name x p) (e::es) [] pos) (sA (jg false n F) ka):=by
 subst hn;obtain⟨_,_,_,D,h⟩:=G;exact b0l D hr h ha hg hdb he hpl
set_option hygiene false
local macro_rules|`(tactic|walk_at "m") => `(tactic|refine md ⟨rfl,rfl,rfl,by decide +kernel,rfl,by decide +kernel,by decide +kernel⟩ ?_;intro SC cdv A outer s H E hr)
local macro_rules|`(tactic|rfl) => `(tactic|with_unfolding_all exact Eq.refl _)
local macro_rules|`(tactic|exists $e) => `(tactic|with_unfolding_all exact $e)
local macro_rules|`(tactic|ac_rfl) => `(tactic|with_unfolding_all assumption)
local macro_rules|`(tactic|walk_at "d") => `(tactic|with_reducible repeat' first
 |(show PE _ _ _;first|refine b5t ?_|(show PE _ (.Name _ _) _;first|exact b5n _|exact ane (by rfl) (by exists M.tuple) ae3|exact ane (by rfl) (by exists M.int) aqg|exact ane (by rfl) (by exists M.bool) aue|exact ane (by rfl) (by exists M.str) ayc)|(show PE _ (.Constant _ _ _) _;first|exact ayg|exact ayi|exact b3a|exact ayh)|(show PE _ (.Call _ _ _ _) _;first|refine b3r (by ac_rfl) (by exists hr) ?_|refine b0l (by ac_rfl) (by exists hr) (by ac_rfl) ?_|refine b0m (by exists M.len) ?_|refine ab1 (L2.CallR.or ack abh) aod (by rfl) (by exists M.isinstance) a8x ?_|refine ab1 (acl (by rfl)) aua (by rfl) (by exists M.all) ayd ?_|refine aik (L2.CallR.or a8r (aax (by rfl))) aiz (by rfl) (by exists M.tuple) ae3 ?_|refine ab1 (acu (by rfl)) auo (by rfl) (by exists M.any) b01 ?_|refine avo (by exists hr.u) ?_ ?_ ⟨rfl,rfl,rfl,rfl⟩|refine ab1 an1 au3 (by rfl) (by exists M.abs) aye ?_|refine aik ahr au5 (by rfl) (by exists M.int) aqg ?_|refine ab1 (afw (by rfl)) aub (by rfl) (by exists M.sum) azm ?_|refine ab1 (ahq (by rfl)) anp (by rfl) (by exists M.min) azl ?_|refine ab1 a97 ag6 (by rfl) (by exists M.sorted) ajn ?_|refine aem true (by ac_rfl) (by exists hr.mono (by assumption)) (by rfl) ?_)|(show PE _ (.Subscript _ _ _) _;first|refine b0k ?_ ?_|refine aja ?_ ?_ ?_|refine auy (by exists hr.u) ?_ ?_ (by exists λ_ _=>rfl))|(show PE _ (.BinOp _ _ _ _) _;first|refine auu ?_ ?_|refine az9 ?_ ?_|refine auv ?_ ?_|refine azb ?_ ?_|refine az8 ?_ ?_|refine aza ?_ ?_)|(show PE _ (.UnaryOp _ _ _) _;first|refine azc ?_|refine ayp ?_)|(show PE _ (.ListComp _ _ _ _) _;first|refine ae8 (by rfl) (akd ["room","kind"]) ?_ (λ_ _ _ _=>(adp (by rfl) (a1v (pgm _) (a1v (pgm _) a8n)))) aip (λ_ _ _ _=>?_) (λ_ _ _ _=>?_)|refine uh (by rfl) (a0q ["_law_k"] ["_law_table_here"] [3]) ?_ (pgn _) qy (λ_ _ _ _=>?_)|refine uh (by rfl) (a0q ["sign"] ["tongue"] [0]) ?_ (pgn _) qy (λ_ _ _ _=>?_)|refine uh (by rfl) (a0q ["room"] ["table"] [0]) ?_ (pgn _) qy (λ_ _ _ _=>?_)|refine uh (by rfl) (akd ["word"]) ?_ (pgn _) qy (λ_ _ _ _=>?_)|refine uh (by rfl) (a0q ["to"] ["kinds"] [5]) ?_ (pgn _) qy (λ_ _ _ _=>?_)|refine uh (by rfl) (a0q ["room"] ["found"] [5]) ?_ (pgn _) qy (λ_ _ _ _=>?_)|refine uh (by rfl) (a0q ["room"] ["table","hope","behind"] [0,1,2]) ?_ (pgn _) qy (λ_ _ _ _=>?_)|refine uh (by rfl) (akd ["high"]) ?_ (pgn _) qy (λ_ _ _ _=>?_)|refine uh (by rfl) (a0q ["room"] ["table","number","rows"] [0,1,2]) ?_ (pgn _) qy (λ_ _ _ _=>?_)|refine uh (by rfl) (a0q ["to"] ["rows","kinds"] [2,6]) ?_ (pgn _) qy (λ_ _ _ _=>?_)|refine uh (by rfl) (a0q ["to"] ["rows","kinds","high"] [2,6,7]) ?_ (pgn _) qy (λ_ _ _ _=>?_)|refine uh (by rfl) (a0q ["room"] ["words"] [2]) ?_ (pgn _) qy (λ_ _ _ _=>?_)|refine uh (by rfl) (a0q ["_law_room"] ["_law_goes","_law_met"] [4,6]) ?_ (pgn _) qy (λ_ _ _ _=>?_)|refine uh (by rfl) (a0q ["_law_to"] ["_law_met"] [2]) ?_ (pgn _) qy (λ_ _ _ _=>?_)|refine uh (by rfl) (a0q ["_law_room"] ["_law_kinds"] [5]) ?_ (pgn _) qy (λ_ _ _ _=>?_)|refine uh (by rfl) (a0q ["_law_k"] ["_law_left","_law_tongue_here"] [0,1]) ?_ (pgn _) qy (λ_ _ _ _=>?_)|refine ae8 (by rfl) (a0q ["_law_sign"] ["_law_table_here"] [0]) ?_ (pgn _) qy (λ_ _ _ _=>?_) (λ_ _ _ _=>?_))|(show PE _ (.Compare _ _ _ _) _;first|refine a2r (aqu (by exists hr.u)) aj0 ?_ ?_ (a4g _)|refine a2r (atd.or ai1) au0 ?_ ?_ (by with_unfolding_all rfl)|refine a2r (aqv (by exists hr.u)) aj1 ?_ ?_ (a4g _)|refine a2r axn aqp ?_ ?_ (a4g _)|refine anf (ahm.or a2q) (ahm.or a2q) ab3 ab3 ?_ ?_ ?_|refine a2r (aho.or a6q) ab4 ?_ ?_ (a4g _)|refine a2r axm aqo ?_ ?_ (a4g _)|refine a2r (axl.or aaj) aqn ?_ ?_ (a4g _)|refine a2r (aq6.or ae0) aqq ?_ ?_ (a4g _))|refine ays ?_|(show PE _ (.BoolOp _ _ _) _;first|refine ayo ?_ ?_|refine ayn ?_)|refine ayt ?_|refine azi PySem.F.slot_list_append PySem.F.type_list_append (by exists ai3) au8 ?_ ?_|refine ayq ?_ ?_ ?_|(show PE _ (.Dict _ _ _) _;first|exact aud|refine b3j ?_ ?_)|refine au9 PySem.F.slot_str_index PySem.F.type_str_index (by exists anc) aix ?_ ?_|refine avl (by rfl) (by exists M.sorted) (by rfl) (a0q ["room","to"] ["goes"] [4]) ?_ (pgn _) (λ_ _ _ _=>?_) (pgn _) (λ_ _ _ _=>?_)|exact aj9 false (by ac_rfl) (by exists hr.mono (by assumption)) (by rfl)|refine azi PySem.F.slot_list_index PySem.F.type_list_index (by exists aje) ag7 ?_ ?_|refine au9 PySem.F.slot_str_find PySem.F.type_str_find (by exists ate) anq ?_ ?_|refine au9 PySem.F.slot_str_join PySem.F.type_str_join (by exists atg) anr ?_ ?_)
 |(show PSs _ _ _;first|exact azt|refine ae5 ?_ ?_|refine ail ?_|exact atl)
 |(show PA _ _ _;first|refine atj ?_ ?_|exact ayr)
 |(show PS _ _ _;first|refine b3q _ (by exists SC.nd) ?_|refine ayv ?_|refine b3e ?_ ?_ ?_|(show PS _ (.For _ _ _ _ _) _;first|refine az3 PassesOwn.never (by rfl) ?_ ?_ ?_)|(show PS _ (.Assign _ _ _) _;first|refine az0 ?_ ?_|refine auz (by exists hr.u) ?_ ?_ ?_|refine ayy ?_ ?_ ?_)|refine ayx (by exists SC.nd) (by rfl) (by exists Or.inl rfl) (ahl.or a6l) aeh ?_|refine atm ?_|refine anh _ PassesOwn.never ?_ ?_|(show PS _ (.AugAssign _ _ _ _) _;first|refine ajb ?_ ?_ ?_ (ahl.or a6l) aeh|refine ajb ?_ ?_ ?_ amx air)|refine a4r (by exists SC.nd) (by rfl) (by exists Or.inl rfl) (by rfl) (akd ["kind"]) ?_ (pgn _) qy (λ_ _ _ _=>?_)|refine a96 (by exists SC.nd) (by rfl) (by exists Or.inl rfl) (by rfl) (a0q ["to"] ["hope","kinds"] [1,5]) ?_ (pgn _) qy (λ_ _ _ _=>?_) (λ_ _ _ _=>?_)|refine a96 (by exists SC.nd) (by rfl) (by exists Or.inl rfl) (by rfl) (a0q ["room","kind"] ["number","highs"] [1,2]) ?_ (λ_ _ _ _=>(adp (by rfl) (a1v (pgm _) (a1v (pgm _) a8n)))) aip (λ_ _ _ _=>?_) (λ_ _ _ _=>?_)|refine a96 (by exists SC.nd) (by rfl) (by exists Or.inl rfl) (by rfl) (a0q ["sign","to"] ["highs","kinds","left"] [1,5,8]) ?_ (λ_ _ _ _=>(adp (by rfl) (a1v (pgm _) (a1v (pgm _) a8n)))) aip (λ_ _ _ _=>?_) (λ_ _ _ _=>?_)|refine a4r (by exists SC.nd) (by rfl) (by exists Or.inl rfl) (by rfl) (akd ["_law_cell"]) ?_ (pgn _) qy (λ_ _ _ _=>?_)|refine a4r (by exists SC.nd) (by rfl) (by exists Or.inl rfl) (by rfl) (a0q ["_law_sign"] ["_law_left","_law_many"] [0,2]) ?_ (pgn _) qy (λ_ _ _ _=>?_)|refine a4r (by exists SC.nd) (by rfl) (by exists Or.inl rfl) (by rfl) (a0q ["_law_to"] ["_law_many","_law_kinds","_law_room"] [2,3,4]) ?_ (pgn _) qy (λ_ _ _ _=>?_)|refine a4r (by exists SC.nd) (by rfl) (by exists Or.inl rfl) (by rfl) (a0q ["_law_to"] ["_law_room"] [4]) ?_ (pgn _) qy (λ_ _ _ _=>?_))
 |(show PT _ _ _;first|(show PT _ (.Compare _ _ _ _) _;first|refine b0n (by exists hr.u) ?_ ?_|refine a68 (aqv (by exists hr.u)) aj1 ?_ ?_|refine a68 (axl.or aaj) aqn ?_ ?_|refine a68 axn aqp ?_ ?_|refine a68 (aq6.or ae0) aqq ?_ ?_|refine a68 (aho.or a6q) ab4 ?_ ?_|refine a68 axm aqo ?_ ?_|refine a6u (afv.or aar) au1 ?_ ?_ (by with_unfolding_all rfl)|refine a6u (aji (by exists hr.u)) ag9 ?_ ?_ (by with_unfolding_all rfl)|refine ang (ahm.or a2q) (ahm.or a2q) ab3 ab3 ?_ ?_ ?_|refine a68 (ahm.or a2q) ab3 ?_ ?_|refine a6u (azy (by exists hr.u)) auw ?_ ?_ (by with_unfolding_all rfl)|refine a68 (b07 (by exists hr.u)) (av3 true) ?_ ?_)|refine ayj ?_|refine aym ?_|refine PW.pt ?_)
 |(show PG _ _ _;first|exact aio (by exists SC.nd) (by rfl) (by exists Or.inl rfl)|refine ayz (by rfl) ?_|exact aio (by exists SC.nd) (by rfl) (by exists Or.inr rfl))
 |(show PGs _ _ _;first|refine anw ?_ ?_|exact ato)
 |(show PW _ _ _;first|refine ayl ?_ ?_|refine ati ?_|refine b3d ?_ ?_|refine ayk ?_)
 |(show PI _ _ _ _;first|refine az2 ?_|refine atp (by rfl) (by exists M.range) ?_|refine av1 (by rfl) (by exists M.enumerate) ?_|refine atq (by rfl) (by exists M.range) ?_|refine azo (by rfl) (by exists M.zip) azp ?_ ?_|refine aof (by rfl) (by exists M.enumerate) ?_ ?_|refine b0e (by rfl) (by exists M.reversed) (by rfl) (by exists M.range) ?_|refine ap4 ?_ ⟨rfl,rfl⟩)
 |(show PO _ _ _;first|refine atz ?_|exact aty)
 |(with_unfolding_all first|refine ae5 ?_ ?_|refine ail ?_))
theorem m_0(M:Nm mg):MD P w K mg base f k ["thing"] ["thing"] "is_number" (top 1) (K40.a0h):=by
 walk_at "m"
 unfold K40.a0h
 walk_at "d"
theorem m_1(M:Nm mg):MD P w K mg base f k ["thing","low","high"] ["thing","low","high"] "is_row" (top 2) (K40.a4y):=by
 walk_at "m"
 unfold K40.a4y
 walk_at "d"
theorem m_2(M:Nm mg):MD P w K mg base f k ["tongue","thing"] ["tongue","thing"] "is_text" (top 7) (STP.u5):=by
 walk_at "m"
 unfold STP.u5 STP.vh
 walk_at "d"
theorem m_3(D_2:Dk P w K mg base k "is_text" ["tongue","thing"] F_2):MD P w K mg base f k ["tongue","thing"] ["tongue","thing"] "looked_text" (top 9) (ww F_2):=by
 walk_at "m"
 unfold ww
 walk_at "d"
theorem m_4:MD P w K mg base f k ["table","room","word","tongue","goes","kinds","rooms","sign"] ["table","room","word"] "rooms_along" (top 10) (STP.m7):=by
 walk_at "m"
 unfold STP.m7 STP.jr
 walk_at "d"
theorem m_5(M:Nm mg):MD P w K mg base f k ["table","start","passed","tongue","goes","kinds","words","waiting","looked","room","word","sign","to"] ["table","start","passed"] "words_to" (top 11) (STP.a1o):=by
 walk_at "m"
 unfold STP.a1o STP.a06 STP.a2c STP.wk
 walk_at "d"
theorem m_6(M:Nm mg)(D_7:Dk P w K mg base k "hope_word" ["table","start"] F_7):MD P w K mg base f k ["table"] ["table"] "hope_words" (top 13) (RCH.sr F_7):=by
 walk_at "m"
 unfold RCH.sr RCH.qz
 walk_at "d"
theorem m_7(M:Nm mg):MD P w K mg base f k ["table","start","tongue","goes","kinds","found","seen","looked","room","word","sign","to"] ["table","start"] "hope_word" (top 14) (RCH.vg):=by
 walk_at "m"
 unfold RCH.vg RCH.m9 RCH.qp RCH.j4
 walk_at "d"
theorem m_8(M:Nm mg)(D_6:Dk P w K mg base k "hope_words" ["table"] F_6):MD P w K mg base f k ["table"] ["table"] "hopes" (top 15) (RCH.a3z F_6):=by
 walk_at "m"
 unfold RCH.a3z RCH.a1l
 walk_at "d"
theorem m_9(M:Nm mg)(D_8:Dk P w K mg base k "hopes" ["table"] F_8)(D_10:Dk P w K mg base k "reach_from" ["table","hope","starts"] F_10):MD P w K mg base f k ["table","kinds"] ["table"] "reach" (top 17) (RCH.a7b F_8 F_10):=by
 walk_at "m"
 unfold RCH.a7b RCH.a89 RCH.a88
 walk_at "d"
theorem b5x(M:Nm mg):MD P w K mg base f k ["table","hope","starts","tongue","goes","kinds","most","layer","count","led"] ["table","hope","starts"] "reach_from" (top 18) (RCH.zq):=by
 walk_at "m"
 unfold RCH.zq RCH.sy RCH.o8 RCH.wj RCH.wg
 walk_at "d"
theorem b5y(M:Nm mg):MD P w K mg base f k ["table","hope","tongue","goes","kinds","found","looked","row","to"] ["table","hope"] "rooms_behind" (top 19) (HGT.uy):=by
 walk_at "m"
 unfold HGT.uy HGT.uc HGT.u9 HGT.yj HGT.o9 HGT.a1n HGT.a1m
 walk_at "d"
theorem b5z(M:Nm mg)(D_13:Dk P w K mg base k "height" ["table","hope","behind","room"] F_13)(D_8:Dk P w K mg base k "hopes" ["table"] F_8)(D_9:Dk P w K mg base k "reach" ["table"] F_9)(D_11:Dk P w K mg base k "rooms_behind" ["table","hope"] F_11):MD P w K mg base f k ["table","hope","behind"] ["table"] "heights" (top 20) (HGT.a3a F_13 F_8 F_9 F_11):=by
 walk_at "m"
 unfold HGT.a3a HGT.a2z
 walk_at "d"
theorem b60(D_10:Dk P w K mg base k "reach_from" ["table","hope","starts"] F_10):MD P w K mg base f k ["table","hope","behind","room"] ["table","hope","behind","room"] "height" (top 21) (HGT.a4v F_10):=by
 walk_at "m"
 unfold HGT.a4v
 walk_at "d"
theorem b61(M:Nm mg)(D_15:Dk P w K mg base k "height_holds" ["table","number","rows","room"] F_15)(D_0:Dk P w K mg base k "is_number" ["thing"] F_0)(D_1:Dk P w K mg base k "is_row" ["thing","low","high"] F_1):MD P w K mg base f k ["table","number","rows","rooms"] ["table","number","rows"] "heights_hold" (top 22) (K40.v4 F_15 F_0 F_1):=by
 walk_at "m"
 unfold K40.v4 K40.ym K40.oh
 walk_at "d"
theorem b62(M:Nm mg)(D_16:Dk P w K mg base k "may_lead" ["high","kind","to"] F_16):MD P w K mg base f k ["table","number","rows","room","tongue","goes","kinds","high"] ["table","number","rows","room"] "height_holds" (top 23) (K40.v6 F_16):=by
 walk_at "m"
 unfold K40.v6 K40.yp K40.yo
 walk_at "d"
theorem b63:MD P w K mg base f k ["high","kind","to"] ["high","kind","to"] "may_lead" (top 24) (K40.a1r):=by
 walk_at "m"
 unfold K40.a1r
 walk_at "d"
theorem b64(D_3:Dk P w K mg base k "looked_text" ["tongue","thing"] F_3)(D_18:Dk P w K mg base k "piece_at" ["table","text","at"] F_18):MD P w K mg base f k ["table","text","at"] ["table","text","at"] "first_piece" (top 26) (wz F_3 F_18):=by
 walk_at "m"
 unfold wz
 walk_at "d"
theorem b65(M:Nm mg)(D_4:Dk P w K mg base k "rooms_along" ["table","room","word"] F_4):MD P w K mg base f k ["table","text","at","kinds","found","end","room"] ["table","text","at"] "piece_at" (top 27) (K43.yq F_4):=by
 walk_at "m"
 unfold K43.yq K43.qe
 walk_at "d"
theorem b66(M:Nm mg)(D_5:Dk P w K mg base k "words_to" ["table","start","passed"] F_5):MD P w K mg base f k ["table","rooms","words"] ["table"] "ways_to" (top 29) (STP.a3b F_5):=by
 walk_at "m"
 unfold STP.a3b STP.zu
 walk_at "d"
theorem b67(M:Nm mg)(D_12:Dk P w K mg base k "heights" ["table"] F_12)(D_9:Dk P w K mg base k "reach" ["table"] F_9)(D_21:Dk P w K mg base k "way_down" ["table","highs","start"] F_21)(D_19:Dk P w K mg base k "ways_to" ["table"] F_19):MD P w K mg base f k ["table","number","highs","starts"] ["table"] "needing" (top 31) (STP.a3c F_12 F_9 F_21 F_19):=by
 walk_at "m"
 unfold STP.a3c STP.a0z STP.a0y
 walk_at "d"
theorem b68(M:Nm mg)(D_22:Dk P w K mg base k "is_next_down" ["kind","high","left"] F_22):MD P w K mg base f k ["table","highs","start","tongue","goes","kinds","word","room","left","fitting","sign"] ["table","highs","start"] "way_down" (top 32) (STP.a1p F_22):=by
 walk_at "m"
 unfold STP.a1p STP.a08 STP.ud STP.a07
 walk_at "d"
theorem b69:MD P w K mg base f k ["kind","high","left"] ["kind","high","left"] "is_next_down" (top 33) (STP.uz):=by
 walk_at "m"
 unfold STP.uz
 walk_at "d"
theorem b6a(M:Nm mg)(D_24:Dk P w K mg base k "loops_of" ["table"] F_24)(D_19:Dk P w K mg base k "ways_to" ["table"] F_19)(D_5:Dk P w K mg base k "words_to" ["table","start","passed"] F_5):MD P w K mg base f k ["table","bare","loops","start","way","room","word","c","x"] ["table"] "rounds" (top 34) (RND.a4w F_24 F_19 F_5):=by
 walk_at "m"
 unfold RND.a4w RND.a0g RND.a2d RND.a7d
 walk_at "d"
theorem b6b(M:Nm mg)(D_6:Dk P w K mg base k "hope_words" ["table"] F_6)(D_5:Dk P w K mg base k "words_to" ["table","start","passed"] F_5):MD P w K mg base f k ["table","bare","loops","room","word","back"] ["table"] "loops_of" (top 35) (RND.a1q F_6 F_5):=by
 walk_at "m"
 unfold RND.a1q RND.a09 RND.a4x
 walk_at "d"
theorem b6c(D_26:Dk P w K mg base k "longer_step" ["table","number"] F_26):MD P w K mg base f k ["table","number","step","u","z"] ["table","number"] "late_pair" (top 37) (K43.yr F_26):=by
 walk_at "m"
 unfold K43.yr
 walk_at "d"
theorem b6d(M:Nm mg)(D_20:Dk P w K mg base k "needing" ["table"] F_20)(D_23:Dk P w K mg base k "rounds" ["table"] F_23):MD P w K mg base f k ["table","number","told","step","u","z","c","x"] ["table","number"] "longer_step" (top 38) (K43.wu F_20 F_23):=by
 walk_at "m"
 unfold K43.wu K43.n8 K43.qj
 walk_at "d"
theorem b6e(M:Nm mg):MD P w K mg base f k ["_law_script","_law_cells"] ["_law_script"] "_law_source" (top 40) (SRC.zj):=by
 walk_at "m"
 unfold SRC.zj SRC.vy
 walk_at "d"
theorem b6f(M:Nm mg):MD P w K mg base f k ["_law_left","_law_many","_law_cell","_law_told"] ["_law_left","_law_many"] "_law_draw" (top 41) (SRC.a1j):=by
 walk_at "m"
 unfold SRC.a1j
 walk_at "d"
theorem b6g:MD P w K mg base f k ["_law_some"] [] "_law_signs" (top 42) (SRC.yh):=by
 walk_at "m"
 unfold SRC.yh
 walk_at "d"
theorem b6h(M:Nm mg)(D_28:Dk P w K mg base k "_law_draw" ["_law_left","_law_many"] F_28)(D_29:Dn P w K mg base k_29 "_law_signs" [] (ae9 K 0 F_29) a_29 d_29)(h_29:k_29<=k):MD P w K mg base f k ["_law_left","_law_rest","_law_told","_law_k","_law_at"] ["_law_left"] "_law_tongue" (top 43) (SRC.zp F_28 F_29):=by
 walk_at "m"
 unfold SRC.zp SRC.vz
 walk_at "d"
theorem b6i(M:Nm mg)(D_28:Dk P w K mg base k "_law_draw" ["_law_left","_law_many"] F_28):MD P w K mg base f k ["_law_left","_law_tongue_here","_law_many","_law_kinds","_law_room","_law_manner","_law_goes","_law_row"] ["_law_left","_law_tongue_here","_law_many"] "_law_rooms" (top 44) (SRC.a3y F_28):=by
 walk_at "m"
 unfold SRC.a3y SRC.qm SRC.yu SRC.a1c SRC.uq SRC.uo
 walk_at "d"
theorem b6j(M:Nm mg)(D_28:Dk P w K mg base k "_law_draw" ["_law_left","_law_many"] F_28)(D_31:Dk P w K mg base k "_law_rooms" ["_law_left","_law_tongue_here","_law_many"] F_31)(D_30:Dk P w K mg base k "_law_tongue" ["_law_left"] F_30):MD P w K mg base f k ["_law_left","_law_most","_law_tongue_here","_law_many","_law_goes","_law_kinds","_law_met","_law_at","_law_to","_law_rows"] ["_law_left","_law_most"] "_law_table" (top 45) (SRC.a0e F_28 F_31 F_30):=by
 walk_at "m"
 unfold SRC.a0e SRC.uw SRC.uv SRC.yx SRC.ut SRC.yw SRC.ur
 walk_at "d"
theorem b6k(M:Nm mg):MD P w K mg base f k ["_law_table_here","_law_text","_law_at","_law_room","_law_due","_law_place"] ["_law_table_here","_law_text","_law_at"] "_law_first" (top 46) (SRC.a0f):=by
 walk_at "m"
 unfold SRC.a0f SRC.ux
 walk_at "d"
theorem b6l(M:Nm mg):MD P w K mg base f k ["_law_found","_law_many","_law_one"] ["_law_found","_law_many"] "_law_numbers" (top 47) (SRC.qd):=by
 walk_at "m"
 unfold SRC.qd SRC.n6
 walk_at "d"
theorem b6m(M:Nm mg)(D_28:Dk P w K mg base k "_law_draw" ["_law_left","_law_many"] F_28):MD P w K mg base f k ["_law_left","_law_tongue_here","_law_most"] ["_law_left","_law_tongue_here","_law_most"] "_law_drawn" (top 48) (a0i F_28):=by
 walk_at "m"
 unfold a0i yz
 walk_at "d"
theorem b6n(M:Nm mg)(D_35:Dk P w K mg base k "_law_drawn" ["_law_left","_law_tongue_here","_law_most"] F_35)(D_33:Dk P w K mg base k "_law_first" ["_law_table_here","_law_text","_law_at"] F_33)(D_34:Dk P w K mg base k "_law_numbers" ["_law_found","_law_many"] F_34)(D_17:Dk P w K mg base k "first_piece" ["table","text","at"] F_17):MD P w K mg base f k ["_law_left","_law_table_here","_law_number","_law_k","_law_one","_law_found","_law_other","_law_told"] ["_law_left","_law_table_here","_law_number"] "_law_enough" (top 49) (zx F_35 F_33 F_34 F_17):=by
 walk_at "m"
 unfold zx xf
 walk_at "d"
theorem b6o(M:Nm mg)(D_33:Dk P w K mg base k "_law_first" ["_law_table_here","_law_text","_law_at"] F_33)(D_25:Dk P w K mg base k "late_pair" ["table","number"] F_25):MD P w K mg base f k ["_law_table_here","_law_number","_law_pair","_law_text","_law_found"] ["_law_table_here","_law_number"] "_law_shown" (top 50) (a0j F_33 F_25):=by
 walk_at "m"
 unfold a0j zb v7 a1d
 walk_at "d"
theorem b6p(M:Nm mg):MD P w K mg base f k ["_law_table_here","_law_number","_law_rows","_law_tongue_here","_law_goes","_law_kinds","_law_room","_law_to"] ["_law_table_here","_law_number","_law_rows"] "_law_walked" (top 51) (zy):=by
 walk_at "m"
 unfold zy xj xg
 walk_at "d"
theorem b6q(M:Nm mg)(D_28:Dk P w K mg base k "_law_draw" ["_law_left","_law_many"] F_28)(D_36:Dk P w K mg base k "_law_enough" ["_law_left","_law_table_here","_law_number"] F_36)(D_34:Dk P w K mg base k "_law_numbers" ["_law_found","_law_many"] F_34)(D_37:Dk P w K mg base k "_law_shown" ["_law_table_here","_law_number"] F_37)(D_27:Dn P w K mg base k_27 "_law_source" ["_law_script"] (ae9 K 1 F_27) a_27 d_27)(h_27:k_27<=k)(D_32:Dk P w K mg base k "_law_table" ["_law_left","_law_most"] F_32)(D_38:Dk P w K mg base k "_law_walked" ["_law_table_here","_law_number","_law_rows"] F_38)(D_12:Dk P w K mg base k "heights" ["table"] F_12)(D_14:Dk P w K mg base k "heights_hold" ["table","number","rows"] F_14)(D_25:Dk P w K mg base k "late_pair" ["table","number"] F_25)(D_9:Dk P w K mg base k "reach" ["table"] F_9):MD P w K mg base f k ["_law_script","_law_left","_law_many","_law_table_here","_law_number","_law_rows"] ["_law_script"] "law" (top 52) (ad4 F_28 F_36 F_34 F_37 F_27 F_32 F_38 F_12 F_14 F_25 F_9):=by
 walk_at "m"
 unfold ad4 a9l a9k
 walk_at "d"
end
end K45
namespace HND
open L2 MI
def yh:SS :=
 (di (jj 0 (sC (.str " !\"#$&'()*+,-./0123456789:;<=>?@ABCDEFGHIJKLMNOPQRSTUVWXYZ[\\]^_`")))
 (my (s2 jb (sV 0) (sC (.str "abcdefghijklmnopqrstuvwxyz{|}~\n")))))
end HND
namespace MI
open L2
abbrev S(l:List Nat):Str:=⟨l.toArray⟩
theorem a2e(l:List Nat):(S l).cps.toList=l:=by simp
theorem ad5(l:List Nat):(S l).length=l.length:=by simp[Str.length]
theorem ap6(x:Str):S x.cps.toList=x:=by cases x;simp
theorem avp(a b:List Nat):S a++S b=S (a++b):=by rw[<-ap6 (S a++S b),b38]
theorem b3s(h:S a=S b):a=b:=by
 have:=aQ (λx:Str=>x.cps.toList) h
 simpa using this
theorem b3t(a b:List Nat):(S a == S b)=decide (a=b):=by
 by_cases h:a=b
 .subst h;simp
 .have:¬ S a=S b:=λz=>h (b3s z)
  simp[h]
section
variable{h:Hd}{a b l:List Nat}{i:Nat}{c:Nat}
theorem b3u(hl:l.length<=LINE)(e:l[i]? = some c):gIx (.str (S l)) (.int (i:Nat)) h=.ok (.str (S [c])) h:=by
 unfold gIx;simp only[ad5,aU hl,a2e,yf e]
theorem a9m(hl:a.length+b.length<=LINE):jb (.str (S a)) (.str (S b)) h=.ok (.str (S (a++b))) h:=by
 unfold jb;simp only[ad5,aU hl,avp]
theorem ags(hl:l.length<=LINE):vm [.str (S l)] h=.ok (.int l.length) h:=by
 unfold vm;simp only[ad5,aU hl]
theorem b0o(k:Nat)(hl:l.length<=LINE):ami (.str (S l)) none (some (k:Int)) h=.ok (.str (S (l.take k))) h:=by
 show gSl (.str (S l)) none (some (k:Int)) h=_;unfold gSl;simp only[ad5,aU hl,a2e,aih]
theorem ara(k:Nat)(hl:l.length<=LINE):ami (.str (S l)) (some (k:Int)) none h=.ok (.str (S (l.drop k))) h:=by
 show gSl (.str (S l)) (some (k:Int)) none h=_;unfold gSl;simp only[ad5,aU hl,a2e,aii]
end
section
variable{h:Hd}{i j:Int}{xs ys:List D}
theorem a6n:gIx (.tup xs) (.int i) h=(match atI xs i with|some d=>.ok d h|none=>.no):=rfl
theorem abp:gIx (.rol xs) (.int i) h=(match atI xs i with|some d=>.ok d h|none=>.no):=rfl
theorem a8a:gIx (.ref k) (.int i) h=(match a1y (.ref k) h with|some xs=>(match atI xs i with|some d=>.ok d h|none=>.no)|none=>.no):=rfl
theorem xm:vm [.tup xs] h=.ok (.int xs.length) h:=rfl
theorem a4a:vm [.rol xs] h=.ok (.int xs.length) h:=rfl
theorem a7e:vm [.ref k] h=(match a1y (.ref k) h with|some xs=>.ok (.int xs.length) h|none=>.no):=rfl
theorem ye:jb (.int i) (.int j) h=.ok (.int (i+j)) h:=rfl
theorem a1e:a0b (.int i) (.int j) h=.ok (.int (i+j)) h:=rfl
open Classical in
theorem a69:a0p (.int i) (.int j) h=if CMul i j then .ok (.int (i*j)) h else .no:=by unfold a0p;rfl
theorem p6(b:Bool):tru (.bl b) h=.ok b h:=rfl
theorem a9n:tru (.int i) h=.ok (i != 0) h:=rfl
theorem a7f:tru (.rol xs) h=.ok (!xs.isEmpty) h:=rfl
theorem a9o:tru (.tup xs) h=.ok (!xs.isEmpty) h:=rfl
theorem a9p:tru .non h=.ok false h:=rfl
theorem agt:hEq (.int i) (.int j) h=.ok (.bl (i == j)) h:=rfl
theorem agu:hNe (.int i) (.int j) h=.ok (.bl (!(i == j))) h:=rfl
theorem b3v(a b:Str):hEq (.str a) (.str b) h=.ok (.bl (a == b)) h:=rfl
theorem ap7(a b:Bool):hEq (.bl a) (.bl b) h=.ok (.bl (a == b)) h:=rfl
theorem ap8(a b:Bool):hNe (.bl a) (.bl b) h=.ok (.bl (!(a == b))) h:=rfl
theorem abq(x:D):gIs x .non h=.ok (.bl (a2s x)) h:=by cases x<;>rfl
theorem a0k(x:D):vp x .non h=.ok (.bl (!a2s x)) h:=by cases x<;>rfl
theorem ap9(a b:Bool):gIs (.bl a) (.bl b) h=.ok (.bl (a == b)) h:=rfl
theorem a4z(a b:Bool):vp (.bl a) (.bl b) h=.ok (.bl (a != b)) h:=rfl
theorem b20:a2s (.int i)=false:=rfl
theorem b21(x:Str):a2s (.str x)=false:=rfl
theorem b22:a2s .non=true:=rfl
theorem b23:a2s (.tup xs)=false:=rfl
end
end MI
namespace HND
open L2 MI AT
def b24:Str := " !\"#$&'()*+,-./0123456789:;<=>?@ABCDEFGHIJKLMNOPQRSTUVWXYZ[\\]^_`"
def b25:Str := "abcdefghijklmnopqrstuvwxyz{|}~\n"
def sig:List Nat:=b24.cps.toList++b25.cps.toList
theorem avq:sig.length=95:=by decide +kernel
theorem b0p:sig.Nodup:=by decide +kernel
def lq:SF:=ju yh 1
theorem lits{h:Hd}:jb (.str b24) (.str b25) h=.ok (.str (S sig)) h:=by
 rw[<-ap6 b24,<-ap6 b25,a9m (by decide +kernel)]
 rfl
theorem a9q:Pu lq 0 [] (.str (S sig)):=by
 refine Pu.of rfl (by simp) (r:=.ok (.str (S sig)) []) ?_ (by rw[gf (gq _) (by simp)];rfl) (gq _)
 unfold lq;rw[dh];unfold yh;have e:=@lits [];unfold b24 b25 at e;show toR (di (jj 0 _) _ [none] [])=_;simp only[yt,jj,sC,a1i,a0x,my,s2,sV,List.set_cons_zero,eF,az,e,abe]
structure Tongue (l:List Nat):Prop where
 lo:1<=l.length
 hi:l.length<=6
 nd:l.Nodup
 sub:∀c∈l,c∈sig
theorem ake(a r:List Nat)(i:Nat)(c:Nat)(e:r[i]? = some c):List.Perm (a++r) ((a++[c])++(r.take i++r.drop (i+1))):=by
 obtain⟨hi,e⟩:=ah.mp e;have:r=r.take i++c::r.drop (i+1):=by rw[<-e];simp
 rw[cV];refine List.Perm.append_left a ?_;rw[List.singleton_append]
 conv=>lhs;rw[this]
 exact List.perm_middle
end HND
namespace MI
open L2
theorem b3w(n:Nat):rng 0 n=(List.range n).map λi:Nat=>D.int (i:Nat):=by
 unfold rng;exact cS λi _=>by rw[Int.zero_add]
theorem b3x(a:Int)(n:Nat):rng a n=(List.range n).map λi:Nat=>D.int (a+(i:Nat)):=rfl
theorem ad6(h:n<=LINE):B62 (n:Int):=by
 have:n<=16777216:=h
 unfold B62;omega
theorem arb(h:Hd)(z:n<=LINE):zg [.int (n:Nat)] h=.ok ⟨(List.range n).map λi:Nat=>D.int (i:Nat),λ_=>True⟩ h:=by
 unfold zg;simp only[ad6 z,dQ,dN,b3w]
theorem b0q(h:Hd)(za:a<=LINE)(z:n<=LINE):a4m [.int (a:Nat),.int (n:Nat)] h=.ok ⟨(List.range (n-a)).map λi:Nat=>D.int ((a+i:Nat)),λ_=>True⟩ h:=by
 unfold a4m;simp only[ad6 z,ad6 za,and_self,dQ,b3x];rw[show((n:Int)-(a:Int)).toNat=n-a by omega]
 congr 2
theorem b3y(e:f τ h=.ok d h):aa f bc τ h=.ok [d] h:=by unfold aa bc;rw[e];rfl
theorem a7g(e:f τ h=.ok c h)(e':g τ h=.ok d h):aa f (aa g bc) τ h=.ok [c,d] h:=by unfold aa;rw[e,az,e',az];rfl
theorem a3d(e:f τ h=.ok (.int (n:Nat)) h)(z:n<=LINE):sRg zg (aa f bc) τ h=.ok ⟨(List.range n).map λi:Nat=>D.int (i:Nat),λ_=>True⟩ h:=by
 unfold sRg;rw[b3y e,az];exact arb h z
theorem a9r(e':g τ h=.ok (.int (a:Nat)) h)(e:f τ h=.ok (.int (n:Nat)) h)(za:a<=LINE)(z:n<=LINE):sRg a4m (aa g (aa f bc)) τ h=.ok ⟨(List.range (n-a)).map λi:Nat=>D.int ((a+i:Nat)),λ_=>True⟩ h:=by
 unfold sRg;rw[a7g e' e,az];exact b0q h za z
theorem aq(e:τ[i]? = some (some d)):sV i τ h=.ok d h:=by unfold sV;rw[e]
theorem p7{fi:SI}{t:D->Option Sd}{fe:SE}{ix:List Nat}{τ:Sd}{h:Hd}{α:Type}(g F:α->D)(xs:List α)(e:fi τ h=.ok ⟨xs.map g,λ_=>True⟩ h)(z:xs.length<=LINE)
  (st:∀x∈xs,a7p t fe (frs' ix τ) (g x) h=.ok (F x) h):ji fi t fe ix τ h=.ok (.ref h.length) (h++[.lst (xs.map F)]):=by
 unfold ji;rw[e,az];dsimp only;rw[aU (by rw[ax];exact z),abf g F st]
 rfl
theorem a5a{fi:SI}{t:D->Option Sd}{c:ST}{fe:SE}{ix:List Nat}{τ:Sd}{h:Hd}{α:Type}(g:α->D)(F:α->Option D)(xs:List α)(e:fi τ h=.ok ⟨xs.map g,λ_=>True⟩ h)(z:xs.length<=LINE)
  (st:∀x∈xs,acq t c fe (frs' ix τ) (g x) h=.ok (F x) h):xx fi t c fe ix τ h=.ok (.ref h.length) (h++[.lst (xs.filterMap F)]):=by
 unfold xx;rw[e,az];dsimp only;rw[aU (by rw[ax];exact z),abg g F st]
 rfl
theorem u6(fe:SE)(r:Sd)(x:D)(h:Hd):a7p t1 fe r x h=fe (some x::r) h:=rfl
theorem akf(c:ST)(fe:SE)(r:Sd)(x:D)(h:Hd):acq t1 c fe r x h=(c (some x::r) h).bind λb h1=>if b=true then (fe (some x::r) h1).bind λy h2=>.ok (some y) h2 else .ok none h1:=rfl
theorem a2f(i:Nat)(ix:List Nat)(τ:Sd):frs' (i::ix) τ=(τ[i]?).join::frs' ix τ:=rfl
theorem a9s(τ:Sd):frs' [] τ=[]:=rfl
section
variable{f k f1 f2 f3:SE}{c c1 c2:ST}{g p q:SS}{τ τ1:Sd}{h h1 h2 h3 h4:Hd}{a b d v:D}{i:Nat}{t u:Bool}
theorem aml(d:D)(τ:Sd)(h:Hd):sC d τ h=.ok d h:=rfl
theorem b6r(e3:G [] h=.ok v h1):sA G bc τ h=.ok v h1:=e3
theorem qx(e1:f τ h=.ok a h1)(e3:G [a] h1=.ok v h2):sA G (aa f bc) τ h=.ok v h2:=by
 have:aa f bc τ h=.ok [a] h1:=by unfold aa;rw[e1];rfl
 unfold sA;rw[this,az,e3]
theorem xn(e1:f τ h=.ok a h1)(e2:k τ h1=.ok b h2)(e3:G [a,b] h2=.ok v h3):sA G (aa f (aa k bc)) τ h=.ok v h3:=by
 have:aa f (aa k bc) τ h=.ok [a,b] h2:=by unfold aa;rw[e1,az,e2];rfl
 unfold sA;rw[this,az,e3]
theorem a7h(e0:f1 τ h=.ok d h1)(e1:f τ h1=.ok a h2)(e2:k τ h2=.ok b h3)(e3:G [d,a,b] h3=.ok v h4):sA G (aa f1 (aa f (aa k bc))) τ h=.ok v h4:=by
 have:aa f1 (aa f (aa k bc)) τ h=.ok [d,a,b] h3:=by unfold aa;rw[e0,az,e1,az,e2];rfl
 unfold sA;rw[this,az,e3]
theorem nj(e:f τ h=.ok d h1):di (jj i f) g τ h=g (τ.set i (some d)) h1:=by
 rw[yt];unfold jj;rw[e];rfl
theorem avr(e:f τ h=.ok d h1):jj i f τ h=.nx (τ.set i (some d)) h1:=by
 unfold jj;rw[e];rfl
theorem ue(e:p τ h=.nx τ1 h1):di p g τ h=g τ1 h1:=by rw[yt,e];rfl
theorem a1s(e:p τ h=.rt d h1):di p g τ h=.rt d h1:=by rw[yt,e];rfl
theorem ifT(e:c τ h=.ok true h1):sIf c p q τ h=p τ h1:=by unfold sIf;rw[e];rfl
theorem ifF(e:c τ h=.ok false h1):sIf c p q τ h=q τ h1:=by unfold sIf;rw[e];rfl
theorem ifN(e:c τ h=.ok false h1):di (sIf c p sNx) g τ h=g τ h1:=by rw[yt,ifF e];rfl
theorem tof(e:f τ h=.ok (.bl t) h1):sT f τ h=.ok t h1:=by unfold sT;rw[e];rfl
theorem a00(e:f τ h=.ok d h1)(e':tru d h1=.ok t h2):a1w f τ h=.ok t h2:=by unfold a1w;rw[e,az,e']
theorem akg(e:c1 τ h=.ok true h1)(e':c2 τ h1=.ok t h2):a2n c1 c2 τ h=.ok t h2:=by unfold a2n;rw[e,az,aU rfl,e']
theorem awr(e:c1 τ h=.ok false h1):a2n c1 c2 τ h=.ok false h1:=by unfold a2n;rw[e,az,bA (by simp)]
theorem orT(e:c1 τ h=.ok true h1):sOr c1 c2 τ h=.ok true h1:=by unfold sOr;rw[e,az,aU rfl]
theorem orF(e:c1 τ h=.ok false h1)(e':c2 τ h1=.ok t h2):sOr c1 c2 τ h=.ok t h2:=by unfold sOr;rw[e,az,bA (by simp),e']
theorem a7q(e:c τ h=.ok t h1):a4f c τ h=.ok (!t) h1:=by unfold a4f;rw[e];rfl
theorem amm(e:c τ h=.ok true h1):a4f c τ h=.ok false h1:=a7q e
theorem b6s(e:c τ h=.ok false h1):a4f c τ h=.ok true h1:=a7q e
theorem jn(e:f τ h=.ok d h1):my f τ h=.rt d h1:=by unfold my;rw[e];rfl
theorem akh(e:f τ h=.ok (.bl true) h1)(e':k τ h1=.ok d h2):a0m f k τ h=.ok d h2:=by unfold a0m;rw[e,az];exact e'
theorem a6a(e1:f τ h=.ok d h1)(l:isL d h1=true)(e2:A τ h1=.ok ds h2)(e3:G d ds h2=.ok v h3):a1x (sML G f A) τ h=.nx τ h3:=by
 unfold a1x sML;rw[e1,az,aU l,e2,az,e3];rfl
theorem b3z(e1:f τ h=.ok d h1)(l:isL d h1=true)(e2:A τ h1=.ok ds h2)(e3:G d ds h2=.ok v h3):sML G f A τ h=.ok v h3:=by
 unfold sML;rw[e1,az,aU l,e2,az,e3]
theorem arg1(e:f τ h=.ok d h1):aa f bc τ h=.ok [d] h1:=by unfold aa bc;rw[e];rfl
theorem kj(e1:f τ h=.ok a h1)(e2:k τ h1=.ok b h2)(e3:G a b h2=.ok v h3):s2 G f k τ h=.ok v h3:=by
 unfold s2;rw[e1,az,e2,az,e3]
theorem a0l(e:τ[i]? = some (some a))(e3:G a d h=.ok v h3):s2 G (sV i) (sC d) τ h=.ok v h3:=kj (aq e) (aml _ _ _) e3
theorem ckk:sC d τ h=.ok d h:=rfl
theorem tvc(e:τ[i]? = some (some a))(e3:G a d h=.ok (.bl t) h3):sT (s2 G (sV i) (sC d)) τ h=.ok t h3:=tof (kj (aq e) (aml _ _ _) e3)
theorem t2s(e1:f τ h=.ok a h1)(e2:k τ h1=.ok b h2)(e3:G a b h2=.ok (.bl t) h3):sT (s2 G f k) τ h=.ok t h3:=tof (kj e1 e2 e3)
theorem ifr(e:c τ h=.ok true h1)(e2:f τ h1=.ok d h2):sIf c (my f) q τ h=.rt d h2:=aN (ifT e) (jn e2)
theorem ets{rr:R D}(e:f τ h=.ok d h1)(e2:toR (g (τ.set i (some d)) h1)=rr):toR (di (jj i f) g τ h)=rr:=by rw[nj e,e2]
theorem eti{rr:R D}(e:c τ h=.ok false h1)(e2:toR (g τ h1)=rr):toR (di (sIf c p sNx) g τ h)=rr:=by rw[ifN e,e2]
theorem etr{fa fb:Fl}{rr:R D}(e:fa=fb)(e2:toR fb=rr):toR fa=rr:=by rw[e,e2]
theorem a5b(e1:f τ h=.ok a h1)(e3:G a h1=.ok v h2):s1 G f τ h=.ok v h2:=by
 unfold s1;rw[e1,az,e3]
theorem abr(ht:τ[i]? = some (some a))(e:f τ h=.ok b h1)(e2:G a b h1=.ok d h2):aag i G f τ h=.nx (τ.set i (some d)) h2:=by
 unfold aag;rw[ht];dsimp only;rw[e,a1i,e2];rfl
theorem a4b(e:f τ h=.ok d h1)(e2:G d τ h1=.nx τ1 h2):a4l f G τ h=.nx τ1 h2:=by
 unfold a4l;rw[e,a1i,e2]
theorem b0r(e1:f1 τ h=.ok v h1)(e2:f2 τ h1=.ok a h2)(e3:f3 τ h2=.ok b h3)(e4:put a b v h3=some h4):afz f1 f2 f3 τ h=.nx τ h4:=by
 unfold afz;rw[e1,a1i,e2,a1i,e3,a1i,e4]
theorem aki(e1:f1 τ h=.ok v h1)(e2:f2 τ h1=.ok a h2)(e3:f3 τ h2=.ok b h3)(e4:ar0 a b v h3=some h4):a71 f1 f2 f3 τ h=.nx τ h4:=by
 unfold a71;rw[e1,a1i,e2,a1i,e3,a1i,e4]
theorem a2g{fi:SI}{G:SG}{b:SS}{xs:List D}{ck:Hd->Prop}(e:fi τ h=.ok ⟨xs,ck⟩ h1):di (a3f fi G b) g τ h=thn (forL ck G b xs τ h1) g:=by
 rw[yt];unfold a3f;rw[e];rfl
theorem a6h(e:f τ h=.ok d h1)(e2:ank d h1=.ok ⟨xs,ck⟩ h1):sIt f τ h=.ok ⟨xs,ck⟩ h1:=by
 unfold sIt;rw[e,az,e2]
theorem a6b(e:h[i]? = some (.lst xs))(z:xs.length<LINE):a7z (.ref i) [a] h=.ok .non (h.set i (.lst (xs++[a]))):=by
 unfold a7z;simp only[e,aU z]
theorem a3m(e:h[i]? = some (.lst xs))(hj:xs[j]? = some y):gIx (.ref i) (.int (j:Nat)) h=.ok y h:=by
 rw[a8a];unfold a1y;simp only[e,yf hj]
theorem apa(hj:xs[j]? = some y):gIx (.rol xs) (.int (j:Nat)) h=.ok y h:=by
 rw[abp];simp only[yf hj]
theorem a5u(hj:xs[j]? = some y):gIx (.tup xs) (.int (j:Nat)) h=.ok y h:=by
 rw[a6n];simp only[yf hj]
theorem a9t(e:h[i]? = some (.lst xs)):vm [.ref i] h=.ok (.int (xs.length:Nat)) h:=by
 rw[a7e];unfold a1y;simp only[e]
theorem div_ii(c:0<y/\y<1073741824):ac6 (.int x) (.int y) h=.ok (.int (x / y)) h:=by unfold ac6;exact aU c
theorem a8b(c:0<y):a5z (.int x) (.int y) h=.ok (.int (x%y)) h:=by unfold a5z;exact aU c
theorem b41(c:y<x):gGt (.int x) (.int y) h=.ok (.bl true) h:=by unfold gGt;simp only[c,decide_true]
theorem b26(c:¬ y<x):gGt (.int x) (.int y) h=.ok (.bl false) h:=by unfold gGt;simp only[c,decide_false]
theorem arc(c:x<y):gLt (.int x) (.int y) h=.ok (.bl true) h:=by unfold gLt;simp only[c,decide_true]
theorem ard(c:¬ x<y):gLt (.int x) (.int y) h=.ok (.bl false) h:=by unfold gLt;simp only[c,decide_false]
theorem a6d(c:x=y):hEq (.int x) (.int y) h=.ok (.bl true) h:=by rw[agt,c,dU]
theorem a7r(c:¬ x=y):hEq (.int x) (.int y) h=.ok (.bl false) h:=by rw[agt,cI.mpr c]
theorem agv(c:x=y):hNe (.int x) (.int y) h=.ok (.bl false) h:=by rw[agu,c,dU];rfl
theorem apb(c:¬ x=y):hNe (.int x) (.int y) h=.ok (.bl true) h:=by rw[agu,cI.mpr c];rfl
theorem xq(x:Int):a1b (.int x) h=.ok (.int (-x)) h:=rfl
theorem akj(x y:Int):MI.afj (.int x) (.int y) h=.ok (.int (x-y)) h:=rfl
theorem du(h:n<=1000000):n<=LINE:=by show n<=16777216;omega
theorem a3e(h:n<=1000000):n<LINE:=by show n<16777216;omega
theorem aha:MI.a0r [a,b] h=.ok (.tup [a,b]) h:=by unfold MI.a0r;rw[aU (du (by simp))]
theorem b6t:MI.a0r [a,b,v] h=.ok (.tup [a,b,v]) h:=by unfold MI.a0r;rw[aU (du (by simp))]
end
end MI
namespace SRC
open L2 MI AT
structure Src (o:O) (N:Nat):Prop where
 ex:∃(cells:List Int) (a l c s:Int),o=.lst [.rol (cells.map D.int),.int a,.int l,.int c,.int s]/\0<=a/\0<=l/\0<=s/\s<2147483647/\0<=c/\c<=N
theorem Src.clo(P:Src o N):a5q 0 o:=by
 obtain⟨cells,a,l,c,s,rfl,_⟩:=P.ex;exact dz (a03 (g8 λx _=>dg x)) (dz (dg _) (dz (dg _) (dz (dg _) (dz (dg _) o6))))
theorem Src.up(P:Src o N)(h:N<=M):Src o M:=by
 obtain⟨cells,a,l,c,s,e,h1,h2,h3,h4,h5,h6⟩:=P.ex;exact⟨cells,a,l,c,s,e,h1,h2,h3,h4,h5,by omega⟩
def aj:SF:=ju a1j 4
abbrev so(cells:List Int)(a l c s:Int):O:=.lst [.rol (cells.map D.int),.int a,.int l,.int c,.int s]
theorem akk(e:h[i]? = some (.lst xs))(hj:xs[j]? = some y):amj (.ref i) (.int (j:Nat)) h=.ok y h:=by
 unfold amj;simp only[e,yf hj]
theorem b42(e1:fo τ h=.ok o h)(e2:fi τ h=.ok i h)(e3:amj o i h=.ok x h)(e4:fe τ h=.ok y h)(e5:G x y h=.ok z h)(e6:put o i z h=some h'):a3i G fo fi fe τ h=.nx τ h':=by
 unfold a3i;rw[e1,a1i,e2,a1i,e3,a1i,e4,a1i,e5,a1i,e6]
theorem b6u(c:y<=x):gGe (.int x) (.int y) h=.ok (.bl true) h:=by show R.ok (D.bl (decide (y<=x))) h=_;rw[aK c]
theorem b6v(c:¬ y<=x):gGe (.int x) (.int y) h=.ok (.bl false) h:=by show R.ok (D.bl (decide (y<=x))) h=_;rw[aZ c]
theorem akl(P:Src o N)(hN:N<=1000000000)(m0:0<m)(m1:m<1073741824):∃r o',aj [.ref 0,.int m] [o]=.ok (.int r) [o']/\0<=r/\r<m/\Src o' (N+1):=by
 obtain⟨cells,a,l,c,s,rfl,a0,l0,s0,s1,c0,c1⟩:=P.ex;unfold aj;rw[dh];show ∃r o',toR (a1j [some (.ref 0),some (.int m),none,none] [so cells a l c s])=_/\_;unfold a1j;have last:∀s':Int,0<=s'->s'<2147483647->∃r q,0<=r/\r<m/\(s'+1+(c+1)*7919)^(3:Int).toNat%2147483647=q/\(q*48271+(c+1))^(2:Int).toNat%2147483629 / 64%m=r/\CMul (c+1) 7919/\CMul q 48271 /\
   (∀h,a7y (.int (s'+1+(c+1)*7919)) (.int 3) h=.ok (.int ((s'+1+(c+1)*7919)^(3:Int).toNat)) h)/\∀h,a7y (.int (q*48271+(c+1))) (.int 2) h=.ok (.int ((q*48271+(c+1))^(2:Int).toNat)) h:=λs' h0 h1=>by
  have q0:0<=(s'+1+(c+1)*7919)^(3:Int).toNat%2147483647:=eU _ (by decide)
  have q1:(s'+1+(c+1)*7919)^(3:Int).toNat%2147483647<2147483647:=dW _ (by decide)
  refine⟨_,_,eU _ (by omega),dW _ m0,rfl,rfl,.inr ⟨by decide,by decide⟩,.inr ⟨by decide,by decide⟩,λh=>b06 ⟨by decide,by decide,by omega⟩,λh=>b06 ⟨by decide,by decide,?_⟩⟩
  generalize (s'+1+(c+1)*7919)^(3:Int).toNat%2147483647=q at q0 q1
  omega
 have x0:∀{a l c s:Int},gIx (.ref 0) (.int 0) [so cells a l c s]=.ok (.rol (cells.map D.int)) [so cells a l c s]:=λ{a l c s}=>a3m (j:=0) rfl rfl;have x1:∀{a l c s:Int},gIx (.ref 0) (.int 1) [so cells a l c s]=.ok (.int a) [so cells a l c s]:=λ{a l c s}=>a3m (j:=1) rfl rfl;have x2:∀{a l c s:Int},gIx (.ref 0) (.int 2) [so cells a l c s]=.ok (.int l) [so cells a l c s]:=λ{a l c s}=>a3m (j:=2) rfl rfl;have x3:∀{a l c s:Int},gIx (.ref 0) (.int 3) [so cells a l c s]=.ok (.int c) [so cells a l c s]:=λ{a l c s}=>a3m (j:=3) rfl rfl
 have x4:∀{a l c s:Int},gIx (.ref 0) (.int 4) [so cells a l c s]=.ok (.int s) [so cells a l c s]:=λ{a l c s}=>a3m (j:=4) rfl rfl;have u3:∀{a l c s:Int} {τ:Sd},τ[0]? = some (some (.ref 0))->a3i a0b (sV 0) (sI 3) (sI 1) τ [so cells a l c s]=.nx τ [so cells a l (c+1) s]:=λ{a l c s τ} h0=>b42 (aq h0) ckk (akk (j:=3) rfl rfl) ckk a1e rfl;have u1:∀{a l c s:Int} {τ:Sd},τ[0]? = some (some (.ref 0))->a3i a0b (sV 0) (sI 1) (sI 1) τ [so cells a l c s]=.nx τ [so cells (a+1) l c s]:=λ{a l c s τ} h0=>b42 (aq h0) ckk (akk (j:=1) rfl rfl) ckk a1e rfl
 have p18:∀{h:Hd},a7y (.int 10) (.int 18) h=.ok (.int 1000000000000000000) h:=λ{h}=>p18 h;have e1:∀{a l c s:Int} {t2:Option D},0<l->toR (di (sIf (sT (s2 gGt (s2 gIx (sV 0) (sI 2)) (sI 0))) (di (jj 3 (s2 a5z (s2 gIx (sV 0) (sI 2)) (sV 1))) (di (a3i ac6 (sV 0) (sI 2) (sV 1)) (my (sV 3)))) sNx) (di (jj 3 (s2 a5z (s2 a7y (s2 jb (s2 jb (s2 gIx (sV 0) (sI 4)) (sI 1)) (s2 a0p (s2 gIx (sV 0) (sI 3)) (sI 7919))) (sI 3)) (sI 2147483647))) (my (s2 a5z (s2 ac6 (s2 a5z (s2 a7y (s2 jb (s2 a0p (sV 3) (sI 48271)) (s2 gIx (sV 0) (sI 3))) (sI 2)) (sI 2147483629)) (sI 64)) (sV 1)))) [some (.ref 0),some (.int m),t2,none] [so cells a l c s])=.ok (.int (l%m)) [so cells a (l / m) c s]:=λ{a l c s t2} hl=>by
  refine aQ toR (a1s (aN (ifT (t2s (a0l rfl x2) ckk (b41 hl))) ?_));refine aN (nj (kj (a0l rfl x2) (aq rfl) (a8b m0))) ?_;refine aN (ue (b42 (aq rfl) ckk (akk (j:=2) rfl rfl) (aq rfl) (div_ii ⟨m0,m1⟩) rfl)) ?_;exact jn (aq rfl)
 have e2:∀{a s':Int} {t2:Option D},0<=s'->s'<2147483647->∃r,0<=r/\r<m/\toR (di (sIf (sT (s2 gGt (s2 gIx (sV 0) (sI 2)) (sI 0))) (di (jj 3 (s2 a5z (s2 gIx (sV 0) (sI 2)) (sV 1))) (di (a3i ac6 (sV 0) (sI 2) (sV 1)) (my (sV 3)))) sNx) (di (jj 3 (s2 a5z (s2 a7y (s2 jb (s2 jb (s2 gIx (sV 0) (sI 4)) (sI 1)) (s2 a0p (s2 gIx (sV 0) (sI 3)) (sI 7919))) (sI 3)) (sI 2147483647))) (my (s2 a5z (s2 ac6 (s2 a5z (s2 a7y (s2 jb (s2 a0p (sV 3) (sI 48271)) (s2 gIx (sV 0) (sI 3))) (sI 2)) (sI 2147483629)) (sI 64)) (sV 1)))) [some (.ref 0),some (.int m),t2,none] [so cells a 0 (c+1) s'])=.ok (.int r) [so cells a 0 (c+1) s']:=λ{a s' t2} h0 h1=>by
  obtain⟨r,q,r0,r1,eq,er,d1,d2,d3,d4⟩:=last s' h0 h1;refine⟨r,r0,r1,?_⟩;refine eti (t2s (a0l rfl x2) ckk (b26 (by omega))) ?_
  refine ets (kj (kj (kj (kj (a0l rfl x4) ckk ye) (kj (a0l rfl x3) ckk (a69.trans (aU d1))) ye) ckk (d3 _)) ckk (a8b (by decide))) ?_
  rw[eq];refine etr (jn (kj (kj (kj (kj (kj (a0l rfl (a69.trans (aU d2))) (a0l rfl x3) ye) ckk (d4 _)) ckk (a8b (by decide))) ckk (div_ii ⟨by decide,by decide⟩)) (aq rfl) (a8b m0))) ?_
  rw[er];rfl
 by_cases hA:l=0/\a<(cells.length:Int)
 .obtain⟨rfl,ha⟩:=hA;obtain⟨j,rfl⟩:=cL a0;have hj:j<cells.length:=by omega
  have gx:∀{h:Hd},gIx (.rol (cells.map D.int)) (.int (j:Nat)) h=.ok (.int cells[j]) h:=λ{h}=>apa (by rw[aE,ag hj];rfl)
  have tt:∀{c s:Int} {t2 t3:Option D},a2n (sT (s2 hEq (s2 gIx (sV 0) (sI 2)) (sI 0))) (sT (s2 gLt (s2 gIx (sV 0) (sI 1)) (sA vm (aa (s2 gIx (sV 0) (sI 0)) bc)))) [some (.ref 0),some (.int m),t2,t3] [so cells (j:Nat) 0 c s]=.ok true [so cells (j:Nat) 0 c s]:=λ{c s t2 t3} =>
   akg (t2s (a0l rfl x2) ckk (a6d rfl)) (t2s (a0l rfl x1) (qx (a0l rfl x0) (a4a.trans (by rw[ax]))) (arc ha))
  have s2':0<=(s*31+cells[j])%2147483647:=eU _ (by decide)
  have s3:(s*31+cells[j])%2147483647<2147483647:=dW _ (by decide)
  have go:∀{o':O} {g:SS},sIf (sT (s2 gGe (sV 2) (s2 a7y (sI 10) (sI 18)))) (afz (sV 2) (sV 0) (sI 2)) (afz (s2 a5z (s2 jb (s2 a0p (s2 gIx (sV 0) (sI 4)) (sI 31)) (sV 2)) (sI 2147483647)) (sV 0) (sI 4)) [some (.ref 0),some (.int m),some (.int cells[j]),none] [so cells ((j:Nat)+1) 0 (c+1) s]=.nx [some (.ref 0),some (.int m),some (.int cells[j]),none] [o']->
    toR (di (a3i a0b (sV 0) (sI 3) (sI 1)) (di (sIf (a2n (sT (s2 hEq (s2 gIx (sV 0) (sI 2)) (sI 0))) (sT (s2 gLt (s2 gIx (sV 0) (sI 1)) (sA vm (aa (s2 gIx (sV 0) (sI 0)) bc))))) (di (jj 2 (s2 gIx (s2 gIx (sV 0) (sI 0)) (s2 gIx (sV 0) (sI 1)))) (di (a3i a0b (sV 0) (sI 1) (sI 1)) (sIf (sT (s2 gGe (sV 2) (s2 a7y (sI 10) (sI 18)))) (afz (sV 2) (sV 0) (sI 2)) (afz (s2 a5z (s2 jb (s2 a0p (s2 gIx (sV 0) (sI 4)) (sI 31)) (sV 2)) (sI 2147483647)) (sV 0) (sI 4))))) sNx) g) [some (.ref 0),some (.int m),none,none] [so cells (j:Nat) 0 c s])=toR (g [some (.ref 0),some (.int m),some (.int cells[j]),none] [o']):=λ{o' g} e=>by
   refine etr (ue (u3 rfl)) ?_;refine aQ toR (ue (aN (ifT tt) ?_));refine aN (nj (kj (a0l rfl x0) (a0l rfl x1) gx)) ?_;exact aN (ue (u1 rfl)) e
  generalize cells[j]=x at *
  by_cases hB:(1000000000000000000:Int)<=x
  .refine⟨x%m,_,(go (o':=so cells ((j:Nat)+1) x (c+1) s) (aN (ifT (t2s (aq rfl) (kj ckk ckk p18) (b6u hB))) (b0r (aq rfl) (aq rfl) ckk rfl))).trans (e1 (by omega)),eU _ (by omega),dW _ m0,⟨cells,(j:Int)+1,x / m,c+1,s,rfl,by omega,Int.ediv_nonneg (by omega) (by omega),s0,s1,by omega,by omega⟩⟩
  .obtain⟨r,r0,r1,e⟩:=e2 (a:=(j:Nat)+1) (t2:=some (.int x)) s2' s3;exact⟨r,_,(go (o':=so cells ((j:Nat)+1) 0 (c+1) ((s*31+x)%2147483647)) (aN (ifF (t2s (aq rfl) (kj ckk ckk p18) (b6v hB))) (b0r (kj (kj (kj (a0l rfl x4) ckk (a69.trans (aU (.inr ⟨by decide,by decide⟩)))) (aq rfl) ye) ckk (a8b (by decide))) (aq rfl) ckk rfl))).trans e,r0,r1,⟨cells,(j:Int)+1,0,c+1,_,rfl,by omega,by omega,s2',s3,by omega,by omega⟩⟩
 .have tt:a2n (sT (s2 hEq (s2 gIx (sV 0) (sI 2)) (sI 0))) (sT (s2 gLt (s2 gIx (sV 0) (sI 1)) (sA vm (aa (s2 gIx (sV 0) (sI 0)) bc)))) [some (.ref 0),some (.int m),none,none] [so cells a l (c+1) s]=.ok false [so cells a l (c+1) s]:=by
   by_cases hl:l=0
   .exact akg (t2s (a0l rfl x2) ckk (a6d hl)) (t2s (a0l rfl x1) (qx (a0l rfl x0) (a4a.trans (by rw[ax]))) (ard λz=>hA ⟨hl,z⟩))
   .exact awr (t2s (a0l rfl x2) ckk (a7r hl))
  by_cases hC:0<l
  .exact⟨l%m,_,(aQ toR (ue (u3 rfl))).trans ((aQ toR (ifN tt)).trans (e1 hC)),eU _ (by omega),dW _ m0,⟨cells,a,l / m,c+1,s,rfl,a0,Int.ediv_nonneg (by omega) (by omega),s0,s1,by omega,by omega⟩⟩
  .have:l=0:=by omega
   subst this;obtain⟨r,r0,r1,e⟩:=e2 (a:=a) (t2:=none) s0 s1;exact⟨r,_,(aQ toR (ue (u3 rfl))).trans ((aQ toR (ifN tt)).trans e),r0,r1,⟨cells,a,0,c+1,s,rfl,a0,by omega,s0,s1,by omega,by omega⟩⟩
theorem a04(P:Src o N)(hN:N<=1000000000)(m0:0<m)(m1:m<1073741824):∃r o',Dr aj 2 [.int m] o (.int r) o'/\0<=r/\r<m/\Src o' (N+1):=by
 obtain⟨r,o',e,r0,r1,P'⟩:=akl P hN m0 m1;refine⟨r,o',Dr.of rfl (by simp[dg]) P.clo e (gf (dg _) ?_) (dg _) P'.clo,r0,r1,P'⟩
 intro u hu
 simp at hu
 subst hu;exact vq (by omega) P'.clo
end SRC
namespace EVX
open L2 MI
section
variable{i:Nat}{cs:Str->Bool}{fb fs p g:SS}{τ τ1 τ2:Sd}{h h1 h2:Hd}{c:Str}{f:SE}{ka:SA}{ds:List D}{F:SF}{n:Nat}
theorem b6w(e:ka τ h=.ok ds h1):sA F ka τ h=F ds h1:=by unfold sA;rw[e];rfl
theorem b0s(e:f τ h=.ok (.bl b) h1):a90 f τ h=.ok (.bl (!b)) h1:=by unfold a90;rw[e];rfl
theorem a3n(e:f τ h=.ok d h1)(e2:ka τ h1=.ok ds h2):aa f ka τ h=.ok (d::ds) h2:=by
 unfold aa;rw[e,az,e2];rfl
theorem b6x:MI.a0r [a] h=.ok (.tup [a]) h:=by unfold MI.a0r;rw[aU (du (by simp))]
theorem b43{G:List D->Hd->R D}{f1 f2 f3 f4:SE}{h3 h4 h5:Hd}{a b c d v:D}(e1:f1 τ h=.ok a h1)(e2:f2 τ h1=.ok b h2)(e3:f3 τ h2=.ok c h3)(e4:f4 τ h3=.ok d h4)(e5:G [a,b,c,d] h4=.ok v h5):sA G (aa f1 (aa f2 (aa f3 (aa f4 bc)))) τ h=.ok v h5:=by
 have:aa f1 (aa f2 (aa f3 (aa f4 bc))) τ h=.ok [a,b,c,d] h4:=by unfold aa;rw[e1,az,e2,az,e3,az,e4];rfl
 unfold sA;rw[this,az,e5]
end
end EVX
namespace SRC
open L2 MI AT HND EVX
def iw:SF:=ju zj 2
theorem ints_map:∀l:List Int,a93 (l.map D.int)=some l
 |[]=>rfl
 |a::l=>by rw[bg];simp only[a93,ints_map l,iS]
theorem b6y(e:k τ h=.ok ds h1)(eg:g ds h1=.ok d h2):sA g k τ h=.ok d h2:=by
 unfold sA;rw[e,az,eg]
def cell(x:Int):Int:=2*b4t x+(if decide (x<0)=true then 1 else 0)
theorem akm(ns:List Int)(h:Hd):∃o,Src o 0/\jg true 1 iw [.scr (ns.map D.int)] h=.ok (.ref h.length) (h++[o]):=by
 have cl:clos 0 ((ns.take 63).map D.int):=g8 λx _=>dg x;have z1:sZ (a6z (sV 0) oN (oS (sI 63))) [some (.scr (ns.map D.int)),none] []=.ok (.rol ((ns.take 63).map D.int)) []:=by
  refine yg (by
   show gSl (.scr (ns.map D.int)) none (some ((63:Nat):Int)) []=_;unfold gSl;simp only[aih,List.map_take]) cl (by simp)
 have z2:sZ (ji (sIt (sZ (a6z (sV 0) oN (oS (sI 63))))) t1 vy []) [some (.scr (ns.map D.int)),none] []=.ok (.rol ((ns.take 63).map λx=>D.int (cell x))) []:=by
  refine yg (p7 D.int (λx=>D.int (cell x)) (ns.take 63) (a6h z1 rfl) (du (by simp;omega)) λx _=>?_) (g8 λx _=>dg _) (by simp)
  rw[u6];unfold vy;exact kj (kj ckk (qx (aq rfl) (ajs _ _)) (a69.trans (aU (.inl ⟨by decide,by decide⟩)))) (qx (a0l rfl rfl) rfl) ye
 have em:((ns.take 63).map λx=>D.int (cell x))=((ns.take 63).map cell).map D.int:=by rw[bV];rfl
 rw[em]at z2
 generalize (ns.take 63).map cell=cs at z2
 have e:iw [.scr (ns.map D.int)] []=.ok (.ref 0) [.lst [.rol (cs.map D.int),.int 0,.int 0,.int 0,.int (cs.sum%2147483647)]]:=by
  unfold iw;rw[dh];show toR (zj [some (.scr (ns.map D.int)),none] [])=_;unfold zj;refine etr (nj z2) ?_;have su:azj [.rol (cs.map D.int)] []=.ok (.int cs.sum) []:=by unfold azj;simp only[ints_map]
  exact aQ toR (jn (b6y (a3n (aq rfl) (a3n ckk (a3n ckk (a3n ckk (a3n (kj (qx (aq rfl) su) ckk (a8b (by decide))) rfl))))) rfl))
 have P:Src (.lst [.rol (cs.map D.int),.int 0,.int 0,.int 0,.int (cs.sum%2147483647)]) 0:=⟨cs,0,0,0,_,rfl,by decide,by decide,eU _ (by decide),dW _ (by decide),by decide,by decide⟩
 exact⟨_,P,b02 rfl (by simpa[MI.clo] using (g8 λx _=>dg x:clos 0 (ns.map D.int))) e rfl P.clo h⟩
def lq:SF:=ju yh 1
theorem a9q:Pu lq 0 [] (.str (S sig)):=HND.a9q
def dj:SF:=ju (zp aj lq) 5
theorem af0{a b:List Nat}(l:a.length+b.length<=LINE):a0b (.str (S a)) (.str (S b)) h=.ok (.str (S (a++b))) h:=by
 have:=a9m (h:=h) l
 simpa[a0b,jb,b5p] using this
theorem b0t(e:f τ h=.ok (.int i) h1):oS f τ h=.ok (some i) h1:=by unfold oS;rw[e];rfl
theorem b0u(e:f τ h=.ok d h1)(e1:lo τ h1=.ok a h2)(e2:hi τ h2=.ok b h3)(e3:ami d a b h3=.ok v h4):a6z f lo hi τ h=.ok v h4:=by
 unfold a6z;rw[e,az,e1,az,e2,az,e3]
theorem akn(P:Src o N)(hN:N<=999999000):∃l o',Tongue l/\Dr dj 1 [] o (.str (S l)) o'/\Src o' (N+7):=by
 obtain⟨r0,o1,e1,r0a,r0b,P1⟩:=a04 (m:=6) P (by omega) (by decide) (by decide)
 have lo:=o7 (g:=kN 3) (b:=vz aj lq) (λi:Nat=>D.int (0+(i:Nat)))
  (λpre τ h=>∃(aG told:List Nat) (u:O) (t3 t4:Option D),τ=[some (.ref 0),some (.str (S aG)),some (.str (S told)),t3,t4]/\h=[u]/\Src u (N+1+pre.length)/\told.length=pre.length/\(told++aG).length=95/\(told++aG).Nodup/\∀c∈told++aG,c∈sig)
  (List.range (1+r0).toNat) [some (.ref 0),some (.str (S sig)),some (.str (S [])),none,none] [o1] ?_
  ⟨sig,[],o1,none,none,rfl,rfl,P1,rfl,by simp[avq],by simpa using b0p,by simp⟩
 .obtain⟨τ',h',e2,aG,told,u,t3,t4,rfl,rfl,P2,l1,l2,nd,sb⟩:=lo;rw[b6]at P2 l1;have T:Tongue told:=⟨by omega,by omega,(bZ.mp nd).1,λc hc=>sb c (bN _ hc)⟩
  refine⟨told,u,T,Dr.of rfl (by simp) P.clo (r:=.ok (.str (S told)) [u]) ?_ (gf (gq _) (by simpa using vq (by omega) P2.clo)) (gq _) P2.clo,P2.up (by omega)⟩
  unfold dj;rw[dh];show toR (zp aj lq [some (.ref 0),none,none,none,none] [o])=_;unfold zp;have c2:jg false 2 aj [.ref 0,.int 6] [o]=.ok (.int r0) [o1]:=e1 0 [o] rfl;have bd:B62 (1+r0):=by unfold B62;omega
  refine ets (b6r (a9q _)) ?_;refine etr (nj ckk) ?_;have it:sRg zg (aa (s2 jb (sI 1) (sA (jg false 2 aj) (aa (sV 0) (aa (sI 6) bc)))) bc) [some (.ref 0),some (.str (S sig)),some (.str ""),none,none] [o]=.ok ⟨rng 0 (1+r0).toNat,λ_=>True⟩ [o1]:=by
   unfold sRg;rw[arg1 (kj ckk (xn (aq rfl) ckk c2) ye),az];exact aU bd
  refine etr (a2g it) ?_;refine aN (aQ (λz=>toR (MI.thn z _)) e2) ?_;exact aQ toR (jn (aq rfl))
 .rintro pre i post τ h all ⟨aG,told,u,t3,t4,rfl,rfl,P2,l1,l2,nd,sb⟩
  have aH:pre.length<(1+r0).toNat:=by
   have:=aQ List.length all
   simp at this;omega
  rw[aw]at l2;obtain⟨r,u',e2,ra,rb,P3⟩:=a04 (m:=(aG.length:Nat)) P2 (by omega) (by omega) (by omega)
  obtain⟨j,rfl⟩:=cL ra;have hj:j<aG.length:=by omega
  have gx:aG[j]? = some aG[j]:=ag hj;have pp:=ake told aG j aG[j] gx;refine⟨_,_,rfl,_,_,?_,aG.take j++aG.drop (j+1),told++[aG[j]],u',some (.int (0+(i:Nat))),some (.int (j:Nat)),rfl,rfl,by simpa[iB] using P3,by simp[l1],?_,pp.nodup_iff.mp nd,λc hc=>sb c (pp.mem_iff.mpr hc)⟩
  .unfold vz;have L:∀n:Nat,n<=95->n<=LINE:=λn hn=>by show n<=16777216;omega
   have c2:=e2 0 [u] rfl;have x1:∀h,gIx (.str (S aG)) (.int (j:Nat)) h=.ok (.str (S [aG[j]])) h:=λh=>b3u (L _ (by omega)) gx
   have x2:∀h,vm [.str (S aG)] h=.ok (.int aG.length) h:=λh=>ags (L _ (by omega))
   have x3:∀h,a0b (.str (S told)) (.str (S [aG[j]])) h=.ok (.str (S (told++[aG[j]]))) h:=λh=>af0 (L _ (by simp;omega))
   have x4:∀h,ami (.str (S aG)) none (some (j:Int)) h=.ok (.str (S (aG.take j))) h:=λh=>b0o j (L _ (by omega))
   have x5:∀h,ami (.str (S aG)) (some ((j:Int)+1)) none h=.ok (.str (S (aG.drop (j+1)))) h:=λh=>ara (j+1) (L _ (by omega))
   have x6:∀h,jb (.str (S (aG.take j))) (.str (S (aG.drop (j+1)))) h=.ok (.str (S (aG.take j++aG.drop (j+1)))) h:=λh=>a9m (L _ (by simp;omega))
   have c2:jg false 2 aj [.ref 0,.int (aG.length:Nat)] [u]=.ok (.int (j:Nat)) [u']:=c2;refine aN (nj (xn (aq rfl) (qx (aq rfl) (x2 _)) c2)) ?_;refine aN (ue (abr rfl (kj (aq rfl) (aq rfl) (x1 _)) (x3 _))) ?_;exact avr (kj (b0u (aq rfl) rfl (b0t (aq rfl)) (x4 _)) (b0u (aq rfl) (b0t (a0l rfl ye)) rfl (x5 _)) (x6 _))
  .rw[<-pp.length_eq];simpa using l2
end SRC
namespace HND
open L2 MI AT
theorem vf(h:List.range k=pre++i::post):i=pre.length/\i<k:=by
 have h1:=aQ (λl=>l[pre.length]?) h;have h2:=aQ List.length h;simp at h1 h2;have:pre.length<k:=by omega
 rw[bQ this]at h1;simp at h1;omega
abbrev KOk(k:Int):Prop := -1<=k/\k<=5
abbrev ak(i:Nat):D:=.int (i:Nat)
theorem mq(l:List Nat):clos k (l.map ak):=g8 λx _=>dg _
abbrev a1f(r:List Nat):D:=.tup (r.map ak)
abbrev ahb(s n:Nat)(r:List Nat):Prop:=r.length=s/\∀x∈r,x<n
structure Table where
 tg:List Nat
 go:List (List Nat)
 ks:List Int
def Table.d(T:Table):D:=.tup [.str (S T.tg),.tup (T.go.map a1f),.tup (T.ks.map D.int)]
structure Table.Ok (T:Table):Prop where
 tong:Tongue T.tg
 n1:1<=T.go.length
 n32:T.go.length<=32
 row:∀r∈T.go,ahb T.tg.length T.go.length r
 kl:T.ks.length=T.go.length
 k0:T.ks[0]? = some (-1)
 kk:∀k∈T.ks,KOk k
theorem Table.clo{T:Table}:clo 0 T.d:=jx (dz (gq _) (dz (jx (g8 λx _=>jx (mq _))) (dz (jx (g8 λx _=>dg x)) o6)))
end HND
namespace PAP
open L2 MI AT HND
theorem b0v(l:List Nat)(h:Hd):ank (.str (S l)) h=.ok ⟨l.map λc=>.str (S [c]),λ_=>True⟩ h:=by
 show R.ok (⟨a0u (S l),λ_=>True⟩:Itm) _=_;unfold a0u;rw[a2e]
theorem b0w{h h':Hd}(hl:h'.length=h.length)(e:f τ h=.ok (.ref h'.length) (h'++[.lst xs]))(cx:clos h.length xs)(c:∀o∈h',a5q h.length o):sZ f τ h=.ok (.rol xs) h':=by
 unfold sZ;rw[e,a4t (by omega) (by simp) cx (by rw[<-hl];simpa[hl] using c)]
 rw[<-hl];simp
end PAP
namespace SRC
open L2 MI AT HND EVX
theorem b27(c:x<=y):gLe (.int x) (.int y) h=.ok (.bl true) h:=by
 show R.ok (D.bl (decide (x<=y))) h=_;rw[aK c]
theorem b28(c:¬ x<=y):gLe (.int x) (.int y) h=.ok (.bl false) h:=by
 show R.ok (D.bl (decide (x<=y))) h=_;rw[aZ c]
theorem b0x(e1:c τ h=.ok true h1)(e2:f τ h1=r):ab0 c f g τ h=r:=by unfold ab0;rw[e1,az,aU rfl];exact e2
theorem avs(e1:c τ h=.ok false h1)(e2:g τ h1=r):ab0 c f g τ h=r:=by unfold ab0;rw[e1,az,bA (by simp)];exact e2
def gj:SF:=ju (a3y aj) 8
abbrev a7n(r:List Nat):D:=.rol (r.map ak)
theorem agw{ks:List Int}(P:Src o N)(hN:N<=999999000)(l:ks.length<=100) :
  ∃(u:O) (k:Int),uo aj [some (.ref 0),some t,some n,some (.ref 1),x,y,none,none] [o,.lst (ks.map D.int)]=.nx [some (.ref 0),some t,some n,some (.ref 1),x,y,none,none] [u,.lst ((ks++[k]).map D.int)]/\Src u (N+2)/\KOk k:=by
 obtain⟨a,o1,e1,a0,a1,P1⟩:=a04 (m:=5) P (by omega) (by omega) (by omega)
 obtain⟨b,o2,e2,b0,b1,P2⟩:=a04 (m:=6) P1 (by omega) (by omega) (by omega)
 have c1:jg false 2 aj [.ref 0,.int 5] [o,.lst (ks.map D.int)]=.ok (.int a) [o1,.lst (ks.map D.int)]:=e1 0 _ rfl;have c2:jg false 2 aj [.ref 0,.int 6] [o1,.lst (ks.map D.int)]=.ok (.int b) [o2,.lst (ks.map D.int)]:=e2 0 _ rfl;unfold uo
 by_cases ha:a<2
 .refine⟨o2,b,?_,P2,by omega⟩
  rw[bE];exact a6a (aq rfl) rfl (arg1 (b0x (t2s (xn (aq rfl) ckk c1) ckk (arc ha)) (xn (aq rfl) ckk c2))) (a6b (xs:=ks.map D.int) rfl (by rw[ax];exact a3e (by omega)))
 .refine⟨o1,-1,?_,P1.up (by omega),by decide⟩
  rw[bE];exact a6a (aq rfl) rfl (arg1 (avs (t2s (xn (aq rfl) ckk c1) ckk (ard ha)) (a5b ckk (xq _)))) (a6b (xs:=ks.map D.int) rfl (by rw[ax];exact a3e (by omega)))
abbrev HR(u:O)(ks:List Int)(rows:List (List Nat)):Hd:=[u,.lst (ks.map D.int),.lst (rows.map a7n)]
abbrev τR(tg:List Nat)(n:Nat)(i m:Option D)(r:Option D):Sd:=[some (.ref 0),some (.str (S tg)),some (ak n),some (.ref 1),i,m,some (.ref 2),r]
theorem arf(P:Src u N)(k:Nat):∀o∈HR u ks rows,a5q k o:=by
 intro o ho
 simp only[aP,bp,cH]at ho
 rcases ho with rfl|rfl|rfl
 .exact vq (bU _) P.clo
 .exact vq (bU _) (g8 λx _=>dg x)
 .exact vq (bU _) (g8 λx _=>a03 (mq _))
theorem ako{tg:List Nat}(P:Src u N)(hN:N<=999999000)(t6:tg.length<=6)(n1:1<=n)(n32:n<=32) :
  ∃(u':O) (row:List Nat),ahb tg.length n row/\Src u' (N+6)/\sZ (ji (sIt (sV 1)) t1 (uq aj) [0,2]) (τR tg n i m r) (HR u ks rows)=.ok (a7n row) (HR u' ks rows):=by
 have mp:=a9e (f:=a7p t1 (uq aj) (frs' [0,2] (τR tg n i m r))) (λc:Nat=>D.str (S [c]))
  (λpre ys h=>∃(u':O) (row:List Nat),h=HR u' ks rows/\Src u' (N+pre.length)/\ys=row.map ak/\row.length=pre.length/\∀x∈row,x<n)
  tg [] [] (HR u ks rows) ?_ ⟨u,[],rfl,P,rfl,rfl,by simp⟩
 .obtain⟨zs,h',em,u',row,rfl,P',ez,rl,rx⟩:=mp;rw[cy]at ez rl P';subst ez;refine⟨u',row,⟨rl,rx⟩,P'.up (by omega),?_⟩
  refine PAP.b0w rfl ?_ (mq _) (arf P' _);unfold ji;rw[a6h (aq rfl) (PAP.b0v tg _),az];dsimp only;rw[aU (by rw[ax];exact du (by omega)),em]
  rfl
 .rintro pre c post ys h all ⟨u',row,rfl,P',rfl,rl,rx⟩
  rw[cy]at all;have pl:pre.length<tg.length:=by rw[all];simp
  obtain⟨x,u2,e,x0,x1,P2⟩:=a04 (m:=(n:Nat)) P' (by omega) (by omega) (by omega)
  obtain⟨j,rfl⟩:=cL x0;have c1:jg false 2 aj [.ref 0,ak n] (HR u' ks rows)=.ok (ak j) (HR u2 ks rows):=e 0 _ rfl;refine⟨ak j,HR u2 ks rows,?_,u2,row++[j],rfl,P2.up (by rw[aw,aM];omega),by rw[bE];rfl,by rw[aw,aw,aM,aM,rl],λy hy=>?_⟩
  .rw[u6];unfold uq;exact xn (aq rfl) (aq rfl) c1
  .rcases b9.mp hy with z|z
   .exact rx y z
   .rw[av]at z;subst z;omega
theorem akp{row:List Nat}(P:Src u N)(rl:row.length<=100)(fx:∀x,x∈row->fe (some (ak x)::frs' ix (τR tg n i m (some (a7n row)))) (HR u ks rows)=.ok (ak (f x)) (HR u ks rows)) :
  sZ (ji (sIt (sV 7)) t1 fe ix) (τR tg n i m (some (a7n row))) (HR u ks rows)=.ok (a7n (row.map f)) (HR u ks rows):=by
 unfold a7n;rw[bV];refine yg (p7 ak (ak ∘ f) row (a6h (aq rfl) rfl) (du (by omega)) λx hx=>?_) (g8 λy _=>dg _) (arf P _)
 rw[u6];exact fx x hx
theorem agx{tg:List Nat}{ks:List Int}{rows:List (List Nat)}(P:Src u N)(hN:N<=999999000)(t6:tg.length<=6)(n1:1<=n)(n32:n<=32)(lk:ks.length=n)(hi:i<n)(lr:rows.length<=100) :
  ∃(u':O) (row:List Nat) (r':Option D),ahb tg.length n row/\Src u' (N+6)/\qm aj (τR tg n (some (ak i)) (some (.int m)) r) (HR u ks rows)=.nx (τR tg n (some (ak i)) (some (.int m)) r') (HR u' ks (rows++[row])):=by
 obtain⟨u',row,⟨l1,x1⟩,P',e1⟩:=ako (i:=some (ak i)) (m:=some (.int m)) (r:=r) (ks:=ks) (rows:=rows) P hN t6 n1 n32;have fin:∀row:List Nat,a1x (sML a7z (sV 6) (aa (sV 7) bc)) (τR tg n (some (ak i)) (some (.int m)) (some (a7n row))) (HR u' ks rows)=.nx (τR tg n (some (ak i)) (some (.int m)) (some (a7n row))) (HR u' ks (rows++[row])):=λrow=>by
  unfold HR;rw[bE];exact a6a (aq rfl) rfl (arg1 (aq rfl)) (a6b (xs:=rows.map a7n) rfl (by rw[ax];exact a3e (by omega)))
 have third:∀row:List Nat,ahb tg.length n row->∃row',ahb tg.length n row'/\di (sIf (a2n (sT (s2 hEq (sV 5) (sI 1))) (sT (s2 hEq (sV 4) (s2 afj (sV 2) (sI 1)))))
   (jj 7 (sZ (ji (sIt (sV 7)) t1 (yu aj) [4]))) sNx) (a1x (sML a7z (sV 6) (aa (sV 7) bc))) (τR tg n (some (ak i)) (some (.int m)) (some (a7n row))) (HR u' ks rows)=.nx (τR tg n (some (ak i)) (some (.int m)) (some (a7n row'))) (HR u' ks (rows++[row'])):=λrow ⟨l2,x2⟩=>by
  by_cases h1:m=1
  .by_cases h2:(i:Int)=(n:Int)-1
   .refine⟨row.map λ_=>i,⟨by rw[ax,l2],λx hx=>by obtain⟨_,_,rfl⟩:=bq.mp hx;exact hi⟩,?_⟩
    refine aN (ue (aN (ifT (akg (tvc rfl (a6d h1)) (t2s (aq rfl) (a0l rfl (akj _ _)) (a6d h2)))) (avr (akp (f:=λ_=>i) P' (by omega) λx _=>by unfold yu;exact aq rfl)))) ?_
    exact fin _
   .refine⟨row,⟨l2,x2⟩,?_⟩;refine aN (ifN (akg (tvc rfl (a6d h1)) (t2s (aq rfl) (a0l rfl (akj _ _)) (a7r h2)))) ?_;exact fin _
  .refine⟨row,⟨l2,x2⟩,?_⟩;refine aN (ifN (awr (tvc rfl (a7r h1)))) ?_;exact fin _
 unfold qm
 by_cases h0:0<m
 .let g:Nat->Nat:=λx=>if (ks[x]?).getD 0<0/\x<=i then n-1 else x
  have gl:ahb tg.length n (row.map g):=⟨by rw[ax,l1],λx hx=>by
   obtain⟨y,hy,rfl⟩:=bq.mp hx;have:=x1 y hy;show(if _ then n-1 else y)<n
   split
   .exact Nat.sub_lt (by omega) (by decide)
   .exact this⟩
  obtain⟨row',q,e3⟩:=third _ gl;refine⟨u',row',some (a7n row'),q,P',?_⟩;refine aN (nj e1) ?_;refine aN (ue (aN (ifT (tvc rfl (b41 h0))) (avr (akp (f:=g) P' (by omega) λx hx=>?_)))) ?_
  .unfold a1c;have hx':=x1 x hx;have kx:ks[x]? = some ((ks[x]?).getD 0):=by rw[ag (by omega)];rfl
   have ki:∀h:Hd,h[1]? = some (.lst (ks.map D.int))->gIx (.ref 1) (ak x) h=.ok (.int ((ks[x]?).getD 0)) h:=λh hh=>a3m hh (by rw[aE,kx];rfl)
   have sb:s2 afj (sV 1) (sI 1) (some (ak x)::frs' [2,3,4] (τR tg n (some (ak i)) (some (.int m)) (some (a7n row)))) (HR u' ks rows)=.ok (ak (n-1)) (HR u' ks rows) :=
    (a0l rfl (akj _ _)).trans (by show R.ok (D.int ((n:Int)-1)) _=R.ok (D.int ((n-1:Nat):Int)) _;congr 2;omega)
   by_cases hk:(ks[x]?).getD 0<0
   .by_cases hx:x<=i
    .show _=R.ok (ak (if _ then n-1 else x)) _
     rw[aU ⟨hk,hx⟩];exact b0x (akg (t2s (kj (aq rfl) (aq rfl) (ki _ rfl)) ckk (arc hk)) (t2s (aq rfl) (aq rfl) (b27 (by omega)))) sb
    .show _=R.ok (ak (if _ then n-1 else x)) _
     rw[bA λz=>hx z.2];exact avs (akg (t2s (kj (aq rfl) (aq rfl) (ki _ rfl)) ckk (arc hk)) (t2s (aq rfl) (aq rfl) (b28 (by omega)))) (aq rfl)
   .show _=R.ok (ak (if _ then n-1 else x)) _
    rw[bA λz=>hk z.1];exact avs (awr (t2s (kj (aq rfl) (aq rfl) (ki _ rfl)) ckk (ard hk))) (aq rfl)
  .exact e3
 .obtain⟨row',q,e3⟩:=third _ ⟨l1,x1⟩;refine⟨u',row',some (a7n row'),q,P',?_⟩;refine aN (nj e1) ?_;refine aN (ifN (tvc rfl (b26 h0))) ?_;exact e3
theorem akq:a3u 1 (HR u ks rows) FU (.tup [.ref 2,.ref 1])=some (.tup [.rol (rows.map a7n),.rol (ks.map D.int)]):=by
 have oc:∀{k:Nat} {d d':D} {ds ds':List D},a3u 1 (HR u ks rows) k d=some d'->a1u (a3u 1 (HR u ks rows) k) ds=some ds'->a1u (a3u 1 (HR u ks rows) k) (d::ds)=some (d'::ds'):=λe1 e2=>by unfold a1u;rw[e1,e2]
 refine aob (k:=19) (oc (a9d (k:=17) (by omega) rfl (g8 λx _=>a03 (mq _))) (oc (a9d (k:=17) (by omega) rfl (g8 λx _=>dg x)) rfl)) ?_
 intro z
 have:=a2a.mp z (.ref 2) aT
 simp only[MI.clo]at this;omega
abbrev arh(L0:SS):SS :=
 (di (jj 3 (sA a5m (aa (s1 a1b (sI 1)) bc)))
 (di (a3f (sRg a4m (aa (sI 1) (aa (sV 2) bc))) (kN 4) L0)
 (di (jj 5 (sA (jg false 2 aj) (aa (sV 0) (aa (sI 3) bc))))
 (di (jj 6 (sA a5m bc))
 (di (a3f (sRg zg (aa (sV 2) bc)) (kN 4) (qm aj))
 (my (sA a0r (aa (sV 6) (aa (sV 3) bc)))))))))
theorem akr{L0:SS}{tg:List Nat}(hk0:∀{u:O} {ks:List Int} {M:Nat} (x:Option D),Src u M->M<=999999000->ks.length<=100->∃(u':O) (k:Int),L0 [some (.ref 0),some (.str (S tg)),some (ak n),some (.ref 1),x,none,none,none] [u,.lst (ks.map D.int)]=.nx [some (.ref 0),some (.str (S tg)),some (ak n),some (.ref 1),x,none,none,none] [u',.lst ((ks++[k]).map D.int)]/\Src u' (M+2)/\KOk k)(P:Src o N)(hN:N<=999990000)(t6:tg.length<=6)(n1:1<=n)(n32:n<=32) :
  ∃(ks:List Int) (rows:List (List Nat)) (o':O),ks.length=n/\ks[0]? = some (-1)/\(∀k∈ks,KOk k)/\rows.length=n/\(∀r∈rows,ahb tg.length n r) /\
   Dr (ju (arh L0) 8) 3 [.str (S tg),ak n] o (.tup [.rol (rows.map a7n),.rol (ks.map D.int)]) o'/\Src o' (N+300):=by
 have lo:=o7 (g:=kN 4) (b:=L0) (λi:Nat=>D.int ((1+i:Nat)))
  (λpre τ h=>∃(u:O) (ks:List Int) (t4:Option D),τ=[some (.ref 0),some (.str (S tg)),some (ak n),some (.ref 1),t4,none,none,none]/\h=[u,.lst (ks.map D.int)]/\Src u (N+2*pre.length)/\ks.length=1+pre.length/\ks[0]? = some (-1)/\∀k∈ks,KOk k)
  (List.range (n-1)) [some (.ref 0),some (.str (S tg)),some (ak n),some (.ref 1),none,none,none,none] [o,.lst ([-1].map D.int)] ?_
  ⟨o,[-1],none,rfl,rfl,P,rfl,rfl,by intro k hk;rw[av]at hk;subst hk;decide⟩
 .obtain⟨τ',h',e1,u,ks,t4,rfl,rfl,P1,l1,k0,kk⟩:=lo;rw[b6]at P1 l1;obtain⟨m,u1,e2,m0,m1,P2⟩:=a04 (m:=3) P1 (by omega) (by omega) (by omega)
  have c2:jg false 2 aj [.ref 0,.int 3] [u,.lst (ks.map D.int)]=.ok (.int m) [u1,.lst (ks.map D.int)]:=e2 0 _ rfl;have lp:=o7 (g:=kN 4) (b:=qm aj) (λi:Nat=>D.int (i:Nat))
   (λpre τ h=>∃(u':O) (rows:List (List Nat)) (i r:Option D),τ=τR tg n i (some (.int m)) r/\h=HR u' ks rows/\Src u' (N+100+6*pre.length)/\rows.length=pre.length/\∀r∈rows,ahb tg.length n r)
   (List.range n) (τR tg n t4 (some (.int m)) none) (HR u1 ks []) ?_ ⟨u1,[],_,_,rfl,rfl,P2.up (by omega),rfl,by simp⟩
  .obtain⟨τ',h',e3,u',rows,i,r,rfl,rfl,P3,lr,rr⟩:=lp;rw[b6]at P3 lr;have ca:MI.clo 0 (.tup [.rol (rows.map a7n),.rol (ks.map D.int)]):=jx (dz (a03 (g8 λx _=>a03 (mq _))) (dz (a03 (g8 λy _=>dg y)) o6));refine⟨ks,rows,u',by omega,k0,kk,lr,rr,Dr.of rfl ?_ P.clo (r:=.ok (.tup [.ref 2,.ref 1]) (HR u' ks rows)) ?_ (a72 akq (by intro x hx;rw[show List.take 1 (HR u' ks rows)=[u'] from rfl,av]at hx;subst hx;exact vq (by omega) P3.clo)) ca P3.clo,P3.up (by omega)⟩
   .intro x hx
    simp only[aP,bp,cH]at hx
    rcases hx with rfl|rfl
    .exact gq _
    .exact dg _
   .rw[dh];show toR (arh L0 [some (.ref 0),some (.str (S tg)),some (ak n),none,none,none,none,none] [o])=_;refine etr (nj (d:=.ref 1) (h1:=[o,.lst ([-1].map D.int)]) rfl) ?_;refine etr (a2g (a9r (a:=1) (n:=n) ckk (aq rfl) (du (by omega)) (du (by omega)))) ?_
    refine aN (aQ (λz=>toR (MI.thn z _)) e1) ?_;rw[a0x];refine ets (xn (aq rfl) ckk c2) ?_;refine etr (nj (d:=.ref 2) (h1:=HR u1 ks []) rfl) ?_;refine etr (a2g (a3d (n:=n) (aq rfl) (du (by omega)))) ?_
    refine aN (aQ (λz=>toR (MI.thn z _)) e3) ?_;rw[a0x];exact aQ toR (jn (xn (aq rfl) (aq rfl) aha))
  .rintro pre i post τ h all ⟨u',rows,i',r,rfl,rfl,P3,lr,rr⟩
   obtain⟨hi,hk⟩:=vf all;obtain⟨u2,row,r',q,P4,e4⟩:=agx (i:=i) (m:=m) (r:=r) (ks:=ks) (rows:=rows) P3 (by omega) t6 n1 n32 (by omega) hk (by omega)
   refine⟨_,_,rfl,_,_,e4,u2,rows++[row],_,_,rfl,rfl,P4.up (by rw[aw,aM];omega),by rw[aw,aw,aM,aM,lr],λx hx=>?_⟩
   rcases b9.mp hx with z|z
   .exact rr x z
   .rw[av]at z;subst z;exact q
 .rintro pre i post τ h all ⟨u,ks,t4,rfl,rfl,P2,l1,k0,kk⟩
  obtain⟨hi,hk⟩:=vf all;obtain⟨u',k,e3,P3,hk3⟩:=hk0 (ks:=ks) (some (.int ((1+i:Nat):Int))) P2 (by omega) (by omega)
  refine⟨_,_,rfl,_,_,e3,u',ks++[k],_,rfl,rfl,P3.up (by rw[aw,aM];omega),by rw[aw,aw,aM,aM];omega,?_,λq hq=>?_⟩
  .rw[aL (by omega)];exact k0
  .rcases b9.mp hq with h|h
   .exact kk q h
   .rw[av]at h;subst h;exact hk3
theorem apc{tg:List Nat}(P:Src o N)(hN:N<=999990000)(t6:tg.length<=6)(n1:1<=n)(n32:n<=32) :
  ∃(ks:List Int) (rows:List (List Nat)) (o':O),ks.length=n/\ks[0]? = some (-1)/\(∀k∈ks,KOk k)/\rows.length=n/\(∀r∈rows,ahb tg.length n r) /\
   Dr gj 3 [.str (S tg),ak n] o (.tup [.rol (rows.map a7n),.rol (ks.map D.int)]) o'/\Src o' (N+300) :=
 akr (L0:=uo aj) (λx P h l=>agw P h l) P hN t6 n1 n32
end SRC
namespace BF
def num(s:Nat):List Nat->Nat
 |[]=>0
 |c::p=>num s p*s+c+1
def walk(step:Nat->Nat->Nat)(r:Nat):List Nat->Nat
 |[]=>r
 |c::p=>step (walk step r p) c
def Ok(s:Nat)(w:List Nat):Prop:=∀c∈w,c<s
theorem Ok.nil:Ok s []:=λ_ h=>by simp at h
theorem Ok.cons{s c:Nat}{p:List Nat}(hc:c<s)(h:Ok s p):Ok s (c::p):=λd hd=>by
 rcases aP.mp hd with rfl|hd
 .exact hc
 .exact h d hd
theorem Ok.head(h:Ok s (c::p)):c<s:=h c aT
theorem Ok.tail(h:Ok s (c::p)):Ok s p:=λd hd=>h d (aI _ hd)
theorem ari{s a b:Nat}(h:a<b):a*s+s<=b*s:=by
 have:(a+1)*s<=b*s:=cE s h
 rw[iD,Nat.one_mul]at this;exact this
theorem abt{s a b c d:Nat}(h:a<b)(hc:c<s):a*s+c+1<b*s+d+1:=by
 have:=ari (s:=s) h
 omega
theorem a9u:∀{u v:List Nat},Ok s u->Ok s v->num s u=num s v->u=v
 |[],[],_,_,_=>rfl
 |[],_::_,_,_,e=>by simp[num]at e
 |_::_,[],_,_,e=>by simp[num]at e
 |c::p,d::q,hu,hv,e=>by
  simp only[num]at e;have h1:=hu.head;have h2:=hv.head
  rcases eB (num s p) (num s q) with h|h|h
  .have:=abt (d:=d) h h1;omega
  .have:=a9u hu.tail hv.tail h
   subst this;have:c=d:=by omega
   rw[this]
  .have:=abt (d:=c) h h2;omega
section
variable{s:Nat}{step:Nat->Nat->Nat}{r0:Nat}{hit:List Nat->Prop}
structure St (s:Nat) (step:Nat->Nat->Nat) (r0:Nat) (hit:List Nat->Prop) (found:List (List Nat)) (F:Nat):Prop where
 ok:∀w∈found,Ok s w
 inc:found.Pairwise λu v=>num s u<num s v
 dis:found.Pairwise λu v=>walk step r0 u≠walk step r0 v
 com:∀w,Ok s w->num s w<F->¬ hit w/\∃v∈found,walk step r0 v=walk step r0 w/\num s v<=num s w
 low:∀w∈found,num s w<F
 len:∀(j:Nat) w,found[j]? = some w->w.length<=j
theorem St.start(h0:¬ hit []):St s step r0 hit [[]] 1:=by
 refine⟨by simp[Ok.nil],by simp,by simp,λw hw hn=>?_,by simp[num],λj w e=>?_⟩
 rotate_left
 .cases j with
  |zero=>simp at e;subst e;exact ay _
  |succ j=>simp at e
 cases w with
 |nil=>exact⟨h0,[],by simp,rfl,ay _⟩
 |cons c p=>simp only[num]at hn;omega
theorem St.seen(S:St s step r0 hit found F)(hw:Ok s w)(e:num s w=F)(nh:¬ hit w)(h:∃v∈found,walk step r0 v=walk step r0 w):St s step r0 hit found (F+1):=by
 refine⟨S.ok,S.inc,S.dis,λu hu hn=>?_,λu hu=>eC (S.low u hu),S.len⟩
 rcases Nat.lt_or_ge (num s u) F with h1|h1
 .exact S.com u hu h1
 .have:u=w:=a9u hu hw (by omega)
  subst this;obtain⟨v,hv,e2⟩:=h;exact⟨nh,v,hv,e2,eR (by rw[e];exact S.low v hv)⟩
theorem St.add(S:St s step r0 hit found F)(hw:Ok s w)(e:num s w=F)(nh:¬ hit w)(h:∀v∈found,walk step r0 v≠walk step r0 w)(aH:w.length<=found.length):St s step r0 hit (found++[w]) (F+1):=by
 refine⟨λu hu=>?_,?_,?_,λu hu hn=>?_,λu hu=>?_,λj u e=>?_⟩
 .rcases b9.mp hu with hu|hu
  .exact S.ok u hu
  .rw[av.mp hu];exact hw
 .refine fY.mpr ⟨S.inc,by simp,λu hu v hv=>?_⟩
  rw[av.mp hv,e];exact S.low u hu
 .refine fY.mpr ⟨S.dis,by simp,λu hu v hv=>?_⟩
  rw[av.mp hv];exact h u hu
 .rcases Nat.lt_or_ge (num s u) F with h1|h1
  .obtain⟨a,v,hv,b⟩:=S.com u hu h1;exact⟨a,v,bN _ hv,b⟩
  .have:u=w:=a9u hu hw (by omega)
   subst this;exact⟨nh,u,by simp,rfl,ay _⟩
 .rcases b9.mp hu with hu|hu
  .exact eC (S.low u hu)
  .rw[av.mp hu];omega
 .by_cases hj:j<found.length
  .rw[aL hj]at e;exact S.len j u e
  .rw[aR (by omega)]at e
   have:j-found.length=0:=by
    have:=(ah.mp e).1
    simp at this;omega
   rw[this]at e;simp at e;subst e;omega
theorem St.least(S:St s step r0 hit found F)(hv:Ok s v)(hh:hit v):F<=num s v :=
 fq λz=>(S.com v hv z).1 hh
theorem St.next{l:Nat}(hs:0<s)(hl:found[l]? = some w)(hl':found[l+1]? = some w')(S:St s step r0 hit found (num s w*s+s+1))(a2i:∀c p q,walk step r0 p=walk step r0 q->(hit (c::p)↔hit (c::q))):St s step r0 hit found (num s w'*s+1):=by
 obtain⟨h1,e1⟩:=ah.mp hl;obtain⟨h2,e2⟩:=ah.mp hl';have lt:num s w<num s w':=by rw[<-e1,<-e2];exact bH.mp S.inc l (l+1) h1 h2 (by omega)
 have up:=ari (s:=s) lt;refine⟨S.ok,S.inc,S.dis,λu hu hn=>?_,λu hu=>bC (S.low u hu) (by omega),S.len⟩
 rcases Nat.lt_or_ge (num s u) (num s w*s+s+1) with h3|h3
 .exact S.com u hu h3
 .cases u with
  |nil=>simp only[num]at h3;omega
  |cons c p =>
   simp only[num]at hn h3 ⊢;have hc:=hu.head;have p1:num s p<num s w':=by
    refine Nat.lt_of_not_le λz=>?_;have:=cE s z;omega
   have p0:num s w<num s p:=by
    refine Nat.lt_of_not_le λz=>?_;have:=cE s z;omega
   have pw:num s p<num s w*s+s+1:=by
    have:=S.low w' (by rw[<-e2];exact bL h2)
    omega
   obtain⟨_,v,hv,ev,lv⟩:=S.com p hu.tail pw;obtain⟨j,hj⟩:=bR hv;obtain⟨h4,e4⟩:=ah.mp hj;have jl:j<=l:=by
    refine fq λz=>?_;have:num s w'<=num s v:=by
     rcases gW (show l+1<=j from z) with q|q
     .rw[<-e2,<-e4];exact eR (bH.mp S.inc (l+1) j h2 h4 q)
     .subst q;rw[<-e2,<-e4];exact ay _
    omega
   have vw:num s v<=num s w:=by
    rcases gW jl with q|q
    .rw[<-e1,<-e4];exact eR (bH.mp S.inc j l h4 h1 q)
    .subst q;rw[<-e1,<-e4];exact ay _
   have cv:num s (c::v)<num s w*s+s+1:=by
    simp only[num];have:=cE s vw;omega
   obtain⟨nh,v',hv',ev',lv'⟩:=S.com (c::v) (Ok.cons hc (S.ok v hv)) cv;refine⟨λz=>nh ((a2i c v p ev).mpr z),v',hv',?_,?_⟩
   .rw[ev'];simp only[walk,ev]
   .simp only[num]at lv';have:=cE s lv;omega
theorem St.all(hl:found[l]? = some w)(hn:found.length=l+1)(S:St s step r0 hit found (num s w*s+s+1))(h0:¬ hit [])(hz:[]∈found)(a2i:∀c p q,walk step r0 p=walk step r0 q->(hit (c::p)↔hit (c::q))) :
  ∀u,Ok s u->¬ hit u/\∃v∈found,walk step r0 v=walk step r0 u/\num s v<=num s u
 |[],_=>⟨h0,[],hz,rfl,ay _⟩
 |c::p,hu=>by
  obtain⟨_,v,hv,ev,lv⟩:=St.all hl hn S h0 hz a2i p hu.tail;have hc:=hu.head;obtain⟨h1,e1⟩:=ah.mp hl;obtain⟨j,hj⟩:=bR hv;obtain⟨h4,e4⟩:=ah.mp hj;have vw:num s v<=num s w:=by
   rcases gW (show j<=l by omega) with q|q
   .rw[<-e1,<-e4];exact eR (bH.mp S.inc j l h4 h1 q)
   .subst q;rw[<-e1,<-e4];exact ay _
  have cv:num s (c::v)<num s w*s+s+1:=by
   simp only[num];have:=cE s vw;omega
  obtain⟨nh,v',hv',ev',lv'⟩:=S.com (c::v) (Ok.cons hc (S.ok v hv)) cv;refine⟨λz=>nh ((a2i c v p ev).mpr z),v',hv',?_,?_⟩
  .rw[ev'];simp only[walk,ev]
  .simp only[num]at lv' ⊢;have:=cE s lv;omega
end
theorem a9v(s c:Nat):∀x:List Nat,num s (x++[c])=(c+1)*s^x.length+num s x
 |[]=>by simp[num]
 |a::x=>by
  show num s (x++[c])*s+a+1=_;rw[a9v s c x,bB,gU,<-Nat.mul_assoc,num,iD];omega
theorem af1:∀{x y:List Nat},x.length=y.length->Ok s x->Ok s y->num s x<num s y+s^x.length
 |[],[],_,_,_=>by simp[num]
 |a::x,b::y,l,hx,hy=>by
  have ih:=af1 (x:=x) (y:=y) (by simpa using l) hx.tail hy.tail
  have ha:=hx.head;simp only[num,bB,gU];have:=cE s (show num s x+1<=num s y+s^x.length from ih)
  rw[iD,iD,Nat.one_mul]at this;omega
theorem a8c(hs:0<s):∀{x y:List Nat},x.length<y.length->Ok s x->num s x<num s y
 |[],b::y,_,_=>by simp[num]
 |a::x,b::y,l,hx=>by
  have:=a8c hs (x:=x) (y:=y) (by simpa using l) hx.tail
  exact abt this hx.head
theorem a5c(step:Nat->Nat->Nat)(r c:Nat):∀x:List Nat,walk step r (x++[c])=walk step (step r c) x
 |[]=>rfl
 |a::x=>by show step (walk step r (x++[c])) a=_;rw[a5c step r c x];rfl
section
variable(s:Nat)(step:Nat->Nat->Nat)(K:Nat->Bool)
def fl:Nat->Nat->Bool
 |0,r=>K r
 |k+1,r=>(List.range s).any λc=>fl k (step r c)
def fst(k r:Nat):Nat:=((List.range s).find? λc=>fl s step K k (step r c)).getD 0
noncomputable def gre:Nat->Nat->List Nat
 |0,_=>[]
 |k+1,r=>fst s step K k r::gre k (step r (fst s step K k r))
variable{s step K}
theorem arj(h:fl s step K (k+1) r=true):fst s step K k r<s/\fl s step K k (step r (fst s step K k r))=true/\∀d,d<fst s step K k r->fl s step K k (step r d)=false:=by
 unfold fst
 cases e:(List.range s).find? λc=>fl s step K k (step r c) with
 |none =>
  rw[cX]at e;simp only[fl,bD]at h;obtain⟨c,hc,h⟩:=h;exact absurd h (e c hc)
 |some c =>
  simp only[d0];have h1:=iT e;have h2:=fm e;refine⟨aY.mp h2,h1,λd hd=>?_⟩;rw[eD]at e;simpa using e.2.2 d hd
theorem abu:∀{k r:Nat},fl s step K k r=true->(gre s step K k r).length=k/\Ok s (gre s step K k r).reverse/\K (walk step r (gre s step K k r).reverse)=true
 |0,r,h=>⟨rfl,Ok.nil,h⟩
 |k+1,r,h=>by
  obtain⟨h1,h2,_⟩:=arj h;obtain⟨l,o,w⟩:=abu h2;refine⟨by simp[gre,l],λc hc=>?_,?_⟩
  .simp only[gre,eE,b9,av]at hc
   rcases hc with hc|rfl
   .exact o c hc
   .exact h1
  .rw[gre,eE,a5c];exact w
theorem apd:∀{u:List Nat} {r:Nat},Ok s u.reverse->K (walk step r u.reverse)=true->fl s step K u.length r=true
 |[],r,_,h=>h
 |c::u,r,o,h=>by
  rw[eE]at o h;rw[a5c]at h;simp only[bB,fl,bD];exact⟨c,aY.mpr (o c (by simp)),apd (λd hd=>o d (by simp[iJ.mp hd])) h⟩
theorem abv:∀{u:List Nat} {r:Nat},Ok s u.reverse->K (walk step r u.reverse)=true->num s (gre s step K u.length r).reverse<=num s u.reverse
 |[],r,_,_=>ay _
 |c::u,r,o,h=>by
  have hf:=apd o h;obtain⟨h1,h2,h3⟩:=arj (show fl s step K (u.length+1) r=true from hf)
  rw[eE]at o h;rw[a5c]at h;have ou:Ok s u.reverse:=λd hd=>o d (by simp[iJ.mp hd])
  have hc:fl s step K u.length (step r c)=true:=apd ou h;rw[bB,gre,eE,eE,a9v,a9v];obtain⟨gl,go,_⟩:=abu h2
  rcases eB c (fst s step K u.length r) with q|q|q
  .rw[h3 c q]at hc;cases hc
  .rw[<-q]at gl ⊢;have:=abv ou h;simp only[eJ,gl]at this ⊢;omega
  .have n:=af1 (s:=s) (x:=(gre s step K u.length (step r (fst s step K u.length r))).reverse) (y:=u.reverse) (by simp[gl]) go ou
   simp only[eJ,gl]at n ⊢;have:=cE (s^u.length) (show fst s step K u.length r+1+1<=c+1 by omega)
   rw[iD _ 1,Nat.one_mul]at this;omega
end
theorem a2h:∀(n:Nat) (l:List Nat),l.Nodup->(∀x∈l,x<n)->l.length<=n
 |0,l,_,h=>by
  cases l with
  |nil=>exact ay _
  |cons x l=>exact absurd (h x aT) (by omega)
 |n+1,l,nd,h=>by
  have:=a2h n (l.erase n) (nd.erase n) λx hx=>by
   have h1:=h x (List.mem_of_mem_erase hx);have h2:x≠n:=λz=>by subst z;exact(List.Nodup.not_mem_erase nd) hx
   omega
  have:=List.length_erase (a:=n) (l:=l)
  split at this<;>omega
end BF
namespace SRC
open L2 MI AT HND EVX
theorem b52{ck:Hd->Prop}{f:D->Hd->R D}{α:Type}(g F:α->D){h:Hd}(c:ck h):∀{xs:List α},(∀x∈xs,f (g x) h=.ok (F x) h)->mapR ck f (xs.map g) h=.ok (xs.map F) h
 |[],_=>by rw[dM,mapR,aU c];rfl
 |x::xs,st=>by
  rw[bg,mapR,aU c,st x aT];show(mapR _ f (xs.map g) h).bind _=_;rw[b52 g F c λy hy=>st y (aI _ hy)];rfl
theorem b0y{fi:SI}{t:D->Option Sd}{fe:SE}{ix:List Nat}{τ:Sd}{h:Hd}{α:Type}{ck:Hd->Prop}(g F:α->D)(xs:List α)(c:ck h)(e:fi τ h=.ok ⟨xs.map g,ck⟩ h)(z:xs.length<=LINE)
  (st:∀x∈xs,a7p t fe (frs' ix τ) (g x) h=.ok (F x) h):ji fi t fe ix τ h=.ok (.ref h.length) (h++[.lst (xs.map F)]):=by
 unfold ji;rw[e,az];dsimp only;rw[aU (by rw[ax];exact z),b52 g F c st]
 rfl
theorem aks{l:List Nat}:inD (ak x) (l.map ak)=decide (x∈l):=by
 unfold inD;rw[gR]
 by_cases h:x∈l
 .rw[aK h,bD];exact⟨x,h,by show((x:Int) == (x:Int))=true;simp⟩
 .rw[aZ h,hJ]
  intro y hy
  have:x≠y:=λe=>h (e ▸ hy)
  show ¬ ((y:Int) == (x:Int))=true;rw[i5];omega
theorem a9w{l:List Nat}(e:h[i]? = some (.lst (l.map ak))):gIn true (ak x) (.ref i) h=.ok (.bl (!decide (x∈l))) h:=by
 have fl:a0o (ak x)=true/\(l.map ak).all a0o=true:=⟨rfl,by
  rw[bI]
  intro y hy
  obtain⟨n,_,rfl⟩:=bq.mp hy
  rfl⟩
 unfold gIn a1y;simp only[e,aU fl,dQ,aks]
abbrev cst(l:List Nat):List Int:=l.map λx:Nat=>(x:Int)
theorem ad7(l:List Nat):l.map ak=(cst l).map D.int:=by unfold cst;rw[bV];rfl
theorem a8d{l:List Nat}(e:h[i]? = some (.lst (l.map ak))):a82 (.ref i) h=some (cst l):=by
 unfold a82;simp only[e];rw[ad7,ints_map]
theorem a8e(l:List Nat):∃m:List Nat,PySem.W.sortI (cst l)=cst m/\m.Perm l/\m.Pairwise (·<=·):=by
 have p:=gS (cst l);have s:=PySem.W.sortI_rises (cst l);refine⟨(PySem.W.sortI (cst l)).map Int.toNat,?_,?_,?_⟩
 .unfold cst;rw[bV];have:∀x∈PySem.W.sortI (l.map λx:Nat=>(x:Int)),((λx:Nat=>(x:Int)) ∘ Int.toNat) x=x:=λx hx=>by
   have:=p.mem_iff.mp hx
   obtain⟨y,_,rfl⟩:=bq.mp this;simp
  rw[cS this];simp
 .have:=p.map Int.toNat
  have e:(cst l).map Int.toNat=l:=by
   unfold cst;rw[bV];exact(cS λx _=>by simp).trans (j3 l)
  rwa[e]at this
 .rw[List.pairwise_map];exact s.imp λh=>by omega
def pos(m:List Nat)(x:Nat):Nat:=(ixI (x:Int) (cst m)).getD 0
theorem akt{m:List Nat}{x:Nat}(h:x∈m):ixI (x:Int) (cst m)=some (pos m x)/\pos m x<m.length:=by
 obtain⟨j,hj⟩:=aeo (n:=(x:Int)) (l:=cst m) (bq.mpr ⟨x,h,rfl⟩);unfold pos;rw[hj];refine⟨rfl,?_⟩;have:=(ah.mp (aen hj).1).1;simpa using this
def jc:SF:=ju (a0e aj gj dj) 10
abbrev τT(most:Nat)(tg:List Nat)(many:Int)(rows:List (List Nat))(ks:List Int)(m:D)(i:Nat)(t8 t9:Option D):Sd:=[some (.ref 0),some (ak most),some (.str (S tg)),some (.int many),some (.rol (rows.map a7n)),some (.rol (ks.map D.int)),some m,some (ak i),t8,t9]
structure Met (n:Nat) (met:List Nat):Prop where
 nd:met.Nodup
 lt:∀x∈met,x<n
 z:0∈met
theorem Met.len(M:Met n met):met.length<=n:=BF.a2h n met M.nd M.lt
theorem Met.add(M:Met n met)(hx:x<n)(h:x∉met):Met n (met++[x]):=by
 refine⟨?_,λy hy=>?_,bN _ M.z⟩
 .rw[bZ];refine⟨M.nd,by simp,λa ha b hb=>?_⟩
  rw[av]at hb;subst hb;exact λe=>h (e ▸ ha)
 .rcases b9.mp hy with z|z
  .exact M.lt y z
  .rw[av]at z;subst z;exact hx
section
variable{A B C:SF}{most n:Nat}{tg:List Nat}{many:Int}{rows:List (List Nat)}{ks:List Int}
def Done(rows:List (List Nat))(met:List Nat)(i:Nat):Prop:=∀j,j<i->∀r,met[j]? = some r->∀x∈(rows[r]?).getD [],x∈met
end
theorem aku{l:List Nat}(e:h[i]? = some (.lst (l.map ak)))(z:l.length<64)(em:PySem.W.sortI (cst l)=cst m):a3w [.ref i] h=.ok (.ref h.length) (h++[.lst (m.map ak)]):=by
 have q:=a8d e;unfold a3w;simp only[q];rw[aU (by unfold cst;rw[ax];exact z),em,<-ad7]
theorem akv{m:List Nat}(e:h[i]? = some (.lst (m.map ak)))(hx:x∈m):a70 (.ref i) [ak x] h=.ok (ak (pos m x)) h:=by
 have q:=a8d e;unfold a70;simp only[q,(akt hx).1]
section
variable{A B C:SF}{most n:Nat}{tg:List Nat}{many:Int}{rows:List (List Nat)}{ks:List Int}
abbrev a9x(rows:List (List Nat))(m:List Nat):List (List Nat):=m.map λr=>((rows[r]?).getD []).map (pos m)
abbrev a8f(ks:List Int)(m:List Nat):List Int:=m.map λr=>(ks[r]?).getD 0
theorem akx(P:Src u N)(n32:n<=32)(lr:rows.length=n)(lk:ks.length=n)(t6:tg.length<=6)(rr:∀r∈rows,ahb tg.length n r)(M:Met n met)(cl:∀r∈met,∀x∈(rows[r]?).getD [],x∈met) :
  ∃m:List Nat,m.Perm met/\m.Pairwise (·<=·)/\∃h:Hd,h.take 1=[u]/\toR (di (jj 6 (sA a3w (aa (sV 6) bc)))
   (di (jj 9 (sA ug (aa (sZ (ji (sIt (sV 6)) t1 (uv A B C) [4,6])) bc)))
   (my (sA a0r (aa (sV 2) (aa (sV 9) (aa (sA ug (aa (sZ (ji (sIt (sV 6)) t1 (uw A B C) [5])) bc)) bc)))))) (τT most tg many rows ks (.ref 1) i t8 none) [u,.lst (met.map ak)])=.ok (.tup [.str (S tg),.tup ((a9x rows m).map a1f),.tup ((a8f ks m).map D.int)]) h:=by
 obtain⟨m,em,pm,sm⟩:=a8e met;have ln:=M.len;have lm:m.length=met.length:=pm.length_eq
 let H:Hd:=[u,.lst (met.map ak),.lst (m.map ak)]
 have hc:∀o∈H,a5q H.length o:=by
  intro o ho
  simp only[H,aP,bp,cH]at ho
  rcases ho with rfl|rfl|rfl
  .exact vq (bU _) P.clo
  .exact vq (bU _) (mq _)
  .exact vq (bU _) (mq _)
 have so:a3w [.ref 1] [u,.lst (met.map ak)]=.ok (.ref 2) H:=by
  exact aku (l:=met) rfl (by omega) em
 have rw':∀r∈m,rows[r]? = some ((rows[r]?).getD [])/\ahb tg.length n ((rows[r]?).getD [])/\∀x∈(rows[r]?).getD [],x∈m:=λr hr=>by
  have h1:=M.lt r (pm.mem_iff.mp hr);have e:rows[r]? = some ((rows[r]?).getD []):=by rw[ag (by omega)];rfl
  exact⟨e,rr _ (aW e),λx hx=>pm.mem_iff.mpr (cl r (pm.mem_iff.mp hr) x hx)⟩
 have z1:sZ (ji (sIt (sV 6)) t1 (uv A B C) [4,6]) (τT most tg many rows ks (.ref 2) i t8 none) H=.ok (.rol ((a9x rows m).map a1f)) H:=by
  rw[bV];refine yg (b0y (ck:=λh=>h[2]? = some (.lst (m.map ak))) ak (a1f ∘ λr=>((rows[r]?).getD []).map (pos m)) m rfl (a6h (aq rfl) rfl) (du (by omega)) λr hr=>?_) (g8 λx _=>jx (mq _)) hc
  obtain⟨e1,⟨e2,_⟩,e3⟩:=rw' r hr;rw[u6];unfold uv;have z2:sZ (ji (sIt (s2 gIx (sV 1) (sV 0))) t1 (yx A B C) [2]) (some (ak r)::frs' [4,6] (τT most tg many rows ks (.ref 2) i t8 none)) H=.ok (.rol ((((rows[r]?).getD []).map (pos m)).map ak)) H:=by
   rw[bV];refine yg (p7 ak (ak ∘ pos m) ((rows[r]?).getD []) (a6h (kj (aq rfl) (aq rfl) (apa (y:=a7n ((rows[r]?).getD [])) (by rw[aE,e1];rfl))) rfl) (du (by omega)) λx hx=>?_) (g8 λx _=>dg _) hc
   rw[u6];unfold yx;exact b3z (aq rfl) rfl (arg1 (aq rfl)) (akv rfl (e3 x hx))
  exact qx z2 rfl
 have z3:∀t9:Option D,sZ (ji (sIt (sV 6)) t1 (uw A B C) [5]) (τT most tg many rows ks (.ref 2) i t8 t9) H=.ok (.rol ((a8f ks m).map D.int)) H:=λt9=>by
  rw[bV];refine yg (b0y (ck:=λh=>h[2]? = some (.lst (m.map ak))) ak (D.int ∘ λr=>(ks[r]?).getD 0) m rfl (a6h (aq rfl) rfl) (du (by omega)) λr hr=>?_) (g8 λx _=>dg _) hc
  have h1:=M.lt r (pm.mem_iff.mp hr);have e:ks[r]? = some ((ks[r]?).getD 0):=by rw[ag (by omega)];rfl
  rw[u6];unfold uw;exact kj (aq rfl) (aq rfl) (apa (by rw[aE,e];rfl))
 refine⟨m,pm,sm,H,rfl,?_⟩;refine ets (qx (aq rfl) so) ?_;refine ets (qx z1 (show ug [.rol ((a9x rows m).map a1f)] H=.ok (.tup ((a9x rows m).map a1f)) H from rfl)) ?_
 exact aQ toR (jn (a7h (aq rfl) (aq rfl) (qx (z3 _) (show ug [.rol ((a8f ks m).map D.int)] H=.ok (.tup ((a8f ks m).map D.int)) H from rfl)) b6t))
end
end SRC
namespace K21
open L2 MI
def vh:SE :=
 (s2 (gIn false) (sV 0) (sV 1))
def u5:SS :=
 (my (a0m (sA qw (aa (sV 1) (aa (sC (.ty "str")) bc))) (sA ac8 (aa (sZ (ji (sIt (sV 1)) t1 vh [0])) bc))))
end K21
namespace K23
open L2 MI
def vh:SE :=
 (s2 (gIn false) (sV 0) (sV 1))
def u5:SS :=
 (my (a0m (sA qw (aa (sV 1) (aa (sC (.ty "str")) bc))) (sA ac8 (aa (sZ (ji (sIt (sV 1)) t1 vh [0])) bc))))
def jr:SS :=
 (a1x (sML a7z (sV 6) (aa (s2 gIx (s2 gIx (sV 4) (s2 gIx (sV 6) (s1 a1b (sI 1)))) (sMS a80 (sV 3) (aa (sV 7) bc))) bc)))
def m7:SS :=
 (di (a4l (sV 0) (a0n 3 (dq (kN 3) (dq (kN 4) (dq (kN 5) a0t)))))
 (di (jj 6 (sA a5m (aa (sV 1) bc)))
 (di (a3f (sIt (sV 2)) (kN 7) jr)
 (my (sV 6)))))
end K23
namespace K22
open L2 MI
def qz(bw:SF):SE :=
 (sA (jg false 2 bw) (aa (sV 1) (aa (sV 0) bc)))
def sr(bw:SF):SS :=
 (my (sA ug (aa (sZ (ji (sRg zg (aa (sA vm (aa (s2 gIx (sV 0) (sI 1)) bc)) bc)) t1 (qz bw) [0])) bc)))
def j4:SS :=
 (di (sIf (sT (s2 hNe (s2 gIx (sV 4) (sV 11)) (s1 a1b (sI 1))))
 (my (s2 jb (sV 9) (sV 10)))
 sNx)
 (sIf (sT (s2 (ag8 true) (sV 11) (sV 6)))
 (di (a71 (sC (.bl true)) (sV 6) (sV 11))
 (a1x (sML a7z (sV 5) (aa (sA a0r (aa (sV 11) (aa (s2 jb (sV 9) (sV 10)) bc))) bc))))
 sNx))
def qp:ST :=
 (sT (s2 gLt (sV 7) (sA vm (aa (sV 5) bc))))
def m9:SS :=
 (di (a4l (s2 gIx (sV 5) (sV 7)) (a0n 2 (dq (kN 8) (dq (kN 9) a0t))))
 (di (a3f (acs (sV 2) (s2 gIx (sV 3) (sV 8))) (a0n 2 (dq (kN 10) (dq (kN 11) a0t))) j4)
 (aag 7 a0b (sI 1))))
def vg:SS :=
 (di (a4l (sV 0) (a0n 3 (dq (kN 2) (dq (kN 3) (dq (kN 4) a0t)))))
 (di (jj 5 (sA a5m (aa (sA a0r (aa (sV 1) (aa (sC (.str "")) bc))) bc)))
 (di (jj 6 (s2 gD1 (sV 1) (sC (.bl true))))
 (di (jj 7 (sI 0))
 (di (sWh qp m9 100000)
 (my (sC .non)))))))
def a1l(au:SF):SE :=
 (s2 vp (sV 0) (sC .non))
def a3z(au:SF):SS :=
 (my (sA ug (aa (sZ (ji (sIt (sA (jg false 1 au) (aa (sV 0) bc))) t1 (a1l au) [])) bc)))
end K22
namespace K22
open L2 MI AT HND
section
variable(T:Table)
def stp(r c:Nat):Nat:=(((T.go[r]?).getD [])[c]?).getD 0
def knd(r:Nat):Bool:=decide ((T.ks[r]?).getD (-1) ≠ -1)
def tgA(c:Nat):Nat:=(T.tg[c]?).getD 0
def sgn(w:List Nat):List Nat:=(w.reverse).map (tgA T)
def hit(r0:Nat)(w:List Nat):Prop:=w≠[]/\knd T (BF.walk (stp T) r0 w)=true
end
theorem af2(T:Table)(c:Nat)(w:List Nat):sgn T (c::w)=sgn T w++[tgA T c]:=by simp[sgn]
theorem a9y(T:Table)(w:List Nat):(sgn T w).length=w.length:=by simp[sgn]
section
variable{T:Table}(h:T.Ok)
theorem a6c(h:T.Ok)(r c:Nat):stp T r c<T.go.length:=by
 have h1:=h.n1;unfold stp
 cases e:T.go[r]? with
 |none=>simp;omega
 |some row =>
  simp only[d0]
  cases e2:row[c]? with
  |none=>simp;omega
  |some x=>simp only[d0];exact(h.row row (aW e)).2 x (aW e2)
theorem a9z(h:T.Ok)(hr:r<T.go.length):∀w:List Nat,BF.walk (stp T) r w<T.go.length
 |[]=>hr
 |c::w=>a6c h _ c
theorem af3(h:T.Ok)(hr:r<T.go.length):∃row:List Nat,T.go[r]? = some row/\row.length=T.tg.length/\(∀x∈row,x<T.go.length)/\∀c,c<T.tg.length->row[c]? = some (stp T r c):=by
 refine⟨T.go[r],ag hr,(h.row _ (bL hr)).1,(h.row _ (bL hr)).2,λc hc=>?_⟩;have l:=(h.row _ (bL hr)).1;unfold stp;rw[ag hr,d0,ag (by omega),d0]
theorem aky(h:T.Ok)(hr:r<T.go.length):∃k:Int,T.ks[r]? = some k /\ -1<=k/\knd T r=decide (k ≠ -1):=by
 have l:r<T.ks.length:=by rw[h.kl];exact hr
 refine⟨T.ks[r],ag l,(h.kk _ (bL l)).1,?_⟩;unfold knd;rw[ag l,d0]
theorem agy(hc:c<T.tg.length):T.tg[c]? = some (tgA T c):=by
 unfold tgA;rw[ag hc,d0]
theorem a2i(r0 c:Nat)(p q:List Nat)(e:BF.walk (stp T) r0 p=BF.walk (stp T) r0 q):hit T r0 (c::p)↔hit T r0 (c::q):=by
 unfold hit;simp only[BF.walk,e,ne_eq,List.cons_ne_nil,not_false_eq_true,true_and]
theorem akz(r0:Nat):¬ hit T r0 []:=λz=>z.1 rfl
end
noncomputable def fnd(T:Table)(r0:Nat)(ws:List (List Nat)):List D:=ws.map λw=>.tup [ak (BF.walk (stp T) r0 w),.str (S (sgn T w))]
noncomputable def snn(T:Table)(r0:Nat)(ws:List (List Nat)):List (Key×D):=ws.map λw=>(.inl ((BF.walk (stp T) r0 w:Nat):Int),.bl true)
theorem avt(h:∃v∈ws,BF.walk (stp T) r0 v=to):∃d,a3x (snn T r0 ws) (.inl (to:Int))=some d:=by
 obtain⟨v,hv,e⟩:=h;unfold a3x
 cases e2:(snn T r0 ws).find? λkv=>decide (kv.1=(.inl (to:Int):Key)) with
 |some kv=>exact⟨kv.2,rfl⟩
 |none =>
  rw[cX]at e2;exact absurd (by rw[dX,e]) (e2 _ (bq.mpr ⟨v,hv,rfl⟩))
theorem b0z(h:∀v∈ws,BF.walk (stp T) r0 v≠to):a3x (snn T r0 ws) (.inl (to:Int))=none/\putD (snn T r0 ws) (.inl (to:Int)) (.bl true)=snn T r0 ws++[(.inl (to:Int),.bl true)]:=by
 have no:∀kv∈snn T r0 ws,¬ decide (kv.1=(.inl (to:Int):Key))=true:=λkv hkv=>by
  obtain⟨v,hv,rfl⟩:=bq.mp hkv;rw[dX]
  intro z
  have:=gy z
  exact h v hv (by omega)
 constructor
 .unfold a3x;rw[cX.mpr no];rfl
 .unfold putD;rw[bA]
  intro z
  obtain⟨kv,hkv,e⟩:=bD.mp z;exact no kv hkv e
abbrev tau(T:Table)(r0 l:Nat)(t8 t9 t10 t11:Option D):Sd:=[some T.d,some (ak r0),some (.str (S T.tg)),some (.tup (T.go.map a1f)),some (.tup (T.ks.map D.int)),some (.ref 0),some (.ref 1),some (ak l),t8,t9,t10,t11]
abbrev hp(T:Table)(r0:Nat)(ws:List (List Nat)):Hd:=[.lst (fnd T r0 ws),.dK (snn T r0 ws)]
theorem few(T:Table)(h:T.Ok)(hr:r0<T.go.length)(St:BF.St T.tg.length (stp T) r0 (hit T r0) ws F):ws.length<=T.go.length:=by
 have:=BF.a2h T.go.length (ws.map λw=>BF.walk (stp T) r0 w) (List.pairwise_map.mpr St.dis) λx hx=>by
  obtain⟨w,_,rfl⟩:=bq.mp hx;exact a9z h hr w
 simpa using this
def Won(T:Table)(r0:Nat)(d:D):Prop:=∃w,BF.Ok T.tg.length w/\hit T r0 w/\(∀v,BF.Ok T.tg.length v->hit T r0 v->BF.num T.tg.length w<=BF.num T.tg.length v)/\w.length<=T.go.length/\d=.str (S (sgn T w))
theorem al0{T:Table}(h:T.Ok)(hr:r0<T.go.length)(hl:ws[l]? = some w)(hc:c<T.tg.length)(St:BF.St T.tg.length (stp T) r0 (hit T r0) ws (BF.num T.tg.length w*T.tg.length+c+1))(τ:Sd)
  (hτ:τ=tau T r0 l (some (ak (BF.walk (stp T) r0 w))) (some (.str (S (sgn T w)))) (some (.str (S [tgA T c]))) (some (ak (stp T (BF.walk (stp T) r0 w) c)))) :
  (∃ws',j4 τ (hp T r0 ws)=.nx τ (hp T r0 ws')/\(∀v∈ws,v∈ws')/\ws'[l]? = some w/\BF.St T.tg.length (stp T) r0 (hit T r0) ws' (BF.num T.tg.length w*T.tg.length+(c+1)+1)) \/
  ∃d h',j4 τ (hp T r0 ws)=.rt d h'/\Won T r0 d:=by
 have n32:=h.n32;have fw:=few T h hr St;have ll:=(ah.mp hl).1;have wl:=St.len l w hl;have rl:=a9z h hr w;have wo:BF.Ok T.tg.length (c::w):=BF.Ok.cons hc (St.ok w (aW hl));have sl:=a6c h (BF.walk (stp T) r0 w) c;obtain⟨k,hk,k1,kd⟩:=aky h sl;have add:∀hh,jb (.str (S (sgn T w))) (.str (S [tgA T c])) hh=.ok (.str (S (sgn T (c::w)))) hh:=λhh=>by
  rw[af2];exact a9m (du (by rw[a9y];simp;omega))
 have ki:∀hh,gIx (.tup (T.ks.map D.int)) (ak (stp T (BF.walk (stp T) r0 w) c)) hh=.ok (.int k) hh:=λhh=>a5u (by rw[aE,hk];rfl)
 by_cases hz:k = -1
 .have nh:¬ hit T r0 (c::w):=λz=>by
   have:=z.2
   rw[BF.walk,kd,hz]at this;simp at this
  have s1:∀g:SS,di (sIf (sT (s2 hNe (s2 gIx (sV 4) (sV 11)) (s1 a1b (sI 1)))) (my (s2 jb (sV 9) (sV 10))) sNx) g τ (hp T r0 ws)=g τ (hp T r0 ws):=λg=>by
   subst hτ;exact ifN (t2s (kj (aq rfl) (aq rfl) (ki _)) (a5b ckk (xq _)) (agv hz))
  refine .inl ?_
  by_cases sn:∃v∈ws,BF.walk (stp T) r0 v=stp T (BF.walk (stp T) r0 w) c
  .obtain⟨d,hd⟩:=avt sn;refine⟨ws,?_,λv hv=>hv,hl,St.seen wo rfl nh sn⟩;unfold j4;rw[s1];have q:ag8 true (ak (stp T (BF.walk (stp T) r0 w) c)) (.ref 1) (hp T r0 ws)=.ok (.bl false) (hp T r0 ws):=by
    show(match (some (a3x (snn T r0 ws) (.inl ((stp T (BF.walk (stp T) r0 w) c:Nat):Int))):Option (Option D)) with|some r=>R.ok (D.bl (if true then !r.isSome else r.isSome)) (hp T r0 ws)|none=>.no)=_
    rw[hd];rfl
   subst hτ;exact ifF (t2s (aq rfl) (aq rfl) q)
  .have sn':∀v∈ws,BF.walk (stp T) r0 v≠stp T (BF.walk (stp T) r0 w) c:=λv hv z=>sn ⟨v,hv,z⟩;obtain⟨d1,d2⟩:=b0z sn';refine⟨ws++[c::w],?_,λv hv=>bN _ hv,by rw[aL ll];exact hl,St.add wo rfl nh sn' (by rw[bB];omega)⟩
   unfold j4;rw[s1];have q:ag8 true (ak (stp T (BF.walk (stp T) r0 w) c)) (.ref 1) (hp T r0 ws)=.ok (.bl true) (hp T r0 ws):=by
    show(match (some (a3x (snn T r0 ws) (.inl ((stp T (BF.walk (stp T) r0 w) c:Nat):Int))):Option (Option D)) with|some r=>R.ok (D.bl (if true then !r.isSome else r.isSome)) (hp T r0 ws)|none=>.no)=_
    rw[d1];rfl
   have p:ar0 (.ref 1) (ak (stp T (BF.walk (stp T) r0 w) c)) (.bl true) (hp T r0 ws)=some [.lst (fnd T r0 ws),.dK (snn T r0 (ws++[c::w]))]:=by
    have lt:(snn T r0 ws).length<LINE:=a3e (by unfold snn;rw[ax];omega)
    show(if (snn T r0 ws).length<LINE then some [O.lst (fnd T r0 ws),O.dK (putD (snn T r0 ws) (.inl ((stp T (BF.walk (stp T) r0 w) c:Nat):Int)) (.bl true))] else none)=_
    rw[aU lt,d2];unfold snn;rw[bE];rfl
   subst hτ;refine aN (ifT (t2s (aq rfl) (aq rfl) q)) ?_;refine aN (ue (aki ckk (aq rfl) (aq rfl) p)) ?_;refine aN (a6a (aq rfl) rfl (arg1 (xn (aq rfl) (kj (aq rfl) (aq rfl) (add _)) aha)) (a6b (xs:=fnd T r0 ws) rfl (a3e (by unfold fnd;rw[ax];omega)))) ?_
   unfold hp fnd;rw[bE];rfl
 .refine .inr ⟨_,hp T r0 ws,?_,c::w,wo,⟨by simp,by rw[BF.walk,kd];simpa using hz⟩,λv ov hv=>?_,by rw[bB];omega,rfl⟩
  .subst hτ;unfold j4;exact a1s (ifr (t2s (kj (aq rfl) (aq rfl) (ki _)) (a5b ckk (xq _)) (apb hz)) (kj (aq rfl) (aq rfl) (add _)))
  .exact St.least ov hv
theorem ad8{T:Table}{row:List Nat}(l:row.length=T.tg.length)(at':∀c,c<T.tg.length->row[c]? = some (stp T r c)) :
  ((a0u (S T.tg)).zip (row.map ak)).map (λp=>D.tup [p.1,p.2])=(List.range T.tg.length).map λc=>.tup [.str (S [tgA T c]),ak (stp T r c)]:=by
 refine fO λi=>?_;unfold a0u;rw[a2e]
 by_cases hi:i<T.tg.length
 .have hx:=at' i hi;have ht:=agy (T:=T) hi;rw[aE,aE,bQ hi,cc (z:=(D.str (S [tgA T i]),ak (stp T r i))).mpr ⟨by rw[aE,ht];rfl,by rw[aE,hx];rfl⟩]
  rfl
 .rw[cA (by simp;omega),cA (by simp;omega)]
def bw:SF:=ju vg 12
theorem a2j{T:Table}(h:T.Ok)(hr:r0<T.go.length):∃d h',bw [T.d,ak r0] []=.ok d h'/\(Won T r0 d\/(d=.non/\∀v,BF.Ok T.tg.length v->¬ hit T r0 v)):=by
 have n32:=h.n32;have s1:=h.tong.lo;have s6:=h.tong.hi;have wh:=ajq (c:=qp) (f:=m9)
  (λm τ hh=>∃(ws:List (List Nat)) (l:Nat) (t8 t9 t10 t11:Option D),τ=tau T r0 l t8 t9 t10 t11/\hh=hp T r0 ws/\[]∈ws/\m=T.go.length-l/\ws.length<=T.go.length/\((∃w,ws[l]? = some w/\BF.St T.tg.length (stp T) r0 (hit T r0) ws (BF.num T.tg.length w*T.tg.length+1))\/(l=ws.length/\∀v,BF.Ok T.tg.length v->¬ hit T r0 v)))
  (λ_ _=>∀v,BF.Ok T.tg.length v->¬ hit T r0 v) (λd _=>Won T r0 d) ?_ T.go.length 100000 (tau T r0 0 none none none none) (hp T r0 [[]]) (by omega)
  ⟨[[]],0,none,none,none,none,rfl,rfl,by simp,by simp,by simpa using h.n1,.inl ⟨[],rfl,by simpa[BF.num] using BF.St.start (akz r0)⟩⟩
 .have e0:bw [T.d,ak r0] []=toR (di (sWh qp m9 100000) (my (sC .non)) (tau T r0 0 none none none none) (hp T r0 [[]])):=by
   unfold bw;rw[dh];show toR (vg [some T.d,some (ak r0),none,none,none,none,none,none,none,none,none,none] [])=_;unfold vg;refine aQ toR ?_;refine aN (ue (a4b (aq rfl) rfl)) ?_;refine aN (nj (qx (xn (aq rfl) ckk aha) rfl)) ?_;refine aN (nj (a0l rfl rfl)) ?_;exact aN (nj ckk) rfl
  rcases wh with⟨τ',h',e,no⟩|⟨d,h',e,won⟩
  .exact⟨.non,h',by rw[e0,ue e];rfl,.inr ⟨rfl,no⟩⟩
  .exact⟨d,h',by rw[e0,a1s e];rfl,.inl won⟩
 .rintro m τ hh ⟨ws,l,t8,t9,t10,t11,rfl,rfl,em,rfl,wn,q⟩
  have ln:vm [.ref 0] (hp T r0 ws)=.ok (.int (ws.length:Nat)) (hp T r0 ws):=by
   have:=a9t (h:=hp T r0 ws) (i:=0) (xs:=fnd T r0 ws) rfl
   rwa[show(fnd T r0 ws).length=ws.length from by simp[fnd]]at this
  rcases q with⟨w,hw,St⟩|⟨rfl,no⟩
  .have ll:=(ah.mp hw).1;refine .inr ⟨_,t2s (aq rfl) (qx (aq rfl) ln) (arc (by omega)),?_⟩
   obtain⟨row,er,lr,lx,at'⟩:=af3 h (a9z h hr w);have lo:=a2b (g:=a0n 2 (dq (kN 10) (dq (kN 11) a0t))) (b:=j4) (λc:Nat=>D.tup [.str (S [tgA T c]),ak (stp T (BF.walk (stp T) r0 w) c)])
    (λpre τ hh=>∃(ws:List (List Nat)) (t10 t11:Option D),τ=tau T r0 l (some (ak (BF.walk (stp T) r0 w))) (some (.str (S (sgn T w)))) t10 t11/\hh=hp T r0 ws/\[]∈ws/\ws[l]? = some w/\BF.St T.tg.length (stp T) r0 (hit T r0) ws (BF.num T.tg.length w*T.tg.length+pre.length+1))
    (λd _=>Won T r0 d) (List.range T.tg.length) [] (tau T r0 l (some (ak (BF.walk (stp T) r0 w))) (some (.str (S (sgn T w)))) t10 t11) (hp T r0 ws) ?_ ⟨ws,t10,t11,rfl,rfl,em,hw,St⟩
   .have fx:gIx (.ref 0) (ak l) (hp T r0 ws)=.ok (.tup [ak (BF.walk (stp T) r0 w),.str (S (sgn T w))]) (hp T r0 ws):=a3m (xs:=fnd T r0 ws) rfl (by unfold fnd;rw[aE,hw];rfl)
    have zi:acs (sV 2) (s2 gIx (sV 3) (sV 8)) (tau T r0 l (some (ak (BF.walk (stp T) r0 w))) (some (.str (S (sgn T w)))) t10 t11) (hp T r0 ws)=.ok ⟨(List.range T.tg.length).map λc=>.tup [.str (S [tgA T c]),ak (stp T (BF.walk (stp T) r0 w) c)],λ_=>True⟩ (hp T r0 ws):=by
     unfold acs;rw[aq rfl,az,kj (aq rfl) (aq rfl) (a5u (by rw[aE,er];rfl)),az,<-ad8 lr at']
     unfold auj;simp only[srcOf,and_self]
    have e1:∀g:SS,di (a4l (s2 gIx (sV 5) (sV 7)) (a0n 2 (dq (kN 8) (dq (kN 9) a0t)))) (di (a3f (acs (sV 2) (s2 gIx (sV 3) (sV 8))) (a0n 2 (dq (kN 10) (dq (kN 11) a0t))) j4) g) (tau T r0 l t8 t9 t10 t11) (hp T r0 ws)=thn (forL (λ_=>True) (a0n 2 (dq (kN 10) (dq (kN 11) a0t))) j4 ((List.range T.tg.length).map λc=>.tup [.str (S [tgA T c]),ak (stp T (BF.walk (stp T) r0 w) c)]) (tau T r0 l (some (ak (BF.walk (stp T) r0 w))) (some (.str (S (sgn T w)))) t10 t11) (hp T r0 ws)) g:=λg=>by
     refine aN (ue (a4b (kj (aq rfl) (aq rfl) fx) rfl)) ?_;exact a2g zi
    rcases lo with⟨τ',h',e2,ws',t10',t11',rfl,rfl,em',hw',St'⟩|⟨d,h',e2,won⟩
    .rw[cy,b6]at St';have wn':=few T h hr St';have ll':=(ah.mp hw').1;refine .inl ⟨tau T r0 (l+1) (some (ak (BF.walk (stp T) r0 w))) (some (.str (S (sgn T w)))) t10' t11',hp T r0 ws',T.go.length-(l+1),?_,by omega,ws',l+1,_,_,_,_,rfl,rfl,em',rfl,wn',?_⟩
     .unfold m9;rw[e1,e2,a0x];exact abr rfl ckk a1e
     .by_cases more:l+1<ws'.length
      .exact .inl ⟨ws'[l+1],ag more,St'.next (by omega) hw' (ag more) (a2i r0)⟩
      .exact .inr ⟨by omega,λv ov=>(St'.all hw' (by omega) (akz r0) em' (a2i r0) v ov).1⟩
    .refine .inr ⟨d,h',?_,won⟩;unfold m9;rw[e1,e2,abd]
   .rintro pre c post τ hh all ⟨ws,t10,t11,rfl,rfl,em,hw,St⟩
    rw[cy]at all;obtain⟨hi,hc⟩:=vf all;rw[<-hi]at St;refine⟨_,_,rfl,?_⟩
    rcases al0 h hr hw hc St _ rfl with⟨ws',e3,sb,hw',St'⟩|⟨d,h',e3,won⟩
    .refine .inl ⟨_,_,e3,ws',_,_,rfl,rfl,sb _ em,hw',by rw[aw,aM,<-hi];exact St'⟩
    .exact .inr ⟨d,h',e3,won⟩
  .refine .inl ⟨_,t2s (aq rfl) (qx (aq rfl) ln) (ard (by omega)),no⟩
section
variable{T:Table}
abbrev FL(T:Table)(k r:Nat):Bool:=BF.fl T.tg.length (stp T) (knd T) k r
theorem b11(h:T.Ok)(hr:r<T.go.length):T.go[r]? = some ((List.range T.tg.length).map (stp T r)):=by
 obtain⟨row,e,l,_,at'⟩:=af3 h hr;rw[e]
 congr 1
 refine fO λi=>?_
 by_cases hi:i<T.tg.length
 .rw[at' i hi,aE,bQ hi];rfl
 .rw[cA (by omega),cA (by simp;omega)]
def kI(T:Table)(r:Nat):Int:=(T.ks[r]?).getD (-1)
abbrev b53(T:Table)(r:Nat):D:=a1f ((List.range T.tg.length).map (stp T r))
theorem avu{α:Type}(l:List α)(x:α):atI (l++[x]) (-1)=some x:=by
 have:ixN (l++[x]).length (-1)=some l.length:=by
  unfold ixN;rw[bA (by decide),aw,aM]
  rw[aU (by omega)]
  congr 1
  omega
 unfold atI;rw[this];simp
end
section
variable{T:Table}
def ape(T:Table)(r:Nat):Option Nat:=(List.range T.go.length).find? λi=>FL T (1+i) r
def gtx(T:Table)(k r:Nat):List Nat:=(BF.gre T.tg.length (stp T) (knd T) k r).map (tgA T)
def A(T:Table)(r:Nat):D:=match ape T r with|none=>.non|some i=>.str (S (gtx T (1+i) r))
theorem al2(h:T.Ok)(w:Won T r d\/(d=.non/\∀v,BF.Ok T.tg.length v->¬ hit T r v)):d=A T r:=by
 have s1:=h.tong.lo;unfold A
 rcases w with⟨w,wo,wh,wl,wn,rfl⟩|⟨rfl,no⟩
 .have w1:w.length≠0:=λz=>wh.1 (fD.mp z);have fw:FL T w.length r=true:=by
   have:=BF.apd (s:=T.tg.length) (step:=stp T) (K:=knd T) (u:=w.reverse) (r:=r) (by rw[dH];exact wo) (by rw[dH];exact wh.2)
   rwa[eJ]at this
  cases e:ape T r with
  |none =>
   unfold ape at e;rw[cX]at e;have:=e (w.length-1) (by rw[aY];omega)
   rw[show 1+(w.length-1)=w.length by omega]at this
   exact absurd fw this
  |some i =>
   unfold ape at e;obtain⟨fi,hi,lo⟩:=eD.mp e;obtain⟨gl,go,gh⟩:=BF.abu fi;have ghit:hit T r (BF.gre T.tg.length (stp T) (knd T) (1+i) r).reverse:=⟨λz=>by
    have:=aQ List.length z
    simp[gl]at this,gh⟩
   have le:1+i<=w.length:=by
    refine fq λz=>?_;have:=lo (w.length-1) (by omega)
    rw[show 1+(w.length-1)=w.length by omega,fw]at this
    simp at this
   have n1:=wl _ go ghit;have eq:w.length=1+i:=by
    refine Nat.le_antisymm (fq λz=>?_) le;have:=BF.a8c (s:=T.tg.length) (by omega) (x:=(BF.gre T.tg.length (stp T) (knd T) (1+i) r).reverse) (y:=w) (by rw[eJ,gl];exact z) go
    omega
   have n2:=BF.abv (s:=T.tg.length) (step:=stp T) (K:=knd T) (u:=w.reverse) (r:=r) (by rw[dH];exact wo) (by rw[dH];exact wh.2)
   rw[eJ,dH,eq]at n2;have:=BF.a9u wo go (by omega)
   dsimp only;unfold gtx sgn
   conv=>lhs;rw[this,dH]
 .cases e:ape T r with
  |none=>rfl
  |some i =>
   unfold ape at e;obtain⟨fi,hi,lo⟩:=eD.mp e;obtain⟨gl,go,gh⟩:=BF.abu fi;exact(no _ go ⟨λz=>by
    have:=aQ List.length z
    simp[gl]at this,gh⟩).elim
theorem avv(n r:Nat):clo n (A T r):=by
 unfold A
 cases ape T r with
 |none=>exact a0c
 |some i=>exact gq _
theorem b12{n:Nat}(d:D)(hd:clo 0 d):∀x∈[T.d,d],clo 0 x:=by
 intro x hx
 simp only[aP,bp,cH]at hx
 rcases hx with rfl|rfl
 .exact Table.clo
 .exact hd
theorem abw(h:T.Ok)(hr:r<T.go.length):Pu bw 2 [T.d,ak r] (A T r):=by
 obtain⟨d,h',e,q⟩:=a2j h hr;have:=al2 h q;subst this;exact Pu.of rfl (b12 (n:=0) _ (dg _)) e (gf (avv _ _) (by simp)) (avv _ _)
theorem ark(h:T.Ok)(hr:r<T.go.length)(hh:Hd):gIx (.tup (T.go.map a1f)) (ak r) hh=.ok (b53 T r) hh:=a5u (by rw[aE,b11 h hr];rfl)
end
end K22
namespace K23
open L2 MI AT HND K22
section
variable{T:Table}
def Pln:D->Prop
 |.non=>True|.bl _=>True|.int _=>True|.str x=>x.cps.toList.length<=1000|.tup xs=>clos 0 xs|.rol xs=>clos 0 xs|.rod _ xs=>clos 0 xs|_=>False
theorem Pln.clo(p:Pln d):clo 0 d:=by
 cases d<;>first|(simp only[Pln]at p;done)|(simp only[Pln]at p;simpa[MI.clo] using p)|simp[MI.clo]
def isStr:D->Bool|.str _=>true|_=>false
def isTup:D->Bool|.tup _=>true|_=>false
theorem b13(p:Pln d):qw [d,.ty "str"] h=.ok (.bl (isStr d)) h:=by
 cases d<;>first|(simp only[Pln]at p;done)|simp[qw,ah8,tyD,aee,isStr]
theorem apf(p:Pln d):qw [d,.ty "tuple"] h=.ok (.bl (isTup d)) h:=by
 cases d<;>first|(simp only[Pln]at p;done)|simp[qw,ah8,tyD,aee,isTup]
def psn(T:Table)(c:Nat):Nat:=(a4k (S T.tg) c).toNat
def ldw(T:Table)(r:Nat):List Nat->Nat
 |[]=>r
 |c::l=>ldw T (stp T r (psn T c)) l
theorem a8g(hc:c∈T.tg):a4k (S T.tg) c=(psn T c:Nat)/\psn T c<T.tg.length:=by
 obtain⟨i,e1,e2,_⟩:=a8y (T:=S T.tg) (c:=c) (by rw[a2e];exact hc)
 rw[a2e]at e2;unfold psn;rw[e1];exact⟨by simp,by simpa using (ah.mp e2).1⟩
theorem a5d(h:T.Ok):∀(l:List Nat) {r:Nat},r<T.go.length->ldw T r l<T.go.length
 |[],_,hr=>hr
 |c::l,r,_=>a5d h l (a6c h r _)
theorem a2k(c:Nat):∀(l:List Nat) (r:Nat),ldw T r (l++[c])=stp T (ldw T r l) (psn T c)
 |[],_=>rfl
 |d::l,r=>a2k c l _
theorem b0v(l:List Nat)(h:Hd):ank (.str (S l)) h=.ok ⟨l.map λc=>.str (S [c]),λ_=>True⟩ h:=by
 show R.ok (⟨a0u (S l),λ_=>True⟩:Itm) _=_;unfold a0u;rw[a2e]
theorem b14(hc:c∈T.tg)(h:Hd):aiw (.str (S T.tg)) [.str (S [c])] h=.ok (ak (psn T c)) h:=by
 show R.ok (D.int (a4k (S T.tg) c)) h=_;rw[(a8g hc).1]
theorem avw(hc:c∈T.tg)(h:Hd):a80 (.str (S T.tg)) [.str (S [c])] h=.ok (ak (psn T c)) h:=by
 show(if c∈(S T.tg).cps.toList then R.ok (D.int (a4k (S T.tg) c)) h else .no)=_
 rw[aU (by rw[a2e];exact hc),(a8g hc).1]
theorem b44(e1:f τ h=.ok (.str z) h1)(e2:k τ h1=.ok ds h2)(e3:g (.str z) ds h2=.ok v h3):sMS g f k τ h=.ok v h3:=by
 unfold sMS;rw[e1,az];dsimp only;rw[e2,az,e3]
theorem b15(h:T.Ok)(hc:c<T.tg.length)(hh:Hd):gIx (b53 T r) (ak c) hh=.ok (ak (stp T r c)) hh:=a5u (by rw[aE,aE,bQ hc];rfl)
theorem b16(hd:clo 0 d)(he:clo 0 e):∀x∈[T.d,d,e],clo 0 x:=by
 intro x hx
 simp only[aP,bp,cH]at hx
 rcases hx with rfl|rfl|rfl
 .exact Table.clo
 .exact hd
 .exact he
def dw:SF:=ju m7 8
noncomputable def rms(T:Table)(r:Nat)(l:List Nat):List Nat:=(List.range (l.length+1)).map λi=>ldw T r (l.take i)
theorem apg(r c:Nat)(l:List Nat):rms T r (l++[c])=rms T r l++[ldw T r (l++[c])]:=by
 unfold rms;rw[aw,aM,gB (n:=l.length+1),bE,eQ]
 congr 1
 .refine cS λi hi=>?_;rw[aY]at hi;rw[cQ (by omega)]
 .rw[bP (by simp)]
theorem aph(r:Nat)(l:List Nat):∃p,rms T r l=p++[ldw T r l]:=by
 unfold rms;rw[gB,bE,eQ];exact⟨_,by rw[bP (ay _)]⟩
theorem aa0(h:T.Ok)(hr:r<T.go.length)(hl:∀c∈l,c∈T.tg)(ll:l.length<=1000):Pu dw 3 [T.d,ak r,.str (S l)] (.rol ((rms T r l).map ak)):=by
 refine Pu.of rfl (b16 (dg _) (gq _)) (r:=.ok (.ref 0) [.lst ((rms T r l).map ak)]) ?_ (a4t (ay _) rfl (mq _) (by simp)) (a03 (mq _))
 unfold dw;rw[dh];show toR (m7 [some T.d,some (ak r),some (.str (S l)),none,none,none,none,none] [])=_;unfold m7;refine etr (ue (a4b (aq rfl) rfl)) ?_;refine etr (nj (d:=.ref 0) (h1:=[.lst ((rms T r []).map ak)]) rfl) ?_;refine etr (a2g (a6h (aq rfl) (b0v l _))) ?_;have lp:=o7 (g:=kN 7) (b:=jr) (λc:Nat=>D.str (S [c]))
  (λpre τ hh=>∃t7:Option D,τ=[some T.d,some (ak r),some (.str (S l)),some (.str (S T.tg)),some (.tup (T.go.map a1f)),some (.tup (T.ks.map D.int)),some (.ref 0),t7]/\hh=[.lst ((rms T r pre).map ak)]) l
  [some T.d,some (ak r),some (.str (S l)),some (.str (S T.tg)),some (.tup (T.go.map a1f)),some (.tup (T.ks.map D.int)),some (.ref 0),none] [.lst ((rms T r []).map ak)] ?_ ⟨none,rfl,rfl⟩
 .obtain⟨τ',h',e,t7,rfl,rfl⟩:=lp;refine aN (aQ (λz=>toR (thn z _)) e) ?_;rfl
 .rintro pre c post τ hh all ⟨t7,rfl,rfl⟩
  have hc:=hl c (by rw[all];simp)
  have pl:pre.length<=l.length:=by rw[all];simp
  refine⟨_,_,rfl,[some T.d,some (ak r),some (.str (S l)),some (.str (S T.tg)),some (.tup (T.go.map a1f)),some (.tup (T.ks.map D.int)),some (.ref 0),some (.str (S [c]))],[.lst ((rms T r (pre++[c])).map ak)],?_,_,rfl,rfl⟩;unfold jr;obtain⟨p,ep⟩:=aph (T:=T) r pre;have last:∀hh:Hd,hh[0]? = some (.lst ((rms T r pre).map ak))->gIx (.ref 0) (.int (-1)) hh=.ok (ak (ldw T r pre)) hh:=λhh e0=>by
   rw[a8a];unfold a1y;simp only[e0];rw[ep,bE,eQ,avu]
  refine aN (a6a (v:=.non) (aq rfl) rfl (arg1 (kj (kj (aq rfl) (kj (aq rfl) (a5b ckk (xq _)) (last _ rfl)) (ark h (a5d h pre hr) _)) (b44 (aq rfl) (arg1 (aq rfl)) (avw hc _)) (b15 h (a8g hc).2 _))) (a6b (xs:=(rms T r pre).map ak) rfl (a3e (by simp[rms];omega)))) ?_
  rw[apg,bE,a2k];rfl
def ph:SF:=ju u5 2
def inT(T:Table)(l:List Nat):Bool:=l.all λc=>decide (c∈T.tg)
theorem al3(bs:List Bool)(h:Hd):ac8 [.rol (bs.map D.bl)] h=.ok (.bl (bs.all id)) h:=by
 unfold ac8;simp only[aef]
theorem api{l:List Nat}(ll:l.length<=1000)(hce:∀c:Nat,ce [some (.str (S [c])),some (.str (S T.tg))] []=.ok (.bl (decide (c∈T.tg))) [])(h1:τ[1]? = some (some (.str (S l))))(h0:τ[0]? = some (some (.str (S T.tg)))) :
  sA ac8 (aa (sZ (ji (sIt (sV 1)) t1 ce [0])) bc) τ []=.ok (.bl (inT T l)) []:=by
 have cz:sZ (ji (sIt (sV 1)) t1 ce [0]) τ []=.ok (.rol ((l.map λc=>decide (c∈T.tg)).map D.bl)) []:=by
  rw[bV];refine yg (p7 (λc:Nat=>D.str (S [c])) (λc=>.bl (decide (c∈T.tg))) l (a6h (aq h1) (b0v l _)) (du (by omega)) λc _=>?_) (g8 λc _=>jw _) (by simp)
  rw[u6,a2f,a9s,h0];exact hce c
 refine qx cz ?_;rw[al3]
 congr 2
 unfold inT;rw[fS];rfl
theorem avx(c:Nat)(h:Hd):gIn false (.str (S [c])) (.str (S T.tg)) h=.ok (.bl (decide (c∈T.tg))) h:=by
 show R.ok (D.bl (decide (c∈(S T.tg).cps.toList))) h=_;rw[a2e]
theorem al4{l:List Nat}(ll:l.length<=1000):Pu ph 2 [.str (S T.tg),.str (S l)] (.bl (inT T l)):=by
 refine Pu.of rfl (by intro x hx;simp only[aP,bp,cH]at hx;rcases hx with rfl|rfl<;>exact gq _) (r:=.ok (.bl (inT T l)) []) ?_ (gf (jw _) (by simp)) (jw _)
 unfold ph;rw[dh];show toR (u5 [some (.str (S T.tg)),some (.str (S l))] [])=_;unfold u5;exact aQ toR (jn (akh (xn (aq rfl) ckk (b13 (d:=.str (S l)) (by simp only[Pln,a2e];exact ll))) (api ll (λc=>kj (aq rfl) (aq rfl) (avx c _)) rfl rfl)))
theorem b45(e:f τ h=.ok (.bl false) h1):a0m f k τ h=.ok (.bl false) h1:=by unfold a0m;rw[e,az]
theorem al5(p:Pln d)(ns:isStr d=false):Pu ph 2 [.str (S T.tg),d] (.bl false):=by
 refine Pu.of rfl (by intro x hx;simp only[aP,bp,cH]at hx;rcases hx with rfl|rfl;exact gq _;exact p.clo) (r:=.ok (.bl false) []) ?_ (gf (jw _) (by simp)) (jw _)
 unfold ph;rw[dh];show toR (u5 [some (.str (S T.tg)),some d] [])=_;unfold u5;exact aQ toR (jn (b45 (xn (aq rfl) ckk (by rw[b13 p,ns]))))
end
end K23
namespace K21
open L2 MI AT HND K22 K23 EVX
section
variable{T:Table}
def ph:SF:=ju u5 2
def txt(T:Table):D->Bool
 |.str x=>inT T x.cps.toList
 |_=>false
theorem agz(l:List Nat):txt T (.str (S l))=inT T l:=by simp only[txt,a2e]
theorem ah0(p:Pln d):Pu ph 2 [.str (S T.tg),d] (.bl (txt T d)):=by
 by_cases sd:isStr d=true
 .obtain⟨x,rfl⟩:∃x,d=.str x:=by cases d<;>first|exact⟨_,rfl⟩|(simp[isStr]at sd)
  have ll:x.cps.toList.length<=1000:=p;rw[<-ap6 x]at ll ⊢;rw[a2e]at ll;rw[agz];exact K23.al4 ll
 .have sd':isStr d=false:=by simpa using sd
  have:txt T d=false:=by cases d<;>first|rfl|(simp[isStr]at sd)
  rw[this];exact K23.al5 p sd'
theorem a7g(ha:MI.clo 0 a)(hb:MI.clo 0 b):∀x∈[a,b],MI.clo 0 x:=by
 intro x hx
 simp only[aP,bp,cH]at hx
 rcases hx with rfl|rfl
 .exact ha
 .exact hb
theorem a3o(ha:MI.clo 0 a)(hb:MI.clo 0 b)(hc:MI.clo 0 c):∀x∈[a,b,c],MI.clo 0 x:=by
 intro x hx
 simp only[aP,bp,cH]at hx
 rcases hx with rfl|rfl|rfl
 .exact ha
 .exact hb
 .exact hc
theorem al6(h:Hd):gIx T.d (.int 2) h=.ok (.tup (T.ks.map D.int)) h:=a5u (j:=2) rfl
theorem b46{l:List Nat}(ll:l.length<=1000):Pln (.str (S l)):=by simp only[Pln,a2e];exact ll
theorem a8h(h:T.Ok)(hr:r<T.go.length)(hh:Hd):gIx (.tup (T.ks.map D.int)) (ak r) hh=.ok (.int (kI T r)) hh:=by
 obtain⟨k,e,_⟩:=aky h hr;exact a5u (by rw[aE,e];simp[kI,e])
end
section
variable{T:Table}
abbrev ones(t:List Nat):List D:=t.map λc=>.str (S [c])
theorem join_ones:∀t:List Nat,Txt.join (S []) (t.map λc=>S [c])=S t:=by
 have e:∀zs:List Str,Txt.join (S []) zs=Str.join (S []) zs:=PySem.StrLaws.glued_eq_join (S []);have st:∀(x y:Str) (r:List Str),Str.join (S []) (x::y::r)=x++S []++Str.join (S []) (y::r):=λ_ _ _=>rfl
 intro t
 rw[e]
 induction t with
 |nil=>rfl
 |cons a t ih =>
  cases t with
  |nil=>rfl
  |cons b t =>
   rw[bg,bg,st,show S [b]::t.map (λc=>S [c])=(b::t).map (λc=>S [c]) from rfl,ih,avp,avp]
   rfl
theorem abx:∀t:List Nat,acr (ones t)=some (t.map λc=>S [c])
 |[]=>rfl
 |a::t=>by
  show(acr (ones t)).map _=_;rw[abx t];rfl
theorem apj(t:List Nat):((t.map λc=>S [c]).map (·.length)).sum=t.length:=by
 induction t with
 |nil=>rfl
 |cons a t ih=>rw[bg,bg,List.sum_cons,ih,ad5,bB];simp;omega
theorem al7{t:List Nat}(z:t.length<=1000000):aiy (.str (S [])) [.rol (ones t)] h=.ok (.str (S t)) h:=by
 unfold aiy;simp only[abx,apj,ad5,e9,Nat.mul_zero,Nat.add_zero,join_ones];rw[aU (by omega)]
theorem b6z{h h':Hd}(hl:h'.length=h.length)(e:f τ h=.ok (.ref h'.length) (h'++[.lst xs]))(cx:clos h.length xs)(c:∀o∈h',a5q h.length o):sZ f τ h=.ok (.rol xs) h':=by
 unfold sZ;rw[e,a4t (by omega) (by simp) cx (by rw[<-hl];simpa[hl] using c)]
 rw[<-hl];simp
theorem al8(e:f τ h=.ok (.int i) h1):oS f τ h=.ok (some i) h1:=by unfold oS;rw[e];rfl
theorem al9(e:f τ h=.ok d h1)(e1:lo τ h1=.ok a h2)(e2:hi τ h2=.ok b h3)(e3:ami d a b h3=.ok v h4):a6z f lo hi τ h=.ok v h4:=by
 unfold a6z;rw[e,az,e1,az,e2,az,e3]
theorem apk(n:Nat)(l:List Nat):clos n (ones l):=g8 λc _=>gq _
theorem b17(c:Nat)(t:List Nat)(h:Hd):gIn true (.str (S [c])) (.str (S t)) h=.ok (.bl (!decide (c∈t))) h:=by
 show R.ok (D.bl (!decide (c∈(S t).cps.toList))) h=_;rw[a2e]
end
end K21
namespace SRC
open L2 MI AT HND EVX K22 K23 K21
section
variable{T:Table}
def rm(T:Table)(l:List Nat)(k:Nat):Nat:=ldw T 0 (l.take k)
noncomputable def best(T:Table)(a:Nat)(l:List Nat):Nat->D
 |0=>.non
 |k+1=>if kI T (rm T l k) = -1 then best T a l k else .tup [.int (kI T (rm T l k)),ak (a+k)]
theorem aby(e:kI T (rm T l k) = -1):best T a l (k+1)=best T a l k:=aU e
theorem a7i(e:¬ kI T (rm T l k) = -1):best T a l (k+1)=.tup [.int (kI T (rm T l k)),ak (a+k)]:=bA e
theorem kI0(h:T.Ok):kI T 0 = -1:=by unfold kI;rw[h.k0];rfl
theorem b47(h:T.Ok)(a:Nat)(l:List Nat):best T a l 1=.non:=by
 show(if kI T (rm T l 0) = -1 then best T a l 0 else _)=_
 rw[aU (show kI T (rm T l 0) = -1 from kI0 h)]
 rfl
theorem ad9(h:T.Ok)(l:List Nat)(k:Nat):rm T l k<T.go.length:=a5d h _ h.n1
theorem ala(e:l[k]? = some c):rm T l (k+1)=stp T (rm T l k) (psn T c):=by
 unfold rm;rw[iW,e];exact a2k c _ _
theorem alb(a:Nat)(l:List Nat):∀k,best T a l k=.non\/∃x y:Int,best T a l k=.tup [.int x,.int y]
 |0=>.inl rfl
 |k+1=>by
  unfold best
  split
  .exact alb a l k
  .exact .inr ⟨_,_,rfl⟩
theorem a5e(a:Nat)(l:List Nat)(k:Nat):MI.clo 0 (best T a l k):=by
 rcases alb (T:=T) a l k with e|⟨x,y,e⟩<;>rw[e]
 .exact a0c
 .exact jx (dz (dg _) (dz (dg _) o6))
def cj:SF:=ju SRC.a0f 6
theorem a3h(h:T.Ok)(ht:∀c∈x,c∈T.tg)(xl:x.length<=1000)(al:a<=x.length):Pu SRC.cj 3 [T.d,.str (S x),ak a] (best T a (x.drop a) (x.length-a+1)):=by
 refine Pu.of rfl (a3o Table.clo (gq _) (dg _)) (r:=.ok (best T a (x.drop a) (x.length-a+1)) []) ?_ (gf (a5e _ _ _) (by simp)) (a5e _ _ _)
 unfold SRC.cj;rw[dh];show toR (SRC.a0f [some T.d,some (.str (S x)),some (ak a),none,none,none] [])=_;unfold SRC.a0f;refine etr (nj ckk) ?_;refine etr (nj ckk) ?_;refine etr (a2g (a9r (a:=a) (n:=x.length) (aq rfl) (qx (aq rfl) (ags (du (by omega)))) (du (by omega)) (du (by omega)))) ?_
 have lp:=o7 (g:=kN 5) (b:=SRC.ux) (λi:Nat=>D.int ((a+i:Nat)))
  (λpre τ hh=>∃t5:Option D,τ=[some T.d,some (.str (S x)),some (ak a),some (ak (rm T (x.drop a) pre.length)),some (best T a (x.drop a) (pre.length+1)),t5]/\hh=[])
  (List.range (x.length-a)) [some T.d,some (.str (S x)),some (ak a),some (ak 0),some .non,none] [] ?_ ⟨none,by rw[e9,b47 h];rfl,rfl⟩
 .obtain⟨τ',h',e,t5,rfl,rfl⟩:=lp;refine aN (aQ (λz=>toR (MI.thn z _)) e) ?_;rw[a0x,b6];exact aQ toR (jn (aq rfl))
 .rintro pre i post τ hh all ⟨t5,rfl,rfl⟩
  obtain⟨hi,hk⟩:=vf all;have ek:(x.drop a)[pre.length]? = some (x[a+i]'(by omega)):=by rw[gP,<-hi,ag (by omega)]
  have ec:x[a+i]? = some (x[a+i]'(by omega)):=ag (by omega)
  have hc:=ht _ (aW ec)
  generalize x[a+i]'(by omega)=c at ek ec hc
  have rl:=ad9 h (x.drop a) pre.length;have r2:=ad9 h (x.drop a) (pre.length+1);rw[aw,aM];have st:s2 gIx (s2 gIx (s2 gIx (sV 0) (sI 1)) (sV 3)) (sMS aiw (s2 gIx (sV 0) (sI 0)) (aa (s2 gIx (sV 1) (sV 5)) bc)) [some T.d,some (.str (S x)),some (ak a),some (ak (rm T (x.drop a) pre.length)),some (best T a (x.drop a) (pre.length+1)),some (.int ((a+i:Nat)))] []=.ok (ak (rm T (x.drop a) (pre.length+1))) []:=by
   rw[ala ek];exact kj (kj (a0l rfl (a5u (j:=1) rfl)) (aq rfl) (ark h rl _)) (b44 (a0l rfl (a5u (j:=0) rfl)) (arg1 (kj (aq rfl) (aq rfl) (b3u (du (by omega)) ec))) (b14 hc _)) (b15 h (a8g hc).2 _)
  have kg:∀τ:Sd,τ[0]? = some (some T.d)->τ[3]? = some (some (ak (rm T (x.drop a) (pre.length+1))))->s2 gIx (s2 gIx (sV 0) (sI 2)) (sV 3) τ []=.ok (.int (kI T (rm T (x.drop a) (pre.length+1)))) []:=λτ h0 h3=>kj (kj (aq h0) ckk (al6 _)) (aq h3) (a8h h r2 _);obtain⟨kv,ke,k1,k2⟩:=aky h r2;have kx:kI T (rm T (x.drop a) (pre.length+1))=kv:=by unfold kI;rw[ke];rfl
  by_cases hm:kI T (rm T (x.drop a) (pre.length+1)) = -1
  .refine⟨_,_,rfl,[some T.d,some (.str (S x)),some (ak a),some (ak (rm T (x.drop a) (pre.length+1))),some (best T a (x.drop a) (pre.length+1)),some (.int ((a+i:Nat)))],[],?_,_,by rw[aby (k:=pre.length+1) hm],rfl⟩
   unfold SRC.ux;refine aN (nj st) ?_;refine aN (ifF (t2s (kg _ rfl rfl) ckk (show gGe (.int (kI T (rm T (x.drop a) (pre.length+1)))) (.int 0) []=.ok (.bl false) [] by rw[hm];rfl))) rfl
  .refine⟨_,_,rfl,[some T.d,some (.str (S x)),some (ak a),some (ak (rm T (x.drop a) (pre.length+1))),some (.tup [.int (kI T (rm T (x.drop a) (pre.length+1))),.int ((a+i:Nat)+1)]),some (.int ((a+i:Nat)))],[],?_,some (.int ((a+i:Nat))),?_,rfl⟩
   .unfold SRC.ux;refine aN (nj st) ?_;refine aN (ifT (t2s (kg _ rfl rfl) ckk (show gGe (.int (kI T (rm T (x.drop a) (pre.length+1)))) (.int 0) []=.ok (.bl true) [] by
     show R.ok (D.bl (decide ((0:Int)<=kI T (rm T (x.drop a) (pre.length+1))))) []=_;rw[aK (by omega)]))) ?_
    exact avr (xn (kg _ rfl rfl) (a0l rfl ye) aha)
   .rw[a7i (k:=pre.length+1) hm,hi];rfl
def bf:SF:=ju SRC.qd 3
theorem a8i{xs:List Int}(xl:xs.length<=10):Pu SRC.bf 2 [.tup (xs.map D.int),ak xs.length] (.bl true):=by
 refine Pu.of rfl (a7g (jx (g8 λx _=>dg x)) (dg _)) (r:=.ok (.bl true) []) ?_ (gf (jw _) (by simp)) (jw _)
 unfold SRC.bf;rw[dh];show toR (SRC.qd [some (.tup (xs.map D.int)),some (ak xs.length),none] [])=_;unfold SRC.qd;have it:∀h:Hd,qw [.tup (xs.map D.int),.ty "tuple"] h=.ok (.bl true) h:=λh=>by simp[qw,ah8,tyD,aee]
 refine eti (orF (amm (a00 (xn (aq rfl) ckk (it _)) (p6 _))) (t2s (qx (aq rfl) xm) (aq rfl) (agv (by rw[ax])))) ?_
 refine etr (a2g (a6h (aq rfl) rfl)) ?_;have lp:=o7 (g:=kN 2) (b:=SRC.n6) D.int
  (λpre τ hh=>∃t2:Option D,τ=[some (.tup (xs.map D.int)),some (ak xs.length),t2]/\hh=[]) xs [some (.tup (xs.map D.int)),some (ak xs.length),none] [] ?_ ⟨none,rfl,rfl⟩
 .obtain⟨τ',h',e,t2,rfl,rfl⟩:=lp;refine aN (aQ (λz=>toR (MI.thn z _)) e) ?_;rfl
 .rintro pre x post τ hh all ⟨t2,rfl,rfl⟩
  refine⟨_,_,rfl,[some (.tup (xs.map D.int)),some (ak xs.length),some (.int x)],[],?_,_,rfl,rfl⟩;unfold SRC.n6;have ii:∀h:Hd,qw [.int x,.ty "int"] h=.ok (.bl true) h:=λh=>by simp[qw,ah8,tyD,aee]
  have ib:∀h:Hd,qw [.int x,.ty "bool"] h=.ok (.bl false) h:=λh=>by simp[qw,ah8,tyD,aee]
  exact aN (ifF (orF (amm (a00 (xn (aq rfl) ckk (ii _)) (p6 _))) (a00 (xn (aq rfl) ckk (ib _)) (p6 _)))) rfl
end
end SRC
namespace K40
open L2 MI AT HND EVX K22 K23 K21
section
variable{τ:Sd}{h h1 h2:Hd}{c1 c2:ST}{f g k:SE}{p q:SS}
theorem ah1(e1:c1 τ h=.ok a h)(e2:a=true->c2 τ h=.ok b h):a2n c1 c2 τ h=.ok (a && b) h:=by
 cases a with
 |true=>rw[akg e1 (e2 rfl)];rfl
 |false=>rw[awr e1];rfl
theorem orB(e1:c1 τ h=.ok a h)(e2:a=false->c2 τ h=.ok b h):sOr c1 c2 τ h=.ok (a || b) h:=by
 cases a with
 |true=>rw[orT e1];rfl
 |false=>rw[orF e1 (e2 rfl)];rfl
theorem ah2(e1:f τ h=.ok (.bl a) h)(e2:a=true->k τ h=.ok (.bl b) h):a0m f k τ h=.ok (.bl (a && b)) h:=by
 cases a with
 |true=>rw[akh e1 (e2 rfl)];rfl
 |false=>unfold a0m;rw[e1,az];rfl
theorem apl(x y:Int):gGe (.int x) (.int y) h=.ok (.bl (decide (y<=x))) h:=rfl
theorem b70(x y:Int):gGt (.int x) (.int y) h=.ok (.bl (decide (y<x))) h:=rfl
theorem b54(x y:Int):gLt (.int x) (.int y) h=.ok (.bl (decide (x<y))) h:=rfl
theorem amn(x y:Int):hEq (.int x) (.int y) h=.ok (.bl (decide (x=y))) h:=by
 by_cases c:x=y
 .rw[a6d c,aK c]
 .rw[a7r c,aZ c]
theorem arl(x y:Int):hNe (.int x) (.int y) h=.ok (.bl (decide (x≠y))) h:=by
 by_cases c:x=y
 .rw[agv c,aZ (by simpa using c)]
 .rw[apb c,aK c]
theorem b48(e1:f τ h=.ok (.int x) h)(e2:g τ h=.ok (.int y) h)(e3:k τ h=.ok (.int z) h):sCh gLe gLe f g k τ h=.ok (.bl (decide (x<=y/\y<=z))) h:=by
 unfold sCh;rw[e1,az,e2,az]
 by_cases c:x<=y
 .rw[SRC.b27 c,az];dsimp only;rw[e3,az]
  by_cases c2:y<=z
  .rw[SRC.b27 c2,aK ⟨c,c2⟩]
  .rw[SRC.b28 c2,aZ λw=>c2 w.2]
 .rw[SRC.b28 c,az];rw[aZ λw=>c w.1]
end
theorem b18(ha:MI.clo 0 a)(hb:MI.clo 0 b)(hc:MI.clo 0 c)(hd:MI.clo 0 d):∀x∈[a,b,c,d],MI.clo 0 x:=by
 intro x hx
 simp only[aP,bp,cH]at hx
 rcases hx with rfl|rfl|rfl|rfl
 .exact ha
 .exact hb
 .exact hc
 .exact hd
section
variable{T:Table}
def rw'(T:Table)(r:Nat):List Nat:=(T.go[r]?).getD []
theorem a4c(h:T.Ok)(hr:r<T.go.length):T.go[r]? = some (rw' T r)/\(rw' T r).length<=6/\∀x∈rw' T r,x<T.go.length:=by
 have e:T.go[r]? = some (rw' T r):=by unfold rw';rw[ag hr];rfl
 obtain⟨a,b⟩:=h.row _ (aW e);exact⟨e,by have:=h.tong.hi;omega,b⟩
theorem alc(h:T.Ok)(hr:r<T.go.length)(hh:Hd):gIx (.tup (T.go.map a1f)) (ak r) hh=.ok (a1f (rw' T r)) hh:=a5u (by rw[aE,(a4c h hr).1];rfl)
def ig(l:List Int)(t:Nat):Int:=(l[t]?).getD 0
theorem avy{l:List Int}(ht:t<l.length)(hh:Hd):gIx (.tup (l.map D.int)) (ak t) hh=.ok (.int (ig l t)) hh:=a5u (by unfold ig;rw[aE,ag ht];rfl)
theorem go1(h:Hd):gIx T.d (.int 1) h=.ok (.tup (T.go.map a1f)) h:=a5u (j:=1) rfl
theorem arn(h:T.Ok)(hr:r<T.go.length) : -1<=kI T r:=by
 obtain⟨k,e,k1,_⟩:=aky h hr;unfold kI;rw[e];exact k1
abbrev zsD(l:List Int):D:=.tup (l.map D.int)
theorem ald(l:List Int):MI.clo 0 (zsD l):=jx (g8 λx _=>dg x)
noncomputable def ml(a k t:Int):Bool:=if t = -2 then false else if k ≠ -1 then decide (1<=a) else decide (t<a)
def pq:SF:=ju a1r 3
theorem avz(a k t:Int):Pu pq 3 [.int a,.int k,.int t] (.bl (ml a k t)):=by
 refine Pu.of rfl (a3o (dg _) (dg _) (dg _)) (r:=.ok (.bl (ml a k t)) []) ?_ (gf (jw _) (by simp)) (jw _)
 unfold pq;rw[dh];show toR (a1r [some (.int a),some (.int k),some (.int t)] [])=_;unfold a1r ml
 by_cases h2:t = -2
 .rw[aU h2];exact aQ toR (a1s (aN (ifT (t2s (aq rfl) (a5b ckk (xq _)) (a6d h2))) (jn ckk)))
 .rw[bA h2];refine eti (t2s (aq rfl) (a5b ckk (xq _)) (a7r h2)) ?_
  by_cases hk:k = -1
  .rw[bA (by simpa using hk)]
   exact aQ toR (jn (SRC.avs (t2s (aq rfl) (a5b ckk (xq _)) (agv hk)) (kj (aq rfl) (aq rfl) (b70 _ _))))
  .rw[aU hk];exact aQ toR (jn (SRC.b0x (t2s (aq rfl) (a5b ckk (xq _)) (apb hk)) (a0l rfl (apl _ _))))
noncomputable def hh(T:Table)(m:Int)(l:List Int)(r:Nat):Bool :=
 if kI T r ≠ -1/\¬ (0<=ig l r/\ig l r<=m) then false
 else if ig l r = -2 then true
 else if ig l r = -1 then (rw' T r).all λt=>decide (kI T t = -1) && decide (ig l t = -1)
 else (rw' T r).all λt=>ml (ig l r) (kI T t) (ig l t)
def iu:SF:=ju (v6 pq) 8
theorem a5f{hp:Hd}(row:List Nat)(f:Nat->Bool)(rl:row.length<=1000)(e:fi τ hp=.ok ⟨row.map ak,λ_=>True⟩ hp)(st:∀t∈row,fe (some (ak t)::frs' ix τ) hp=.ok (.bl (f t)) hp)(c:∀o∈hp,a5q hp.length o) :
  sA ac8 (aa (sZ (ji fi t1 fe ix)) bc) τ hp=.ok (.bl (row.all f)) hp:=by
 have z:sZ (ji fi t1 fe ix) τ hp=.ok (.rol ((row.map f).map D.bl)) hp:=by
  rw[bV];exact yg (p7 ak (D.bl ∘ f) row e (du (by omega)) λt ht=>(u6 _ _ _ _).trans (st t ht)) (g8 λy _=>jw _) c
 refine qx z ((K23.al3 _ _).trans ?_);rw[fS];rfl
theorem a7j(h:T.Ok){m:Int}{l:List Int}{r:Nat}(ll:l.length=T.go.length)(hr:r<T.go.length):Pu iu 4 [T.d,.int m,zsD l,ak r] (.bl (hh T m l r)):=by
 refine Pu.of rfl (b18 Table.clo (dg _) (ald l) (dg _)) (r:=.ok (.bl (hh T m l r)) []) ?_ (gf (jw _) (by simp)) (jw _)
 unfold iu;rw[dh];show toR (v6 pq [some T.d,some (.int m),some (zsD l),some (ak r),none,none,none,none] [])=_;unfold v6;obtain⟨_,rl,rx⟩:=a4c h hr;refine etr (ue (a4b (aq rfl) rfl)) ?_;refine ets (kj (aq rfl) (aq rfl) (avy (by omega) _)) ?_
 have kg:∀(τ:Sd) (i j t:Nat),τ[i]? = some (some (.tup (T.ks.map D.int)))->τ[j]? = some (some (ak t))->t<T.go.length->s2 gIx (sV i) (sV j) τ []=.ok (.int (kI T t)) []:=λτ i j t h0 h1 ht=>kj (aq h0) (aq h1) (a8h h ht _);have lg:∀(τ:Sd) (i j t:Nat),τ[i]? = some (some (zsD l))->τ[j]? = some (some (ak t))->t<T.go.length->s2 gIx (sV i) (sV j) τ []=.ok (.int (ig l t)) []:=λτ i j t h0 h1 ht=>kj (aq h0) (aq h1) (avy (by omega) _)
 have t1:a2n (sT (s2 hNe (s2 gIx (sV 6) (sV 3)) (s1 a1b (sI 1)))) (a4f (sT (sCh gLe gLe (sI 0) (sV 7) (sV 1)))) [some T.d,some (.int m),some (zsD l),some (ak r),some (.str (S T.tg)),some (.tup (T.go.map a1f)),some (.tup (T.ks.map D.int)),some (.int (ig l r))] []=.ok (decide (kI T r ≠ -1) && !decide (0<=ig l r/\ig l r<=m)) [] :=
  ah1 (t2s (kg _ 6 3 r rfl rfl hr) (a5b ckk (xq _)) (arl _ _)) λ_=>a7q (tof (b48 ckk (aq rfl) (aq rfl)))
 unfold hh
 by_cases c1:kI T r ≠ -1/\¬ (0<=ig l r/\ig l r<=m)
 .rw[aU c1];have q:(decide (kI T r ≠ -1) && !decide (0<=ig l r/\ig l r<=m))=true:=by rw[aK c1.1,aZ c1.2];rfl
  rw[q]at t1;exact aQ toR (a1s (aN (ifT t1) (jn ckk)))
 rw[bA c1];have q:(decide (kI T r ≠ -1) && !decide (0<=ig l r/\ig l r<=m))=false:=by
  by_cases a:kI T r ≠ -1
  .rw[aK a,aK (Decidable.not_not.mp λz=>c1 ⟨a,z⟩)];rfl
  .rw[aZ a];rfl
 rw[q]at t1;refine etr (ifN t1) ?_
 by_cases c2:ig l r = -2
 .rw[aU c2];exact aQ toR (a1s (aN (ifT (t2s (aq rfl) (a5b ckk (xq _)) (a6d c2))) (jn ckk)))
 rw[bA c2];refine eti (t2s (aq rfl) (a5b ckk (xq _)) (a7r c2)) ?_;have it:sIt (s2 gIx (sV 5) (sV 3)) [some T.d,some (.int m),some (zsD l),some (ak r),some (.str (S T.tg)),some (.tup (T.go.map a1f)),some (.tup (T.ks.map D.int)),some (.int (ig l r))] []=.ok ⟨(rw' T r).map ak,λ_=>True⟩ []:=a6h (kj (aq rfl) (aq rfl) (alc h hr _)) rfl
 by_cases c3:ig l r = -1
 .rw[aU c3];refine aQ toR (a1s (ifr (t2s (aq rfl) (a5b ckk (xq _)) (a6d c3)) (a5f (rw' T r) _ (by omega) it (λt ht=>?_) (by simp))))
  unfold yo;exact ah2 (kj (kg _ 2 0 t rfl rfl (rx t ht)) (a5b ckk (xq _)) (amn _ _)) λ_=>kj (lg _ 1 0 t rfl rfl (rx t ht)) (a5b ckk (xq _)) (amn _ _)
 .rw[bA c3];refine eti (t2s (aq rfl) (a5b ckk (xq _)) (a7r c3)) ?_;refine aQ toR (jn (a5f (rw' T r) _ (by omega) it (λt ht=>?_) (by simp)))
  unfold yp;exact a7h (aq rfl) (kg _ 2 0 t rfl rfl (rx t ht)) (lg _ 1 0 t rfl rfl (rx t ht)) (avz _ _ _ _)
end
section
variable{T:Table}
def isI:D->Bool|.int _=>true|_=>false
def isB:D->Bool|.bl _=>true|_=>false
theorem b19(p:Pln d):qw [d,.ty "int"] h=.ok (.bl (isI d || isB d)) h:=by
 cases d<;>first|(simp only[Pln]at p;done)|simp[qw,ah8,tyD,aee,isI,isB]
theorem aro(p:Pln d):qw [d,.ty "bool"] h=.ok (.bl (isB d)) h:=by
 cases d<;>first|(simp only[Pln]at p;done)|simp[qw,ah8,tyD,aee,isB]
structure Th (d:D):Prop where
 p:Pln d
 el:∀xs,d=.tup xs->xs.length<=1000/\∀x∈xs,Pln x
theorem ada(ha:MI.clo 0 a):∀x∈[a],MI.clo 0 x:=by intro x hx;rw[av]at hx;subst hx;exact ha
def jy:SF:=ju a0h 1
theorem b1a(p:Pln x):Pu jy 1 [x] (.bl (isI x)):=by
 refine Pu.of rfl (ada p.clo) (r:=.ok (.bl (isI x)) []) ?_ (gf (jw _) (by simp)) (jw _)
 unfold jy;rw[dh];show toR (a0h [some x] [])=_;unfold a0h;have e:=ah2 (f:=sA qw (aa (sV 0) (aa (sC (.ty "int")) bc))) (k:=a90 (sA qw (aa (sV 0) (aa (sC (.ty "bool")) bc)))) (τ:=[some x]) (h:=[]) (xn (aq rfl) ckk (b19 p)) λ_=>b0s (xn (aq rfl) ckk (aro p));refine(aQ toR (jn e)).trans ?_;show R.ok (D.bl _) []=_
 congr 2
 cases x<;>rfl
def aws(n:Nat):D->Bool|.tup xs=>decide (xs.length=n)|_=>false
def qu:SF:=ju a4y 3
theorem ale(p:Pln d):Pu qu 3 [d,ak n,ak n] (.bl (aws n d)):=by
 refine Pu.of rfl (a3o p.clo (dg _) (dg _)) (r:=.ok (.bl (aws n d)) []) ?_ (gf (jw _) (by simp)) (jw _)
 unfold qu;rw[dh];show toR (a4y [some d,some (ak n),some (ak n)] [])=_;unfold a4y
 by_cases t:isTup d=true
 .obtain⟨xs,rfl⟩:∃xs,d=.tup xs:=by cases d<;>first|exact⟨_,rfl⟩|(simp[isTup]at t)
  refine(aQ toR (jn (akh (xn (aq rfl) ckk ((apf p).trans (by rw[t]))) (b48 (aq rfl) (qx (aq rfl) xm) (aq rfl))))).trans ?_
  show R.ok (D.bl _) []=R.ok (D.bl (decide (xs.length=n))) []
  congr 2
  rw[decide_eq_decide];omega
 .have t':isTup d=false:=by simpa using t
  have e:aws n d=false:=by cases d<;>first|rfl|(simp[isTup]at t)
  rw[e];exact aQ toR (jn ((ah2 (xn (aq rfl) ckk (apf p)) (b:=false) λz=>absurd (t'.symm.trans z) (by simp)).trans (by rw[t'];rfl)))
def amo:D->Bool|.int i=>decide (-2<=i)|_=>false
def vals(xs:List D):List Int:=xs.map fun|.int i=>i|_=>0
theorem alf:∀{xs:List D},xs.all isI=true->xs=(vals xs).map D.int
 |[],_=>rfl
 |x::xs,h=>by
  rw[eX,ba]at h;have:=alf h.2
  cases x<;>first|(show _::_=_::_;exact aQ _ this)|(cases h.1)
theorem apm(xs:List D):(vals xs).length=xs.length:=ax _
noncomputable def HH(T:Table)(m:Int):D->Bool
 |.tup xs=>decide (xs.length=T.go.length) && (xs.all amo && (List.range T.go.length).all (hh T m (vals xs)))
 |_=>false
theorem aw0{xs:List D}(h:xs.all amo=true):xs.all isI=true:=by
 rw[bI]at h ⊢
 intro x hx
 have:=h x hx
 cases x<;>first|rfl|(cases this)
def ie:SF:=ju (v4 iu jy qu) 4
theorem a1t(h:T.Ok)(t:Th d):Pu ie 3 [T.d,.int m,d] (.bl (HH T m d)):=by
 refine Pu.of rfl (a3o Table.clo (dg _) t.p.clo) (r:=.ok (.bl (HH T m d)) []) ?_ (gf (jw _) (by simp)) (jw _)
 unfold ie;rw[dh];show toR (v4 iu jy qu [some T.d,some (.int m),some d,none] [])=_;unfold v4;have n32:=h.n32;refine etr (nj (d:=ak T.go.length) (qx (a0l rfl (go1 _)) (xm.trans (by rw[ax])))) ?_
 have r1:a4f (a1w (sA (jg false 3 qu) (aa (sV 2) (aa (sV 3) (aa (sV 3) bc))))) [some T.d,some (.int m),some d,some (ak T.go.length)] []=.ok (!aws T.go.length d) []:=a7q (a00 (a7h (aq rfl) (aq rfl) (aq rfl) (ale t.p _)) (p6 _))
 by_cases rb:aws T.go.length d=true
 .obtain⟨xs,rfl⟩:∃xs,d=.tup xs:=by cases d<;>first|exact⟨_,rfl⟩|(cases rb)
  have xl:xs.length=T.go.length:=bF rb;obtain⟨_,px⟩:=t.el xs rfl;have ca:sA ac8 (aa (sZ (ji (sIt (sV 2)) t1 (oh iu jy qu) [])) bc) [some T.d,some (.int m),some (.tup xs),some (ak T.go.length)] []=.ok (.bl (xs.all amo)) []:=by
   have z:sZ (ji (sIt (sV 2)) t1 (oh iu jy qu) []) [some T.d,some (.int m),some (.tup xs),some (ak T.go.length)] []=.ok (.rol ((xs.map amo).map D.bl)) []:=by
    rw[bV];have it:sIt (sV 2) [some T.d,some (.int m),some (.tup xs),some (ak T.go.length)] []=.ok ⟨xs.map id,λ_=>True⟩ []:=by rw[j3];exact a6h (aq rfl) rfl
    refine yg (p7 id (D.bl ∘ amo) xs it (du (by omega)) λx hx=>?_) (g8 λy _=>jw _) (by simp)
    rw[u6];unfold oh;have e1:=b1a (px x hx) [];show a0m _ _ [some x] []=.ok (.bl (amo x)) []
    cases x with
    |int i=>exact(ah2 (qx (aq rfl) e1) λ_=>kj (aq rfl) (a5b ckk (xq _)) (apl _ _)).trans (by simp[isI,amo])
    |_=>exact(ah2 (b:=false) (qx (aq rfl) e1) λz=>absurd z (by simp[isI])).trans rfl
   refine qx z ((K23.al3 _ _).trans ?_);rw[fS];rfl
  have r2:=orB (a:=false) (r1.trans (by rw[rb];rfl)) λ_=>a7q (a00 ca (p6 _))
  show _=R.ok (D.bl (decide (xs.length=T.go.length) && (xs.all amo && (List.range T.go.length).all (hh T m (vals xs))))) [];rw[aK xl,eZ]
  cases lb:xs.all amo with
  |false =>
   rw[lb]at r2;exact aQ toR (a1s (aN (ifT r2) (jn ckk)))
  |true =>
   rw[lb]at r2;refine etr (ifN r2) ?_;rw[eZ];have ev:=alf (aw0 lb);refine aQ toR (jn (a5f (List.range T.go.length) _ (by rw[b6];omega) (a3d (aq rfl) (du (by omega))) (λr hr=>?_) (by simp)))
   rw[aY]at hr;unfold ym;have ho:=a7j h (m:=m) (l:=vals xs) (r:=r) ((apm xs).trans xl) hr [];unfold zsD at ho;rw[<-ev]at ho;exact b43 (aq rfl) (aq rfl) (aq rfl) (aq rfl) ho
 .have rf:aws T.go.length d=false:=by simpa using rb
  have e:HH T m d=false:=by
   cases d<;>first|rfl|skip
   rename_i xs;show(decide (xs.length=T.go.length) && _)=false;rw[show decide (xs.length=T.go.length)=false from rf];rfl
  rw[e];exact aQ toR (a1s (aN (ifT (orT (r1.trans (by rw[rf];rfl)))) (jn ckk)))
def b29(n:Nat):D->Bool|.tup xs=>decide (xs.length=n) && xs.all isI|_=>false
theorem adb(t:Th d):Pu SRC.bf 2 [d,ak n] (.bl (b29 n d)):=by
 refine Pu.of rfl (a7g t.p.clo (dg _)) (r:=.ok (.bl (b29 n d)) []) ?_ (gf (jw _) (by simp)) (jw _)
 unfold SRC.bf;rw[dh];show toR (SRC.qd [some d,some (ak n),none] [])=_;unfold SRC.qd
 by_cases td:isTup d=true
 .obtain⟨xs,rfl⟩:∃xs,d=.tup xs:=by cases d<;>first|exact⟨_,rfl⟩|(simp[isTup]at td)
  obtain⟨xl,px⟩:=t.el xs rfl;have r1:=orB (a:=false) (c1:=a4f (a1w (sA qw (aa (sV 0) (aa (sC (.ty "tuple")) bc))))) (c2:=sT (s2 hNe (sA vm (aa (sV 0) bc)) (sV 1))) (τ:=[some (.tup xs),some (ak n),none]) (h:=[]) (amm (a00 (xn (aq rfl) ckk ((apf t.p).trans (by rw[td]))) (p6 _))) λ_=>t2s (qx (aq rfl) xm) (aq rfl) (arl _ _)
  show _=R.ok (D.bl (decide (xs.length=n) && xs.all isI)) []
  by_cases ln:xs.length=n
  .rw[gc,aZ (show ¬ ((xs.length:Int)≠(n:Int)) by omega)]at r1
   rw[aK ln,eZ];refine etr (ifN r1) ?_;refine etr (a2g (xs:=xs.map id) (ck:=λ_=>True) (by rw[j3];exact a6h (aq rfl) rfl)) ?_
   have lp:=a2b (g:=kN 2) (b:=SRC.n6) (id:D->D) (λpre τ hh=>(∃t2:Option D,τ=[some (.tup xs),some (ak n),t2]/\hh=[])/\pre.all isI=true) (λd hh=>d=.bl false/\hh=[]/\xs.all isI=false) xs [] [some (.tup xs),some (ak n),none] [] ?_ ⟨⟨none,rfl,rfl⟩,rfl⟩
   .rcases lp with⟨τ',h',e,⟨t2,rfl,rfl⟩,al⟩|⟨d',h',e,rfl,rfl,al⟩
    .rw[cy]at al;rw[al];refine aN (aQ (λz=>toR (MI.thn z _)) e) ?_;rfl
    .rw[al];refine aN (aQ (λz=>toR (MI.thn z _)) e) ?_;rfl
   .rintro pre x post τ hh all ⟨⟨t2,rfl,rfl⟩,al⟩
    rw[cy]at all;have hx:x∈xs:=by rw[all];simp
    refine⟨_,_,rfl,?_⟩;unfold SRC.n6;have tt:=orB (c1:=a4f (a1w (sA qw (aa (sV 2) (aa (sC (.ty "int")) bc))))) (c2:=a1w (sA qw (aa (sV 2) (aa (sC (.ty "bool")) bc)))) (τ:=[some (.tup xs),some (ak n),some x]) (h:=[]) (a7q (a00 (xn (aq rfl) ckk (b19 (px x hx))) (p6 _))) λ_=>a00 (xn (aq rfl) ckk (aro (px x hx))) (p6 _);have ee:(!(isI x || isB x) || isB x) = !isI x:=by cases x<;>rfl
    rw[ee]at tt
    cases ix:isI x with
    |true =>
     rw[ix]at tt;exact .inl ⟨_,_,aN (ifF tt) rfl,⟨_,rfl,rfl⟩,by rw[List.all_append,al,eX,ix];rfl⟩
    |false =>
     rw[ix]at tt;refine .inr ⟨_,_,aN (ifT tt) (jn ckk),rfl,rfl,?_⟩;rw[List.all_eq_false];exact⟨x,hx,by rw[ix];simp⟩
  .rw[gc,aK (show((xs.length:Int)≠(n:Int)) by omega)]at r1
   rw[aZ ln,Bool.false_and];exact aQ toR (a1s (aN (ifT r1) (jn ckk)))
 .have td':isTup d=false:=by simpa using td
  have e:b29 n d=false:=by cases d<;>first|rfl|(simp[isTup]at td)
  rw[e];exact aQ toR (a1s (aN (ifT (orT (b6s (a00 (xn (aq rfl) ckk ((apf t.p).trans (by rw[td']))) (p6 _))))) (jn ckk)))
end
theorem b49(e:fi τ h=.ok ⟨xs,ck⟩ h1):a3f fi G b τ h=forL ck G b xs τ h1:=by
 unfold a3f;rw[e];rfl
section
variable{T:Table}
theorem a5g(p:Nat->Bool):∀l:List Nat,(l.filterMap λi=>if p i=true then some (ak i) else none)=(l.filter p).map ak
 |[]=>rfl
 |i::l=>by
  cases h:p i with
  |true=>rw[i8 (b:=ak i) (by rw[h];rfl),List.filter_cons_of_pos h,a5g p l];rfl
  |false=>rw[i7 (by rw[h];rfl),List.filter_cons_of_neg (by rw[h];simp),a5g p l]
end
end K40
namespace K22
open L2 MI AT HND
section
variable{T:Table}
def au:SF:=ju (sr bw) 1
def j8:SF:=ju (a3z au) 1
abbrev af4(T:Table):List D:=(List.range T.go.length).map (A T)
abbrev af5(T:Table):List D:=(List.range T.go.length).map λr=>.bl (!a2s (A T r))
theorem a7k(n:Nat):clos n (af4 T):=g8 λr _=>avv _ _
theorem a5v(n:Nat):clos n (af5 T):=g8 λr _=>jw _
theorem b1b:∀x∈[T.d],clo 0 x:=by
 intro x hx
 rw[av]at hx;subst hx;exact Table.clo
theorem T1(hh:Hd):gIx T.d (.int 1) hh=.ok (.tup (T.go.map a1f)) hh:=a5u (j:=1) rfl
theorem b4a(hh:Hd):vm [.tup (T.go.map a1f)] hh=.ok (.int (T.go.length:Nat)) hh:=by rw[xm,ax]
theorem a5h(h:T.Ok):Pu au 1 [T.d] (.tup (af4 T)):=by
 have n32:=h.n32;refine Pu.of rfl b1b (r:=.ok (.tup (af4 T)) []) ?_ (gf (jx (a7k _)) (by simp)) (jx (a7k _))
 unfold au;rw[dh];show toR (sr bw [some T.d] [])=_;unfold sr;have cz:sZ (ji (sRg zg (aa (sA vm (aa (s2 gIx (sV 0) (sI 1)) bc)) bc)) t1 (qz bw) [0]) [some T.d] []=.ok (.rol (af4 T)) []:=by
  refine yg (p7 (λr:Nat=>D.int (r:Nat)) (A T) (List.range T.go.length) (a3d (qx (a0l rfl (T1 _)) (b4a _)) (du (by omega))) (du (by rw[b6];omega)) λr hr=>?_) (a7k _) (by simp)
  rw[u6];exact xn (aq rfl) (aq rfl) (abw h (aY.mp hr) _)
 exact aQ toR (jn (qx cz rfl))
theorem nq(h:T.Ok):Pu j8 1 [T.d] (.tup (af5 T)):=by
 have n32:=h.n32;refine Pu.of rfl b1b (r:=.ok (.tup (af5 T)) []) ?_ (gf (jx (a5v _)) (by simp)) (jx (a5v _))
 unfold j8;rw[dh];show toR (a3z au [some T.d] [])=_;unfold a3z;have cz:sZ (ji (sIt (sA (jg false 1 au) (aa (sV 0) bc))) t1 (a1l au) []) [some T.d] []=.ok (.rol (af5 T)) []:=by
  refine yg (p7 (A T) (λr=>.bl (!a2s (A T r))) (List.range T.go.length) (a6h (qx (aq rfl) (a5h h _)) rfl) (du (by rw[b6];omega)) λr hr=>?_) (a5v _) (by simp)
  rw[u6];exact a0l rfl (a0k _)
 exact aQ toR (jn (qx cz rfl))
end
end K22
namespace MI
open L2 SRC HND
theorem alg{y:Nat}:(y:Int)∈cst l↔y∈l:=by
 unfold cst;rw[bq]
 constructor
 .rintro⟨x,hx,e⟩;have:x=y:=by omega
  subst this;exact hx
 .intro h;exact⟨y,h,rfl⟩
theorem alh(l:List Nat)(y:Nat):stepK (cst l) (y:Int)=cst (stepK l y):=by
 unfold L2.stepK
 by_cases h:y∈l
 .rw[aU h,aU (alg.mpr h)]
 .rw[bA h,bA λz=>h (alg.mp z)];unfold cst;rw[bE];rfl
structure Fw (n:Nat) (l:List Nat):Prop where
 nd:l.Nodup
 lt:∀x∈l,x<n
theorem Fw.nil:Fw n []:=⟨fP,by simp⟩
theorem Fw.len(h:Fw n l):l.length<=n:=BF.a2h n l h.nd h.lt
theorem Fw.step(M:Fw n l)(hx:x<n):Fw n (stepK l x):=by
 unfold L2.stepK
 by_cases h:x∈l
 .rw[aU h];exact M
 rw[bA h];refine⟨?_,λy hy=>?_⟩
 .rw[bZ];refine⟨M.nd,by simp,λa ha b hb=>?_⟩
  rw[av]at hb;subst hb;exact λe=>h (e ▸ ha)
 .rcases b9.mp hy with z|z
  .exact M.lt y z
  .rw[av]at z;subst z;exact hx
theorem apn{x y:Nat}:y∈stepK l x↔y∈l\/y=x:=by
 unfold L2.stepK
 by_cases h:x∈l
 .rw[aU h];exact⟨.inl,λz=>z.elim id λe=>e ▸ h⟩
 .rw[bA h,b9,av]
theorem Fw.fold:∀{r l:List Nat},Fw n l->(∀x∈r,x<n)->Fw n (r.foldl stepK l)
 |[],_,h,_=>h
 |x::r,l,h,k=>Fw.fold (r:=r) (h.step (k x aT)) λy hy=>k y (aI _ hy)
theorem af6:∀{r l:List Nat},y∈r.foldl stepK l↔y∈l\/y∈r
 |[],l=>by simp
 |x::r,l=>by
  rw[gA,af6 (r:=r),apn,aP]
  constructor
  .rintro((h|h)|h)
   .exact .inl h
   .exact .inr (.inl h)
   .exact .inr (.inr h)
  .rintro(h|h|h)
   .exact .inl (.inl h)
   .exact .inl (.inr h)
   .exact .inr h
theorem abz(hn:n<=60):∀{r l:List Nat},Fw n l->(∀y∈r,y<n)->setIn (λ_=>True) (sV 1) x rd (r.map ak) (cst l) h=.ok (cst (r.foldl stepK l)) h
 |[],l,_,_=>by rw[dM,setIn,aU True.intro];rfl
 |y::r,l,M,k=>by
  rw[bg,setIn,aU True.intro];have e:sV 1 (some x::some (ak y)::rd) h=.ok (ak y) h:=aq rfl;rw[e,az];have hl:=M.len;show(if (cst l).length<63 then setIn (λ_=>True) (sV 1) x rd (r.map ak) (stepK (cst l) (y:Int)) h else .no)=_
  rw[aU (by unfold cst;rw[ax];omega),alh]
  exact abz hn (M.step (k y aT)) λz hz=>k z (aI _ hz)
theorem a8j{n:Nat}(hn:n<=60){fj:SI}{rd:Sd}{h:Hd}{α:Type}(g:α->D)(row:α->List Nat):∀{xs:List α} {l:List Nat},Fw n l->(∀x∈xs,∀y∈row x,y<n)->(∀x∈xs,fj (some (g x)::none::rd) h=.ok ⟨(row x).map ak,λ_=>True⟩ h)->
  a3l (λ_=>True) fj (sV 1) rd (xs.map g) (cst l) h=.ok (cst (xs.foldl (λl x=>(row x).foldl stepK l) l)) h
 |[],l,_,_,_=>by rw[dM,a3l,aU True.intro];rfl
 |x::xs,l,M,k,e=>by
  rw[bg,a3l,aU True.intro,e x aT,az];dsimp only;have kx:=k x aT;rw[abz hn M kx,az];exact a8j hn g row (M.fold kx) (λz hz=>k z (aI _ hz)) λz hz=>e z (aI _ hz)
theorem Fw.folds{n:Nat}{α:Type}(row:α->List Nat):∀{xs:List α} {l:List Nat},Fw n l->(∀x∈xs,∀y∈row x,y<n)->Fw n (xs.foldl (λl x=>(row x).foldl stepK l) l)
 |[],_,h,_=>h
 |x::xs,l,h,k=>Fw.folds row (xs:=xs) (h.fold (k x aT)) λy hy=>k y (aI _ hy)
theorem ac0{y:Nat}{α:Type}(row:α->List Nat):∀{xs:List α} {l:List Nat},y∈xs.foldl (λl x=>(row x).foldl stepK l) l↔y∈l\/∃x∈xs,y∈row x
 |[],l=>by simp
 |x::xs,l=>by
  rw[gA,ac0 row (xs:=xs),af6]
  constructor
  .rintro((h|h)|⟨z,hz,h⟩)
   .exact .inl h
   .exact .inr ⟨x,aT,h⟩
   .exact .inr ⟨z,aI _ hz,h⟩
  .rintro(h|⟨z,hz,h⟩)
   .exact .inl (.inl h)
   .rcases aP.mp hz with rfl|hz
    .exact .inl (.inr h)
    .exact .inr ⟨z,hz,h⟩
theorem apo{fi fj:SI}{ix:List Nat}{τ:Sd}{h:Hd}{α:Type}(g:α->D)(xs:List α)(row:α->List Nat){n:Nat}(hn:n<=60)(e:fi τ h=.ok ⟨xs.map g,λ_=>True⟩ h)
  (ej:∀x∈xs,fj (some (g x)::none::frs' ix τ) h=.ok ⟨(row x).map ak,λ_=>True⟩ h) (lt:∀x∈xs,∀y∈row x,y<n) :
  ∃ts:List Nat,Fw n ts/\ts.Pairwise (·<=·)/\(∀y,y∈ts↔∃x∈xs,y∈row x)/\aoz fi fj (sV 1) ix τ h=.ok (.ref h.length) (h++[.lst (ts.map ak)]):=by
 obtain⟨m,em,pm,sm⟩:=a8e (xs.foldl (λl x=>(row x).foldl stepK l) []);have F:=Fw.folds row (l:=[]) (n:=n) .nil lt;refine⟨m,⟨pm.nodup_iff.mpr F.nd,λx hx=>F.lt x (pm.mem_iff.mp hx)⟩,sm,λy=>?_,?_⟩
 .rw[pm.mem_iff,ac0];simp
 .unfold aoz;rw[e,az];dsimp only;have:=a8j hn (fj:=fj) (rd:=frs' ix τ) (h:=h) g row (xs:=xs) (l:=[]) .nil lt ej;rw[show cst []=([]:List Int) from rfl]at this
  rw[this,az];unfold avj;have fl:=F.len;rw[aU (by unfold cst;rw[ax];omega),em,<-ad7]
end MI
namespace RCH
open L2 MI AT HND EVX K22 K23 K21 K40
def cnt(n:Nat)(p:Nat->Bool):Nat:=((List.range n).filter p).length
theorem ac1:∀{l:List Nat},(∀x∈l,p x=true->q x=true)->(∃x∈l,q x=true/\p x=false)->(l.filter p).length<(l.filter q).length
 |[],_,⟨_,h,_⟩=>by simp at h
 |x::l,h,⟨y,hy,q1,p1⟩=>by
  have le:(l.filter p).length<=(l.filter q).length:=by
   clear hy q1 p1 y
   induction l with
   |nil=>simp
   |cons z l ih =>
    have ih:=ih λy hy=>h y (by simp only[aP]at hy ⊢;rcases hy with e|e<;>simp[e])
    have hz:=h z (by simp)
    rw[fz,fz]
    cases e1:p z with
    |true=>rw[hz e1];simp only[dQ,bB];omega
    |false=>cases q z<;>simp<;>omega
  rw[fz,fz]
  rcases aP.mp hy with rfl|hy
  .rw[q1,p1];simp only[dQ,cG,eV,bB];omega
  .have lt:=ac1 (l:=l) (λz hz=>h z (aI _ hz)) ⟨y,hy,q1,p1⟩
   cases e1:p x with
   |true=>rw[h x aT e1];simp only[dQ,bB];omega
   |false=>cases q x<;>simp<;>omega
theorem aG{n:Nat}{P:Nat->Nat->Bool}(anti:∀k x,x<n->P (k+1) x=true->P k x=true)(det:∀k,(∀x,x<n->P k x=P (k+1) x)->∀x,x<n->P (k+1) x=P (k+2) x):∀k x,x<n->P n x=true->P (n+k) x=true:=by
 have key:∀k,cnt n (P k)<=n-k\/∃j,j<=k/\∀x,x<n->P j x=P (j+1) x:=by
  intro k
  induction k with
  |zero=>exact .inl (by unfold cnt;exact cM (List.length_filter_le _ _) (by simp))
  |succ k ih =>
   rcases ih with ih|⟨j,hj,e⟩
   .by_cases c:∃x∈List.range n,P k x=true/\P (k+1) x=false
    .have:=ac1 (p:=P (k+1)) (q:=P k) (l:=List.range n) (λx hx=>anti k x (aY.mp hx)) c
     exact .inl (by unfold cnt at ih ⊢;omega)
    .refine .inr ⟨k,fK _,λx hx=>?_⟩
     cases e1:P k x with
     |true =>
      cases e2:P (k+1) x with
      |true=>rfl
      |false=>exact(c ⟨x,aY.mpr hx,e1,e2⟩).elim
     |false =>
      cases e2:P (k+1) x with
      |true=>rw[anti k x hx e2]at e1;cases e1
      |false=>rfl
   .exact .inr ⟨j,Nat.le_succ_of_le hj,e⟩
 have stay:∀j,(∀x,x<n->P j x=P (j+1) x)->∀k x,x<n->P (j+k) x=P j x:=by
  intro j e k
  have step:∀k x,x<n->P (j+k) x=P (j+k+1) x:=by
   intro k
   induction k with
   |zero=>exact e
   |succ k ih=>exact det _ ih
  induction k with
  |zero=>intro x _;rfl
  |succ k ih=>intro x hx;rw[<-ih x hx];exact(step k x hx).symm
 intro k x hx h
 rcases key n with z|⟨j,hj,e⟩
 .have:x∈(List.range n).filter (P n):=bK.mpr ⟨aY.mpr hx,h⟩
  have:=List.length_pos_of_mem this
  unfold cnt at z;omega
 .have e1:=stay j e (n-j) x hx;have e2:=stay j e (n-j+k) x hx;rw[show j+(n-j)=n by omega]at e1
  rw[show j+(n-j+k)=n+k by omega]at e2
  rw[e2,<-e1];exact h
section
variable{T:Table}
def hp(T:Table)(x:Nat):Bool := !a2s (A T x)
theorem ale(h:T.Ok)(hr:r<T.go.length):rw' T r=(List.range T.tg.length).map (stp T r):=by unfold rw';rw[b11 h hr];rfl
theorem a4d(h:T.Ok)(hr:r<T.go.length):x∈rw' T r↔∃c,c<T.tg.length/\stp T r c=x:=by
 rw[ale h hr,bq];exact⟨λ⟨c,hc,e⟩=>⟨c,aY.mp hc,e⟩,λ⟨c,hc,e⟩=>⟨c,aY.mpr hc,e⟩⟩
theorem aa1(h:T.Ok)(hr:r<T.go.length):FL T (k+1) r=true↔∃x∈rw' T r,FL T k x=true:=by
 show((List.range T.tg.length).any λc=>FL T k (stp T r c))=true↔_;rw[bD]
 constructor
 .rintro⟨c,hc,e⟩;exact⟨_,(a4d h hr).mpr ⟨c,aY.mp hc,rfl⟩,e⟩
 .rintro⟨x,hx,e⟩
  obtain⟨c,hc,rfl⟩:=(a4d h hr).mp hx;exact⟨c,aY.mpr hc,e⟩
theorem aa2(e:hp T r=true):∃k,k<T.go.length/\FL T (k+1) r=true:=by
 unfold hp A at e
 cases q:ape T r with
 |none=>rw[q]at e;simp[a2s]at e
 |some i =>
  unfold ape at q;obtain⟨fi,hi,_⟩:=eD.mp q;exact⟨i,by simpa using hi,by rw[iO];exact fi⟩
theorem apq(h:T.Ok)(hr:r<T.go.length)(f:FL T (k+1) r=true):hp T r=true:=by
 obtain⟨d,_,_,q⟩:=a2j h hr;have e:=al2 h q
 rcases q with⟨w,_,_,_,_,ew⟩|⟨_,no⟩
 .unfold hp;rw[<-e,ew];rfl
 .obtain⟨gl,go,gh⟩:=BF.abu f;exact(no _ go ⟨λz=>by
   have:=aQ List.length z
   simp[gl]at this,gh⟩).elim
theorem aa3(h:T.Ok)(hr:r<T.go.length):FL T 0 r=true↔kI T r ≠ -1:=by
 show knd T r=true↔_;obtain⟨k,e,_,kd⟩:=aky h hr;unfold kI;rw[kd,e];simp
theorem aa4(h:T.Ok)(hr:r<T.go.length):hp T r=true↔∃x∈rw' T r,kI T x ≠ -1\/hp T x=true:=by
 obtain⟨_,_,rx⟩:=a4c h hr
 constructor
 .intro e
  obtain⟨k,_,f⟩:=aa2 e;obtain⟨x,hx,fx⟩:=(aa1 h hr).mp f
  cases k with
  |zero=>exact⟨x,hx,.inl ((aa3 h (rx x hx)).mp fx)⟩
  |succ k=>exact⟨x,hx,.inr (apq h (rx x hx) fx)⟩
 .rintro⟨x,hx,e|e⟩
  .exact apq (k:=0) h hr ((aa1 h hr).mpr ⟨x,hx,(aa3 h (rx x hx)).mpr e⟩)
  .obtain⟨k,_,f⟩:=aa2 e;exact apq (k:=k+1) h hr ((aa1 h hr).mpr ⟨x,hx,f⟩)
def gd(T:Table)(x:Nat):Bool:=decide (kI T x = -1) && hp T x
def Lam(T:Table)(st:List Nat):Nat->Nat->Prop
 |0,x=>x∈st
 |k+1,x=>(∃r,Lam T st k r/\x∈rw' T r)/\gd T x=true
def Led(T:Table)(st:List Nat)(k x:Nat):Prop:=∃r,Lam T st k r/\x∈rw' T r
def Kn(T:Table)(st:List Nat)(k:Nat):Prop:=∃x,Led T st k x/\kI T x ≠ -1
open Classical in
def Mx(T:Table)(st:List Nat):Nat->Nat
 |0=>0
 |k+1=>if Kn T st k then k+1 else Mx T st k
theorem ali(h:T.Ok)(hs:∀x∈st,x<T.go.length):∀{k x:Nat},Lam T st k x->x<T.go.length
 |0,x,q=>hs x q
 |k+1,x,⟨⟨r,q,hx⟩,_⟩=>(a4c h (ali h hs q)).2.2 x hx
theorem aw1:∀k,Mx T st k<=k
 |0=>ay _
 |k+1=>by
  have:=aw1 (st:=st) k
  unfold Mx
  split<;>omega
def Dp(T:Table):Nat->Nat->Bool
 |0,_=>true
 |k+1,x=>(rw' T x).any λy=>gd T y && Dp T k y
theorem aa5:∀k x,Dp T (k+1) x=true->Dp T k x=true
 |0,_,_=>rfl
 |k+1,x,e=>by
  simp only[Dp,bD,ba]at e ⊢;obtain⟨y,hy,g,y2,hy2,g2,d⟩:=e;refine⟨y,hy,g,aa5 k y ?_⟩;simp only[Dp,bD,ba];exact⟨y2,hy2,g2,d⟩
theorem b1c(h:T.Ok)(k:Nat)(e:∀x,x<T.go.length->Dp T k x=Dp T (k+1) x)(x:Nat)(hx:x<T.go.length):Dp T (k+1) x=Dp T (k+2) x:=by
 show(rw' T x).any _=(rw' T x).any _;obtain⟨_,_,rx⟩:=a4c h hx;rw[iU,bD,bD]
 constructor
 .rintro⟨y,hy,q⟩;exact⟨y,hy,by rw[<-e y (rx y hy)];exact q⟩
 .rintro⟨y,hy,q⟩;exact⟨y,hy,by rw[e y (rx y hy)];exact q⟩
theorem arp(h:T.Ok){x:Nat}(hx:x<T.go.length)(d:Dp T T.go.length x=true)(k:Nat):Dp T (T.go.length+k) x=true:=aG (P:=Dp T) (λk x _=>aa5 k x) (b1c h) k x hx d
theorem ac2:∀{k j:Nat},(∃x,Lam T st (j+k) x)↔∃r,Lam T st j r/\Dp T k r=true
 |0,j=>⟨λ⟨x,q⟩=>⟨x,q,rfl⟩,λ⟨r,q,_⟩=>⟨r,q⟩⟩
 |k+1,j=>by
  rw[show j+(k+1)=(j+1)+k by omega,ac2 (k:=k) (j:=j+1)]
  constructor
  .rintro⟨y,⟨⟨r,q,hy⟩,g⟩,d⟩
   refine⟨r,q,?_⟩;simp only[Dp,bD,ba];exact⟨y,hy,g,d⟩
  .rintro⟨r,q,d⟩
   simp only[Dp,bD,ba]at d;obtain⟨y,hy,g,d⟩:=d;exact⟨y,⟨⟨r,q,hy⟩,g⟩,d⟩
theorem b1d(h:T.Ok)(hs:∀x∈st,x<T.go.length)(e:∃x,Lam T st T.go.length x)(k:Nat):∃x,Lam T st k x:=by
 obtain⟨r,q,d⟩:=(ac2 (T:=T) (k:=T.go.length) (j:=0)).mp (by rw[dF];exact e)
 have d':Dp T k r=true:=by
  have:=arp h (hs r q) d k
  clear d
  revert this
  generalize T.go.length=n
  intro this
  induction n with
  |zero=>rwa[dF]at this
  |succ n ih=>exact ih (aa5 _ _ (by rw[show n+k+1=n+1+k by omega];exact this))
 have:=(ac2 (T:=T) (k:=k) (j:=0)).mpr ⟨r,q,d'⟩
 rwa[dF]at this
theorem aa6(e:¬ ∃x,Lam T st k x):∀j,¬ ∃x,Lam T st (k+j) x
 |0=>e
 |j+1=>λ⟨x,⟨r,q,_⟩,_⟩=>aa6 e j ⟨r,q⟩
theorem adc(e:¬ ∃x,Lam T st k x):∀j,Mx T st (k+j)=Mx T st k
 |0=>rfl
 |j+1=>by
  show Mx T st (k+j+1)=_;rw[Mx,bA,adc e j]
  rintro⟨x,⟨r,q,_⟩,_⟩
  exact aa6 e j ⟨r,q⟩
theorem ade:∀{j:Nat},Mx T st k<=Mx T st (k+j)
 |0=>ay _
 |j+1=>by
  have:=ade (st:=st) (k:=k) (j:=j)
  have l:=aw1 (T:=T) (st:=st) (k+j);show _<=Mx T st (k+j+1);rw[Mx]
  split<;>omega
theorem aw2(e:Kn T st k):Mx T st (k+1)=k+1:=by unfold Mx;rw[aU e]
theorem aw3(h:T.Ok)(hs:∀x∈st,x<T.go.length):∀{k m x:Nat},Lam T st m x->FL T (k+1) x=true->∃j,m<=j/\j<=m+k/\Kn T st j
 |k,m,x,q,f=>by
  have hx:=ali h hs q;obtain⟨_,_,rx⟩:=a4c h hx;obtain⟨y,hy,fy⟩:=(aa1 h hx).mp f
  by_cases c:kI T y = -1
  .cases k with
   |zero=>exact absurd c ((aa3 h (rx y hy)).mp fy)
   |succ k =>
    have g:gd T y=true:=by unfold gd;rw[aK c,apq h (rx y hy) fy];rfl
    obtain⟨j,a,b,e⟩:=aw3 h hs (m:=m+1) ⟨⟨x,q,hy⟩,g⟩ fy;exact⟨j,by omega,by omega,e⟩
  .exact⟨m,ay _,by omega,y,⟨x,q,hy⟩,c⟩
def RA(T:Table)(st:List Nat):D:=if Mx T st (2*T.go.length+1)<=T.go.length then ak (Mx T st (2*T.go.length+1)) else .non
theorem af7:MI.clo 0 (RA T st):=by unfold RA;split;exact dg _;exact a0c
theorem alj(h:T.Ok)(hs:∀x∈st,x<T.go.length)(hk:k<=T.go.length+1)(e:¬ ∃x,Lam T st k x):RA T st=ak (Mx T st k):=by
 have e2:¬ ∃x,Lam T st T.go.length x:=λz=>e (b1d h hs z k);have m1:=adc e (2*T.go.length+1-k);have m2:=adc e2 (T.go.length+1);rw[show T.go.length+(T.go.length+1)=2*T.go.length+1 by omega]at m2
 have h1:=h.n1;rw[show k+(2*T.go.length+1-k)=2*T.go.length+1 by omega]at m1
 unfold RA;rw[aU (by rw[m2];exact aw1 _),m1]
theorem aw4(h:T.Ok)(hs:∀x∈st,x<T.go.length)(e:∃x,Lam T st (T.go.length+1) x):RA T st=.non:=by
 have h1:=h.n1;have e0:∃x,Lam T st T.go.length x:=by obtain⟨x,⟨r,q,_⟩,_⟩:=e;exact⟨r,q⟩
 obtain⟨x,q⟩:=e0;have g:gd T x=true:=by
  cases hn:T.go.length with
  |zero=>omega
  |succ n=>rw[hn]at q;exact q.2
 have hx:hp T x=true:=by unfold gd at g;rw[ba]at g;exact g.2
 obtain⟨k,hk,f⟩:=aa2 hx;obtain⟨j,a,b,kn⟩:=aw3 h hs q f;have m1:=aw2 kn;have m2:=ade (T:=T) (st:=st) (k:=j+1) (j:=2*T.go.length+1-(j+1));rw[show j+1+(2*T.go.length+1-(j+1))=2*T.go.length+1 by omega]at m2
 unfold RA;rw[bA (by omega)]
end
section
variable{T:Table}
abbrev hpD(T:Table):List D:=(List.range T.go.length).map λr=>D.bl (hp T r)
theorem adf(n:Nat):clos n (hpD T):=g8 λ_ _=>jw _
theorem alk(hr:r<T.go.length):(hpD T)[r]? = some (.bl (hp T r)):=by rw[aE,bQ hr];rfl
end
section
variable{T:Table}
theorem b1e{st rs ts:List Nat}{k:Nat}(er:∀x,x∈rs↔Lam T st k x)(et:∀x,x∈ts↔∃r∈rs,x∈rw' T r)(x:Nat):x∈ts↔Led T st k x:=by
 rw[et];exact⟨λ⟨r,hr,q⟩=>⟨r,(er r).mp hr,q⟩,λ⟨r,hr,q⟩=>⟨r,(er r).mpr hr,q⟩⟩
theorem b1f{ts:List Nat}{k:Nat}(el:∀x,x∈ts↔Led T st k x)(hp':∀x∈ts,p x=gd T x)(x:Nat):x∈ts.filter p↔Lam T st (k+1) x:=by
 rw[bK]
 constructor
 .rintro⟨a,b⟩;exact⟨(el x).mp a,by rw[<-hp' x a];exact b⟩
 .rintro⟨a,b⟩
  have:=(el x).mpr a
  exact⟨this,by rw[hp' x this];exact b⟩
theorem ah3{st ts:List Nat}{k:Nat}(el:∀x,x∈ts↔Led T st k x){p:Nat->Bool}(hp':∀x∈ts,(p x=true↔kI T x ≠ -1)):(∃x∈ts,p x=true)↔Kn T st k:=by
 constructor
 .rintro⟨x,a,b⟩;exact⟨x,(el x).mp a,(hp' x a).mp b⟩
 .rintro⟨x,a,b⟩
  have:=(el x).mpr a
  exact⟨x,this,(hp' x this).mpr b⟩
theorem b4b(bs:List Bool)(h:Hd):awn [.rol (bs.map D.bl)] h=.ok (.bl (bs.any id)) h:=by
 unfold awn;simp only[aef]
def iy:SF:=ju zq 10
theorem a5i(h:T.Ok){rs:List Nat}(rn:∀r∈rs,r<T.go.length):Pu iy 3 [T.d,.tup (hpD T),.rol (rs.map ak)] (RA T rs):=by
 have n32:=h.n32;have n1:=h.n1;have turn:∀(i:Nat) (ls:List Nat) (t9:Option D),(∀x,x∈ls↔Lam T rs i x)->∃ts:List Nat,(∀x,x∈ts↔Lam T rs (i+1) x)/\∃t9':Option D,
   sy [some T.d,some (.tup (hpD T)),some (.rol (rs.map ak)),some (.str (S T.tg)),some (.tup (T.go.map a1f)),some (.tup (T.ks.map D.int)),some (ak (Mx T rs i)),some (.rol (ls.map ak)),some (.int ((1+i:Nat))),t9] [] =
    (if ts.isEmpty then .rt (ak (Mx T rs (i+1))) [] else .nx [some T.d,some (.tup (hpD T)),some (.rol (rs.map ak)),some (.str (S T.tg)),some (.tup (T.go.map a1f)),some (.tup (T.ks.map D.int)),some (ak (Mx T rs (i+1))),some (.rol (ts.map ak)),some (.int ((1+i:Nat))),t9'] []):=λi ls t9 el=>by
  have ln:∀r∈ls,r<T.go.length:=λr hr=>ali h rn ((el r).mp hr);obtain⟨us,M,_,mu,eu⟩:=apo (fi:=sIt (sV 7)) (fj:=sIt (s2 gIx (sV 2) (sV 0))) (ix:=[4]) (τ:=[some T.d,some (.tup (hpD T)),some (.rol (rs.map ak)),some (.str (S T.tg)),some (.tup (T.go.map a1f)),some (.tup (T.ks.map D.int)),some (ak (Mx T rs i)),some (.rol (ls.map ak)),some (.int ((1+i:Nat))),t9]) (h:=[]) ak ls (rw' T) (n:=T.go.length) (by omega) (a6h (aq rfl) rfl) (λx hx=>a6h (kj (aq rfl) (aq rfl) (alc h (ln x hx) _)) rfl) λx hx=>(a4c h (ln x hx)).2.2
  have ul:=M.len;have eL:=b1e el mu;have eu':=yg eu (mq _) (by simp)
  let p1:Nat->Bool:=λt=>decide (kI T t ≠ -1)
  let p2:Nat->Bool:=λt=>decide (kI T t = -1) && hp T t
  have k1:=ah3 eL (p:=p1) λx _=>dX;have kg:∀(τ:Sd) (a b t:Nat),τ[a]? = some (some (.tup (T.ks.map D.int)))->τ[b]? = some (some (ak t))->t<T.go.length->s2 gIx (sV a) (sV b) τ []=.ok (.int (kI T t)) []:=λτ a b t h0 h1 ht=>kj (aq h0) (aq h1) (a8h h ht _);have an:∀τ:Sd,τ[5]? = some (some (.tup (T.ks.map D.int)))->τ[9]? = some (some (.rol (us.map ak)))->a1w (sA awn (aa (sZ (ji (sIt (sV 9)) t1 wg [5])) bc)) τ []=.ok (us.any p1) []:=λτ h5 h9=>by
   have z:sZ (ji (sIt (sV 9)) t1 wg [5]) τ []=.ok (.rol ((us.map p1).map D.bl)) []:=by
    rw[bV];refine yg (p7 ak (D.bl ∘ p1) us (a6h (aq h9) rfl) (du (by omega)) λt ht=>?_) (g8 λy _=>jw _) (by simp)
    rw[u6,a2f,a9s,h5];exact kj (kg _ 1 0 t rfl rfl (M.lt t ht)) (a5b ckk (xq _)) (arl _ _)
   refine a00 (qx z (b4b _ _)) ?_;rw[gR];rfl
  have cf:∀τ:Sd,τ[1]? = some (some (.tup (hpD T)))->τ[5]? = some (some (.tup (T.ks.map D.int)))->τ[9]? = some (some (.rol (us.map ak)))->sZ (xx (sIt (sV 9)) t1 o8 wj [1,5]) τ []=.ok (.rol ((us.filter p2).map ak)) []:=λτ h1 h5 h9=>by
   rw[<-a5g];refine yg (a5a ak (λt=>if p2 t=true then some (ak t) else none) us (a6h (aq h9) rfl) (du (by omega)) λt ht=>?_) (by rw[a5g];exact mq _) (by simp)
   rw[akf,a2f,a2f,a9s,h1,h5];have q:o8 [some (ak t),some (.tup (hpD T)),some (.tup (T.ks.map D.int))] []=.ok (p2 t) []:=ah1 (t2s (kg _ 2 0 t rfl rfl (M.lt t ht)) (a5b ckk (xq _)) (amn _ _)) λ_=>a00 (kj (aq rfl) (aq rfl) (a5u (alk (M.lt t ht)))) (p6 _);show(o8 [some (ak t),some (.tup (hpD T)),some (.tup (T.ks.map D.int))] []).bind _=_;rw[q,az]
   cases p2 t<;>rfl
  refine⟨us.filter p2,b1f eL λx _=>rfl,some (.rol (us.map ak)),?_⟩;unfold sy;have fin:∀m:Nat,(di (jj 7 (sZ (xx (sIt (sV 9)) t1 o8 wj [1,5]))) (sIf (a4f (a1w (sV 7))) (my (sV 6)) sNx)) [some T.d,some (.tup (hpD T)),some (.rol (rs.map ak)),some (.str (S T.tg)),some (.tup (T.go.map a1f)),some (.tup (T.ks.map D.int)),some (ak m),some (.rol (ls.map ak)),some (.int ((1+i:Nat))),some (.rol (us.map ak))] [] =
    (if (us.filter p2).isEmpty then .rt (ak m) [] else .nx [some T.d,some (.tup (hpD T)),some (.rol (rs.map ak)),some (.str (S T.tg)),some (.tup (T.go.map a1f)),some (.tup (T.ks.map D.int)),some (ak m),some (.rol ((us.filter p2).map ak)),some (.int ((1+i:Nat))),some (.rol (us.map ak))] []):=λm=>by
   refine aN (nj (cf _ rfl rfl rfl)) ?_;have tr:tru (.rol ((us.filter p2).map ak)) []=.ok (!(us.filter p2).isEmpty) []:=by rw[a7f];cases us.filter p2<;>rfl
   cases v:(us.filter p2).isEmpty with
   |true =>
    rw[v]at tr;exact ifr (a7q (a00 (aq rfl) tr)) (aq rfl)
   |false =>
    rw[v]at tr;exact aN (ifF (a7q (a00 (aq rfl) tr))) rfl
  refine aN (nj eu') ?_
  by_cases c:Kn T rs i
  .have q:us.any p1=true:=bD.mpr (k1.mpr c);have an':=an [some T.d,some (.tup (hpD T)),some (.rol (rs.map ak)),some (.str (S T.tg)),some (.tup (T.go.map a1f)),some (.tup (T.ks.map D.int)),some (ak (Mx T rs i)),some (.rol (ls.map ak)),some (.int ((1+i:Nat))),some (.rol (us.map ak))] rfl rfl;rw[q]at an';refine aN (ue (aN (ifT an') (avr (aq rfl)))) ?_;rw[aw2 c,iO i 1];exact fin _
  .have q:us.any p1=false:=by
    rw[hJ];exact λx hx px=>c (k1.mp ⟨x,hx,px⟩)
   have an':=an [some T.d,some (.tup (hpD T)),some (.rol (rs.map ak)),some (.str (S T.tg)),some (.tup (T.go.map a1f)),some (.tup (T.ks.map D.int)),some (ak (Mx T rs i)),some (.rol (ls.map ak)),some (.int ((1+i:Nat))),some (.rol (us.map ak))] rfl rfl;rw[q]at an';refine aN (ifN an') ?_;rw[Mx,bA c];exact fin _
 have lp:=a2b (g:=kN 8) (b:=sy) (λi:Nat=>D.int ((1+i:Nat))) (λpre τ hp'=>∃(ls:List Nat) (t8 t9:Option D),τ=[some T.d,some (.tup (hpD T)),some (.rol (rs.map ak)),some (.str (S T.tg)),some (.tup (T.go.map a1f)),some (.tup (T.ks.map D.int)),some (ak (Mx T rs pre.length)),some (.rol (ls.map ak)),t8,t9]/\hp'=[]/\(∀x,x∈ls↔Lam T rs pre.length x)/\(0<pre.length->∃x,Lam T rs pre.length x))
  (λd hp'=>d=RA T rs/\hp'=[]) (List.range (T.go.length+2-1)) [] [some T.d,some (.tup (hpD T)),some (.rol (rs.map ak)),some (.str (S T.tg)),some (.tup (T.go.map a1f)),some (.tup (T.ks.map D.int)),some (ak 0),some (.rol (rs.map ak)),none,none] [] ?_ ⟨rs,none,none,rfl,rfl,λx=>Iff.rfl,λz=>absurd z (by simp)⟩
 .refine Pu.of rfl (a3o Table.clo (jx (adf _)) (a03 (mq _))) (r:=.ok (RA T rs) []) ?_ (gf af7 (by simp)) af7
  unfold iy;rw[dh];show toR (zq [some T.d,some (.tup (hpD T)),some (.rol (rs.map ak)),none,none,none,none,none,none,none] [])=_;unfold zq;refine etr (ue (a4b (aq rfl) rfl)) ?_;refine etr (nj ckk) ?_;refine ets (aq rfl) ?_;refine etr (a2g (a9r (a:=1) (n:=T.go.length+2) ckk ((kj (qx (aq rfl) (b4a _)) ckk ye).trans (by congr 2)) (du (by omega)) (du (by omega)))) ?_
  rcases lp with⟨τ',h',e,ls,t8,t9,rfl,rfl,el,on⟩|⟨d,h',e,rfl,rfl⟩
  .refine aN (aQ (λz=>toR (MI.thn z _)) e) ?_;rw[a0x];rw[cy,b6,show T.go.length+2-1=T.go.length+1 by omega]at on
   rw[aw4 h rn (on (by omega))]
   exact aQ toR (jn ckk)
  .refine aN (aQ (λz=>toR (MI.thn z _)) e) ?_;rfl
 .rintro pre i post τ hp' al ⟨ls,t8,t9,rfl,rfl,el,on⟩
  rw[cy]at al;obtain⟨ei,hi⟩:=vf al;subst ei;obtain⟨ts,et,t9',e⟩:=turn pre.length ls t9 el;refine⟨_,_,rfl,?_⟩;have pl:(pre++[pre.length]).length=pre.length+1:=by simp
  cases v:ts.isEmpty with
  |true =>
   rw[v,aU rfl]at e;refine .inr ⟨_,_,e,?_,rfl⟩;rw[List.isEmpty_iff]at v;exact(alj h rn (by omega) λ⟨x,q⟩=>by have:=(et x).mpr q;rw[v]at this;simp at this).symm
  |false =>
   rw[v,bA (by simp)]at e
   refine .inl ⟨_,_,e,ts,_,t9',by rw[pl],rfl,by rw[pl];exact et,λ_=>?_⟩
   rw[pl]
   cases ts with
   |nil=>cases v
   |cons x l=>exact⟨x,(et x).mp aT⟩
end
section
variable{T:Table}
def bw:SF:=ju vg 12
def au:SF:=ju (sr bw) 1
def j8:SF:=ju (a3z au) 1
theorem nq(h:T.Ok):Pu j8 1 [T.d] (.tup (hpD T)):=K22.nq h
def j6:SF:=ju (a7b j8 iy) 2
theorem aw5(h:T.Ok)(hh:Hd):aga (.tup (T.ks.map D.int)) hh=.ok ⟨(List.range T.go.length).map λr=>.tup [ak r,.int (kI T r)],λ_=>True⟩ hh:=by
 have kl:=h.kl;show R.ok (⟨((List.range (T.ks.map D.int).length).zip (T.ks.map D.int)).map λp=>.tup [.int (p.1:Nat),p.2],λ_=>True⟩:Itm) hh=_
 congr 2
 refine fO λi=>?_
 by_cases hi:i<T.go.length
 .rw[aE,aE,bQ hi,cc (z:=(i,D.int (kI T i))).mpr ⟨by rw[bQ (by rw[ax];omega)],?_⟩]
  .rfl
  .rw[aE,ag (by omega)]
   unfold kI;rw[ag (by omega)]
   rfl
 .rw[cA (by simp;omega),cA (by simp;omega)]
def kds(T:Table):List Nat:=(List.range T.go.length).filter λr=>decide (kI T r ≠ -1)
theorem a05:∀r∈kds T,r<T.go.length:=λr hr=>aY.mp (bK.mp hr).1
theorem a7l(h:T.Ok){hh:Hd}(p:Nat->Bool)(e:f τ hh=.ok (.tup (T.ks.map D.int)) hh)(ec:∀r,r<T.go.length->c (some (ak r)::some (.int (kI T r))::frs' ix τ) hh=.ok (p r) hh)
  (ef:∀r,r<T.go.length->fe (some (ak r)::some (.int (kI T r))::frs' ix τ) hh=.ok (ak r) hh):xx (a2x f) (tN 2) c fe ix τ hh=.ok (.ref hh.length) (hh++[.lst (((List.range T.go.length).filter p).map ak)]):=by
 have n32:=h.n32;rw[<-a5g];have it:a2x f τ hh=.ok ⟨(List.range T.go.length).map λr=>.tup [ak r,.int (kI T r)],λ_=>True⟩ hh:=by unfold a2x;rw[e,az];exact aw5 h hh
 refine a5a (λr=>.tup [ak r,.int (kI T r)]) (λr=>if p r=true then some (ak r) else none) (List.range T.go.length) it (du (by rw[b6];omega)) λr hr=>?_
 have hr:=aY.mp hr;show(c (some (ak r)::some (.int (kI T r))::frs' ix τ) hh).bind _=_;rw[ec r hr,az]
 cases p r with
 |true =>
  show(fe (some (ak r)::some (.int (kI T r))::frs' ix τ) hh).bind _=_;rw[ef r hr,az];rfl
 |false=>rfl
theorem a6i(h:T.Ok):Pu j6 1 [T.d] (RA T (kds T)):=by
 refine Pu.of rfl (ada Table.clo) (r:=.ok (RA T (kds T)) []) ?_ (gf af7 (by simp)) af7
 unfold j6;rw[dh];show toR (a7b j8 iy [some T.d,none] [])=_;unfold a7b;refine ets (a0l rfl (al6 _)) ?_;refine aQ toR (jn (a7h (aq rfl) (qx (aq rfl) (nq h _)) (yg (a7l h (λr=>decide (kI T r ≠ -1)) (aq rfl) (λr _=>?_) λr _=>aq rfl) (mq _) (by simp)) (a5i h a05 _)))
 exact t2s (aq rfl) (a5b ckk (xq _)) (arl _ _)
theorem aw6(P:SRC.Src u M):∀x∈[u],a5q 1 x:=λx hx=>by rw[av]at hx;subst hx;exact vq (by omega) P.clo
end
end RCH
namespace PN
open L2 MI AT HND EVX
end PN
namespace PN
open L2 MI AT HND EVX K22 K23 K21
section
variable{g:Hd}{n tu:Nat}{tg:List Nat}{rows:List (List Nat)}{ks:List Int}
def Rch(rows:List (List Nat))(r:Nat):Prop:=∀Q:Nat->Prop,Q 0->(∀r,Q r->∀x∈(rows[r]?).getD [],Q x)->Q r
theorem Rch.zero(rows:List (List Nat)):Rch rows 0:=λ_ q _=>q
theorem Rch.step(h:Rch rows r)(hx:x∈(rows[r]?).getD []):Rch rows x:=λQ q0 qs=>qs r (h Q q0 qs) x hx
theorem arq(h:x∈m):m[SRC.pos m x]? = some x:=by
 have e:=(aen (SRC.akt h).1).1;unfold SRC.cst at e;rw[aE]at e
 cases q:m[SRC.pos m x]? with
 |none=>rw[q]at e;cases e
 |some y =>
  rw[q]at e;have e:(y:Int)=(x:Int):=by simpa using e
  congr 1
  omega
theorem ars{m:List Nat}(nd:m.Nodup)(h:m[i]? = some x):SRC.pos m x=i:=by
 have h1:=arq (aW h);obtain⟨a,ea⟩:=ah.mp h;obtain⟨b,eb⟩:=ah.mp h1;have pw:=bH.mp nd
 rcases eB (SRC.pos m x) i with z|z|z
 .exact absurd (eb.trans ea.symm) (pw _ _ b a z)
 .exact z
 .exact absurd (ea.trans eb.symm) (pw _ _ a b z)
theorem aw7{m:List Nat}(nd:m.Nodup)(m0:m[0]? = some 0)(cl:∀r∈m,∀x∈(rows[r]?).getD [],x∈m)(rc:∀r∈m,Rch rows r):∀r,r<(SRC.a9x rows m).length->Rch (SRC.a9x rows m) r:=by
 intro r hr Q q0 qs
 have hr':r<m.length:=by simpa using hr
 have er:m[r]? = some m[r]:=ag hr';have key:=(rc m[r] (bL hr') (λx=>x∈m/\Q (SRC.pos m x)) ⟨aW m0,by rw[ars nd m0];exact q0⟩ λa ⟨ha,qa⟩ x hx=>⟨cl a ha x hx,qs _ qa _ (by
  rw[aE,arq ha];exact bq.mpr ⟨x,hx,rfl⟩)⟩).2
 rwa[ars nd er]at key
end
end PN
namespace SRC
open L2 MI AT HND EVX
structure MetQ (rows:List (List Nat)) (n:Nat) (met:List Nat):Prop extends Met n met where
 q:∀x∈met,PN.Rch rows x
theorem MetQ.len(M:MetQ rows n met):met.length<=n:=M.toMet.len
theorem MetQ.add(M:MetQ rows n met)(hx:x<n)(hq:PN.Rch rows x)(h:x∉met):MetQ rows n (met++[x]) :=
 ⟨M.toMet.add hx h,λy hy=>(b9.mp hy).elim (M.q y) λz=>by rw[av]at z;subst z;exact hq⟩
section
variable{A B C:SF}{most n:Nat}{tg:List Nat}{many:Int}{rows:List (List Nat)}{ks:List Int}
theorem alm{i:Nat}{met row:List Nat}(n32:n<=32)(M:MetQ rows n met)(rx:∀x∈row,x<n)(rq:∀x∈row,PN.Rch rows x) :
  ∃(met':List Nat) (t8':Option D),forL (λ_=>True) (kN 8) (ur A B C) (row.map ak) (τT most tg many rows ks (.ref 1) i t8 none) [u,.lst (met.map ak)]=.nx (τT most tg many rows ks (.ref 1) i t8' none) [u,.lst (met'.map ak)]/\MetQ rows n met'/\(∃add,met'=met++add)/\∀x∈row,x∈met':=by
 have lp:=o7 (g:=kN 8) (b:=ur A B C) ak
  (λpre τ h=>∃(met':List Nat) (t8:Option D),τ=τT most tg many rows ks (.ref 1) i t8 none/\h=[u,.lst (met'.map ak)]/\MetQ rows n met'/\(∃add,met'=met++add)/\∀x∈pre,x∈met')
  row (τT most tg many rows ks (.ref 1) i t8 none) [u,.lst (met.map ak)] ?_ ⟨met,t8,rfl,rfl,M,⟨[],by simp⟩,by simp⟩
 .obtain⟨τ',h',e,met',t8',rfl,rfl,M',ad,al⟩:=lp;exact⟨met',t8',e,M',ad,al⟩
 .rintro pre x post τ h all ⟨met',t8,rfl,rfl,M',⟨add,rfl⟩,al⟩
  have hx:x<n:=rx x (by rw[all];simp)
  have hq:PN.Rch rows x:=rq x (by rw[all];simp)
  unfold ur
  by_cases h:x∈met++add
  .refine⟨_,_,rfl,τT most tg many rows ks (.ref 1) i (some (ak x)) none,[u,.lst ((met++add).map ak)],?_,met++add,_,rfl,rfl,M',⟨add,rfl⟩,λy hy=>?_⟩
   .refine aN (ifF (t2s (aq rfl) (aq rfl) ((a9w (l:=met++add) rfl).trans (by rw[aK h];rfl)))) rfl
   .rcases b9.mp hy with z|z
    .exact al y z
    .rw[av]at z;subst z;exact h
  .refine⟨_,_,rfl,τT most tg many rows ks (.ref 1) i (some (ak x)) none,[u,.lst ((met++add++[x]).map ak)],?_,met++add++[x],_,rfl,rfl,M'.add hx hq h,⟨add++[x],by simp⟩,λy hy=>?_⟩
   .have ln:=M'.len;refine aN (ifT (t2s (aq rfl) (aq rfl) ((a9w (l:=met++add) rfl).trans (by rw[aZ h];rfl)))) ?_
    rw[bE (l₁:=met++add)];exact a6a (aq rfl) rfl (arg1 (aq rfl)) (a6b (xs:=(met++add).map ak) rfl (by rw[ax];exact a3e (by omega)))
   .rcases b9.mp hy with z|z
    .exact bN _ (al y z)
    .rw[av]at z;subst z;simp
theorem apr{s:Nat}(n1:1<=n)(n32:n<=32)(lr:rows.length=n)(rr:∀r∈rows,ahb s n r) :
  ∃(met:List Nat) (i:Nat) (t8:Option D),sWh (yw A B C) (ut A B C) 100000 (τT most tg many rows ks (.ref 1) 0 none none) [u,.lst ([0].map ak)]=.nx (τT most tg many rows ks (.ref 1) i t8 none) [u,.lst (met.map ak)]/\MetQ rows n met/\∀r∈met,∀x∈(rows[r]?).getD [],x∈met:=by
 have w:=ajq (c:=yw A B C) (f:=ut A B C)
  (λm τ h=>∃(met:List Nat) (i:Nat) (t8:Option D),τ=τT most tg many rows ks (.ref 1) i t8 none/\h=[u,.lst (met.map ak)]/\m=32-i/\i<=met.length/\MetQ rows n met/\Done rows met i)
  (λτ h=>∃(met:List Nat) (i:Nat) (t8:Option D),τ=τT most tg many rows ks (.ref 1) i t8 none/\h=[u,.lst (met.map ak)]/\MetQ rows n met/\Done rows met met.length)
  (λ_ _=>False) ?_ 32 100000 (τT most tg many rows ks (.ref 1) 0 none none) [u,.lst ([0].map ak)] (by omega)
  ⟨[0],0,none,rfl,rfl,rfl,by simp,⟨⟨by simp,by simp;omega,by simp⟩,λx hx=>by rw[av]at hx;subst hx;exact PN.Rch.zero rows⟩,λj hj=>absurd hj (cC j)⟩
 .rcases w with⟨τ',h',e,met,i,t8,rfl,rfl,M,D⟩|⟨_,_,_,z⟩
  .refine⟨met,i,t8,e,M,λr hr x hx=>?_⟩;obtain⟨j,hj,rfl⟩:=eG hr;exact D j hj _ (ag hj) x hx
  .exact z.elim
 .rintro m τ h ⟨met,i,t8,rfl,rfl,rfl,il,M,D⟩
  have ln:=M.len;have lm:∀h:Hd,h[1]? = some (.lst (met.map ak))->vm [.ref 1] h=.ok (ak met.length) h:=λh e=>by rw[a9t e,ax]
  by_cases lt:i<met.length
  .refine .inr ⟨_,t2s (aq rfl) (qx (aq rfl) (lm _ rfl)) (arc (by omega)),.inl ?_⟩
   have rl:met[i]<n:=M.lt _ (bL lt);have gm:met[i]? = some met[i]:=ag lt
   generalize met[i]=r at rl gm
   have gr:rows[r]? = some ((rows[r]?).getD []):=by rw[ag (by omega)];rfl
   have rn:=rr _ (aW gr);obtain⟨met',t8',e,M',⟨add,ea⟩,al⟩  :=alm (A:=A) (B:=B) (C:=C) (u:=u) (i:=i) (t8:=t8) (most:=most) (tg:=tg) (many:=many) (rows:=rows) (ks:=ks) n32 M rn.2 (λx hx=>(M.q r (aW gm)).step hx);refine⟨τT most tg many rows ks (.ref 1) (i+1) t8' none,[u,.lst (met'.map ak)],32-(i+1),?_,by omega,met',i+1,t8',rfl,rfl,rfl,by rw[ea,aw];omega,M',λj hj q hq x hx=>?_⟩
   .unfold ut;refine aN (a2g (a6h (kj (aq rfl) (kj (aq rfl) (aq rfl) (a3m (xs:=met.map ak) rfl (y:=ak r) (by rw[aE,gm];rfl))) (apa (y:=a7n ((rows[r]?).getD [])) (by rw[aE,gr];rfl))) rfl)) ?_
    refine aN (aQ (λz=>MI.thn z _) e) ?_;rw[a0x];exact abr rfl ckk a1e
   .by_cases je:j=i
    .subst je;rw[ea,aL lt,gm]at hq;cases hq
     exact al x hx
    .have jl:j<met.length:=by omega
     rw[ea,aL jl]at hq;rw[ea];exact bN _ (D j (by omega) q hq x hx)
  .refine .inl ⟨_,t2s (aq rfl) (qx (aq rfl) (lm _ rfl)) (ard (by omega)),met,i,t8,rfl,rfl,M,?_⟩
   rw[show met.length=i by omega];exact D
end
theorem aln(P:Src o N)(hN:N<=999980000)(m1:1<=most)(m32:most<=32):∃(T:Table) (o':O),T.Ok/\(∀r,r<T.go.length->PN.Rch T.go r)/\Dr jc 2 [ak most] o T.d o'/\Src o' (N+400):=by
 obtain⟨tg,o1,T1,e1,P1⟩:=akn P (by omega)
 obtain⟨x,o2,e2,x0,x1,P2⟩:=a04 (m:=7) P1 (by omega) (by omega) (by omega)
 obtain⟨y,o3,e3,y0,y1,P3⟩:=a04 (m:=6) P2 (by omega) (by omega) (by omega)
 obtain⟨z,o4,e4,z0,z1,P4⟩:=a04 (m:=(most:Nat)) P3 (by omega) (by omega) (by omega)
 have c1:jg false 1 dj [.ref 0] [o]=.ok (.str (S tg)) [o1]:=e1 0 _ rfl;have c2:jg false 2 aj [.ref 0,.int 7] [o1]=.ok (.int x) [o2]:=e2 0 _ rfl;have c3:jg false 2 aj [.ref 0,.int 6] [o2]=.ok (.int y) [o3]:=e3 0 _ rfl;have c4:jg false 2 aj [.ref 0,ak most] [o3]=.ok (.int z) [o4]:=e4 0 _ rfl;obtain⟨many,u,n1,Pu,eu⟩:∃(many:Int) (u:O),1<=many/\Src u (N+10)/\∀g:SS,di (jj 3 (s2 jb (sI 2) (sA (jg false 2 aj) (aa (sV 0) (aa (sI 7) bc)))))
   (di (sIf (sT (s2 hEq (sA (jg false 2 aj) (aa (sV 0) (aa (sI 6) bc))) (sI 0)))
    (jj 3 (s2 jb (sI 1) (sA (jg false 2 aj) (aa (sV 0) (aa (sV 1) bc)))))
    sNx) g) [some (.ref 0),some (ak most),some (.str (S tg)),none,none,none,none,none,none,none] [o1]=g [some (.ref 0),some (ak most),some (.str (S tg)),some (.int many),none,none,none,none,none,none] [u]:=by
  by_cases hy:y=0
  .refine⟨1+z,o4,by omega,P4,λg=>?_⟩
   refine aN (nj (kj ckk (xn (aq rfl) ckk c2) ye)) ?_;exact ue (aN (ifT (t2s (xn (aq rfl) ckk c3) ckk (a6d hy))) (avr (kj ckk (xn (aq rfl) (aq rfl) c4) ye)))
  .refine⟨2+x,o3,by omega,P3.up (by omega),λg=>?_⟩
   refine aN (nj (kj ckk (xn (aq rfl) ckk c2) ye)) ?_;exact ifN (t2s (xn (aq rfl) ckk c3) ckk (a7r hy))
 obtain⟨n,hn1,hn2,mn⟩:∃n:Nat,1<=n/\n<=32/\(if (most:Int)<many then (most:Int) else many)=(n:Nat):=by
  by_cases h:(most:Int)<many
  .exact⟨most,m1,m32,aU h⟩
  .exact⟨many.toNat,by omega,by omega,by rw[bA h];omega⟩
 obtain⟨ks,rows,u2,lk,k0,kk,lr,rr,e5,P5⟩:=apc (tg:=tg) (n:=n) Pu (by omega) T1.hi hn1 hn2
 have c5:jg false 3 gj [.ref 0,.str (S tg),ak n] [u]=.ok (.tup [.rol (rows.map a7n),.rol (ks.map D.int)]) [u2]:=e5 0 _ rfl;obtain⟨met,i,t8,ew,M,cl⟩  :=apr (A:=aj) (B:=gj) (C:=dj) (u:=u2) (most:=most) (tg:=tg) (many:=many) (ks:=ks) hn1 hn2 lr rr;obtain⟨m,pm,sm,H,hH,ee⟩:=akx (A:=aj) (B:=gj) (C:=dj) (most:=most) (many:=many) (i:=i) (t8:=t8) P5 hn2 lr lk T1.hi rr M.toMet cl;have lm:m.length=met.length:=pm.length_eq;have ln:=M.len;have zm:0∈m:=pm.mem_iff.mpr M.z;have m0:m[0]? = some 0:=by
  cases m with
  |nil=>cases zm
  |cons a l =>
   rcases aP.mp zm with q|q
   .rw[<-q];rfl
   .have:=(gT.mp sm).1 0 q
    rw[show a=0 by omega];rfl
 let T:Table:=⟨tg,a9x rows m,a8f ks m⟩
 have ml:1<=m.length:=by cases m with|nil=>cases zm|cons _ _=>simp
 have ok:T.Ok:=by
  refine⟨T1,by simpa[T] using ml,by show(a9x rows m).length<=32;rw[ax];omega,λr hr=>?_,by simp[T],?_,λk hk=>?_⟩
  .obtain⟨q,hq,rfl⟩:=bq.mp hr;have h1:=M.lt q (pm.mem_iff.mp hq);have e:rows[q]? = some ((rows[q]?).getD []):=by rw[ag (by omega)];rfl
   obtain⟨a,b⟩:=rr _ (aW e);refine⟨by rw[ax];exact a,λx hx=>?_⟩
   obtain⟨v,hv,rfl⟩:=bq.mp hx;show pos m v<(a9x rows m).length;rw[ax];exact(akt (pm.mem_iff.mpr (cl q (pm.mem_iff.mp hq) v hv))).2
  .show(a8f ks m)[0]? = _;rw[aE,m0];show some ((ks[0]?).getD 0)=_;rw[k0];rfl
  .obtain⟨q,hq,rfl⟩:=bq.mp hk;have h1:=M.lt q (pm.mem_iff.mp hq);have e:ks[q]? = some ((ks[q]?).getD 0):=by rw[ag (by omega)];rfl
   exact kk _ (aW e)
 refine⟨T,u2,ok,PN.aw7 (pm.nodup_iff.mpr M.nd) m0 (λr hr x hx=>pm.mem_iff.mpr (cl r (pm.mem_iff.mp hr) x hx)) (λr hr=>M.q r (pm.mem_iff.mp hr)),Dr.of rfl (by intro x hx;rw[av]at hx;subst hx;exact dg _) P.clo (r:=.ok T.d H) ?_ ((gf (ajo (bU 1) Table.clo) (by rw[hH];intro x hx;rw[av]at hx;subst hx;exact vq (by omega) P5.clo)).trans (by rw[hH])) Table.clo P5.clo,P5.up (by omega)⟩
 unfold jc;rw[dh];show toR (a0e aj gj dj [some (.ref 0),some (ak most),none,none,none,none,none,none,none,none] [o])=_;unfold a0e;refine ets (qx (aq rfl) c1) ?_;refine etr (eu _) ?_;refine etr (ue (a4b (a7h (aq rfl) (aq rfl) (xn (aq rfl) (aq rfl) (show ab5 [.int many,.int (most:Int)] [u]=.ok (ak n) [u] by show R.ok (D.int (if (most:Int)<many then (most:Int) else many)) [u]=_;rw[mn])) c5) rfl)) ?_
 refine etr (nj (d:=.ref 1) (h1:=[u2,.lst ([0].map ak)]) rfl) ?_;refine etr (nj ckk) ?_;refine etr (ue ew) ?_;exact ee
end SRC
namespace STP
open L2 MI AT HND EVX K23 K21 RCH
open K22 hiding hp j8 bw au nq
open K40
section
variable{T:Table}
def ph:SF:=ju u5 2
def dw:SF:=ju m7 8
theorem aps(p:Pln d):Pu STP.ph 2 [.str (S T.tg),d] (.bl (txt T d)):=K21.ah0 p
theorem alo(h:T.Ok){c:Nat}(hc:c<T.tg.length):psn T (tgA T c)=c:=by
 have hm:tgA T c∈T.tg:=aW (agy hc);obtain⟨i,e1,e2,_⟩:=a8y (T:=S T.tg) (c:=tgA T c) (by rw[a2e];exact hm)
 rw[a2e]at e2;have e3:psn T (tgA T c)=i:=by unfold psn;rw[e1];simp
 rw[e3];obtain⟨a,ea⟩:=ah.mp e2;obtain⟨b,eb⟩:=ah.mp (agy hc);have pw:=bH.mp h.tong.nd
 rcases eB i c with z|z|z
 .exact absurd (ea.trans eb.symm) (pw _ _ a b z)
 .exact z
 .exact absurd (eb.trans ea.symm) (pw _ _ b a z)
abbrev Ent:=Nat×List Nat
def wtD(e:Ent):D:=.tup [ak e.1,.str (S e.2)]
def kvD(e:Ent):Key×D:=(.inl (e.1:Int),.str (S e.2))
structure Way (T:Table) (ps:Nat->Bool) (s:Nat) (e:Ent):Prop where
 to:ldw T s e.2=e.1
 sg:∀c∈e.2,c∈T.tg
 ps:∀i,i<e.2.length->ps (ldw T s (e.2.take (i+1)))=true
structure WSt (T:Table) (ps:Nat->Bool) (s:Nat) (es:List Ent):Prop where
 way:∀e∈(s,[])::es,Way T ps s e
 ne:∀e∈es,e.2≠[]
 nd:(es.map (·.1)).Nodup
 len:∀(j:Nat) (e:Ent),((s,[])::es)[j]? = some e->e.2.length<=j
variable{ps:Nat->Bool}{s:Nat}{es:List Ent}
theorem WSt.start:WSt T ps s []:=by
 refine⟨λe he=>?_,by simp,by simp,λj e he=>?_⟩
 .rw[av]at he;subst he;exact⟨rfl,by simp,λi hi=>absurd hi (cC i)⟩
 .cases j with
  |zero=>simp at he;subst he;exact ay _
  |succ j=>simp at he
theorem WSt.lt(h:T.Ok)(hs:s<T.go.length)(W:WSt T ps s es){e:Ent}(he:e∈(s,[])::es):e.1<T.go.length:=by rw[<-(W.way e he).to];exact a5d h _ hs
theorem WSt.few(h:T.Ok)(hs:s<T.go.length)(W:WSt T ps s es):es.length<=T.go.length:=by
 have:=BF.a2h T.go.length (es.map (·.1)) W.nd λx hx=>by
  obtain⟨e,he,rfl⟩:=bq.mp hx;exact W.lt h hs (aI _ he)
 simpa using this
theorem WSt.add(W:WSt T ps s es){e:Ent}(we:Way T ps s e)(ne:e.2≠[])(nw:e.1∉es.map (·.1))(le:e.2.length<=es.length+1):WSt T ps s (es++[e]):=by
 refine⟨λx hx=>?_,λx hx=>?_,?_,λj x hx=>?_⟩
 .rcases b9.mp (show x∈((s,[])::es)++[e] from hx) with z|z
  .exact W.way x z
  .rw[av]at z;subst z;exact we
 .rcases b9.mp hx with z|z
  .exact W.ne x z
  .rw[av]at z;subst z;exact ne
 .rw[bE,bZ];refine⟨W.nd,by simp,λa ha b hb=>?_⟩
  rw[eQ,av]at hb;subst hb;exact λz=>nw (z ▸ ha)
 .rw[show(s,[])::(es++[e])=((s,[])::es)++[e] from rfl]at hx
  by_cases hj:j<((s,([]:List Nat))::es).length
  .rw[aL hj]at hx;exact W.len j x hx
  .rw[aR (by omega)]at hx
   rw[bB]at hx hj;have:j-(es.length+1)=0:=by
    have:=(ah.mp hx).1
    simp at this;omega
   rw[this]at hx;simp at hx;subst hx;omega
theorem art{x:Nat}(h:x∉es.map (·.1)):a3x (es.map kvD) (.inl (x:Int))=none/\∀d,putD (es.map kvD) (.inl (x:Int)) d=es.map kvD++[(.inl (x:Int),d)]:=by
 have no:∀kv∈es.map kvD,¬ decide (kv.1=(.inl (x:Int):Key))=true:=λkv hkv=>by
  obtain⟨e,he,rfl⟩:=bq.mp hkv;rw[dX]
  intro z
  have:(e.1:Int)=(x:Int):=gy z
  exact h (bq.mpr ⟨e,he,by omega⟩)
 constructor
 .unfold a3x;rw[cX.mpr no];rfl
 .intro d
  unfold putD;rw[bA]
  intro z
  obtain⟨kv,hkv,e⟩:=bD.mp z;exact no kv hkv e
theorem aa7:∀{es:List Ent} {e:Ent},e∈es->(es.map (·.1)).Nodup->a3x (es.map kvD) (.inl (e.1:Int))=some (.str (S e.2))
 |a::es,e,he,nd=>by
  unfold a3x;rw[bg,cW]
  by_cases q:a=e
  .subst q;rw[show decide ((kvD a).1=(.inl (a.1:Int):Key))=true from aK rfl]
   rfl
  .have he':e∈es:=(aP.mp he).resolve_left λz=>q z.symm;have na:a.1≠e.1:=λz=>(cN.mp nd).1 (bq.mpr ⟨e,he',z.symm⟩);rw[show decide ((kvD a).1=(.inl (e.1:Int):Key))=false from aZ λz=>na (by have:(a.1:Int)=(e.1:Int):=gy z;omega)]
   exact aa7 he' (cN.mp nd).2
theorem alp(es:List Ent):((es.map kvD).map (·.1)).zip ((es.map kvD).map (·.2))=es.map kvD:=by
 rw[bV,bV]
 induction es with
 |nil=>rfl
 |cons a l ih=>rw[bg,bg,gX,ih];rfl
theorem alq(hi:n<=i)(e:h[i]? = some (.dK kvs))(c:clos n (kvs.map (·.2))):a3u n h (k+2) (.ref i)=some (.rod (kvs.map (·.1)) (kvs.map (·.2))):=by
 unfold a3u;rw[bA (by simp only[MI.clo];omega)]
 simp only[e];rw[a9b λx hx=>a9c (a2a.mp c x hx)];rfl
abbrev wrD(es:List Ent):D:=.rod ((es.map kvD).map (·.1)) ((es.map kvD).map (·.2))
theorem aru(n:Nat)(es:List Ent):clos n ((es.map kvD).map (·.2)):=by rw[bV];exact g8 λe _=>gq _
theorem aw8(n:Nat):MI.clo n (wrD es):=by
 have:=aru n es
 simpa[MI.clo] using this
theorem aw9(he:e∈es)(nd:(es.map (·.1)).Nodup)(hh:Hd):abb (wrD es) (ak e.1) hh=.ok (.str (S e.2)) hh:=by
 have q:aqz (wrD es) (ak e.1) hh=some (some (.str (S e.2))):=by
  show some (a3x (((es.map kvD).map (·.1)).zip ((es.map kvD).map (·.2))) (.inl (e.1:Int)))=_;rw[alp,aa7 he nd]
 unfold abb;rw[q]
abbrev hW(s:Nat)(es:List Ent):Hd:=[.dK (es.map kvD),.lst (((s,[])::es).map wtD)]
abbrev τW(T:Table)(s:Nat)(P:D)(l:Nat)(t9 t10 t11 t12:Option D):Sd:=[some T.d,some (ak s),some P,some (.str (S T.tg)),some (.tup (T.go.map a1f)),some (.tup (T.ks.map D.int)),some (.ref 0),some (.ref 1),some (ak l),t9,t10,t11,t12]
theorem ah4(h:T.Ok)(hs:s<T.go.length){P:D}(hP:∀x,x<T.go.length->∀hh,gIx P (ak x) hh=.ok (.bl (ps x)) hh)(W:WSt T ps s es){l c:Nat}{e:Ent}(he:((s,[])::es)[l]? = some e)(hc:c<T.tg.length)(τ:Sd)
  (hτ:τ=τW T s P l (some (ak e.1)) (some (.str (S e.2))) (some (.str (S [tgA T c]))) (some (ak (stp T e.1 c)))) :
  ∃add,wk τ (hW s es)=.nx τ (hW s (es++add))/\WSt T ps s (es++add)/\(ps (stp T e.1 c)=true->stp T e.1 c∈(es++add).map (·.1)):=by
 have n32:=h.n32;have fw:=W.few h hs;have sl:=a6c h e.1 c;have em:=aW he;have ll:=(ah.mp he).1;rw[bB]at ll;have we:=W.len l e he;have eW:=W.way e em;subst hτ;have t1:a1w (s2 gIx (sV 2) (sV 12)) (τW T s P l (some (ak e.1)) (some (.str (S e.2))) (some (.str (S [tgA T c]))) (some (ak (stp T e.1 c)))) (hW s es)=.ok (ps (stp T e.1 c)) (hW s es):=a00 (kj (aq rfl) (aq rfl) (hP _ sl _)) (p6 _);have din:ag8 true (ak (stp T e.1 c)) (.ref 0) (hW s es)=.ok (.bl (!(a3x (es.map kvD) (.inl ((stp T e.1 c:Nat):Int))).isSome)) (hW s es):=rfl
 unfold wk
 cases hp:ps (stp T e.1 c) with
 |false =>
  rw[hp]at t1;exact⟨[],by rw[bX];exact ifF (awr t1),by rw[bX];exact W,λz=>by cases z⟩
 |true =>
  rw[hp]at t1
  by_cases sn:stp T e.1 c∈es.map (·.1)
  .obtain⟨e2,he2,q⟩:=bq.mp sn;refine⟨[],?_,by rw[bX];exact W,λ_=>by rw[bX];exact sn⟩
   rw[bX];refine ifF (akg t1 (t2s (aq rfl) (aq rfl) (din.trans ?_)));rw[<-q,aa7 he2 W.nd];rfl
  .have wo:Way T ps s (stp T e.1 c,e.2++[tgA T c]):=by
    have lw:ldw T s (e.2++[tgA T c])=stp T e.1 c:=by rw[a2k,alo h hc,eW.to]
    refine⟨lw,λd hd=>?_,λi hi=>?_⟩
    .rcases b9.mp hd with z|z
     .exact eW.sg d z
     .rw[av]at z;subst z;exact aW (agy hc)
    .rw[aw,aM]at hi
     by_cases q:i<e.2.length
     .show ps (ldw T s ((e.2++[tgA T c]).take (i+1)))=true;rw[cQ (by omega)];exact eW.ps i q
     .show ps (ldw T s ((e.2++[tgA T c]).take (i+1)))=true;rw[bP (by rw[aw,aM];omega),lw];exact hp
   obtain⟨v1,v2⟩:=art sn;have add:∀hh,jb (.str (S e.2)) (.str (S [tgA T c])) hh=.ok (.str (S (e.2++[tgA T c]))) hh:=λhh=>a9m (du (by rw[aM];omega))
   have p:ar0 (.ref 0) (ak (stp T e.1 c)) (.str (S (e.2++[tgA T c]))) (hW s es)=some [.dK ((es++[(stp T e.1 c,e.2++[tgA T c])]).map kvD),.lst (((s,[])::es).map wtD)]:=by
    have lt:(es.map kvD).length<LINE:=a3e (by rw[ax];omega)
    show(if (es.map kvD).length<LINE then some [O.dK (putD (es.map kvD) (.inl ((stp T e.1 c:Nat):Int)) (.str (S (e.2++[tgA T c])))),O.lst (((s,[])::es).map wtD)] else none)=_
    rw[aU lt,v2,bE];rfl
   refine⟨[(stp T e.1 c,e.2++[tgA T c])],?_,W.add wo (by simp) sn (by rw[aw,aM];omega),λ_=>by rw[bE];exact bb _ (by simp)⟩
   refine aN (ifT (akg t1 (t2s (aq rfl) (aq rfl) (din.trans (by rw[v1];rfl))))) ?_
   refine aN (ue (aki (kj (aq rfl) (aq rfl) (add _)) (aq rfl) (aq rfl) p)) ?_;refine aN (a6a (aq rfl) rfl (arg1 (xn (aq rfl) (kj (aq rfl) (aq rfl) (add _)) aha)) (a6b (xs:=((s,[])::es).map wtD) rfl (a3e (by rw[ax,bB];omega)))) ?_
   unfold hW;rw[show(s,[])::(es++[(stp T e.1 c,e.2++[tgA T c])])=((s,[])::es)++[(stp T e.1 c,e.2++[tgA T c])] from rfl,bE (l₁:=(s,[])::es)]
   rfl
def b4c(T:Table)(ps:Nat->Bool)(s:Nat)(es:List Ent):Prop:=∀e∈(s,[])::es,∀x∈rw' T e.1,ps x=true->x∈es.map (·.1)
def bz:SF:=ju a1o 13
theorem aa8(h:T.Ok)(hs:s<T.go.length)(cP:MI.clo 0 P)(hP:∀x,x<T.go.length->∀hh,gIx P (ak x) hh=.ok (.bl (ps x)) hh):∃es,WSt T ps s es/\b4c T ps s es/\Pu bz 3 [T.d,ak s,P] (wrD es):=by
 have n32:=h.n32;have s6:=h.tong.hi;have w:=ajq (c:=a2c) (f:=a06)
  (λm τ hh=>∃(es:List Ent) (l:Nat) (t9 t10 t11 t12:Option D),τ=τW T s P l t9 t10 t11 t12/\hh=hW s es/\m=T.go.length+1-l/\l<=es.length+1/\WSt T ps s es/\∀j,j<l->∀e,((s,[])::es)[j]? = some e->∀x∈rw' T e.1,ps x=true->x∈es.map (·.1))
  (λτ hh=>∃(es:List Ent) (l:Nat) (t9 t10 t11 t12:Option D),τ=τW T s P l t9 t10 t11 t12/\hh=hW s es/\WSt T ps s es/\b4c T ps s es)
  (λ_ _=>False) ?_ (T.go.length+1) 100000 (τW T s P 0 none none none none) (hW s []) (by omega)
  ⟨[],0,none,none,none,none,rfl,rfl,rfl,by simp,WSt.start,λj hj=>absurd hj (cC j)⟩
 .rcases w with⟨τ',h',e,es,l,t9,t10,t11,t12,rfl,rfl,W,C⟩|⟨_,_,_,z⟩
  .refine⟨es,W,C,Pu.of rfl (b16 (dg _) cP) (r:=.ok (.ref 0) (hW s es)) ?_ (a72 (alq (ay _) rfl (aru _ _)) (by simp)) (aw8 _)⟩
   unfold bz;rw[dh];show toR (a1o [some T.d,some (ak s),some P,none,none,none,none,none,none,none,none,none,none] [])=_;unfold a1o;refine etr (ue (a4b (aq rfl) rfl)) ?_;refine etr (nj (d:=.ref 0) (h1:=[.dK []]) rfl) ?_;refine ets (qx (xn (aq rfl) ckk aha) rfl) ?_;refine etr (nj ckk) ?_;refine etr (ue e) ?_;exact aQ toR (jn (aq rfl))
  .exact z.elim
 .rintro m τ hh ⟨es,l,t9,t10,t11,t12,rfl,rfl,rfl,le,W,Dn⟩
  have fw:=W.few h hs;have ln:vm [.ref 1] (hW s es)=.ok (ak (es.length+1)) (hW s es):=by
   have:=a9t (h:=hW s es) (i:=1) (xs:=((s,[])::es).map wtD) rfl
   rwa[ax,bB]at this
  by_cases lt:l<es.length+1
  .refine .inr ⟨_,t2s (aq rfl) (qx (aq rfl) ln) (arc (by omega)),.inl ?_⟩
   have he:((s,[])::es)[l]? = some ((s,[])::es)[l]:=ag (by simpa using lt)
   generalize ((s,[])::es)[l]=e at he
   have el:=W.lt h hs (aW he);obtain⟨row,er,lr,lx,at'⟩:=af3 h el;have lo:=o7 (g:=a0n 2 (dq (kN 11) (dq (kN 12) a0t))) (b:=wk) (λc:Nat=>D.tup [.str (S [tgA T c]),ak (stp T e.1 c)])
    (λpre τ hh=>∃(es':List Ent) (t11 t12:Option D),τ=τW T s P l (some (ak e.1)) (some (.str (S e.2))) t11 t12/\hh=hW s es'/\WSt T ps s es'/\(∃add,es'=es++add)/\∀c∈pre,ps (stp T e.1 c)=true->stp T e.1 c∈es'.map (·.1))
    (List.range T.tg.length) (τW T s P l (some (ak e.1)) (some (.str (S e.2))) t11 t12) (hW s es) ?_ ⟨es,t11,t12,rfl,rfl,W,⟨[],by simp⟩,by simp⟩
   .obtain⟨τ',h',e2,es',t11',t12',rfl,rfl,W',⟨add,rfl⟩,al⟩:=lo;have fx:gIx (.ref 1) (ak l) (hW s es)=.ok (wtD e) (hW s es):=a3m (xs:=((s,[])::es).map wtD) rfl (by rw[aE,he];rfl)
    have zi:acs (sV 3) (s2 gIx (sV 4) (sV 9)) (τW T s P l (some (ak e.1)) (some (.str (S e.2))) t11 t12) (hW s es)=.ok ⟨(List.range T.tg.length).map λc=>.tup [.str (S [tgA T c]),ak (stp T e.1 c)],λ_=>True⟩ (hW s es):=by
     unfold acs;rw[aq rfl,az,kj (aq rfl) (aq rfl) (a5u (by rw[aE,er];rfl)),az,<-ad8 lr at']
     unfold auj;simp only[srcOf,and_self]
    refine⟨τW T s P (l+1) (some (ak e.1)) (some (.str (S e.2))) t11' t12',hW s (es++add),T.go.length+1-(l+1),?_,by omega,es++add,l+1,_,_,_,_,rfl,rfl,rfl,by rw[aw];omega,W',λj hj q hq x hx px=>?_⟩
    .unfold a06;refine aN (ue (a4b (kj (aq rfl) (aq rfl) fx) rfl)) ?_;refine aN (a2g zi) ?_;refine aN (aQ (λz=>MI.thn z _) e2) ?_;rw[a0x];exact abr rfl ckk a1e
    .rw[show(s,[])::(es++add)=((s,[])::es)++add from rfl]at hq
     by_cases je:j=l
     .subst je;rw[aL (by simpa using lt),he]at hq
      cases hq
      obtain⟨c,hc,rfl⟩:=(a4d h el).mp hx;exact al c (aY.mpr hc) px
     .rw[aL (by rw[bB];omega)]at hq
      rw[bE];exact bN _ (Dn j (by omega) q hq x hx px)
   .rintro pre c post τ hh all ⟨es',t11,t12,rfl,rfl,W',⟨add,rfl⟩,al⟩
    obtain⟨hi,hc⟩:=vf all;have he':((s,[])::(es++add))[l]? = some e:=by
     rw[show(s,[])::(es++add)=((s,[])::es)++add from rfl,aL (by simpa using lt)];exact he
    obtain⟨ad2,e3,W2,in2⟩:=ah4 h hs hP W' he' hc _ rfl;refine⟨_,_,rfl,_,_,e3,es++add++ad2,_,_,rfl,rfl,W2,⟨add++ad2,by simp⟩,λd hd pd=>?_⟩
    rcases b9.mp hd with z|z
    .rw[bE];exact bN _ (al d z pd)
    .rw[av]at z;subst z;exact in2 pd
  .refine .inl ⟨_,t2s (aq rfl) (qx (aq rfl) ln) (ard (by omega)),es,l,t9,t10,t11,t12,rfl,rfl,W,λe he=>?_⟩
   obtain⟨j,hj,rfl⟩:=eG he;exact Dn j (by rw[bB]at hj;omega) _ (ag hj)
end
end STP
namespace HGT
open L2 MI AT HND EVX K23 K21 RCH
open K22 hiding hp
open K40
section
variable{T:Table}
noncomputable def Ph(T:Table):Nat->Nat->Bool
 |0,x=>decide (x<T.go.length) && decide (kI T x ≠ -1)
 |k+1,x=>Ph T k x || (hp T x && (List.range T.go.length).any λr=>Ph T k r && decide (x∈rw' T r))
def bh(T:Table)(x:Nat):Bool:=Ph T T.go.length x
theorem apt(e:Ph T k x=true):Ph T (k+1) x=true:=by simp only[Ph,e,Bool.true_or]
theorem alr(hr:r<T.go.length)(e:Ph T k r=true)(hx:x∈rw' T r)(p:hp T x=true):Ph T (k+1) x=true:=by
 simp only[Ph,iQ,ba,bD];exact .inr ⟨p,r,aY.mpr hr,e,aK hx⟩
theorem awa(e:Ph T (k+1) x=true):Ph T k x=true\/∃r,r<T.go.length/\Ph T k r=true/\x∈rw' T r/\hp T x=true:=by
 simp only[Ph,iQ,ba,bD]at e
 rcases e with e|⟨p,r,hr,e,hx⟩
 .exact .inl e
 .exact .inr ⟨r,aY.mp hr,e,bF hx,p⟩
theorem awb(hx:x<T.go.length)(e:Ph T (T.go.length+k) x=true):bh T x=true:=by
 cases q:bh T x with
 |true=>rfl
 |false =>
  have:=aG (n:=T.go.length) (P:=λk x => !Ph T k x) (λk x _ h=>by
   cases z:Ph T k x with
   |false=>rfl
   |true=>simp only[apt z]at h;cases h) (λk h x hx=>?_) k x hx (by show(!bh T x)=true;rw[q];rfl)
  .simp only[e]at this;cases this
  .have e1:∀y,y<T.go.length->Ph T k y=Ph T (k+1) y:=λy hy=>by have:=h y hy;simpa using this
   show(!Ph T (k+1) x)=(!Ph T (k+2) x)
   congr 1
   rw[iU];refine⟨apt,λz=>?_⟩
   rcases awa z with z|⟨r,hr,z,hx,p⟩
   .exact z
   .rw[<-e1 r hr]at z;exact alr hr z hx p
theorem a5w(hx:x<T.go.length)(e:kI T x ≠ -1):bh T x=true:=by
 have:∀k,Ph T k x=true:=λk=>by
  induction k with
  |zero=>simp only[Ph,aK hx,aK e];rfl
  |succ k ih=>exact apt ih
 exact this _
theorem adg(h:T.Ok)(hr:r<T.go.length)(e:bh T r=true)(hx:x∈rw' T r)(p:hp T x=true):bh T x=true:=awb (k:=1) ((a4c h hr).2.2 x hx) (alr hr e hx p)
theorem arv{Q:Nat->Prop}(q0:∀x,x<T.go.length->kI T x ≠ -1->Q x)(qs:∀r x,r<T.go.length->bh T r=true->Q r->x∈rw' T r->hp T x=true->Q x){x:Nat}(e:bh T x=true):Q x:=by
 have up:∀{k j y},Ph T k y=true->Ph T (k+j) y=true:=λ{k j y} z=>by
  induction j with
  |zero=>exact z
  |succ j ih=>exact apt ih
 have:∀k,k<=T.go.length->∀x,Ph T k x=true->Q x:=λk=>by
  induction k with
  |zero =>
   intro _ x e
   simp only[Ph,ba]at e;exact q0 x (bF e.1) (bF e.2)
  |succ k ih =>
   intro hk x e
   rcases awa e with e|⟨r,hr,e,hx,p⟩
   .exact ih (by omega) x e
   .refine qs r x hr ?_ (ih (by omega) r e) hx p
    have:=up (j:=T.go.length-k) e
    rwa[show k+(T.go.length-k)=T.go.length by omega]at this
 exact this _ (ay _) x e
theorem a5j(h:T.Ok)(hs:∀x∈st,x<T.go.length):RA T st=.non↔∃r∈st,∀k,Dp T k r=true:=by
 constructor
 .intro e
  have:∃x,Lam T st T.go.length x:=by
   refine bW λz=>?_;rw[alj h hs (fK _) z]at e;cases e
  obtain⟨r,q,d⟩:=(ac2 (T:=T) (k:=T.go.length) (j:=0)).mp (by rw[dF];exact this)
  refine⟨r,q,λk=>?_⟩;have:=arp h (hs r q) d k
  clear d
  revert this
  generalize T.go.length=n
  intro this
  induction n with
  |zero=>rwa[dF]at this
  |succ n ih=>exact ih (aa5 _ _ (by rw[show n+k+1=n+1+k by omega];exact this))
 .rintro⟨r,q,d⟩
  refine aw4 h hs ?_;have:=(ac2 (T:=T) (k:=T.go.length+1) (j:=0)).mpr ⟨r,q,d _⟩
  rwa[dF]at this
theorem a2o{r n:Nat}(hr:r<n):∀x∈[r],x<n:=λx hx=>by rw[av]at hx;subst hx;exact hr
theorem endless(h:T.Ok):RA T (kds T)=.non↔∃r,r<T.go.length/\bh T r=true/\RA T [r]=.non:=by
 rw[a5j h a05]
 constructor
 .rintro⟨r,hr,d⟩
  have hr':=a05 r hr;refine⟨r,hr',a5w hr' (bF (bK.mp hr).2),(a5j h (a2o hr')).mpr ⟨r,by simp,d⟩⟩
 .rintro⟨r,hr,b,e⟩
  obtain⟨r',q,d⟩:=(a5j h (a2o hr)).mp e;rw[av]at q;subst q;refine arv (T:=T) (Q:=λx=>(∀k,Dp T k x=true)->∃r∈kds T,∀k,Dp T k r=true) (λx hx e d=>⟨x,bK.mpr ⟨aY.mpr hx,aK e⟩,d⟩) (λr x hr _ ih hx p d=>?_) b d;have hx':=(a4c h hr).2.2 x hx
  by_cases c:kI T x = -1
  .refine ih λk=>?_
   cases k with
   |zero=>rfl
   |succ k =>
    simp only[Dp,bD,ba];exact⟨x,hx,by unfold gd;rw[aK c,p];rfl,d k⟩
  .exact⟨x,bK.mpr ⟨aY.mpr hx',aK c⟩,d⟩
end
section
variable{T:Table}
abbrev bhD(T:Table):List D:=(List.range T.go.length).map λr=>D.bl (bh T r)
theorem adh(n:Nat):clos n (bhD T):=g8 λ_ _=>jw _
theorem b1g(hr:r<T.go.length):(bhD T)[r]? = some (.bl (bh T r)):=by rw[aE,bQ hr];rfl
theorem awc:(bhD T).length=T.go.length:=by rw[ax,b6]
theorem b4d{l:List Nat}(e:h[i]? = some (.lst (l.map ak))):gIn false (ak x) (.ref i) h=.ok (.bl (decide (x∈l))) h:=by
 have fl:a0o (ak x)=true/\(l.map ak).all a0o=true:=⟨rfl,by
  rw[bI]
  intro y hy
  obtain⟨n,_,rfl⟩:=bq.mp hy
  rfl⟩
 unfold gIn a1y;simp only[e,aU fl,cG,eV,SRC.aks]
abbrev τB(T:Table)(i:Nat)(t7 t8:Option D):Sd:=[some T.d,some (.tup (hpD T)),some (.str (S T.tg)),some (.tup (T.go.map a1f)),some (.tup (T.ks.map D.int)),some (.ref 0),some (ak i),t7,t8]
def jk:SF:=ju uy 9
theorem a7m(h:T.Ok):Pu jk 2 [T.d,.tup (hpD T)] (.rol (bhD T)):=by
 have n32:=h.n32;have row:∀(l:List Nat) (i r:Nat) (t8:Option D),r<T.go.length->Fw T.go.length l->∃(l':List Nat) (t8':Option D),forL (λ_=>True) (kN 8) o9 ((rw' T r).map ak) (τB T i (some (a1f (rw' T r))) t8) [.lst (l.map ak)]=.nx (τB T i (some (a1f (rw' T r))) t8') [.lst (l'.map ak)]/\Fw T.go.length l'/\(∃add,l'=l++add)/\(∀x,x∈l'↔x∈l\/(x∈rw' T r/\hp T x=true)):=λl i r t8 hr M=>by
  obtain⟨_,_,rx⟩:=a4c h hr;have lp:=o7 (g:=kN 8) (b:=o9) ak (λpre τ hp'=>∃(l':List Nat) (t8:Option D),τ=τB T i (some (a1f (rw' T r))) t8/\hp'=[.lst (l'.map ak)]/\Fw T.go.length l'/\(∃add,l'=l++add)/\(∀x,x∈l'↔x∈l\/(x∈pre/\hp T x=true))) (rw' T r) (τB T i (some (a1f (rw' T r))) t8) [.lst (l.map ak)] ?_ ⟨l,t8,rfl,rfl,M,⟨[],by simp⟩,by simp⟩
  .obtain⟨τ',h',e,l',t8',rfl,rfl,M',ad,mem⟩:=lp;exact⟨l',t8',e,M',ad,mem⟩
  .rintro pre t post τ hp' al ⟨l',t8,rfl,rfl,M',⟨add,ea⟩,mem⟩
   have tl:=rx t (by rw[al];simp)
   have ll:=M'.len;have tst:a2n (a1w (s2 gIx (sV 1) (sV 8))) (sT (s2 (gIn true) (sV 8) (sV 5))) (τB T i (some (a1f (rw' T r))) (some (ak t))) [.lst (l'.map ak)]=.ok (hp T t && !decide (t∈l')) [.lst (l'.map ak)] :=
    ah1 (a00 (kj (aq rfl) (aq rfl) (a5u (alk tl))) (p6 _)) λ_=>t2s (aq rfl) (aq rfl) (SRC.a9w (l:=l') rfl)
   unfold o9
   cases v:(hp T t && !decide (t∈l')) with
   |true =>
    rw[v]at tst;rw[ba]at v;have c:t∉l':=by simpa using v.2
    have st:stepK l' t=l'++[t]:=bA c;refine⟨_,_,rfl,_,_,aN (ifT tst) ?_,l'++[t],some (ak t),rfl,rfl,by rw[<-st];exact M'.step tl,⟨add++[t],by rw[ea];simp⟩,λx=>?_⟩
    .rw[bE];exact a6a (aq rfl) rfl (arg1 (aq rfl)) (a6b (xs:=l'.map ak) rfl (by rw[ax];exact a3e (by omega)))
    .rw[b9,b9,mem,av]
     constructor
     .rintro((q|⟨q,p⟩)|q)
      .exact .inl q
      .exact .inr ⟨.inl q,p⟩
      .exact .inr ⟨.inr q,by rw[q];exact v.1⟩
     .rintro(q|⟨q|q,p⟩)
      .exact .inl (.inl q)
      .exact .inl (.inr ⟨q,p⟩)
      .exact .inr q
   |false =>
    rw[v]at tst;refine⟨_,_,rfl,_,_,aN (ifF tst) rfl,l',_,rfl,rfl,M',⟨add,ea⟩,λx=>?_⟩;rw[mem,b9,av]
    constructor
    .rintro(q|⟨q,p⟩)
     .exact .inl q
     .exact .inr ⟨.inl q,p⟩
    .rintro(q|⟨q|q,p⟩)
     .exact .inl q
     .exact .inr ⟨q,p⟩
     .subst q;rw[p]at v;rw[<-mem];simpa using v
 have w:=ajq (c:=yj) (f:=u9)
  (λm τ hp'=>∃(l:List Nat) (i:Nat) (t7 t8:Option D),τ=τB T i t7 t8/\hp'=[.lst (l.map ak)]/\m=33-i/\i<=l.length/\Fw T.go.length l/\(∀x∈l,bh T x=true)/\(∀x∈kds T,x∈l)/\∀j,j<i->∀r,l[j]? = some r->∀x∈rw' T r,hp T x=true->x∈l)
  (λτ hp'=>∃(l:List Nat) (i:Nat) (t7 t8:Option D),τ=τB T i t7 t8/\hp'=[.lst (l.map ak)]/\∀x,x<T.go.length->(x∈l↔bh T x=true))
  (λ_ _=>False) ?_ 33 100000 (τB T 0 none none) [.lst ((kds T).map ak)] (by omega)
  ⟨kds T,0,none,none,rfl,rfl,rfl,bU _,⟨List.nodup_range.filter _,a05⟩,λx hx=>a5w (a05 x hx) (bF (bK.mp hx).2),λ_ z=>z,λj hj=>absurd hj (cC j)⟩
 .rcases w with⟨τ',h',e,l,i,t7,t8,rfl,rfl,mem⟩|⟨_,_,_,z⟩
  .refine Pu.of rfl (a7g Table.clo (jx (adf _))) (r:=.ok (.ref 1) [.lst (l.map ak),.lst (bhD T)]) ?_ (a4t (bU _) rfl (adh _) (by simp)) (a03 (adh _))
   unfold jk;rw[dh];show toR (uy [some T.d,some (.tup (hpD T)),none,none,none,none,none,none,none] [])=_;unfold uy;refine etr (ue (a4b (aq rfl) rfl)) ?_;refine ets (a7l h (λr=>decide (kI T r ≠ -1)) (aq rfl) (λr _=>t2s (aq rfl) (a5b ckk (xq _)) (arl _ _)) λr _=>aq rfl) ?_;refine etr (nj ckk) ?_;refine etr (ue e) ?_;have cm:ji (sRg zg (aa (sA vm (aa (sV 3) bc)) bc)) t1 uc [5] (τB T i t7 t8) [.lst (l.map ak)]=.ok (.ref 1) [.lst (l.map ak),.lst (bhD T)]:=by
    refine p7 ak (λr=>D.bl (bh T r)) (List.range T.go.length) (a3d (n:=T.go.length) (qx (aq rfl) (b4a _)) (du (by omega))) (du (by rw[b6];omega)) λx hx=>?_
    have hx:=aY.mp hx;rw[u6];unfold uc;refine kj (aq rfl) (aq rfl) ((b4d (l:=l) rfl).trans ?_);rw[show decide (x∈l)=bh T x by rw[iU,dX];exact mem x hx]
   exact aQ toR (jn cm)
  .exact z.elim
 .rintro m τ hp' ⟨l,i,t7,t8,rfl,rfl,rfl,il,M,sn,kd,dn⟩
  have ll:=M.len;have lm:∀h:Hd,h[0]? = some (.lst (l.map ak))->vm [.ref 0] h=.ok (ak l.length) h:=λh e=>by rw[a9t e,ax]
  by_cases lt:i<l.length
  .refine .inr ⟨_,t2s (aq rfl) (qx (aq rfl) (lm _ rfl)) (arc (by omega)),.inl ?_⟩
   have rl:l[i]<T.go.length:=M.lt _ (bL lt);have rb:bh T l[i]=true:=sn _ (bL lt);have gm:l[i]? = some l[i]:=ag lt
   generalize l[i]=r at rl gm rb
   obtain⟨l',t8',e,M',⟨add,ea⟩,mem⟩:=row l i r t8 rl M;refine⟨τB T (i+1) (some (a1f (rw' T r))) t8',[.lst (l'.map ak)],33-(i+1),?_,by omega,l',i+1,_,t8',rfl,rfl,rfl,by rw[ea,aw];omega,M',λx hx=>?_,λx hx=>(mem x).mpr (.inl (kd x hx)),λj hj q hq x hx p=>?_⟩
   .unfold u9;refine aN (nj (kj (aq rfl) (kj (aq rfl) (aq rfl) (a3m (xs:=l.map ak) rfl (y:=ak r) (by rw[aE,gm];rfl))) (alc h rl _))) ?_
    refine aN (a2g (a6h (aq rfl) rfl)) ?_;refine aN (aQ (λz=>MI.thn z _) e) ?_;rw[a0x];exact abr rfl ckk a1e
   .rcases(mem x).mp hx with q|⟨q,p⟩
    .exact sn x q
    .exact adg h rl rb q p
   .by_cases je:j=i
    .subst je;rw[ea,aL lt,gm]at hq;cases hq
     exact(mem x).mpr (.inr ⟨hx,p⟩)
    .have jl:j<l.length:=by omega
     rw[ea,aL jl]at hq;exact(mem x).mpr (.inl (dn j (by omega) q hq x hx p))
  .refine .inl ⟨_,t2s (aq rfl) (qx (aq rfl) (lm _ rfl)) (ard (by omega)),l,i,t7,t8,rfl,rfl,λx hx=>⟨sn x,λb=>?_⟩⟩
   refine arv (T:=T) (Q:=λx=>x∈l) (λx hx e=>kd x (bK.mpr ⟨aY.mpr hx,aK e⟩)) (λr x hr _ q hx p=>?_) b;obtain⟨j,hj,rfl⟩:=eG q;exact dn j (by omega) _ (ag hj) x hx p
end
end HGT
namespace HGT
open L2 MI AT HND EVX K23 K21 RCH
open K22 hiding hp j8 bw au nq
open K40
section
variable{T:Table}
def ht(T:Table)(r:Nat):D:=if bh T r=true then RA T [r] else if hp T r=true then .int (-2) else .int (-1)
theorem b1h(r:Nat):ht T r=.non\/∃k:Int,ht T r=.int k:=by
 unfold ht
 split
 .unfold RA;split
  .exact .inr ⟨_,rfl⟩
  .exact .inl rfl
 .split<;>exact .inr ⟨_,rfl⟩
theorem als(n r:Nat):MI.clo n (ht T r):=by
 rcases b1h (T:=T) r with e|⟨k,e⟩<;>rw[e]
 .exact a0c
 .exact dg _
abbrev htD(T:Table):List D:=(List.range T.go.length).map (ht T)
theorem adi(n:Nat):clos n (htD T):=g8 λr _=>als _ _
def zc:SF:=ju (a4v iy) 4
theorem a7j(h:T.Ok)(hr:r<T.go.length):Pu zc 4 [T.d,.tup (hpD T),.rol (bhD T),ak r] (ht T r):=by
 refine Pu.of rfl (b18 Table.clo (jx (adf _)) (a03 (adh _)) (dg _)) (r:=.ok (ht T r) []) ?_ (gf (als _ _) (by simp)) (als _ _)
 unfold zc;rw[dh];show toR (a4v iy [some T.d,some (.tup (hpD T)),some (.rol (bhD T)),some (ak r)] [])=_;unfold a4v ht;have t1:a1w (s2 gIx (sV 2) (sV 3)) [some T.d,some (.tup (hpD T)),some (.rol (bhD T)),some (ak r)] []=.ok (bh T r) []:=a00 (kj (aq rfl) (aq rfl) (apa (b1g hr))) (p6 _);have t2:a1w (s2 gIx (sV 1) (sV 3)) [some T.d,some (.tup (hpD T)),some (.rol (bhD T)),some (ak r)] []=.ok (hp T r) []:=a00 (kj (aq rfl) (aq rfl) (a5u (alk hr))) (p6 _)
 cases b:bh T r with
 |true =>
  rw[b]at t1;rw[aU rfl];have zr:sZ (sA a5m (aa (sV 3) bc)) [some T.d,some (.tup (hpD T)),some (.rol (bhD T)),some (ak r)] []=.ok (.rol ([r].map ak)) []:=yg (xs:=[ak r]) (qx (aq rfl) rfl) (dz (dg _) o6) (by simp)
  exact aQ toR (a1s (aN (ifT t1) (jn (a7h (aq rfl) (aq rfl) zr (a5i h (a2o hr) _)))))
 |false =>
  rw[b]at t1;rw[bA (by simp)]
  refine etr (ifN t1) ?_
  cases p:hp T r with
  |true=>rw[p]at t2;rw[aU rfl];exact aQ toR (jn (SRC.b0x t2 (a5b ckk (xq _))))
  |false=>rw[p]at t2;rw[bA (by simp)];exact aQ toR (jn (SRC.avs t2 (a5b ckk (xq _))))
def HT(T:Table):D:=if a2s (RA T (kds T))=true then .non else .tup (htD T)
theorem arw(n:Nat):MI.clo n (HT T):=by unfold HT;split;exact a0c;exact jx (adi _)
def gk:SF:=ju (a3a zc j8 j6 jk) 3
theorem a1t(h:T.Ok):Pu gk 1 [T.d] (HT T):=by
 have n32:=h.n32;refine Pu.of rfl (ada Table.clo) (r:=.ok (HT T) []) ?_ (gf (arw _) (by simp)) (arw _)
 unfold gk;rw[dh];show toR (a3a zc j8 j6 jk [some T.d,none,none] [])=_;unfold a3a HT;have tq:sT (s2 gIs (sA (jg false 1 j6) (aa (sV 0) bc)) (sC .non)) [some T.d,none,none] []=.ok (a2s (RA T (kds T))) []:=t2s (qx (aq rfl) (a6i h _)) ckk (abq _)
 cases b:a2s (RA T (kds T)) with
 |true =>
  rw[b]at tq;rw[aU rfl];exact aQ toR (a1s (aN (ifT tq) (jn ckk)))
 |false =>
  rw[b]at tq;rw[bA (by simp)]
  refine etr (ifN tq) ?_;refine ets (qx (aq rfl) (nq h _)) ?_;refine ets (xn (aq rfl) (aq rfl) (a7m h _)) ?_;have cm:sZ (ji (sRg zg (aa (sA vm (aa (sV 2) bc)) bc)) t1 (a2z zc j8 j6 jk) [0,1,2]) [some T.d,some (.tup (hpD T)),some (.rol (bhD T))] []=.ok (.rol (htD T)) []:=by
   refine yg (p7 ak (ht T) (List.range T.go.length) (a3d (n:=T.go.length) (qx (aq rfl) (a4a.trans (by rw[awc]))) (du (by omega))) (du (by rw[b6];omega)) λx hx=>?_) (adi _) (by simp)
   rw[u6];exact b43 (aq rfl) (aq rfl) (aq rfl) (aq rfl) (a7j h (aY.mp hx) _)
  exact aQ toR (jn (qx cm rfl))
end
end HGT
namespace STP
open L2 MI AT HND EVX K23 K21 RCH HGT
open K22 hiding hp j8 bw au nq
open K40
section
variable{T:Table}
def fu:SF:=ju (a3b bz) 3
def wdO(es:List Ent)(r:Nat):List Nat:=((es.find? λe=>decide (e.1=r)).map (·.2)).getD []
theorem arx{es:List Ent}(hr:r∈es.map (·.1)):(r,wdO es r)∈es:=by
 obtain⟨e,he,rfl⟩:=bq.mp hr;unfold wdO
 cases q:es.find? λx=>decide (x.1=e.1) with
 |none=>exact absurd (aK rfl) (cX.mp q e he)
 |some x =>
  have h1:=iT q;have h2:=fm q;have h3:x.1=e.1:=bF h1;show(e.1,x.2)∈es;rw[<-h3];exact h2
theorem apu(z:n<=LINE):a0p (.rol [.bl true]) (.int (n:Nat)) h=.ok (.ref h.length) (h++[.lst (List.replicate n (.bl true))]):=by
 unfold a0p;have z':n<=16777216:=z;simp only[a1z,bB,e9,dN];rw[aU ⟨⟨by omega,by omega⟩,by show _<=16777216;omega⟩]
 congr 3
 simp
structure Wys (T:Table) (wy:Nat->List Nat) (r:Nat):Prop where
 to:ldw T 0 (wy r)=r
 sg:∀c∈wy r,c∈T.tg
 len:(wy r).length<=33
 ne:r≠0->wy r≠[]
theorem alu(h:T.Ok)(rc:∀r,r<T.go.length->PN.Rch T.go r):∃wy:Nat->List Nat,(∀r,r<T.go.length->Wys T wy r)/\Pu fu 1 [T.d] (.tup ((List.range T.go.length).map λr=>.str (S (wy r)))):=by
 have n32:=h.n32;have n1:=h.n1;have cl:clos 0 (List.replicate T.go.length (D.bl true)):=a2a.mpr λx hx=>by rw[(List.mem_replicate.mp hx).2];exact jw _
 obtain⟨es,W,C,e⟩:=aa8 (s:=0) (ps:=λ_=>true) (P:=.rol (List.replicate T.go.length (.bl true))) h n1 (a03 cl) λx hx hh=>apa (by rw[dJ,aU hx])
 have all:∀r,r<T.go.length->r=0\/r∈es.map (·.1):=λr hr=>by
  refine rc r hr (λr=>r=0\/r∈es.map (·.1)) (.inl rfl) λa ha x hx=>.inr ?_
  rcases ha with rfl|ha
  .exact C (0,[]) aT x hx rfl
  .obtain⟨q,hq,rfl⟩:=bq.mp ha;exact C q (aI _ hq) x hx rfl
 let wy:Nat->List Nat:=λr=>if r=0 then [] else wdO es r
 refine⟨wy,λr hr=>?_,?_⟩
 .by_cases z:r=0
  .subst z;exact⟨rfl,λc hc=>by simp[wy]at hc,by simp[wy],λz=>absurd rfl z⟩
  .have hm:=arx ((all r hr).resolve_left z);have w:=W.way _ (aI _ hm);have ew:wy r=wdO es r:=bA z;refine⟨by rw[ew];exact w.to,λc hc=>w.sg c (by rw[ew]at hc;exact hc),?_,λ_=>by rw[ew];exact W.ne _ hm⟩
   rw[ew];obtain⟨j,hj⟩:=bR (aI (0,([]:List Nat)) hm);have l1:=W.len j _ hj;have l2:=(ah.mp hj).1;have l3:=W.few h n1;rw[bB]at l2;exact cM l1 (by omega)
 .have cw:clos 0 ((List.range T.go.length).map λr=>D.str (S (wy r))):=g8 λr _=>gq _;refine Pu.of rfl (ada Table.clo) (r:=.ok (.tup ((List.range T.go.length).map λr=>.str (S (wy r)))) []) ?_ (gf (jx cw) (by simp)) (jx cw)
  unfold fu;rw[dh];show toR (a3b bz [some T.d,none,none] [])=_;unfold a3b;refine ets (qx (a0l rfl (a5u (j:=1) rfl)) (xm.trans (by rw[ax]))) ?_
  have z1:∀τ:Sd,sZ (sA a5m (aa (sC (.bl true)) bc)) τ []=.ok (.rol [.bl true]) []:=λτ=>yg (xs:=[D.bl true]) (qx ckk rfl) (dz (jw _) o6) (by simp)
  have z2:sZ (s2 a0p (sZ (sA a5m (aa (sC (.bl true)) bc))) (sV 1)) [some T.d,some (ak T.go.length),none] []=.ok (.rol (List.replicate T.go.length (.bl true))) []:=yg (kj (z1 _) (aq rfl) (apu (du (by omega)))) cl (by simp)
  refine ets (a7h (aq rfl) ckk z2 (e _)) ?_;have z3:∀τ:Sd,sZ (sA a5m (aa (sC (.str "")) bc)) τ []=.ok (.rol [.str (S [])]) []:=λτ=>yg (xs:=[D.str ""]) (qx ckk rfl) (dz (gq _) o6) (by simp)
  have z4:sZ (ji (sRg a4m (aa (sI 1) (aa (sV 1) bc))) t1 (zu bz) [2]) [some T.d,some (ak T.go.length),some (wrD es)] []=.ok (.rol ((List.range (T.go.length-1)).map λi=>.str (S (wy (1+i))))) []:=by
   refine yg (p7 (λi:Nat=>ak (1+i)) (λi=>.str (S (wy (1+i)))) (List.range (T.go.length-1)) (a9r (a:=1) ckk (aq rfl) (du (by omega)) (du (by omega))) (du (by rw[b6];omega)) λi hi=>?_) (g8 λi _=>gq _) (by simp)
   have hi:=aY.mp hi;rw[u6];unfold zu;have hm:=arx ((all (1+i) (by omega)).resolve_left (by omega))
   have ew:wy (1+i)=wdO es (1+i):=bA (by omega)
   rw[ew];exact kj (aq rfl) (aq rfl) (aw9 (e:=(1+i,wdO es (1+i))) hm W.nd _)
  have el:(List.range T.go.length).map (λr=>D.str (S (wy r)))=[.str (S [])]++(List.range (T.go.length-1)).map λi=>.str (S (wy (1+i))):=by
   obtain⟨m,hm⟩:∃m,T.go.length=m+1:=⟨T.go.length-1,by omega⟩
   rw[hm,List.range_succ_eq_map,bg,bV,Nat.add_sub_cancel];rw[show wy 0=[] from aU rfl]
   refine aQ (List.cons _) ?_;refine cS λi _=>?_;show D.str (S (wy (i+1)))=_;rw[iO]
  have z5:sZ (s2 jb (sZ (sA a5m (aa (sC (.str "")) bc))) (sZ (ji (sRg a4m (aa (sI 1) (aa (sV 1) bc))) t1 (zu bz) [2]))) [some T.d,some (ak T.go.length),some (wrD es)] []=.ok (.rol ((List.range T.go.length).map λr=>.str (S (wy r)))) []:=by
   refine yg (kj (z3 _) z4 ?_) cw (by simp)
   rw[el];exact(ajc (xs:=[.str (S [])]) (ys:=(List.range (T.go.length-1)).map λi=>.str (S (wy (1+i)))) rfl rfl).trans (aU (du (by simp only[ax,b6,aM];omega)))
  exact aQ toR (jn (qx z5 rfl))
theorem af8:∀{k x:Nat},Lam T st k x↔∃r∈st,Lam T [r] k x
 |0,x=>⟨λq=>⟨x,q,av.mpr rfl⟩,λ⟨r,hr,q⟩=>by
   have q:x∈[r]:=q;rw[av]at q;subst q;exact hr⟩
 |k+1,x=>⟨λ⟨⟨a,q,hx⟩,g⟩=>by
   obtain⟨r,hr,q'⟩:=(af8 (k:=k)).mp q;exact⟨r,hr,⟨a,q',hx⟩,g⟩,λ⟨r,hr,⟨a,q,hx⟩,g⟩=>⟨⟨a,(af8 (k:=k)).mpr ⟨r,hr,q⟩,hx⟩,g⟩⟩
theorem awd:Kn T st k↔∃r∈st,Kn T [r] k:=by
 constructor
 .rintro⟨x,⟨a,q,hx⟩,kx⟩
  obtain⟨r,hr,q'⟩:=af8.mp q;exact⟨r,hr,x,⟨a,q',hx⟩,kx⟩
 .rintro⟨r,hr,x,⟨a,q,hx⟩,kx⟩
  exact⟨x,⟨a,af8.mpr ⟨r,hr,q⟩,hx⟩,kx⟩
theorem aa9:∀{k y:Nat},Lam T [r] (k+1) y↔∃x∈rw' T r,gd T x=true/\Lam T [x] k y
 |0,y=>by
  constructor
  .rintro⟨⟨a,q,hx⟩,g⟩
   have q:a∈[r]:=q;rw[av]at q;subst q;exact⟨y,hx,g,av.mpr rfl⟩
  .rintro⟨x,hx,g,q⟩
   have q:y∈[x]:=q;rw[av]at q;subst q;exact⟨⟨r,av.mpr rfl,hx⟩,g⟩
 |k+1,y=>by
  constructor
  .rintro⟨⟨a,q,hy⟩,g⟩
   obtain⟨x,hx,gx,q'⟩:=(aa9 (k:=k)).mp q;exact⟨x,hx,gx,⟨a,q',hy⟩,g⟩
  .rintro⟨x,hx,gx,⟨a,q,hy⟩,g⟩
   exact⟨⟨a,(aa9 (k:=k)).mpr ⟨x,hx,gx,q⟩,hy⟩,g⟩
theorem alv:Kn T [r] (k+1)↔∃x∈rw' T r,gd T x=true/\Kn T [x] k:=by
 constructor
 .rintro⟨y,⟨a,q,hy⟩,ky⟩
  obtain⟨x,hx,g,q'⟩:=aa9.mp q;exact⟨x,hx,g,y,⟨a,q',hy⟩,ky⟩
 .rintro⟨x,hx,g,y,⟨a,q,hy⟩,ky⟩
  exact⟨y,⟨a,aa9.mpr ⟨x,hx,g,q⟩,hy⟩,ky⟩
theorem alw:Kn T [r] 0↔∃x∈rw' T r,kI T x ≠ -1:=by
 constructor
 .rintro⟨x,⟨a,q,hx⟩,kx⟩
  have q:a∈[r]:=q;rw[av]at q;subst q;exact⟨x,hx,kx⟩
 .rintro⟨x,hx,kx⟩
  exact⟨x,⟨r,av.mpr rfl,hx⟩,kx⟩
theorem alx:∀k,(Mx T st k=0\/Kn T st (Mx T st k-1))/\∀j,Mx T st k<=j->j<k->¬ Kn T st j
 |0=>⟨.inl rfl,λj _ hj=>absurd hj (cC j)⟩
 |k+1=>by
  by_cases c:Kn T st k
  .rw[aw2 c];exact⟨.inr c,λj a b=>by omega⟩
  .have e:Mx T st (k+1)=Mx T st k:=by rw[Mx,bA c]
   rw[e];obtain⟨a,b⟩:=alx (st:=st) k;refine⟨a,λj h1 h2=>?_⟩
   by_cases q:j=k
   .subst q;exact c
   .exact b j h1 (by omega)
def Val(T:Table)(st:List Nat)(N:Nat):Prop:=(N=0\/Kn T st (N-1))/\∀j,N<=j->¬ Kn T st j
theorem awe(a:Val T st N)(b:Val T st M):N=M:=by
 rcases eB N M with z|z|z
 .exact absurd (b.1.resolve_left (by omega)) (a.2 _ (by omega))
 .exact z
 .exact absurd (a.1.resolve_left (by omega)) (b.2 _ (by omega))
theorem ac3(h:T.Ok)(hs:∀x∈st,x<T.go.length)(nn:RA T st≠.non):∃N,N<=T.go.length/\RA T st=ak N/\Val T st N:=by
 have ne:¬ ∃x,Lam T st (T.go.length+1) x:=λz=>nn (aw4 h hs z);have e:=alj h hs (ay _) ne;have le:Mx T st (T.go.length+1)<=T.go.length:=by
  unfold RA at nn e
  by_cases c:Mx T st (2*T.go.length+1)<=T.go.length
  .exact cM (by have:=ade (T:=T) (st:=st) (k:=T.go.length+1) (j:=T.go.length);rwa[show T.go.length+1+T.go.length=2*T.go.length+1 by omega]at this) c
  .rw[bA c]at nn;exact absurd rfl nn
 obtain⟨a,b⟩:=alx (T:=T) (st:=st) (T.go.length+1);refine⟨_,le,e,a,λj hj kn=>?_⟩
 by_cases c:j<T.go.length+1
 .exact b j hj c kn
 .obtain⟨x,⟨r,q,_⟩,_⟩:=kn;have:=aa6 ne (j-(T.go.length+1));rw[show T.go.length+1+(j-(T.go.length+1))=j by omega]at this
  exact this ⟨r,q⟩
theorem a5k(h:ak a=ak b):a=b:=by
 have:(a:Int)=(b:Int):=D.int.inj h
 omega
theorem aly(h:T.Ok)(hs:∀x∈st,x<T.go.length)(nn:RA T st≠.non):RA T st=ak N↔Val T st N:=by
 obtain⟨M,_,e,v⟩:=ac3 h hs nn;rw[e];exact⟨λq=>by rw[<-a5k q];exact v,λq=>by rw[awe v q]⟩
theorem ah5(h:T.Ok)(e:RA T (kds T)=ak (N+1)):∃r∈kds T,RA T [r]=ak (N+1):=by
 have nn:RA T (kds T)≠.non:=by rw[e];simp
 obtain⟨a,b⟩:=(aly h a05 nn).mp e;obtain⟨r,hr,kn⟩:=awd.mp (a.resolve_left (by omega))
 refine⟨r,hr,(aly h (a2o (a05 r hr)) λz=>?_).mpr ⟨.inr kn,λj hj q=>b j hj (awd.mpr ⟨r,hr,q⟩)⟩⟩;obtain⟨x,hx,d⟩:=(a5j h (a2o (a05 r hr))).mp z;rw[av]at hx;subst hx;exact nn ((a5j h a05).mpr ⟨x,hr,d⟩)
theorem alz(h:T.Ok)(hr:r<T.go.length)(e:RA T [r]=ak 1):∃x∈rw' T r,kI T x ≠ -1 :=
 alw.mp (((aly h (a2o hr) (by rw[e];simp)).mp e).1.resolve_left (by omega))
theorem apv(h:T.Ok)(hr:r<T.go.length)(e:RA T [r]=ak (k+2)):∃x∈rw' T r,kI T x = -1/\hp T x=true/\RA T [x]=ak (k+1):=by
 have nn:RA T [r]≠.non:=by rw[e];simp
 obtain⟨a,b⟩:=(aly h (a2o hr) nn).mp e;obtain⟨x,hx,g,kn⟩:=alv.mp (a.resolve_left (by omega))
 have hx':=(a4c h hr).2.2 x hx;have g':=g;unfold gd at g;rw[ba]at g;refine⟨x,hx,bF g.1,g.2,(aly h (a2o hx') λz=>?_).mpr ⟨.inr kn,λj hj q=>b (j+1) (by omega) (alv.mpr ⟨x,hx,g',q⟩)⟩⟩
 obtain⟨y,hy,d⟩:=(a5j h (a2o hx')).mp z;rw[av]at hy;subst hy;refine nn ((a5j h (a2o hr)).mpr ⟨r,av.mpr rfl,λk=>?_⟩)
 cases k with
 |zero=>rfl
 |succ k =>
  simp only[Dp,bD,ba];exact⟨y,hx,g',d k⟩
end
section
variable{T:Table}
def hI(T:Table)(r:Nat):Int:=match ht T r with|.int k=>k|_=>0
theorem ac4(h:T.Ok)(nn:RA T (kds T)≠.non)(hr:r<T.go.length):ht T r=.int (hI T r):=by
 rcases b1h (T:=T) r with e|⟨k,e⟩
 .refine absurd ((endless h).mpr ⟨r,hr,?_⟩) nn;unfold ht at e
  split at e
  .exact⟨by assumption,e⟩
  .split at e<;>cases e
 .unfold hI;rw[e]
theorem awf(h:T.Ok)(nn:RA T (kds T)≠.non)(hr:r<T.go.length)(hh:Hd):gIx (.tup (htD T)) (ak r) hh=.ok (.int (hI T r)) hh:=by
 rw[<-ac4 h nn hr];exact a5u (by rw[aE,bQ hr];rfl)
theorem ah6(h:T.Ok)(nn:RA T (kds T)≠.non){r N:Nat}(hr:r<T.go.length)(b:bh T r=true):hI T r=(N:Int)↔RA T [r]=ak N:=by
 have e:=ac4 h nn hr;unfold ht at e;rw[aU b]at e;rw[e];exact⟨λq=>by rw[q],λq=>D.int.inj q⟩
theorem b1i(h:T.Ok)(nn:RA T (kds T)≠.non)(hr:r<T.go.length)(q:0<=hI T r):bh T r=true:=by
 have e:=ac4 h nn hr;unfold ht at e
 cases b:bh T r with
 |true=>rfl
 |false =>
  rw[b,bA (by simp)]at e
  split at e
  .have:=D.int.inj e;omega
  .have:=D.int.inj e;omega
def nxB(k hg l:Int):Bool:=if l=0 then decide (k ≠ -1) else decide (k = -1) && decide (hg=l)
def cu:SF:=ju uz 3
theorem awg(k hg l:Int):Pu cu 3 [.int k,.int hg,.int l] (.bl (nxB k hg l)):=by
 refine Pu.of rfl (a3o (dg _) (dg _) (dg _)) (r:=.ok (.bl (nxB k hg l)) []) ?_ (gf (jw _) (by simp)) (jw _)
 unfold cu;rw[dh];show toR (uz [some (.int k),some (.int hg),some (.int l)] [])=_;unfold uz nxB
 by_cases c:l=0
 .rw[aU c];exact aQ toR (a1s (ifr (tvc rfl (a6d c)) (kj (aq rfl) (a5b ckk (xq _)) (arl _ _))))
 .rw[bA c];refine eti (tvc rfl (a7r c)) ?_;exact aQ toR (jn (ah2 (kj (aq rfl) (a5b ckk (xq _)) (amn _ _)) λ_=>kj (aq rfl) (aq rfl) (amn _ _)))
theorem a6j{α:Type}(p:α->Bool)(f:α->D):∀l:List α,(l.filterMap λi=>if p i=true then some (f i) else none)=(l.filter p).map f
 |[]=>rfl
 |a::l=>by
  rw[de,fz]
  cases p a with
  |true=>simp only[dQ,bg];rw[a6j p f l]
  |false=>simp only[cG,eV];exact a6j p f l
abbrev zpD(T:Table)(r c:Nat):D:=.tup [.str (S [tgA T c]),ak (stp T r c)]
theorem b1j(h:T.Ok){r:Nat}(hr:r<T.go.length){f g:SE}{τ:Sd}{hh:Hd}(e1:f τ hh=.ok (.str (S T.tg)) hh)(e2:g τ hh=.ok (a1f (rw' T r)) hh):acs f g τ hh=.ok ⟨(List.range T.tg.length).map (zpD T r),λ_=>True⟩ hh:=by
 obtain⟨row,er,lr,lx,at'⟩:=af3 h hr;have e3:rw' T r=row:=by unfold rw';rw[er];rfl
 unfold acs;rw[e1,az,e2,az,e3,<-ad8 lr at'];unfold auj;simp only[srcOf,and_self]
def jo:SF:=ju (a1p cu) 11
structure Stp (T:Table) (s N:Nat) (z:List Nat):Prop where
 len:z.length=N
 sg:∀c∈z,c∈T.tg
 at':∀j,j<N->(kI T (ldw T s (z.take (j+1))) ≠ -1↔j+1=N)
theorem b1k(h:T.Ok)(nn:RA T (kds T)≠.non){s N:Nat}(hs:s<T.go.length)(hb:bh T s=true)(N1:1<=N)(N32:N<=32)(e:RA T [s]=ak N):∃z,Stp T s N z/\Pu jo 3 [T.d,.tup (htD T),ak s] (.str (S z)):=by
 have n32:=h.n32;have t6:=h.tong.hi;have lp:=o7 (g:=kN 8) (b:=a08 cu) (λi:Nat=>D.int ((N-1-i:Nat)))
  (λpre τ hh=>∃(w:List Nat) (t8 t9 t10:Option D),τ=[some T.d,some (.tup (htD T)),some (ak s),some (.str (S T.tg)),some (.tup (T.go.map a1f)),some (.tup (T.ks.map D.int)),some (.str (S w)),some (ak (ldw T s w)),t8,t9,t10]/\hh=[]/\w.length=pre.length/\(∀c∈w,c∈T.tg)/\(∀j,j<pre.length->(kI T (ldw T s (w.take (j+1))) ≠ -1↔j+1=N))/\(pre.length<N->bh T (ldw T s w)=true/\RA T [ldw T s w]=ak (N-pre.length)))
  (List.range N) [some T.d,some (.tup (htD T)),some (ak s),some (.str (S T.tg)),some (.tup (T.go.map a1f)),some (.tup (T.ks.map D.int)),some (.str (S [])),some (ak s),none,none,none] [] ?_
  ⟨[],none,none,none,rfl,rfl,rfl,by simp,λj hj=>absurd hj (cC j),λ_=>⟨hb,e⟩⟩
 .obtain⟨τ',h',e2,w,t8,t9,t10,rfl,rfl,wl,sg,at',_⟩:=lp;rw[b6]at wl at';refine⟨w,⟨wl,sg,at'⟩,Pu.of rfl (a3o Table.clo (jx (adi _)) (dg _)) (r:=.ok (.str (S w)) []) ?_ (gf (gq _) (by simp)) (gq _)⟩
  unfold jo;rw[dh];show toR (a1p cu [some T.d,some (.tup (htD T)),some (ak s),none,none,none,none,none,none,none,none] [])=_;unfold a1p;refine etr (ue (a4b (aq rfl) rfl)) ?_;refine etr (nj ckk) ?_;refine ets (aq rfl) ?_;have hx:gIx (.tup (htD T)) (ak s) []=.ok (.int (N:Nat)) []:=by rw[awf h nn hs,(ah6 h nn hs hb).mpr e]
  refine etr (a2g (b0g (n:=N) (kj (aq rfl) (aq rfl) hx) (du (by omega)))) ?_
  refine aN (aQ (λz=>toR (MI.thn z _)) e2) ?_;exact aQ toR (jn (aq rfl))
 .rintro pre i post τ hh all ⟨w,t8,t9,t10,rfl,rfl,wl,sg,at',go⟩
  obtain⟨ei,hi⟩:=vf all;rw[<-ei]at wl at' go;obtain⟨rb,re⟩:=go hi;have rl:=a5d h w hs;have pc:∀c,c<T.tg.length->stp T (ldw T s w) c<T.go.length:=λc _=>a6c h _ c
  let p:Nat->Bool:=λc=>nxB (kI T (stp T (ldw T s w) c)) (hI T (stp T (ldw T s w) c)) ((N-1-i:Nat):Int)
  have ex:∃c,c<T.tg.length/\p c=true:=by
   cases el:N-1-i with
   |zero =>
    rw[show N-i=1 by omega]at re
    obtain⟨x,hx,kx⟩:=alz h rl re;obtain⟨c,hc,rfl⟩:=(a4d h rl).mp hx;refine⟨c,hc,?_⟩;show nxB _ _ _=true;unfold nxB;rw[aU (by rw[el];rfl)]
    exact aK kx
   |succ k =>
    rw[show N-i=k+2 by omega]at re
    obtain⟨x,hx,kx,px,rx⟩:=apv h rl re;have bx:=adg h rl rb hx px;have hx':=(a4c h rl).2.2 x hx;have hi':=(ah6 h nn hx' bx).mpr rx;obtain⟨c,hc,rfl⟩:=(a4d h rl).mp hx;refine⟨c,hc,?_⟩;show nxB _ _ _=true;unfold nxB;rw[bA (by rw[el];omega),aK kx,aK (by rw[hi',el])]
    rfl
  obtain⟨c0,aG,ef⟩:∃c0 aG,(List.range T.tg.length).filter p=c0::aG:=by
   cases q:(List.range T.tg.length).filter p with
   |nil =>
    obtain⟨c,hc,pc⟩:=ex;have:c∈(List.range T.tg.length).filter p:=bK.mpr ⟨aY.mpr hc,pc⟩;rw[q]at this;cases this
   |cons a l=>exact⟨a,l,rfl⟩
  have c0m:c0∈(List.range T.tg.length).filter p:=by rw[ef];exact aT
  have c0l:=aY.mp (bK.mp c0m).1;have c0p:nxB (kI T (stp T (ldw T s w) c0)) (hI T (stp T (ldw T s w) c0)) ((N-1-i:Nat):Int)=true:=(bK.mp c0m).2;have lw:ldw T s (w++[tgA T c0])=stp T (ldw T s w) c0:=by rw[a2k,alo h c0l]
  have sl:=a6c h (ldw T s w) c0;have cz:∀τ:Sd,τ[1]? = some (some (.tup (htD T)))->τ[3]? = some (some (.str (S T.tg)))->τ[4]? = some (some (.tup (T.go.map a1f)))->τ[5]? = some (some (.tup (T.ks.map D.int)))->τ[7]? = some (some (ak (ldw T s w)))->τ[8]? = some (some (ak (N-1-i)))->
    sZ (xx (acs (sV 3) (s2 gIx (sV 4) (sV 7))) (tN 2) (ud cu) (a07 cu) [1,5,8]) τ []=.ok (.rol ((c0::aG).map (zpD T (ldw T s w)))) []:=λτ h1 h3 h4 h5 h7 h8=>by
   rw[<-ef,<-a6j];refine yg (a5a (zpD T (ldw T s w)) (λc=>if p c=true then some (zpD T (ldw T s w) c) else none) (List.range T.tg.length) (b1j h rl (aq h3) (kj (aq h4) (aq h7) (alc h rl _))) (du (by rw[b6];omega)) λc hc=>?_) (by rw[a6j];exact g8 λc _=>jx (dz (gq _) (dz (dg _) o6))) (by simp)
   have hc:=aY.mp hc;show(ud cu (some (.str (S [tgA T c]))::some (ak (stp T (ldw T s w) c))::frs' [1,5,8] τ) []).bind _=_;rw[a2f,a2f,a2f,a9s,h1,h5,h8];have q:ud cu [some (.str (S [tgA T c])),some (ak (stp T (ldw T s w) c)),some (.tup (htD T)),some (.tup (T.ks.map D.int)),some (ak (N-1-i))] []=.ok (p c) [] :=
    a00 (a7h (kj (aq rfl) (aq rfl) (a8h h (pc c hc) _)) (kj (aq rfl) (aq rfl) (awf h nn (pc c hc) _)) (aq rfl) (awg _ _ _ _)) (p6 _)
   show(ud cu [some (.str (S [tgA T c])),some (ak (stp T (ldw T s w) c)),some (.tup (htD T)),some (.tup (T.ks.map D.int)),some (ak (N-1-i))] []).bind _=_;rw[q,az]
   cases p c with
   |false=>rfl
   |true =>
    have q2:a07 cu [some (.str (S [tgA T c])),some (ak (stp T (ldw T s w) c)),some (.tup (htD T)),some (.tup (T.ks.map D.int)),some (ak (N-1-i))] []=.ok (zpD T (ldw T s w) c) []:=xn (aq rfl) (aq rfl) aha;rw[aU rfl,aU rfl];exact aQ (λx:R D=>x.bind λy h2=>R.ok (some y) h2) q2
  refine⟨_,_,rfl,[some T.d,some (.tup (htD T)),some (ak s),some (.str (S T.tg)),some (.tup (T.go.map a1f)),some (.tup (T.ks.map D.int)),some (.str (S (w++[tgA T c0]))),some (ak (ldw T s (w++[tgA T c0]))),some (ak (N-1-i)),some (.rol ((c0::aG).map (zpD T (ldw T s w)))),some (.str (S [tgA T c0]))],[],?_,w++[tgA T c0],_,_,_,rfl,rfl,?_,?_,?_,?_⟩
  .unfold a08;refine aN (nj (cz _ rfl rfl rfl rfl rfl rfl)) ?_;refine aN (ue (a4b (a0l rfl (apa (j:=0) (y:=zpD T (ldw T s w) c0) rfl)) rfl)) ?_;refine aN (abr rfl (aq rfl) (SRC.af0 (a:=w) (b:=[tgA T c0]) (du (by rw[aM];omega)))) ?_
   rw[lw];rfl
  .rw[aw,aw,aM,aM,wl,ei]
  .intro c hc
   rcases b9.mp hc with z|z
   .exact sg c z
   .rw[av]at z;subst z;exact aW (agy c0l)
  .intro j hj
   rw[aw,aM,<-ei]at hj
   by_cases q:j<i
   .rw[cQ (by omega)];exact at' j q
   .have:j=i:=by omega
    subst this;rw[bP (by rw[aw,aM];omega),lw]
    unfold nxB at c0p
    by_cases z:((N-1-j:Nat):Int)=0
    .rw[aU z]at c0p;exact⟨λ_=>by omega,λ_=>bF c0p⟩
    .rw[bA z,ba]at c0p;exact⟨λq=>absurd (bF c0p.1) q,λq=>absurd q (by omega)⟩
  .intro q
   rw[aw,aM,<-ei]at q ⊢;rw[lw];unfold nxB at c0p;rw[bA (by omega),ba]at c0p
   have hv:=bF c0p.2;have b:=b1i h nn sl (by rw[hv];omega)
   refine⟨b,?_⟩;rw[show N-(i+1)=N-1-i by omega]
   exact(ah6 h nn sl b).mp hv
def j7:SF:=ju (a3c gk j6 jo fu) 4
theorem ah7(h:T.Ok)(rc:∀r,r<T.go.length->PN.Rch T.go r):((RA T (kds T)=.non\/RA T (kds T)=ak 0)/\Pu j7 1 [T.d] .non)\/∃N u z,1<=N/\N<=32/\RA T (kds T)=ak N/\u.length<=33/\(∀c∈u,c∈T.tg)/\u≠[]/\kI T (ldw T 0 u) ≠ -1/\Stp T (ldw T 0 u) N z/\Pu j7 1 [T.d] (.tup [.str (S u),.str (S z)]):=by
 have n32:=h.n32;have e0:∀d,(∀r,j7 [T.d] []=r->r=toR (di (sIf (sOr (sT (s2 gIs (sV 1) (sC .non))) (sT (s2 hEq (sV 1) (sI 0)))) (my (sC .non)) sNx) (di (jj 2 (sA (jg false 1 gk) (aa (sV 0) bc))) (di (jj 3 (sZ (xx (a2x (s2 gIx (sV 0) (sI 2))) (tN 2) (a0z gk j6 jo fu) (a0y gk j6 jo fu) [1,2]))) (my (sA a0r (aa (s2 gIx (sA (jg false 1 fu) (aa (sV 0) bc)) (s2 gIx (sV 3) (sI 0))) (aa (sA (jg false 3 jo) (aa (sV 0) (aa (sV 2) (aa (s2 gIx (sV 3) (sI 0)) bc)))) bc)))))) [some T.d,some (RA T (kds T)),none,none] [])->r=.ok d [])->MI.clo 0 d->Pu j7 1 [T.d] d:=λd q c=>by
  refine Pu.of rfl (ada Table.clo) (r:=.ok d []) (q _ rfl ?_) (gf c (by simp)) c
  unfold j7;rw[dh];show toR (a3c gk j6 jo fu [some T.d,none,none,none] [])=_;unfold a3c;exact aQ toR (nj (qx (aq rfl) (a6i h _)))
 by_cases hn:RA T (kds T)=.non
 .refine .inl ⟨.inl hn,e0 .non (λr _ e=>?_) a0c⟩;rw[e,hn];exact aQ toR (a1s (aN (ifT (orT (tvc rfl rfl))) (jn ckk)))
 obtain⟨N,Nl,eN,_⟩:=ac3 h a05 hn;have isn:∀hh,gIs (ak N) .non hh=.ok (.bl false) hh:=λhh=>rfl
 by_cases hz:N=0
 .subst hz;refine .inl ⟨.inr eN,e0 .non (λr _ e=>?_) a0c⟩;rw[e,eN];exact aQ toR (a1s (aN (ifT (orF (tvc rfl (isn _)) (tvc rfl (a6d rfl)))) (jn ckk)))
 .obtain⟨M,rfl⟩:∃M,N=M+1:=⟨N-1,by omega⟩
  obtain⟨r0,hr0,er0⟩:=ah5 h eN;have k0:∀r∈kds T,r<T.go.length/\kI T r ≠ -1:=λr hr=>⟨a05 r hr,bF (bK.mp hr).2⟩
  let p:Nat->Bool:=λr=>decide (kI T r ≠ -1) && decide (hI T r=((M+1:Nat):Int))
  obtain⟨s,aG,ef⟩:∃s aG,(List.range T.go.length).filter p=s::aG:=by
   cases q:(List.range T.go.length).filter p with
   |nil =>
    have l0:=(k0 r0 hr0).1;have:r0∈(List.range T.go.length).filter p:=bK.mpr ⟨aY.mpr l0,by
     show(decide (kI T r0 ≠ -1) && decide (hI T r0=((M+1:Nat):Int)))=true;rw[aK (k0 r0 hr0).2,aK ((ah6 h hn l0 (a5w l0 (k0 r0 hr0).2)).mpr er0)];rfl⟩
    rw[q]at this;cases this
   |cons a l=>exact⟨a,l,rfl⟩
  have sm:s∈(List.range T.go.length).filter p:=by rw[ef];exact aT
  have sl:=aY.mp (bK.mp sm).1;have sp:(decide (kI T s ≠ -1) && decide (hI T s=((M+1:Nat):Int)))=true:=(bK.mp sm).2;rw[ba]at sp;have sk:kI T s ≠ -1:=bF sp.1;have sb:=a5w sl sk;have se:=(ah6 h hn sl sb).mp (bF sp.2);obtain⟨wy,wys,ew⟩:=alu h rc;obtain⟨z,st,ez⟩:=b1k h hn sl sb (by omega) (by omega) se
  have w:=wys s sl;have s0:s≠0:=λq=>sk (by rw[q];exact SRC.kI0 h)
  refine .inr ⟨M+1,wy s,z,by omega,by omega,eN,w.len,w.sg,w.ne s0,by rw[w.to];exact sk,by rw[w.to];exact st,e0 _ (λr _ e=>?_) (jx (dz (gq _) (dz (gq _) o6)))⟩
  rw[e,eN];refine eti (orF (tvc rfl (isn _)) (tvc rfl (a7r (by omega)))) ?_
  have hh':=a1t h [];rw[show HT T=.tup (htD T) from bA λq=>hn (by cases q':RA T (kds T)<;>rw[q']at q<;>first|rfl|cases q)]at hh'
  refine ets (qx (aq rfl) hh') ?_;have zz:sZ (xx (a2x (s2 gIx (sV 0) (sI 2))) (tN 2) (a0z gk j6 jo fu) (a0y gk j6 jo fu) [1,2]) [some T.d,some (ak (M+1)),some (.tup (htD T)),none] []=.ok (.rol ((s::aG).map ak)) []:=by
   rw[<-ef];refine yg (a7l h p (a0l rfl (al6 _)) (λr hr=>?_) λr _=>aq rfl) (mq _) (by simp)
   exact ah1 (t2s (aq rfl) (a5b ckk (xq _)) (arl _ _)) λ_=>t2s (kj (aq rfl) (aq rfl) (awf h hn hr _)) (aq rfl) (amn _ _)
  refine etr (nj zz) ?_;have i0:∀hh,gIx (.rol ((s::aG).map ak)) (.int 0) hh=.ok (ak s) hh:=λhh=>apa (j:=0) rfl;exact aQ toR (jn (xn (kj (qx (aq rfl) (ew _)) (a0l rfl (i0 _)) (a5u (by rw[aE,bQ sl];rfl))) (a7h (aq rfl) (aq rfl) (a0l rfl (i0 _)) (ez _)) aha))
end
end STP
namespace K34
open L2 MI
def jr:SS :=
 (a1x (sML a7z (sV 6) (aa (s2 gIx (s2 gIx (sV 4) (s2 gIx (sV 6) (s1 a1b (sI 1)))) (sMS a80 (sV 3) (aa (sV 7) bc))) bc)))
def m7:SS :=
 (di (a4l (sV 0) (a0n 3 (dq (kN 3) (dq (kN 4) (dq (kN 5) a0t)))))
 (di (jj 6 (sA a5m (aa (sV 1) bc)))
 (di (a3f (sIt (sV 2)) (kN 7) jr)
 (my (sV 6)))))
def qe(dw:SF):SS :=
 (sIf (sT (s2 hNe (s2 gIx (sV 3) (sV 6)) (s1 a1b (sI 1))))
 (jj 4 (sA a0r (aa (s2 gIx (sV 3) (sV 6)) (aa (sV 5) bc))))
 sNx)
def yq(dw:SF):SS :=
 (di (jj 3 (s2 gIx (sV 0) (sI 2)))
 (di (jj 4 (sC .non))
 (di (a3f (abi (sA (jg false 3 dw) (aa (sV 0) (aa (sI 0) (aa (a6z (sV 1) (oS (sV 2)) oN) bc)))) (sV 2)) (a0n 2 (dq (kN 5) (dq (kN 6) a0t))) (qe dw))
 (my (sV 4)))))
end K34
namespace K34
open L2 MI AT HND EVX K22 K23 K21
section
variable{T:Table}
def dw:SF:=ju K34.m7 8
def uf:SF:=ju (yq K34.dw) 7
theorem aa0(h:T.Ok)(hl:∀c∈l,c∈T.tg)(ll:l.length<=1000):Pu K34.dw 3 [T.d,.int 0,.str (S l)] (.rol ((rms T 0 l).map ak)):=K23.aa0 (r:=0) h h.n1 hl ll
theorem am0{α β γ:Type}(f:α->β)(g:α×β->γ):∀l:List α,(l.zip (l.map f)).map g=l.map λx=>g (x,f x)
 |[]=>rfl
 |a::l=>by rw[bg,gX,bg,bg,am0 f g l]
theorem aaa(h:T.Ok)(ht:∀c∈x,c∈T.tg)(xl:x.length<=1000)(al:a<=x.length):Pu uf 3 [T.d,.str (S x),ak a] (SRC.best T a (x.drop a) (x.length-a+1)):=by
 refine Pu.of rfl (a3o Table.clo (gq _) (dg _)) (r:=.ok (SRC.best T a (x.drop a) (x.length-a+1)) []) ?_ (gf (SRC.a5e _ _ _) (by simp)) (SRC.a5e _ _ _)
 unfold uf;rw[dh];show toR (yq K34.dw [some T.d,some (.str (S x)),some (ak a),none,none,none,none] [])=_;unfold yq;refine ets (a0l rfl (al6 _)) ?_;refine etr (nj ckk) ?_;have dl:(x.drop a).length=x.length-a:=cZ;have e1:abi (sA (jg false 3 K34.dw) (aa (sV 0) (aa (sI 0) (aa (a6z (sV 1) (oS (sV 2)) oN) bc)))) (sV 2) [some T.d,some (.str (S x)),some (ak a),some (.tup (T.ks.map D.int)),some .non,none,none] []=.ok ⟨(List.range (x.length-a+1)).map λk=>.tup [.int ((a+k:Nat):Int),ak (SRC.rm T (x.drop a) k)],λ_=>True⟩ []:=by
  unfold abi;rw[a7h (aq rfl) ckk (al9 (aq rfl) (al8 (aq rfl)) rfl (ara a (du (by omega)))) (aa0 h (λc hc=>ht c (g9 hc)) (by omega) _),az,aq rfl,az]
  show(if 0<=(a:Int)/\(a:Int)<=16777216 then R.ok (⟨((List.range ((rms T 0 (x.drop a)).map ak).length).zip ((rms T 0 (x.drop a)).map ak)).map λp=>.tup [.int (((a:Int).toNat+p.1:Nat):Int),p.2],λ_=>True⟩:Itm) [] else .no)=_
  rw[aU ⟨by omega,by omega⟩]
  congr 2
  have lr:((rms T 0 (x.drop a)).map ak).length=x.length-a+1:=by unfold rms;rw[ax,ax,b6,dl]
  rw[lr];unfold rms;rw[dl,bV,am0];rfl
 refine etr (a2g e1) ?_;have lp:=o7 (g:=a0n 2 (dq (kN 5) (dq (kN 6) a0t))) (b:=qe K34.dw) (λk:Nat=>D.tup [.int ((a+k:Nat):Int),ak (SRC.rm T (x.drop a) k)])
  (λpre τ hh=>∃t5 t6:Option D,τ=[some T.d,some (.str (S x)),some (ak a),some (.tup (T.ks.map D.int)),some (SRC.best T a (x.drop a) pre.length),t5,t6]/\hh=[])
  (List.range (x.length-a+1)) [some T.d,some (.str (S x)),some (ak a),some (.tup (T.ks.map D.int)),some .non,none,none] [] ?_ ⟨none,none,rfl,rfl⟩
 .obtain⟨τ',h',e,t5,t6,rfl,rfl⟩:=lp;refine aN (aQ (λz=>toR (MI.thn z _)) e) ?_;rw[a0x,b6];exact aQ toR (jn (aq rfl))
 .rintro pre k post τ hh all ⟨t5,t6,rfl,rfl⟩
  obtain⟨hi,hk⟩:=vf all;subst hi;rw[aw,aM];have kg:∀τ:Sd,τ[3]? = some (some (.tup (T.ks.map D.int)))->τ[6]? = some (some (ak (SRC.rm T (x.drop a) pre.length)))->s2 gIx (sV 3) (sV 6) τ []=.ok (.int (kI T (SRC.rm T (x.drop a) pre.length))) []:=λτ h3 h6=>kj (aq h3) (aq h6) (a8h h (SRC.ad9 h _ _) _)
  by_cases hm:kI T (SRC.rm T (x.drop a) pre.length) = -1
  .refine⟨_,_,rfl,[some T.d,some (.str (S x)),some (ak a),some (.tup (T.ks.map D.int)),some (SRC.best T a (x.drop a) pre.length),some (.int ((a+pre.length:Nat):Int)),some (ak (SRC.rm T (x.drop a) pre.length))],[],?_,_,_,by rw[SRC.aby hm],rfl⟩
   unfold qe;exact aN (ifF (t2s (kg _ rfl rfl) (a5b ckk (xq _)) (agv hm))) rfl
  .refine⟨_,_,rfl,[some T.d,some (.str (S x)),some (ak a),some (.tup (T.ks.map D.int)),some (.tup [.int (kI T (SRC.rm T (x.drop a) pre.length)),ak (a+pre.length)]),some (.int ((a+pre.length:Nat):Int)),some (ak (SRC.rm T (x.drop a) pre.length))],[],?_,_,_,by rw[SRC.a7i hm],rfl⟩
   unfold qe;exact aN (ifT (t2s (kg _ rfl rfl) (a5b ckk (xq _)) (apb hm))) (avr (xn (kg _ rfl rfl) (aq rfl) aha))
end
end K34
namespace STP
open L2 MI AT HND EVX K23 K21
open K22 hiding hp j8 bw au nq
open K40
section
variable{T:Table}
def cds:D->List Nat|.str x=>x.cps.toList|_=>[]
end
end STP
namespace STP
open L2 MI AT HND EVX K23 K21 RCH HGT
open K22 hiding hp j8 bw au nq
open K40
section
variable{T:Table}
theorem am1(h:T.Ok):∀{w:List Nat},BF.Ok T.tg.length w->ldw T r (sgn T w)=BF.walk (stp T) r w
 |[],_=>rfl
 |c::w,ok=>by rw[af2,a2k,alo h ok.head,am1 h ok.tail];rfl
theorem apw(T:Table)(w:List Nat)(hk:k<=w.length):(sgn T w).take k=sgn T (w.drop (w.length-k)):=by
 unfold sgn;rw[<-List.map_take,List.take_reverse]
theorem af9(hs:1<=s):∀{w:List Nat} {m:Nat},BF.num s (w.drop m)<=BF.num s w
 |[],m=>by simp
 |c::w,0=>ay _
 |c::w,m+1=>by
  have:=af9 hs (w:=w) (m:=m)
  rw[List.drop_succ_cons];have h2:BF.num s w<=BF.num s w*s:=iE _ hs;simp only[BF.num];omega
theorem abt(hs:1<=s){w:List Nat}(m0:0<m)(ml:m<=w.length):BF.num s (w.drop m)<BF.num s w:=by
 cases w with
 |nil=>simp at ml;omega
 |cons c w =>
  obtain⟨k,rfl⟩:∃k,m=k+1:=⟨m-1,by omega⟩
  rw[List.drop_succ_cons];have:=af9 hs (w:=w) (m:=k);have h2:BF.num s w<=BF.num s w*s:=iE _ hs;simp only[BF.num];omega
theorem am2(h:T.Ok)(hr:r<T.go.length)(e:hp T r=true):∃x,A T r=.str (S x)/\1<=x.length/\x.length<=32/\Stp T r x.length x:=by
 have n32:=h.n32;obtain⟨d,_,_,q⟩:=a2j h hr;have ed:=al2 h q
 rcases q with⟨w,ok,hi,least,wl,ew⟩|⟨rfl,_⟩
 .have wn:w.length≠0:=λz=>hi.1 (fD.mp z);refine⟨sgn T w,by rw[<-ed,ew],by rw[a9y];omega,by rw[a9y];omega,rfl,λc hc=>?_,λj hj=>?_⟩
  .unfold sgn at hc;obtain⟨i,hi',rfl⟩:=bq.mp hc;exact aW (agy (ok i (iJ.mp hi')))
  .rw[a9y]at hj ⊢;rw[apw T w (by omega)]
   have okd:BF.Ok T.tg.length (w.drop (w.length-(j+1))):=λc hc=>ok c (g9 hc);rw[am1 h okd];have lt:=a9z h hr (w.drop (w.length-(j+1)));rw[<-aa3 h lt]
   constructor
   .intro k
    have hv:hit T r (w.drop (w.length-(j+1))):=⟨λz=>by
     have:=aQ List.length z
     rw[cZ]at this;simp at this;omega,k⟩
    have:=least _ okd hv
    refine bW λz=>?_;have:=abt (w:=w) h.tong.lo (m:=w.length-(j+1)) (by omega) (by omega)
    omega
   .intro z
    rw[show w.length-(j+1)=0 by omega]
    exact hi.2
 .rw[show hp T r=false by unfold hp;rw[<-ed];rfl]at e
  cases e
inductive BR (T:Table) (s:Nat):Nat->Prop
 |one {x:Nat}:x∈rw' T s->kI T x = -1->BR T s x
 |more {y x:Nat}:BR T s y->x∈rw' T y->kI T x = -1->BR T s x
theorem BR.cons{s y x:Nat}(hy:y∈rw' T s)(ky:kI T y = -1)(b:BR T y x):BR T s x:=by
 induction b with
 |one hx kx=>exact .more (.one hy ky) hx kx
 |more _ hx kx ih=>exact .more ih hx kx
abbrev a4e(T:Table)(x:Nat):Bool:=decide (kI T x = -1)
theorem BR.met(C:b4c T (a4e T) s es)(b:BR T s x):x∈es.map (·.1):=by
 induction b with
 |one hx kx=>exact C _ aT _ hx (aK kx)
 |more _ hx kx ih =>
  obtain⟨e,he,rfl⟩:=bq.mp ih;exact C e (aI _ he) _ hx (aK kx)
def Chn(T:Table):Nat->List Nat->Prop
 |_,[]=>True
 |r,x::l=>x∈rw' T r/\gd T x=true/\Chn T x l
theorem awh(g:gd T x=true):kI T x = -1/\hp T x=true:=by
 unfold gd at g;rw[ba]at g;exact⟨bF g.1,g.2⟩
theorem arz:∀{k r:Nat},Dp T k r=true->∃l:List Nat,l.length=k/\Chn T r l
 |0,_,_=>⟨[],rfl,trivial⟩
 |k+1,r,d=>by
  simp only[Dp,bD,ba]at d;obtain⟨x,hx,g,dx⟩:=d;obtain⟨l,ll,c⟩:=arz dx;exact⟨x::l,by rw[bB,ll],hx,g,c⟩
theorem afa:∀{l:List Nat} {r:Nat},Chn T r l->∀x∈l,BR T r x/\hp T x=true
 |y::l,r,⟨hy,g,c⟩,x,hx=>by
  obtain⟨ky,py⟩:=awh g
  rcases aP.mp hx with rfl|hx
  .exact⟨.one hy ky,py⟩
  .obtain⟨b,p⟩:=afa c x hx;exact⟨.cons hy ky b,p⟩
theorem am3:∀{l:List Nat} {r:Nat},Chn T r l->¬ l.Nodup->∃x∈l,BR T x x
 |[],_,_,n=>(n fP).elim
 |y::l,r,⟨hy,g,c⟩,n=>by
  by_cases q:y∈l
  .exact⟨y,aT,(afa c y q).1⟩
  .obtain⟨x,hx,b⟩:=am3 c λz=>n (cN.mpr ⟨q,z⟩);exact⟨x,aI _ hx,b⟩
theorem as3(h:T.Ok):∀{l:List Nat} {r:Nat},r<T.go.length->Chn T r l->∀x∈l,x<T.go.length
 |y::l,r,hr,⟨hy,g,c⟩,x,hx=>by
  have hy':=(a4c h hr).2.2 y hy
  rcases aP.mp hx with rfl|hx
  .exact hy'
  .exact as3 h hy' c x hx
theorem adk(h:T.Ok)(e:RA T (kds T)=.non):∃s x,s<T.go.length/\kI T s ≠ -1/\x<T.go.length/\BR T s x/\BR T x x/\hp T x=true:=by
 obtain⟨s,hs,d⟩:=(a5j h a05).mp e;have sl:=a05 s hs;obtain⟨l,ll,c⟩:=arz (d (T.go.length+1));have lt:=as3 h sl c;obtain⟨x,hx,b⟩:=am3 c λnd=>by
  have:=BF.a2h T.go.length l nd lt
  omega
 exact⟨s,x,sl,bF (bK.mp hs).2,lt x hx,(afa c x hx).1,b,(afa c x hx).2⟩
theorem adl(h:T.Ok)(hr:r<T.go.length)(hc:c∈T.tg):stp T r (psn T c)∈rw' T r:=(a4d h hr).mpr ⟨_,(a8g hc).2,rfl⟩
theorem adm(h:T.Ok):∀{w:List Nat} {a:Nat},a<T.go.length->(∀c∈w,c∈T.tg)->hp T (ldw T a w)=true->hp T a=true
 |[],_,_,_,e=>e
 |c::w,a,ha,hw,e=>(aa4 h ha).mpr ⟨_,adl h ha (hw c aT),.inr (adm h (a6c h _ _) (λd hd=>hw d (aI _ hd)) e)⟩
theorem am4(h:T.Ok):∀{w:List Nat} {a:Nat},a<T.go.length->(∀c∈w,c∈T.tg)->(∀i,i<w.length->kI T (ldw T a (w.take (i+1))) = -1)->hp T (ldw T a w)=true->(∀k,Dp T k (ldw T a w)=true)->∀k,Dp T k a=true
 |[],_,_,_,_,_,d=>d
 |c::w,a,ha,hw,hb,e,d=>λk=>by
  cases k with
  |zero=>rfl
  |succ k =>
   have al:=a6c h a (psn T c);have hw':∀d∈w,d∈T.tg:=λd hd=>hw d (aI _ hd);have p:=adm h al hw' e;have b0:kI T (stp T a (psn T c)) = -1:=hb 0 (by simp)
   simp only[Dp,bD,ba];exact⟨_,adl h ha (hw c aT),by unfold gd;rw[aK b0,p];rfl,am4 h al hw' (λi hi=>hb (i+1) (by simpa using hi)) e d k⟩
theorem aab(T:Table):∀(u v:List Nat) (r:Nat),ldw T r (u++v)=ldw T (ldw T r u) v
 |[],_,_=>rfl
 |c::u,v,r=>aab T u v _
theorem adn(h:T.Ok)(hx:x<T.go.length)(hc:∀d∈c,d∈T.tg)(ne:c≠[])(hb:∀i,i<c.length->kI T (ldw T x (c.take (i+1))) = -1)(back:ldw T x c=x)(p:hp T x=true):∀k i,i<c.length->Dp T k (ldw T x (c.take i))=true
 |0,_,_=>rfl
 |k+1,i,hi=>by
  have cl:0<c.length:=gJ.mpr ne;have ei:c[i]? = some c[i]:=ag hi;have nx:ldw T x (c.take (i+1))=stp T (ldw T x (c.take i)) (psn T c[i]):=by rw[iW,ei];exact a2k _ _ _
  have al:=a5d h (c.take i) hx;have hin:=adl h al (hc c[i] (bL hi));rw[<-nx]at hin;have b0:=hb i hi;have pn:hp T (ldw T x (c.take (i+1)))=true:=by
   refine adm h (w:=c.drop (i+1)) (a5d h _ hx) (λd hd=>hc d (g9 hd)) ?_;rw[<-aab,List.take_append_drop,back];exact p
  simp only[Dp,bD,ba];refine⟨_,hin,by unfold gd;rw[aK b0,pn];rfl,?_⟩
  by_cases q:i+1<c.length
  .exact adn h hx hc ne hb back p k (i+1) q
  .have e2:c.take (i+1)=c:=bP (by omega)
   rw[e2,back];exact adn h hx hc ne hb back p k 0 cl
theorem apx(h:T.Ok)(hs:s<T.go.length)(ks:kI T s ≠ -1)(wy:Way T (a4e T) s (x,y))(wc:Way T (a4e T) x (x,c))(ne:c≠[])(p:hp T x=true):RA T (kds T)=.non:=by
 have hx:x<T.go.length:=by rw[<-show ldw T s y=x from wy.to];exact a5d h _ hs
 have d:=adn h hx wc.sg ne (λi hi=>bF (wc.ps i hi)) wc.to p;refine(a5j h a05).mpr ⟨s,bK.mpr ⟨aY.mpr hs,aK ks⟩,am4 h hs wy.sg (λi hi=>bF (wy.ps i hi)) ?_ ?_⟩
 .rw[show ldw T s y=x from wy.to];exact p
 .rw[show ldw T s y=x from wy.to]
  exact λk=>d k 0 (gJ.mpr ne)
end
end STP
namespace RND
open L2 MI AT HND EVX K23 K21 RCH HGT STP
open K22 hiding hp j8 bw au nq
open K40
section
variable{T:Table}
theorem afb{n:Nat}(f:Nat->D)(hh:Hd):aga (.tup ((List.range n).map f)) hh=.ok ⟨(List.range n).map λr=>.tup [ak r,f r],λ_=>True⟩ hh:=by
 show R.ok (⟨((List.range ((List.range n).map f).length).zip ((List.range n).map f)).map λp=>.tup [.int (p.1:Nat),p.2],λ_=>True⟩:Itm) hh=_
 congr 2
 refine fO λi=>?_
 by_cases hi:i<n
 .rw[aE,aE,bQ hi,cc (z:=(i,f i)).mpr ⟨by rw[bQ (by simpa using hi)],by rw[aE,bQ hi];rfl⟩]
  rfl
 .rw[cA (by simp;omega),cA (by simp;omega)]
abbrev brD(T:Table):D:=.rol (T.ks.map λk=>.bl (decide (k = -1)))
theorem as4(n:Nat):MI.clo n (brD T):=a03 (g8 λk _=>jw _)
theorem awi(h:T.Ok){x:Nat}(hx:x<T.go.length)(hh:Hd):gIx (brD T) (ak x) hh=.ok (.bl (a4e T x)) hh:=by
 have kl:=h.kl;refine apa ?_;unfold a4e kI;rw[aE,ag (by omega)]
 rfl
theorem as5(h:T.Ok){τ:Sd}{fe:SE}(h0:τ[0]? = some (some T.d))(ef:fe=s2 hEq (sV 0) (s1 a1b (sI 1))):sZ (ji (sIt (s2 gIx (sV 0) (sI 2))) t1 fe []) τ []=.ok (brD T) []:=by
 have n32:=h.n32;have kl:=h.kl;subst ef;refine yg (p7 D.int (λk=>.bl (decide (k = -1))) T.ks (a6h (kj (aq h0) ckk (al6 _)) rfl) (du (by omega)) λk _=>?_) (g8 λk _=>jw _) (by simp)
 rw[u6];exact kj (aq rfl) (a5b ckk (xq _)) (amn _ _)
abbrev amq:=Nat×D
def kvG(e:amq):Key×D:=(.inl (e.1:Int),e.2)
variable{ls:List amq}
theorem am5{x:Nat}(h:x∉ls.map (·.1)):a3x (ls.map kvG) (.inl (x:Int))=none/\∀d,putD (ls.map kvG) (.inl (x:Int)) d=ls.map kvG++[(.inl (x:Int),d)]:=by
 have no:∀kv∈ls.map kvG,¬ decide (kv.1=(.inl (x:Int):Key))=true:=λkv hkv=>by
  obtain⟨e,he,rfl⟩:=bq.mp hkv;rw[dX]
  intro z
  have:(e.1:Int)=(x:Int):=gy z
  exact h (bq.mpr ⟨e,he,by omega⟩)
 constructor
 .unfold a3x;rw[cX.mpr no];rfl
 .intro d
  unfold putD;rw[bA]
  intro z
  obtain⟨kv,hkv,e⟩:=bD.mp z;exact no kv hkv e
theorem aac:∀{ls:List amq} {e:amq},e∈ls->(ls.map (·.1)).Nodup->a3x (ls.map kvG) (.inl (e.1:Int))=some e.2
 |a::es,e,he,nd=>by
  unfold a3x;rw[bg,cW]
  by_cases q:a=e
  .subst q;rw[show decide ((kvG a).1=(.inl (a.1:Int):Key))=true from aK rfl]
   rfl
  .have he':e∈es:=(aP.mp he).resolve_left λz=>q z.symm;have na:a.1≠e.1:=λz=>(cN.mp nd).1 (bq.mpr ⟨e,he',z.symm⟩);rw[show decide ((kvG a).1=(.inl (e.1:Int):Key))=false from aZ λz=>na (by have:(a.1:Int)=(e.1:Int):=gy z;omega)]
   exact aac he' (cN.mp nd).2
theorem b4e(ls:List amq):((ls.map kvG).map (·.1)).zip ((ls.map kvG).map (·.2))=ls.map kvG:=by
 rw[bV,bV]
 induction ls with
 |nil=>rfl
 |cons a l ih=>rw[bg,bg,gX,ih];rfl
abbrev grD(ls:List amq):D:=.rod ((ls.map kvG).map (·.1)) ((ls.map kvG).map (·.2))
theorem as6{x:Nat}{hh:Hd}:aqz (grD ls) (ak x) hh=some (a3x (ls.map kvG) (.inl (x:Int))):=by
 show some (a3x (((ls.map kvG).map (·.1)).zip ((ls.map kvG).map (·.2))) (.inl (x:Int)))=_;rw[b4e]
theorem apy{s:Nat}{es:List Ent}{hh:Hd}(W:WSt T (a4e T) s es):(s∉es.map (·.1)/\ad3 (wrD es) (ak s) hh=.ok .non hh)\/∃c,(s,c)∈es/\ad3 (wrD es) (ak s) hh=.ok (.str (S c)) hh:=by
 have q:aqz (wrD es) (ak s) hh=some (a3x (es.map kvD) (.inl (s:Int))):=by
  show some (a3x (((es.map kvD).map (·.1)).zip ((es.map kvD).map (·.2))) (.inl (s:Int)))=_;rw[alp]
 by_cases h:s∈es.map (·.1)
 .obtain⟨e,he,rfl⟩:=bq.mp h;refine .inr ⟨e.2,he,?_⟩;unfold ad3;rw[q,aa7 he W.nd];rfl
 .refine .inl ⟨h,?_⟩;unfold ad3;rw[q,(art h).1];rfl
structure Loop (T:Table) (r:Nat) (c x:List Nat):Prop where
 lt:r<T.go.length
 hp:RCH.hp T r=true
 way:Way T (a4e T) r (r,c)
 ne:c≠[]
 len:c.length<=33
 x1:1<=x.length
 x32:x.length<=32
 stp:Stp T r x.length x
structure Lps (T:Table) (n:Nat) (ls:List amq):Prop where
 nd:(ls.map (·.1)).Nodup
 lt:∀e∈ls,e.1<n
 good:∀e∈ls,∃c x,e.2=.tup [.str (S c),.str (S x)]/\Loop T e.1 c x
 all:∀r,r<n->BR T r r->hp T r=true->r∈ls.map (·.1)
theorem Lps.clo{n:Nat}(L:Lps T n ls)(k:Nat):clos k ((ls.map kvG).map (·.2)):=by
 rw[bV];refine g8 λe he=>?_;obtain⟨c,x,q,_⟩:=L.good e he;show MI.clo k e.2;rw[q];exact jx (dz (gq _) (dz (gq _) o6))
def jq:SF:=ju (a1q K22.au STP.bz) 6
theorem apz(h:T.Ok):∃ls,Lps T T.go.length ls/\Pu jq 1 [T.d] (grD ls):=by
 have n32:=h.n32;have lp:=o7 (g:=a0n 2 (dq (kN 3) (dq (kN 4) a0t))) (b:=a09 K22.au STP.bz) (λr:Nat=>D.tup [ak r,A T r])
  (λpre τ hh=>∃(ls:List amq) (t3 t4 t5:Option D),τ=[some T.d,some (brD T),some (.ref 0),t3,t4,t5]/\hh=[.dK (ls.map kvG)]/\Lps T pre.length ls) (List.range T.go.length) [some T.d,some (brD T),some (.ref 0),none,none,none] [.dK []] ?_
  ⟨[],none,none,none,rfl,rfl,by simp,by simp,by simp,λr hr=>absurd hr (cC r)⟩
 .obtain⟨τ',h',e,ls,t3,t4,t5,rfl,rfl,L⟩:=lp;rw[b6]at L;refine⟨ls,L,Pu.of rfl (ada Table.clo) (r:=.ok (.ref 0) [.dK (ls.map kvG)]) ?_ (a72 (alq (ay _) rfl (L.clo _)) (by simp)) (by simpa[MI.clo] using L.clo 0)⟩
  unfold jq;rw[dh];show toR (a1q K22.au STP.bz [some T.d,none,none,none,none,none] [])=_;unfold a1q;refine ets (as5 h rfl rfl) ?_;refine etr (nj (d:=.ref 0) (h1:=[.dK []]) rfl) ?_;have it:a2x (sA (jg false 1 K22.au) (aa (sV 0) bc)) [some T.d,some (brD T),some (.ref 0),none,none,none] [.dK []]=.ok ⟨(List.range T.go.length).map λr=>.tup [ak r,A T r],λ_=>True⟩ [.dK []]:=by
   unfold a2x;rw[qx (aq rfl) (K22.a5h h _),az];exact afb _ _
  refine etr (a2g it) ?_;refine aN (aQ (λz=>toR (MI.thn z _)) e) ?_;exact aQ toR (jn (aq rfl))
 .rintro pre r post τ hh all ⟨ls,t3,t4,t5,rfl,rfl,L⟩
  obtain⟨ei,hr⟩:=vf all;rw[<-ei]at L;rw[aw,aM,<-ei];obtain⟨es,W,C,ew⟩:=aa8 (s:=r) (ps:=a4e T) (P:=brD T) h hr (as4 _) λx hx hh=>awi h hx hh;have few:=W.few h hr;refine⟨_,_,rfl,?_⟩;have nw:r∉ls.map (·.1):=λz=>by
   obtain⟨e,he,q⟩:=bq.mp z;have:=L.lt e he;omega
  have up:∀ls':List amq,(∀e∈ls,e∈ls')->(∀r',r'<r->BR T r' r'->hp T r'=true->r'∈ls'.map (·.1)):=λls' s r' h1 h2 h3=>by
   obtain⟨e,he,q⟩:=bq.mp (L.all r' h1 h2 h3);exact bq.mpr ⟨e,s e he,q⟩
  have skip:(BR T r r->hp T r=true->False)->Lps T (r+1) ls:=λno=>⟨L.nd,λe he=>eC (L.lt e he),L.good,λr' h1 h2 h3=>by
   by_cases q:r'=r
   .subst q;exact(no h2 h3).elim
   .exact L.all r' (by omega) h2 h3⟩
  have an:vp (A T r) .non [.dK (ls.map kvG)]=.ok (.bl (hp T r)) [.dK (ls.map kvG)]:=by unfold hp;cases A T r<;>rfl
  unfold a09;have set5:∀{d:D} {g:SS},ad3 (wrD es) (ak r) [.dK (ls.map kvG)]=.ok d [.dK (ls.map kvG)]->di (jj 5 (ap5 (sA (jg false 3 STP.bz) (aa (sV 0) (aa (sV 3) (aa (sV 1) bc)))) (sV 3))) g [some T.d,some (brD T),some (.ref 0),some (ak r),some (A T r),t5] [.dK (ls.map kvG)]=g [some T.d,some (brD T),some (.ref 0),some (ak r),some (A T r),some d] [.dK (ls.map kvG)]:=λ{d g} e=>by
   refine nj ?_;unfold ap5;rw[a7h (aq rfl) (aq rfl) (aq rfl) (ew _),az];show(sV 3 _ _).bind _=_;rw[aq rfl,az];exact e
  rcases apy (hh:=[.dK (ls.map kvG)]) W with⟨ni,eg⟩|⟨c,ci,eg⟩
  .refine⟨[some T.d,some (brD T),some (.ref 0),some (ak r),some (A T r),some .non],[.dK (ls.map kvG)],(set5 eg).trans ?_,ls,_,_,_,rfl,rfl,skip λb _=>ni (b.met C)⟩;have t2:a2n (sT (s2 vp (sV 4) (sC .non))) (sT (s2 vp (sV 5) (sC .non))) [some T.d,some (brD T),some (.ref 0),some (ak r),some (A T r),some .non] [.dK (ls.map kvG)]=.ok (hp T r && false) [.dK (ls.map kvG)]:=ah1 (tvc rfl an) λ_=>tvc rfl rfl;rw[gY]at t2;exact aN (ifF t2) rfl
  .have t2:a2n (sT (s2 vp (sV 4) (sC .non))) (sT (s2 vp (sV 5) (sC .non))) [some T.d,some (brD T),some (.ref 0),some (ak r),some (A T r),some (.str (S c))] [.dK (ls.map kvG)]=.ok (hp T r && true) [.dK (ls.map kvG)]:=ah1 (tvc rfl an) λ_=>tvc rfl rfl;rw[ja]at t2
   cases hq:hp T r with
   |false =>
    rw[hq]at t2;refine⟨[some T.d,some (brD T),some (.ref 0),some (ak r),some (A T r),some (.str (S c))],[.dK (ls.map kvG)],(set5 eg).trans (aN (ifF t2) rfl),ls,_,_,_,rfl,rfl,skip λ_ z=>by rw[hq]at z;cases z⟩
   |true =>
    rw[hq]at t2;obtain⟨x,ex,x1,x32,sx⟩:=am2 h hr hq;have p:ar0 (.ref 0) (ak r) (.tup [.str (S c),A T r]) [.dK (ls.map kvG)]=some [.dK ((ls++[(r,D.tup [.str (S c),A T r])]).map kvG)]:=by
     have ll:ls.length<=T.go.length:=by
      have:=BF.a2h T.go.length (ls.map (·.1)) L.nd λy hy=>by
       obtain⟨e,he,rfl⟩:=bq.mp hy;exact Nat.lt_trans (L.lt e he) hr
      simpa using this
     have lt:(ls.map kvG).length<LINE:=a3e (by rw[ax];omega)
     show(if (ls.map kvG).length<LINE then some [O.dK (putD (ls.map kvG) (.inl ((r:Nat):Int)) (.tup [.str (S c),A T r]))] else none)=_
     rw[aU lt,(am5 nw).2,bE];rfl
    refine⟨[some T.d,some (brD T),some (.ref 0),some (ak r),some (A T r),some (.str (S c))],[.dK ((ls++[(r,D.tup [.str (S c),A T r])]).map kvG)],(set5 eg).trans (aN (ifT t2) (aki (xn (aq rfl) (aq rfl) aha) (aq rfl) (aq rfl) p)),ls++[(r,D.tup [.str (S c),A T r])],_,_,_,rfl,rfl,?_⟩;have wl:c.length<=33:=by
     obtain⟨j,hj⟩:=bR (aI (r,([]:List Nat)) ci);have l1:=W.len j _ hj;have l2:=(ah.mp hj).1;rw[bB]at l2;exact cM l1 (by omega)
    refine⟨?_,λe he=>?_,λe he=>?_,λr' h1 h2 h3=>?_⟩
    .rw[bE,bZ];refine⟨L.nd,by simp,λa ha b hb=>?_⟩
     rw[eQ,av]at hb;subst hb;exact λz=>nw (z ▸ ha)
    .rcases b9.mp he with z|z
     .exact eC (L.lt e z)
     .rw[av]at z;subst z;exact fW _
    .rcases b9.mp he with z|z
     .exact L.good e z
     .rw[av]at z;subst z;exact⟨c,x,by show D.tup [.str (S c),A T r]=_;rw[ex],hr,hq,W.way _ (aI _ ci),W.ne _ ci,wl,x1,x32,sx⟩
    .by_cases q:r'=r
     .subst q;rw[bE];exact bb _ (by simp)
     .exact up _ (λe he=>bN _ he) r' (by omega) h2 h3
end
section
variable{T:Table}
structure Rnd (T:Table) (u y c x:List Nat):Prop where
 lu:u.length<=33
 su:∀d∈u,d∈T.tg
 nu:u≠[]
 ku:kI T (ldw T 0 u) ≠ -1
 wy:Way T (a4e T) (ldw T 0 u) (ldw T (ldw T 0 u) y,y)
 ny:y≠[]
 ly:y.length<=33
 lp:Loop T (ldw T (ldw T 0 u) y) c x
theorem b71:MI.a0r [a,b,c,d] h=.ok (.tup [a,b,c,d]) h:=by unfold MI.a0r;rw[aU (du (by simp))]
theorem aq0(es:List Ent)(hh:Hd):ar9 (wrD es) hh=.ok ⟨es.map wtD,λ_=>True⟩ hh:=by
 show R.ok (⟨(((es.map kvD).map (·.1)).zip ((es.map kvD).map (·.2))).map λp=>.tup [kD p.1,p.2],λ_=>True⟩:Itm) hh=_;rw[alp,bV];rfl
def km:SF:=ju (a4w jq STP.fu STP.bz) 9
abbrev τR(T:Table)(ls:List amq)(t3 t4 t5 t6 t7 t8:Option D):Sd:=[some T.d,some (brD T),some (grD ls),t3,t4,t5,t6,t7,t8]
theorem am6(h:T.Ok)(rc:∀r,r<T.go.length->PN.Rch T.go r):(RA T (kds T)≠.non/\Pu km 1 [T.d] .non)\/(RA T (kds T)=.non/\∃u y c x,Rnd T u y c x/\Pu km 1 [T.d] (.tup [.str (S u),.str (S y),.str (S c),.str (S x)])):=by
 have n32:=h.n32;obtain⟨wy,wys,ewy⟩:=alu h rc;obtain⟨ls,L,els⟩:=apz h;have lp:=a2b (g:=a0n 2 (dq (kN 3) (dq (kN 4) a0t))) (b:=a0g jq STP.fu STP.bz) (λr:Nat=>D.tup [ak r,.str (S (wy r))])
  (λpre τ hh=>∃t3 t4 t5 t6 t7 t8:Option D,τ=τR T ls t3 t4 t5 t6 t7 t8/\hh=[]/\∀s,s<pre.length->kI T s ≠ -1->∀x,BR T s x->x∉ls.map (·.1))
  (λd hh=>hh=[]/\∃u y c x,Rnd T u y c x/\d=.tup [.str (S u),.str (S y),.str (S c),.str (S x)]) (List.range T.go.length) [] (τR T ls none none none none none none) [] ?_
  ⟨none,none,none,none,none,none,rfl,rfl,λs hs=>absurd hs (cC s)⟩
 .have e0:∀{d:D} {r:Fl},forL (λ_=>True) (a0n 2 (dq (kN 3) (dq (kN 4) a0t))) (a0g jq STP.fu STP.bz) ((List.range T.go.length).map λr:Nat=>D.tup [ak r,.str (S (wy r))]) (τR T ls none none none none none none) []=r->toR (MI.thn r (my (sC .non)))=.ok d []->MI.clo 0 d->Pu km 1 [T.d] d:=λ{d r} e q c=>by
   refine Pu.of rfl (ada Table.clo) (r:=.ok d []) ?_ (gf c (by simp)) c
   unfold km;rw[dh];show toR (a4w jq STP.fu STP.bz [some T.d,none,none,none,none,none,none,none,none] [])=_;unfold a4w;refine ets (as5 h rfl rfl) ?_;refine ets (qx (aq rfl) (els _)) ?_;have it:a2x (sA (jg false 1 STP.fu) (aa (sV 0) bc)) (τR T ls none none none none none none) []=.ok ⟨(List.range T.go.length).map λr=>.tup [ak r,.str (S (wy r))],λ_=>True⟩ []:=by
    unfold a2x;rw[qx (aq rfl) (ewy _),az];exact afb _ _
   refine etr (a2g it) ?_;refine aN (aQ (λz=>toR (MI.thn z _)) e) q
  rcases lp with⟨τ',h',e,t3,t4,t5,t6,t7,t8,rfl,rfl,no⟩|⟨d,h',e,rfl,u,y,c,x,R,rfl⟩
  .rw[cy,b6]at no;refine .inl ⟨λz=>?_,e0 e (aQ toR (jn ckk)) a0c⟩;obtain⟨s,x,sl,ks,xl,b1,b2,px⟩:=adk h z;exact no s sl ks x b1 (L.all x xl b2 px)
  .refine .inr ⟨?_,u,y,c,x,R,e0 e rfl (jx (dz (gq _) (dz (gq _) (dz (gq _) (dz (gq _) o6)))))⟩;exact apx h (a5d h _ h.n1) R.ku R.wy R.lp.way R.lp.ne R.lp.hp
 .rintro pre s post τ hh all ⟨t3,t4,t5,t6,t7,t8,rfl,rfl,no⟩
  rw[cy]at all;obtain⟨ei,hs⟩:=vf all;rw[<-ei]at no;obtain⟨es,W,C,ew⟩:=aa8 (s:=s) (ps:=a4e T) (P:=brD T) h hs (as4 _) λx hx hh=>awi h hx hh;have few:=W.few h hs;refine⟨_,_,rfl,?_⟩;unfold a0g;have it:aez (sA (jg false 3 STP.bz) (aa (sV 0) (aa (sV 3) (aa (sV 1) bc)))) (τR T ls (some (ak s)) (some (.str (S (wy s)))) t5 t6 t7 t8) []=.ok ⟨es.map wtD,λ_=>True⟩ []:=by
   unfold aez;rw[a7h (aq rfl) (aq rfl) (aq rfl) (ew _),az];exact aq0 _ _
  have l2:=a2b (g:=a0n 2 (dq (kN 5) (dq (kN 6) a0t))) (b:=a2d jq STP.fu STP.bz) wtD
   (λpre τ hh=>∃t5 t6 t7 t8:Option D,τ=τR T ls (some (ak s)) (some (.str (S (wy s)))) t5 t6 t7 t8/\hh=[]/\(kI T s ≠ -1->∀e∈pre,e.1∉ls.map (·.1)))
   (λd hh=>hh=[]/\∃u y c x,Rnd T u y c x/\d=.tup [.str (S u),.str (S y),.str (S c),.str (S x)]) es [] (τR T ls (some (ak s)) (some (.str (S (wy s)))) t5 t6 t7 t8) [] ?_ ⟨t5,t6,t7,t8,rfl,rfl,λ_ e he=>by cases he⟩
  .rcases l2 with⟨τ',h',e,t5',t6',t7',t8',rfl,rfl,n2⟩|⟨d,h',e,q⟩
   .rw[cy]at n2;refine .inl ⟨_,_,(b49 it).trans e,_,_,t5',t6',t7',t8',rfl,rfl,λs' hs' ks x b=>?_⟩;rw[aw,aM,<-ei]at hs'
    by_cases q:s'<s
    .exact no s' q ks x b
    .have:s'=s:=by omega
     subst this;obtain⟨e,he,rfl⟩:=bq.mp (b.met C);exact n2 ks e he
   .exact .inr ⟨d,h',(b49 it).trans e,q⟩
  .rintro pre2 e post2 τ hh all2 ⟨t5,t6,t7,t8,rfl,rfl,n2⟩
   rw[cy]at all2;have he:e∈es:=by rw[all2];simp
   refine⟨_,_,rfl,?_⟩;unfold a2d;have tb:a4f (a1w (s2 gIx (sV 1) (sV 3))) (τR T ls (some (ak s)) (some (.str (S (wy s)))) (some (ak e.1)) (some (.str (S e.2))) t7 t8) []=.ok (!a4e T s) []:=a7q (a00 (kj (aq rfl) (aq rfl) (awi h hs _)) (p6 _));have tl:sT (s2 (ag8 false) (sV 5) (sV 2)) (τR T ls (some (ak s)) (some (.str (S (wy s)))) (some (ak e.1)) (some (.str (S e.2))) t7 t8) []=.ok (decide (e.1∈ls.map (·.1))) []:=by
    refine t2s (aq rfl) (aq rfl) ?_;unfold ag8;rw[as6]
    by_cases q:e.1∈ls.map (·.1)
    .obtain⟨l,hl,ql⟩:=bq.mp q;rw[aK q,<-ql,aac hl L.nd];rfl
    .rw[aZ q,(am5 q).1];rfl
   have tt:=ah1 tb (λ_=>tl)
   by_cases q:kI T s ≠ -1/\e.1∈ls.map (·.1)
   .rw[show a4e T s=false from aZ q.1,aK q.2]at tt
    obtain⟨l,hl,ql⟩:=bq.mp q.2;obtain⟨c,x,elx,lo⟩:=L.good l hl;rw[ql]at lo;have gl:abb (grD ls) (ak e.1) []=.ok (.tup [.str (S c),.str (S x)]) []:=by
     unfold abb;rw[as6,<-ql,aac hl L.nd,elx]
    refine .inr ⟨_,_,aN (ifT tt) (aN (ue (a4b (kj (aq rfl) (aq rfl) gl) rfl)) (jn (b43 (aq rfl) (aq rfl) (aq rfl) (aq rfl) b71))),rfl,wy s,e.2,c,x,?_,rfl⟩;have w:=wys s hs;have we:=W.way e (aI _ he);have wl:e.2.length<=33:=by
     obtain⟨j,hj⟩:=bR (aI (s,([]:List Nat)) he);have l1:=W.len j _ hj;have l2:=(ah.mp hj).1;rw[bB]at l2;exact cM l1 (by omega)
    have s0:s≠0:=λz=>q.1 (by rw[z];exact SRC.kI0 h)
    refine⟨w.len,w.sg,w.ne s0,by rw[w.to];exact q.1,by rw[w.to,we.to];exact we,W.ne e he,wl,by rw[w.to,we.to];exact lo⟩
   .have:(!a4e T s && decide (e.1∈ls.map (·.1)))=false:=by
     by_cases ks:kI T s = -1
     .rw[show a4e T s=true from aK ks];rfl
     .rw[show decide (e.1∈ls.map (·.1))=false from aZ λz=>q ⟨ks,z⟩,gY]
    rw[this]at tt;refine .inl ⟨_,_,aN (ifF tt) rfl,some (ak e.1),some (.str (S e.2)),t7,t8,rfl,rfl,λks e' he'=>?_⟩
    rcases b9.mp he' with z|z
    .exact n2 ks e' z
    .rw[av]at z;subst z;exact λw=>q ⟨ks,w⟩
theorem am7(h:T.Ok)(W:Way T (a4e T) a (b,w))(N1:1<=N)(X:Stp T b N x):Stp T a (w.length+N) (w++x):=by
 have xl:=X.len;refine⟨by rw[aw,xl],λc hc=>?_,λj hj=>?_⟩
 .rcases b9.mp hc with z|z
  .exact W.sg c z
  .exact X.sg c z
 .by_cases q:j<w.length
  .rw[cQ (by omega)]
   exact⟨λk=>absurd (bF (W.ps j q)) k,λk=>by omega⟩
  .obtain⟨i,rfl⟩:∃i,j=w.length+i:=⟨j-w.length,by omega⟩
   rw[iB,cY,aab,show ldw T a w=b from W.to,X.at' i (by omega)]
   omega
theorem am8(h:T.Ok)(L:Loop T r c x):∀k,Stp T r (k*c.length+x.length) ((List.replicate k c).flatten++x)
 |0=>by simpa using L.stp
 |k+1=>by
  have:=am7 h L.way (by have:=L.x1;omega) (am8 h L k)
  rw[cR,dO,cV,Nat.succ_mul,show k*c.length+c.length+x.length=c.length+(k*c.length+x.length) by omega]
  exact this
end
end RND
namespace K35
open L2 MI AT HND EVX K22 K23 K21
section
variable{T:Table}
theorem am9(h:T.Ok)(a:Nat)(l:List Nat):∀k,SRC.best T a l k=.non\/∃(q:Int) (j:Nat),1<=j/\j<k/\SRC.best T a l k=.tup [.int q,ak (a+j)]
 |0=>.inl rfl
 |k+1=>by
  by_cases e:kI T (SRC.rm T l k) = -1
  .rw[SRC.aby e]
   rcases am9 h a l k with z|⟨q,j,j1,j2,z⟩
   .exact .inl z
   .exact .inr ⟨q,j,j1,by omega,z⟩
  .refine .inr ⟨_,k,?_,by omega,SRC.a7i e⟩
   rcases Nat.eq_zero_or_pos k with z|z
   .subst z;exact absurd (show kI T (SRC.rm T l 0) = -1 from SRC.kI0 h) e
   .exact z
end
end K35
namespace K43
open L2 MI AT HND EVX K23 K21 RCH HGT STP RND
open K22 hiding hp j8 bw au nq
open K40
section
variable{T:Table}
def fsD(T:Table)(l:List Nat):D:=SRC.best T 0 l (l.length+1)
def enD:D->Option Nat
 |.tup [_,.int e]=>some e.toNat
 |_=>none
theorem ama(h:T.Ok)(l:List Nat):fsD T l=.non\/∃(q:Int) (e:Nat),e<=l.length/\fsD T l=.tup [.int q,ak e]:=by
 rcases K35.am9 h 0 l (l.length+1) with z|⟨q,j,_,j2,z⟩
 .exact .inl z
 .exact .inr ⟨q,j,by omega,by rw[dF]at z;exact z⟩
theorem afc(h:T.Ok)(l:List Nat):pur 60 (fsD T l)=true:=by
 rcases ama h l with e|⟨q,j,_,e⟩<;>rw[e]<;>rfl
theorem as7(n:Nat)(l:List Nat):MI.clo n (fsD T l):=ajo (bU n) (SRC.a5e _ _ _)
noncomputable def hB(T:Table)(n:Nat)(a b:D):Bool:=txt T a && (txt T b && (match enD (fsD T (cds a)) with
 |some e=>decide ((cds a).take (e+n)=(cds b).take (e+n)) && !eqD (fsD T (cds b)) (fsD T (cds a))
 |none=>false))
theorem a3h(h:T.Ok)(ht:∀c∈x,c∈T.tg)(xl:x.length<=1000):Pu SRC.cj 3 [T.d,.str (S x),.int 0] (fsD T x):=SRC.a3h (a:=0) h ht xl (bU _)
def uf:SF:=ju (yq STP.dw) 7
theorem aaa(h:T.Ok)(ht:∀c∈x,c∈T.tg)(xl:x.length<=1000):Pu K43.uf 3 [T.d,.str (S x),.int 0] (fsD T x):=K34.aaa (a:=0) h ht xl (bU _)
theorem b1l{x y:List Nat}(xl:x.length<=1000)(yl:y.length<=1000)(ef:f τ []=.ok (.str (S x)) [])(eg:g τ []=.ok (.str (S y)) [])(ek:k τ []=.ok (ak (e+n)) []) :
  s2 hEq (a6z f oN (oS k)) (a6z g oN (oS k)) τ []=.ok (.bl (decide (x.take (e+n)=y.take (e+n)))) []:=by
 refine kj (al9 ef rfl (al8 ek) (b0o (l:=x) (e+n) (du (by omega)))) (al9 eg rfl (al8 ek) (b0o (l:=y) (e+n) (du (by omega)))) ?_
 rw[b3v,b3t]
end
end K43
namespace K41
open L2 MI AT HND EVX K23 K21 RCH HGT STP
open K22 hiding hp j8 bw au nq
open K40
section
variable{T:Table}
theorem b72:MI.a0r [a,b,c,d,e] h=.ok (.tup [a,b,c,d,e]) h:=by unfold MI.a0r;rw[aU (du (by simp))]
end
end K41
namespace K43
open L2 MI AT HND EVX K23 K21 RCH HGT STP RND
open K22 hiding hp j8 bw au nq
open K40
section
variable{T:Table}
structure Lng (T:Table) (n:Nat) (u z:List Nat):Prop where
 su:∀c∈u,c∈T.tg
 lu:u.length<=33
 ku:kI T (ldw T 0 u) ≠ -1
 st:Stp T (ldw T 0 u) z.length z
 lz:z.length<=130
 n:n<z.length
def m8:SF:=ju (wu STP.j7 RND.km) 8
theorem amb(h:T.Ok)(rc:∀r,r<T.go.length->PN.Rch T.go r)(n61:n<=61) :
  ((∃N,RA T (kds T)=ak N/\N<=n)/\Pu m8 2 [T.d,ak n] .non)\/((∀N,RA T (kds T)=ak N->n<N)/\∃u z,Lng T n u z/\Pu m8 2 [T.d,ak n] (.tup [.str (S u),.str (S z)])):=by
 have e0:∀{d found:D},Pu RND.km 1 [T.d] found->MI.clo 0 d->toR (di (sIf (sT (s2 gIs (sV 2) (sC .non))) (di (jj 3 (sA (jg false 1 STP.j7) (aa (sV 0) bc))) (my (ab0 (a2n (sT (s2 vp (sV 3) (sC .non))) (sT (s2 gGt (sA vm (aa (s2 gIx (sV 3) (sI 1)) bc)) (sV 1)))) (sV 3) (sC .non)))) sNx) (di (a4l (sV 2) (a0n 4 (dq (kN 4) (dq (kN 5) (dq (kN 6) (dq (kN 7) a0t)))))) (di (sWh (qj STP.j7 RND.km) (n8 STP.j7 RND.km) 100000) (my (sA a0r (aa (sV 4) (aa (s2 jb (sV 5) (sV 7)) bc))))))
   [some T.d,some (ak n),some found,none,none,none,none,none] [])=.ok d []->Pu m8 2 [T.d,ak n] d:=λ{d found} ef c e=>by
  refine Pu.of rfl (a7g Table.clo (dg _)) (r:=.ok d []) ?_ (gf c (by simp)) c
  unfold m8;rw[dh];show toR (wu STP.j7 RND.km [some T.d,some (ak n),none,none,none,none,none,none] [])=_;unfold wu;exact aN (aQ toR (nj (qx (aq rfl) (ef _)))) e
 rcases am6 h rc with⟨nn,ef⟩|⟨en,u,y,c,x,R,ef⟩
 .rcases ah7 h rc with⟨q,en⟩|⟨N,u,z,N1,N32,eN,lu,su,nu,ku,st,en⟩
  .have e1:RA T (kds T)=ak 0:=q.resolve_left nn;refine .inl ⟨⟨0,e1,bU _⟩,e0 ef a0c ?_⟩;refine aQ toR (a1s (aN (ifT (tvc rfl rfl)) ?_));refine aN (nj (qx (aq rfl) (en _))) ?_;exact jn (SRC.avs (awr (tvc rfl rfl)) ckk)
  .have zl:=st.len;have run:∀{d:D},ab0 (a2n (sT (s2 vp (sV 3) (sC .non))) (sT (s2 gGt (sA vm (aa (s2 gIx (sV 3) (sI 1)) bc)) (sV 1)))) (sV 3) (sC .non) [some T.d,some (ak n),some .non,some (.tup [.str (S u),.str (S z)]),none,none,none,none] []=.ok d []->toR (di (sIf (sT (s2 gIs (sV 2) (sC .non))) (di (jj 3 (sA (jg false 1 STP.j7) (aa (sV 0) bc))) (my (ab0 (a2n (sT (s2 vp (sV 3) (sC .non))) (sT (s2 gGt (sA vm (aa (s2 gIx (sV 3) (sI 1)) bc)) (sV 1)))) (sV 3) (sC .non)))) sNx) (di (a4l (sV 2) (a0n 4 (dq (kN 4) (dq (kN 5) (dq (kN 6) (dq (kN 7) a0t)))))) (di (sWh (qj STP.j7 RND.km) (n8 STP.j7 RND.km) 100000) (my (sA a0r (aa (sV 4) (aa (s2 jb (sV 5) (sV 7)) bc)))))) [some T.d,some (ak n),some .non,none,none,none,none,none] [])=.ok d []:=λ{d} e=>by
    refine aQ toR (a1s (aN (ifT (tvc rfl rfl)) ?_));refine aN (nj (qx (aq rfl) (en _))) ?_;exact jn e
   have gl:∀τ:Sd,τ[3]? = some (some (.tup [.str (S u),.str (S z)]))->sA vm (aa (s2 gIx (sV 3) (sI 1)) bc) τ []=.ok (ak N) []:=λτ h3=>by
    refine qx (kj (aq h3) ckk (a5u (j:=1) rfl)) ?_;rw[ags (du (by omega)),zl]
   by_cases q:n<N
   .refine .inr ⟨λM eM=>(by rw[eN]at eM;have:=a5k eM;omega),u,z,⟨su,lu,ku,by rw[zl];exact st,by omega,by omega⟩,e0 ef (jx (dz (gq _) (dz (gq _) o6))) (run ?_)⟩
    exact SRC.b0x (akg (tvc rfl rfl) (t2s (gl _ rfl) (aq rfl) (b41 (by omega)))) (aq rfl)
   .refine .inl ⟨⟨N,eN,by omega⟩,e0 ef a0c (run ?_)⟩
    exact SRC.avs (akg (tvc rfl rfl) (t2s (gl _ rfl) (aq rfl) (b26 (by omega)))) ckk
 .have lu:=R.lu;have ly:=R.ly;have lc:=R.lp.len;have lx:=R.lp.x32;have c1:1<=c.length:=gJ.mpr R.lp.ne;have w:=ajq (c:=qj STP.j7 RND.km) (f:=n8 STP.j7 RND.km)
   (λm τ hh=>∃k:Nat,τ=[some T.d,some (ak n),some (.tup [.str (S u),.str (S y),.str (S c),.str (S x)]),none,some (.str (S u)),some (.str (S (y++(List.replicate k c).flatten))),some (.str (S c)),some (.str (S x))]/\hh=[]/\m=n+1-(y++(List.replicate k c).flatten).length/\(y++(List.replicate k c).flatten).length<=97)
   (λτ hh=>∃k:Nat,τ=[some T.d,some (ak n),some (.tup [.str (S u),.str (S y),.str (S c),.str (S x)]),none,some (.str (S u)),some (.str (S (y++(List.replicate k c).flatten))),some (.str (S c)),some (.str (S x))]/\hh=[]/\(y++(List.replicate k c).flatten).length<=97/\n<(y++(List.replicate k c).flatten).length+x.length)
   (λ_ _=>False) ?_ (n+1-y.length) 100000 [some T.d,some (ak n),some (.tup [.str (S u),.str (S y),.str (S c),.str (S x)]),none,some (.str (S u)),some (.str (S y)),some (.str (S c)),some (.str (S x))] [] (by omega)
   ⟨0,by simp,rfl,by simp,by simp;omega⟩
  .rcases w with⟨τ',h',e,k,rfl,rfl,l97,lt⟩|⟨_,_,_,z⟩
   .have st:Stp T (ldw T 0 u) _ (y++((List.replicate k c).flatten++x)):=am7 h R.wy (by have:=R.lp.x1;omega) (am8 h R.lp k)
    have sl:=st.len;rw[<-cV]at st sl;refine .inr ⟨λN eN=>(by rw[en]at eN;cases eN),u,y++(List.replicate k c).flatten++x,⟨R.su,lu,R.ku,by rw[sl];exact st,by rw[aw];omega,by rw[aw];omega⟩,e0 ef (jx (dz (gq _) (dz (gq _) o6))) ?_⟩
    refine eti (tvc rfl rfl) ?_;refine etr (ue (a4b (aq rfl) rfl)) ?_;refine etr (ue e) ?_;exact aQ toR (jn (xn (aq (i:=4) rfl) (kj (aq (i:=5) rfl) (aq (i:=7) rfl) (a9m (du (by omega)))) aha))
   .exact z.elim
  .rintro m τ hh ⟨k,rfl,rfl,rfl,l97⟩
   have tl:sA vm (aa (s2 jb (sV 5) (sV 7)) bc) [some T.d,some (ak n),some (.tup [.str (S u),.str (S y),.str (S c),.str (S x)]),none,some (.str (S u)),some (.str (S (y++(List.replicate k c).flatten))),some (.str (S c)),some (.str (S x))] []=.ok (ak ((y++(List.replicate k c).flatten).length+x.length)) []:=by
    refine qx (kj (aq (i:=5) rfl) (aq (i:=7) rfl) (a9m (du (by omega)))) ?_
    rw[ags (du (by rw[aw];omega)),aw]
   by_cases q:(y++(List.replicate k c).flatten).length+x.length<=n
   .have rs:(List.replicate (k+1) c).flatten=(List.replicate k c).flatten++c:=by rw[List.replicate_succ',List.flatten_append];simp
    refine .inr ⟨[],t2s tl (aq (i:=1) rfl) (SRC.b27 (by omega)),.inl ⟨[some T.d,some (ak n),some (.tup [.str (S u),.str (S y),.str (S c),.str (S x)]),none,some (.str (S u)),some (.str (S (y++(List.replicate (k+1) c).flatten))),some (.str (S c)),some (.str (S x))],[],_,?_,?_,k+1,rfl,rfl,rfl,?_⟩⟩
    .unfold n8;rw[rs,<-cV];exact abr rfl (aq (i:=6) rfl) (SRC.af0 (a:=y++(List.replicate k c).flatten) (b:=c) (du (by omega)))
    .rw[rs,<-cV,aw (as:=y++_)];omega
    .rw[rs,<-cV,aw (as:=y++_)];omega
   .exact .inl ⟨[],t2s tl (aq (i:=1) rfl) (SRC.b28 (by omega)),k,rfl,rfl,l97,by omega⟩
def bj:SF:=ju (yr m8) 5
theorem aad(h:T.Ok)(rc:∀r,r<T.go.length->PN.Rch T.go r)(n61:n<=61) :
  ((∃N,RA T (kds T)=ak N/\N<=n)/\Pu bj 2 [T.d,ak n] .non)\/((∀N,RA T (kds T)=ak N->n<N)/\∃u z,Lng T n u z/\Pu bj 2 [T.d,ak n] (.tup [.str (S (u++z.take n)),.str (S (u++z))])):=by
 have e0:∀{d:D},MI.clo 0 d->toR (yr m8 [some T.d,some (ak n),none,none,none] [])=.ok d []->Pu bj 2 [T.d,ak n] d:=λ{d} c e=>by
  refine Pu.of rfl (a7g Table.clo (dg _)) (r:=.ok d []) ?_ (gf c (by simp)) c
  unfold bj;rw[dh];exact e
 rcases amb h rc n61 with⟨q,e⟩|⟨q,u,z,L,e⟩
 .refine .inl ⟨q,e0 a0c ?_⟩;unfold yr;refine ets (xn (aq rfl) (aq rfl) (e _)) ?_;exact aQ toR (a1s (aN (ifT (tvc rfl rfl)) (jn ckk)))
 .refine .inr ⟨q,u,z,L,e0 (jx (dz (gq _) (dz (gq _) o6))) ?_⟩;have lu:=L.lu;have lz:=L.lz;unfold yr;refine ets (xn (aq rfl) (aq rfl) (e _)) ?_;refine eti (tvc rfl rfl) ?_;refine etr (ue (a4b (aq rfl) rfl)) ?_;exact aQ toR (jn (xn (kj (aq (i:=3) rfl) (al9 (aq (i:=4) rfl) rfl (al8 (aq (i:=1) rfl)) (b0o (l:=z) n (du (by omega)))) (a9m (du (by rw[bY];omega)))) (kj (aq (i:=3) rfl) (aq (i:=4) rfl) (a9m (du (by omega)))) aha))
theorem a5l:∀{k:Nat},i<=k->(∀j,i<=j->j<k->kI T (SRC.rm T l j) = -1)->SRC.best T 0 l k=SRC.best T 0 l i
 |0,hi,_=>by rw[show i=0 by omega]
 |k+1,hi,hj=>by
  by_cases q:i=k+1
  .rw[q]
  .rw[SRC.aby (hj k (by omega) (by omega))]
   exact a5l (by omega) λj h1 h2=>hj j h1 (by omega)
theorem aae(h:T.Ok)(L:Lng T n u z):hB T n (.str (S (u++z.take n))) (.str (S (u++z)))=true:=by
 have nz:=L.n;have lt:(z.take n).length=n:=by rw[bY];omega
 have zr:∀i,1<=i->i<=z.length->∀w:List Nat,w.take (u.length+i)=u++z.take i->(kI T (SRC.rm T w (u.length+i)) ≠ -1↔i=z.length):=λi i1 i2 w e=>by
  unfold SRC.rm;rw[e,aab];obtain⟨j,rfl⟩:∃j,i=j+1:=⟨i-1,by omega⟩
  exact L.st.at' j (by omega)
 have ru:∀w:List Nat,w.take u.length=u->kI T (SRC.rm T w u.length) ≠ -1:=λw e=>by unfold SRC.rm;rw[e];exact L.ku
 have f1:fsD T (u++z.take n)=.tup [.int (kI T (SRC.rm T (u++z.take n) u.length)),ak u.length]:=by
  unfold fsD;rw[aw,lt,a5l (i:=u.length+1) (by omega) λj h1 h2=>?_,SRC.a7i (ru _ (List.take_left' rfl)),dF]
  obtain⟨i,rfl⟩:∃i,j=u.length+i:=⟨j-u.length,by omega⟩
  refine bW λk=>?_;have:=(zr i (by omega) (by omega) (u++z.take n) (by rw[cY,iX,gC (by omega)])).mp k
  omega
 have f2:fsD T (u++z)=.tup [.int (kI T (SRC.rm T (u++z) (u.length+z.length))),ak (u.length+z.length)]:=by
  unfold fsD;rw[aw,SRC.a7i ((zr z.length (by omega) (ay _) (u++z) (by rw[cY])).mpr rfl),dF]
 have s1:∀c∈u++z.take n,c∈T.tg:=λc hc=>(b9.mp hc).elim (L.su c) λq=>L.st.sg c (ff q);have s2:∀c∈u++z,c∈T.tg:=λc hc=>(b9.mp hc).elim (L.su c) (L.st.sg c);unfold hB;rw[agz,agz,show inT T (u++z.take n)=true from bI.mpr λc hc=>aK (s1 c hc),show inT T (u++z)=true from bI.mpr λc hc=>aK (s2 c hc)]
 simp only[cds,a2e,eZ];rw[f1,f2];show(decide ((u++z.take n).take ((u.length:Int).toNat+n)=(u++z).take ((u.length:Int).toNat+n)) && _)=true;rw[dN,cY,cY,iX,Nat.min_self,aK rfl,eZ];have:eqD (.tup [.int (kI T (SRC.rm T (u++z) (u.length+z.length))),ak (u.length+z.length)]) (.tup [.int (kI T (SRC.rm T (u++z.take n) u.length)),ak u.length])=false:=by
  show(_ && (eqD (ak (u.length+z.length)) (ak u.length) && true))=false;have e:eqD (ak (u.length+z.length)) (ak u.length)=false:=by
   show(((u.length+z.length:Nat):Int) == ((u.length:Nat):Int))=false;rw[cI];omega
  rw[e];simp
 rw[this];rfl
end
end K43
namespace K40
open L2 MI AT HND EVX K22 K23 K21
theorem b1m{xs:List D}(xl:xs.length<=1000)(px:∀x∈xs,Pln x):Th (.tup xs):=⟨a2a.mpr λx hx=>(px x hx).clo,λys e=>by cases e;exact⟨xl,px⟩⟩
theorem b1n(i:Int):Pln (.int i):=trivial
end K40
namespace K45
open L2 MI AT HND EVX K23 K21 RCH HGT STP RND
open K22 hiding hp j8 bw au nq
open K40
open K43 (fsD enD ama afc hB aad aae bj Lng)
section
variable{T:Table}
theorem awj:∀{k x:Nat},Ph T k x=true->kI T x ≠ -1\/hp T x=true
 |0,x,e=>by
  simp only[Ph,ba]at e;exact .inl (bF e.2)
 |k+1,x,e=>(awa e).elim awj λ⟨_,_,_,_,p⟩=>.inr p
theorem a8k(h:T.Ok)(nn:RA T (kds T)≠.non)(hr:r<T.go.length)(b:bh T r=true):∃M:Nat,hI T r=M/\Val T [r] M:=by
 have nr:RA T [r]≠.non:=λz=>nn ((endless h).mpr ⟨r,hr,b,z⟩);obtain⟨M,_,e,v⟩:=ac3 h (a2o hr) nr;exact⟨M,(ah6 h nn hr b).mpr e,v⟩
theorem aaf(h:T.Ok)(nn:RA T (kds T)≠.non)(hr:r<T.go.length)(b:bh T r=false):hI T r=if hp T r=true then -2 else -1:=by
 have e:=ac4 h nn hr;unfold ht at e;rw[b,bA (by simp)]at e
 split at e<;>rename_i q
 .rw[aU q];exact(D.int.inj e).symm
 .rw[bA q];exact(D.int.inj e).symm
structure Good (T:Table) (N:Int) (l:List Int):Prop where
 lo:∀r,r<T.go.length->-2<=ig l r
 kd:∀r,r<T.go.length->kI T r ≠ -1->0<=ig l r/\ig l r<=N
 one:∀r t,r<T.go.length->t∈rw' T r->ig l r = -1->kI T t = -1/\ig l t = -1
 pos:∀r t,r<T.go.length->t∈rw' T r->0<=ig l r->ig l t ≠ -2/\(kI T t ≠ -1->1<=ig l r)/\(kI T t = -1->ig l t<ig l r)
def hgs(T:Table):List Int:=(List.range T.go.length).map (hI T)
theorem awk:(hgs T).length=T.go.length:=by unfold hgs;rw[ax,b6]
theorem a8l(hr:r<T.go.length):ig (hgs T) r=hI T r:=by unfold ig hgs;rw[aE,bQ hr];rfl
theorem b4f(h:T.Ok)(nn:RA T (kds T)≠.non):htD T=(hgs T).map D.int:=by
 unfold htD hgs;rw[bV];exact cS λr hr=>ac4 h nn (aY.mp hr)
theorem aq1(h:T.Ok)(nn:RA T (kds T)≠.non)(eN:RA T (kds T)=ak N):Good T (N:Int) (hgs T):=by
 obtain⟨N',_,eN',vN⟩:=ac3 h a05 nn;have:=a5k (eN'.symm.trans eN);subst this;have lt:∀{r t},r<T.go.length->t∈rw' T r->t<T.go.length:=λhr ht=>(a4c h hr).2.2 _ ht;refine⟨λr hr=>?_,λr hr k=>?_,λr t hr tr e=>?_,λr t hr tr e=>?_⟩
 .rw[a8l hr]
  cases b:bh T r with
  |true=>obtain⟨M,e,_⟩:=a8k h nn hr b;omega
  |false=>rw[aaf h nn hr b];split<;>omega
 .rw[a8l hr];obtain⟨M,e,v⟩:=a8k h nn hr (a5w hr k);refine⟨by omega,?_⟩
  rcases v.1 with z|z
  .omega
  .have:Kn T (kds T) (M-1):=awd.mpr ⟨r,bK.mpr ⟨aY.mpr hr,aK k⟩,z⟩
   have:¬ N'<=M-1:=λq=>vN.2 _ q this
   omega
 .have ht:=lt hr tr;rw[a8l hr]at e;rw[a8l ht];have nb:bh T r=false:=by
   cases b:bh T r with
   |true=>obtain⟨M,z,_⟩:=a8k h nn hr b;omega
   |false=>rfl
  have np:hp T r=false:=by
   rw[aaf h nn hr nb]at e
   split at e
   .omega
   .rename_i q;simpa using q
  have hs:=aa4 h hr;rw[np]at hs;have k:kI T t = -1:=bW λq=>Bool.noConfusion (hs.mpr ⟨t,tr,.inl q⟩);have pt:hp T t=false:=by
   cases q:hp T t with
   |true=>exact Bool.noConfusion (hs.mpr ⟨t,tr,.inr q⟩)
   |false=>rfl
  have bt:bh T t=false:=by
   cases q:bh T t with
   |true=>rcases awj q with z|z;exact absurd k z;rw[pt]at z;cases z
   |false=>rfl
  refine⟨k,?_⟩;rw[aaf h nn ht bt,pt];rfl
 .have ht:=lt hr tr;rw[a8l hr]at e ⊢;rw[a8l ht];have br:=b1i h nn hr e;obtain⟨M,eM,v⟩:=a8k h nn hr br
  by_cases k:kI T t = -1
  .cases q:hp T t with
   |true =>
    have bt:=adg h hr br tr q;obtain⟨M',e',v'⟩:=a8k h nn ht bt;have g:gd T t=true:=by unfold gd;rw[aK k,q];rfl
    have up:∀j,Kn T [t] j->Kn T [r] (j+1):=λj z=>alv.mpr ⟨t,tr,g,z⟩;have lt2:M'<M:=by
     rcases v'.1 with z|z
     .obtain⟨w,_,f⟩:=aa2 q;obtain⟨j,_,_,y⟩:=aw3 h (a2o ht) (k:=w) (m:=0) (x:=t) (av.mpr rfl) f;have:¬ M<=j+1:=λc=>v.2 _ c (up j y);omega
     .have:¬ M<=M'-1+1:=λc=>v.2 _ c (up _ z)
      omega
    exact⟨by omega,λc=>absurd k c,λ_=>by omega⟩
   |false =>
    have bt:bh T t=false:=by
     cases q':bh T t with
     |true=>rcases awj q' with z|z;exact absurd k z;rw[q]at z;cases z
     |false=>rfl
    have:=aaf h nn ht bt
    rw[q,bA (by simp)]at this
    exact⟨by omega,λc=>absurd k c,λ_=>by omega⟩
  .obtain⟨M',e',_⟩:=a8k h nn ht (a5w ht k);have:¬ M<=0:=λc=>v.2 _ c (alw.mpr ⟨t,tr,k⟩);exact⟨by omega,λ_=>by omega,λc=>absurd c k⟩
theorem aq2(l:List Int):vals (l.map D.int)=l:=by
 unfold vals;rw[bV];exact(cS λ_ _=>rfl).trans (j3 _)
theorem awl{l:List Int}(G:Good T N l)(ll:l.length=T.go.length):HH T N (zsD l)=true:=by
 show(decide ((l.map D.int).length=T.go.length) && ((l.map D.int).all amo && (List.range T.go.length).all (hh T N (vals (l.map D.int)))))=true;rw[aq2,aK (by rw[ax,ll]),eZ,ba]
 refine⟨bI.mpr λx hx=>?_,bI.mpr λr hr=>?_⟩
 .obtain⟨i,hi,rfl⟩:=bq.mp hx;obtain⟨k,hk,e⟩:=eG hi;have:=G.lo k (by omega)
  unfold ig at this;rw[ag hk,e]at this;exact aK this
 .have hr:=aY.mp hr;unfold hh;rw[bA (λq=>q.2 (G.kd r hr q.1))]
  split
  .rfl
  .split
   .rename_i a b;exact bI.mpr λt ht=>by obtain⟨x,y⟩:=G.one r t hr ht b;rw[aK x,aK y];rfl
   .rename_i a b;have:=G.lo r hr;exact bI.mpr λt ht=>by
     obtain⟨x,y,z⟩:=G.pos r t hr ht (by omega)
     unfold ml;rw[bA x];split
     .rename_i k;exact aK (y k)
     .rename_i k;exact aK (z (Classical.not_not.mp k))
def j9:SF:=ju zy 8
abbrev τ8(T:Table)(N:Nat)(l:List Int)(a b:Option D):Sd:=[some T.d,some (ak N),some (zsD l),some (.str (S T.tg)),some (.tup (T.go.map a1f)),some (.tup (T.ks.map D.int)),a,b]
theorem b1o(h:T.Ok){l:List Int}{N:Nat}(ll:l.length=T.go.length)(G:Good T (N:Int) l):Pu j9 3 [T.d,ak N,zsD l] (.bl true):=by
 have n32:=h.n32;refine Pu.of rfl (a3o Table.clo (dg _) (ald l)) (r:=.ok (.bl true) []) ?_ (gf (jw _) (by simp)) (jw _)
 unfold j9;rw[dh];show toR (zy [some T.d,some (ak N),some (zsD l),none,none,none,none,none] [])=_;unfold zy;refine etr (ue (a4b (aq rfl) rfl)) ?_;have lp:=o7 (g:=kN 6) (b:=xj) ak
  (λ_ τ hh=>∃a b:Option D,τ=τ8 T N l a b/\hh=[]) (List.range T.go.length) (τ8 T N l none none) [] ?_ ⟨none,none,rfl,rfl⟩
 .obtain⟨τ',h',e,a,b,rfl,rfl⟩:=lp;refine etr (a2g (a3d (n:=T.go.length) (qx (aq rfl) (xm.trans (by rw[ax,ll]))) (du (by omega)))) ?_
  refine aN (aQ (λz=>toR (MI.thn z _)) e) ?_;exact aQ toR (jn ckk)
 .rintro pre r post τ hh all ⟨a,b,rfl,rfl⟩
  have hr:r<T.go.length:=aY.mp (by rw[all];simp)
  have kr:=arn h hr;have rx:∀{τ:Sd} {i j:Nat} {x:Nat},τ[i]? = some (some (zsD l))->τ[j]? = some (some (ak x))->x<T.go.length->s2 gIx (sV i) (sV j) τ []=.ok (.int (ig l x)) []:=λh1 h2 hx=>kj (aq h1) (aq h2) (avy (by omega) _)
  have kx:∀{τ:Sd} {j:Nat} {x:Nat},τ[5]? = some (some (.tup (T.ks.map D.int)))->τ[j]? = some (some (ak x))->x<T.go.length->s2 gIx (sV 5) (sV j) τ []=.ok (.int (kI T x)) []:=λh1 h2 hx=>kj (aq h1) (aq h2) (a8h h hx _);have m1:∀{τ:Sd} (k:Int),s1 a1b (sC (.int k)) τ []=.ok (.int (-k)) []:=λk=>a5b ckk (xq _);have lp:=o7 (g:=kN 7) (b:=xg) ak
   (λ_ τ hh=>∃b:Option D,τ=τ8 T N l (some (ak r)) b/\hh=[]) (rw' T r) (τ8 T N l (some (ak r)) b) [] ?_ ⟨b,rfl,rfl⟩
  .obtain⟨τ',h',e,b',rfl,rfl⟩:=lp;refine⟨_,_,rfl,τ8 T N l (some (ak r)) b',[],?_,_,_,rfl,rfl⟩;unfold xj;have b1:=orB (t2s (rx (τ:=τ8 T N l (some (ak r)) b) (i:=2) (j:=6) rfl rfl hr) (m1 2) (b54 _ _)) λ_=>ah1 (t2s (kx (τ:=τ8 T N l (some (ak r)) b) (j:=6) rfl rfl hr) (aml (.int 0) _ _) (apl _ _)) λ_=>a7q (tof (b48 (aml (.int 0) _ _) (rx (i:=2) (j:=6) rfl rfl hr) (aq (i:=1) rfl)));have v1:(decide (ig l r < -2) || (decide (0<=kI T r) && !decide (0<=ig l r/\ig l r<=(N:Int))))=false:=by
    have:=G.lo r hr
    rw[aZ (by omega),gc]
    by_cases k:kI T r = -1
    .rw[k];rfl
    .rw[aK (G.kd r hr k)];simp
   rw[v1]at b1;refine aN (ifN b1) ?_;exact aN (b49 (a6h (kj (aq (i:=4) rfl) (aq (i:=6) rfl) (alc h hr _)) rfl)) e
  .rintro pre t post τ hh all2 ⟨b',rfl,rfl⟩
   have tr:t∈rw' T r:=by rw[all2];simp
   have ht:t<T.go.length:=(a4c h hr).2.2 _ tr;have kt:=arn h ht;refine⟨_,_,rfl,τ8 T N l (some (ak r)) (some (ak t)),[],?_,_,rfl,rfl⟩;unfold xg;have X:=rx (τ:=τ8 T N l (some (ak r)) (some (ak t))) (i:=2) (j:=6) rfl rfl hr;have Y:=rx (τ:=τ8 T N l (some (ak r)) (some (ak t))) (i:=2) (j:=7) rfl rfl ht;have Z:=kx (τ:=τ8 T N l (some (ak r)) (some (ak t))) (j:=7) rfl rfl ht;have b1:=ah1 (t2s X (m1 1) (amn _ _)) λ_=>orB (t2s Z (aml (.int 0) _ _) (apl _ _)) λ_=>t2s Y (m1 1) (arl _ _);have v1:(decide (ig l r = -1) && (decide (0<=kI T t) || decide (ig l t ≠ -1)))=false:=by
    by_cases k:ig l r = -1
    .obtain⟨x,y⟩:=G.one r t hr tr k;rw[x,y];simp
    .rw[aZ k];rfl
   rw[v1]at b1;refine aN (ifN b1) ?_;have b2:=ah1 (t2s X (aml (.int 0) _ _) (apl _ _)) λ_=>orB (t2s Y (m1 2) (amn _ _)) λ_=>ah1 (t2s Z (aml (.int 0) _ _) (apl _ _)) λ_=>t2s X (aml (.int 0) _ _) (amn _ _);have v2:(decide (0<=ig l r) && (decide (ig l t = -2) || (decide (0<=kI T t) && decide (ig l r=0))))=false:=by
    by_cases k:0<=ig l r
    .obtain⟨x,y,_⟩:=G.pos r t hr tr k;rw[aZ x,gc]
     by_cases q:kI T t = -1
     .rw[q];simp
     .have:=y q
      rw[aZ (p:=ig l r=0) (by omega)];simp
    .rw[aZ k];rfl
   rw[v2]at b2;refine aN (ifN b2) ?_;have b3:=ah1 (t2s X (aml (.int 0) _ _) (apl _ _)) λ_=>ah1 (t2s Z (aml (.int 0) _ _) (b54 _ _)) λ_=>t2s Y X (apl _ _);have v3:(decide (0<=ig l r) && (decide (kI T t<0) && decide (ig l r<=ig l t)))=false:=by
    by_cases k:0<=ig l r
    .obtain⟨_,_,z⟩:=G.pos r t hr tr k
     by_cases q:kI T t = -1
     .have:=z q
      rw[aZ (p:=ig l r<=ig l t) (by omega)];simp
     .rw[aZ (p:=kI T t<0) (by omega)];simp
    .rw[aZ k];rfl
   rw[v3]at b3;exact aN (ifF b3) rfl
def jd:SF:=ju (a0j SRC.cj bj) 5
theorem afd(h:T.Ok)(rc:∀r,r<T.go.length->PN.Rch T.go r){n:Nat}(n61:n<=61)(nl:∀N,RA T (kds T)=ak N->n<N):Pu jd 2 [T.d,ak n] (.bl true):=by
 rcases aad h rc n61 with⟨⟨N,eN,Nn⟩,_⟩|⟨_,u,z,L,ep⟩
 .have:=nl N eN;omega
 have hb:=aae h L;have lu:=L.lu;have lz:=L.lz;have sa:∀c∈u++z.take n,c∈T.tg:=λc hc=>(b9.mp hc).elim (L.su c) λq=>L.st.sg c (ff q);have sb:∀c∈u++z,c∈T.tg:=λc hc=>(b9.mp hc).elim (L.su c) (L.st.sg c);have la:(u++z.take n).length<=1000:=by rw[aw,bY];omega
 have lb:(u++z).length<=1000:=by rw[aw];omega
 revert hb sa sb la lb ep
 generalize u++z.take n=x
 generalize u++z=y
 intro ep hb sa sb la lb
 unfold hB at hb;rw[agz,agz]at hb;simp only[cds,a2e,ba]at hb;obtain⟨_,_,hb⟩:=hb
 rcases ama h x with e|⟨q,e,el,ef⟩
 .rw[e]at hb;cases hb
 rw[ef]at hb;have hb:(decide (x.take (e+n)=y.take (e+n)) && !eqD (fsD T y) (fsD T x))=true:=by rw[ef];exact hb
 rw[ba]at hb;obtain⟨h1,h2⟩:=hb;have h2:eqD (fsD T y) (fsD T x)=false:=by simpa using h2
 refine Pu.of rfl (a7g Table.clo (dg _)) (r:=.ok (.bl true) []) ?_ (gf (jw _) (by simp)) (jw _)
 unfold jd;rw[dh];show toR (a0j SRC.cj bj [some T.d,some (ak n),none,none,none] [])=_;unfold a0j;refine ets (xn (aq rfl) (aq rfl) (ep _)) ?_;have it:∀(xs:List D) (h:Hd),qw [.tup xs,.ty "tuple"] h=.ok (.bl true) h:=λxs h=>by simp[qw,ah8,tyD,aee]
 refine eti (orF (amm (a00 (xn (aq rfl) ckk (it _ _)) (p6 _))) (t2s (qx (aq rfl) xm) ckk (agv rfl))) ?_;have lp:=o7 (g:=kN 3) (b:=zb SRC.cj bj) (λl:List Nat=>D.str (S l))
  (λ_ τ hh=>∃t:Option D,τ=[some T.d,some (ak n),some (.tup [.str (S x),.str (S y)]),t,none]/\hh=[]) [x,y] [some T.d,some (ak n),some (.tup [.str (S x),.str (S y)]),none,none] [] ?_ ⟨none,rfl,rfl⟩
 .obtain⟨τ',h',e',t,rfl,rfl⟩:=lp;refine etr (a2g (xs:=[x,y].map λl:List Nat=>D.str (S l)) (a6h (aq rfl) rfl)) ?_;refine aN (aQ (λz=>toR (MI.thn z _)) e') ?_;have i0:∀hh,gIx (.tup [.str (S x),.str (S y)]) (.int 0) hh=.ok (.str (S x)) hh:=λhh=>a5u (j:=0) rfl;have i1:∀hh,gIx (.tup [.str (S x),.str (S y)]) (.int 1) hh=.ok (.str (S y)) hh:=λhh=>a5u (j:=1) rfl;refine ets (a7h (aq rfl) (a0l rfl (i0 _)) ckk (K43.a3h h sa la _)) ?_;have eqn:∀hh,hEq (fsD T y) (fsD T x) hh=.ok (.bl false) hh:=λhh=>by
   unfold hEq;rw[aU ⟨afc h y,afc h x⟩,h2]
  have isf:∀hh,gIs (fsD T x) .non hh=.ok (.bl false) hh:=λhh=>by rw[ef];rfl
  have i4:∀hh,gIx (fsD T x) (.int 1) hh=.ok (ak e) hh:=λhh=>by rw[ef];exact a5u (j:=1) rfl
  refine eti (orF (tvc rfl (isf _)) (t2s (a7h (aq rfl) (a0l rfl (i1 _)) ckk (K43.a3h h sb lb _)) (aq rfl) (eqn _))) ?_;have k:s2 jb (s2 gIx (sV 4) (sI 1)) (sV 1) [some T.d,some (ak n),some (.tup [.str (S x),.str (S y)]),t,some (fsD T x)] []=.ok (ak (e+n)) []:=(kj (a0l rfl (i4 _)) (aq (i:=1) rfl) ye).trans (by show R.ok (D.int _) _=R.ok (D.int _) _;congr 2)
  refine aQ toR (jn ((K43.b1l la lb (a0l rfl (i0 _)) (a0l rfl (i1 _)) k).trans ?_));rw[h1]
 .rintro pre l post τ hh all ⟨t,rfl,rfl⟩
  have hgs:l=x\/l=y:=by
   have:l∈[x,y]:=by rw[all];simp
   simpa using this
  have sl:∀c∈l,c∈T.tg:=by rcases hgs with rfl|rfl;exact sa;exact sb
  have ll:l.length<=1000:=by rcases hgs with rfl|rfl;exact la;exact lb
  refine⟨_,_,rfl,[some T.d,some (ak n),some (.tup [.str (S x),.str (S y)]),some (.str (S l)),none],[],?_,_,rfl,rfl⟩;unfold zb;have is:∀h:Hd,qw [.str (S l),.ty "str"] h=.ok (.bl true) h:=λh=>by simp[qw,ah8,tyD,aee]
  have cf:sZ (xx (sIt (sV 3)) t1 (v7 SRC.cj bj) (a1d SRC.cj bj) [0]) [some T.d,some (ak n),some (.tup [.str (S x),.str (S y)]),some (.str (S l)),none] []=.ok (.rol []) []:=by
   have f0:(l.filterMap λ_:Nat=>(none:Option D))=[]:=by simp
   rw[<-f0];refine yg (a5a (λc:Nat=>D.str (S [c])) (λ_=>none) l (a6h (aq rfl) (b0v l _)) (du (by omega)) λc hc=>?_) (by rw[f0];exact o6) (by simp)
   rw[akf];have q:v7 SRC.cj bj [some (.str (S [c])),some T.d] []=.ok (!decide (c∈T.tg)) []:=t2s (aq rfl) (a0l rfl (a5u (j:=0) rfl)) (K21.b17 c T.tg _);show(v7 SRC.cj bj [some (.str (S [c])),some T.d] []).bind _=_;rw[q,az,aK (sl c hc)];rfl
  have zn:sZ (sA a5m bc) [some T.d,some (ak n),some (.tup [.str (S x),.str (S y)]),some (.str (S l)),none] []=.ok (.rol []) []:=yg (xs:=[]) rfl o6 (by simp)
  exact aN (ifF (orF (amm (a00 (xn (aq rfl) ckk (is _)) (p6 _))) (t2s cf zn rfl))) rfl
end
end K45
namespace K45
open L2 MI AT HND EVX K23 K21 RCH HGT STP RND
open K22 hiding hp j8 bw au nq
open K40
open K43 (fsD enD ama afc hB aad aae bj Lng a5l)
section
variable{T:Table}
theorem afe{l:List Nat}{q:Int}{e:Nat}:∀{m:Nat},SRC.best T 0 l m=.tup [.int q,ak e]->e<m/\kI T (SRC.rm T l e)=q/\q ≠ -1/\∀k,e<k->k<m->kI T (SRC.rm T l k) = -1
 |0,z=>by cases z
 |m+1,z=>by
  by_cases c:kI T (SRC.rm T l m) = -1
  .rw[SRC.aby c]at z;obtain⟨a,b,d,f⟩:=afe z;refine⟨by omega,b,d,λk k1 k2=>?_⟩
   by_cases k3:k=m
   .rw[k3];exact c
   .exact f k k1 (by omega)
  .rw[SRC.a7i c]at z;have z1:D.int (kI T (SRC.rm T l m))=.int q/\ak (0+m)=ak e:=by cases z;exact⟨rfl,rfl⟩
   have z2:=a5k z1.2;have z3:=D.int.inj z1.1;have:m=e:=by omega
   subst this;exact⟨by omega,z3,λy=>c (z3.trans y),λk k1 k2=>by omega⟩
theorem afg(h:T.Ok){l:List Nat}(sl:∀c∈l,c∈T.tg){k:Nat}(hk:k<l.length):SRC.rm T l (k+1)∈rw' T (SRC.rm T l k):=by
 rw[SRC.ala (ag hk)];exact(a4d h (SRC.ad9 h l k)).mpr ⟨_,(a8g (sl _ (bL hk))).2,rfl⟩
theorem aq3(h:T.Ok){N e:Nat}(v:Val T (kds T) N){l:List Nat}(sl:∀c∈l,c∈T.tg)(ke:kI T (SRC.rm T l e) ≠ -1)(near:∀k,e<k->k<=e+N->k<=l.length->kI T (SRC.rm T l k) = -1):∀k,e<k->k<=l.length->kI T (SRC.rm T l k) = -1:=by
 intro k
 induction k using Nat.strongRecOn with
 |_ k ih =>
  intro k1 k2
  by_cases k3:k<=e+N
  .exact near k k1 k3 k2
  refine bW λc=>?_;have hop:∀i,i+1<=k-e->hp T (SRC.rm T l (k-1-i))=true:=by
   intro i
   induction i with
   |zero =>
    intro _
    have:=afg h sl (k:=k-1) (by omega)
    rw[show k-1+1=k by omega]at this
    exact(aa4 h (SRC.ad9 h l _)).mpr ⟨_,this,.inl c⟩
   |succ i ihi =>
    intro hi
    have:=afg h sl (k:=k-1-(i+1)) (by omega)
    rw[show k-1-(i+1)+1=k-1-i by omega]at this
    exact(aa4 h (SRC.ad9 h l _)).mpr ⟨_,this,.inr (ihi (by omega))⟩
  have lam:∀j,e+j<k->Lam T (kds T) j (SRC.rm T l (e+j)):=by
   intro j
   induction j with
   |zero=>intro _;exact bK.mpr ⟨aY.mpr (SRC.ad9 h l e),aK ke⟩
   |succ j ihj =>
    intro hj
    refine⟨⟨_,ihj (by omega),afg h sl (by omega)⟩,?_⟩
    have g:=hop (k-1-(e+(j+1))) (by omega)
    rw[show k-1-(k-1-(e+(j+1)))=e+(j+1) by omega]at g
    have b:=ih (e+(j+1)) hj (by omega) (by omega)
    show gd T (SRC.rm T l (e+(j+1)))=true;unfold gd;rw[aK b,g];rfl
  refine v.2 (k-1-e) (by omega) ⟨SRC.rm T l k,⟨_,lam (k-1-e) (by omega),?_⟩,c⟩
  rw[show e+(k-1-e)=k-1 by omega]
  have:=afg h sl (k:=k-1) (by omega)
  rwa[show k-1+1=k by omega]at this
theorem enough(h:T.Ok){N:Nat}(v:Val T (kds T) N){x w:List Nat}{q:Int}{e:Nat}(sw:∀c∈x.take (e+N)++w,c∈T.tg)(hw:x.length<e+N->w=[])(ef:fsD T x=.tup [.int q,ak e]):fsD T (x.take (e+N)++w)=fsD T x:=by
 obtain⟨e1,e2,e3,e4⟩:=afe ef
 by_cases c:x.length<e+N
 .rw[hw c,bX,bP (by omega)]
 have lt:(x.take (e+N)).length=e+N:=by rw[bY];omega
 have same:∀k,k<=e+N->SRC.rm T (x.take (e+N)++w) k=SRC.rm T x k:=λk hk=>by
  unfold SRC.rm;rw[cQ (by omega),iX,gC hk]
 have ke:kI T (SRC.rm T (x.take (e+N)++w) e)=q:=by rw[same e (by omega),e2]
 have bare:=aq3 h v sw (by rw[ke];exact e3) λk k1 k2 _=>by
  rw[same k k2];exact e4 k k1 (by omega)
 rw[ef];show SRC.best T 0 (x.take (e+N)++w) ((x.take (e+N)++w).length+1)=_;rw[a5l (i:=e+1) (by rw[aw];omega) (λj h1 h2=>bare j (by omega) (by omega)),SRC.a7i (by rw[ke];exact e3),ke,dF]
def jf:SF:=ju (a0i SRC.aj) 3
theorem afh{o:O}{N most:Nat}{tg:List Nat}(P:SRC.Src o N)(hN:N<=999990000)(t1':1<=tg.length)(t6:tg.length<=6)(m1:1<=most)(m2:most<=40):∃t o',t.length<=40/\(∀c∈t,c∈tg)/\Dr jf 3 [.str (S tg),ak most] o (.str (S t)) o'/\SRC.Src o' (N+42):=by
 obtain⟨n,u,e2,n0,n1,Pu⟩:=SRC.a04 (m:=(most:Nat)) P (by omega) (by omega) (by omega)
 obtain⟨n,rfl⟩:=cL n0;have c2:jg false 2 SRC.aj [.ref 0,ak most] [o]=.ok (ak n) [u]:=e2 0 _ rfl;have mp:=a9e (f:=a7p t1 (yz SRC.aj) (frs' [0,1] [some (.ref 0),some (.str (S tg)),some (ak most)])) ak
  (λpre ys h=>∃(u:O) (t:List Nat),h=[u]/\SRC.Src u (N+1+pre.length)/\ys=ones t/\t.length=pre.length/\∀c∈t,c∈tg)
  (List.range n) [] [] [u] ?_ ⟨u,[],rfl,Pu,rfl,rfl,by simp⟩
 .obtain⟨zs,h',em,u',t,rfl,P5,ez,tl,tt⟩:=mp;rw[cy]at ez tl P5;rw[b6]at tl P5;subst ez;refine⟨t,u',by omega,tt,Dr.of rfl (a7g (gq _) (dg _)) P.clo (r:=.ok (.str (S t)) [u']) ?_ (gf (gq _) (by simpa using vq (by omega) P5.clo)) (gq _) P5.clo,P5.up (by omega)⟩
  unfold jf;rw[dh];show toR (a0i SRC.aj [some (.ref 0),some (.str (S tg)),some (ak most)] [o])=_;unfold a0i;have ei:sRg zg (aa (sA (jg false 2 SRC.aj) (aa (sV 0) (aa (sV 2) bc))) bc) [some (.ref 0),some (.str (S tg)),some (ak most)] [o]=.ok ⟨(List.range n).map ak,λ_=>True⟩ [u]:=by
   unfold sRg;rw[arg1 (xn (aq rfl) (aq rfl) c2),az];exact arb (n:=n) _ (du (by omega))
  have cz:sZ (ji (sRg zg (aa (sA (jg false 2 SRC.aj) (aa (sV 0) (aa (sV 2) bc))) bc)) t1 (yz SRC.aj) [0,1]) [some (.ref 0),some (.str (S tg)),some (ak most)] [o]=.ok (.rol (ones t)) [u']:=by
   refine b6z (h:=[o]) (h':=[u']) rfl ?_ (apk _ t) (by intro o ho;rw[av]at ho;subst ho;exact vq (by omega) P5.clo)
   unfold ji;rw[ei,az];dsimp only;rw[aU (by rw[ax,b6];exact du (by omega)),em]
   rfl
  exact aQ toR (jn (b44 (z:=S []) ckk (arg1 cz) (al7 (by omega))))
 .rintro pre i post ys h all ⟨u,t,rfl,Pu,rfl,tl,tt⟩
  rw[cy]at all;have hi:pre.length<n:=by
   have:=aQ List.length all
   simp at this
   omega
  obtain⟨x,u',e5,x0,x1,P5⟩:=SRC.a04 (m:=(tg.length:Nat)) Pu (by omega) (by omega) (by omega)
  obtain⟨j,rfl⟩:=cL x0;have hj:j<tg.length:=by omega
  have c5:jg false 2 SRC.aj [.ref 0,.int (tg.length:Nat)] [u]=.ok (.int (j:Nat)) [u']:=e5 0 _ rfl;refine⟨.str (S [tg[j]]),[u'],?_,u',t++[tg[j]],rfl,by rw[aw,aM];exact P5,by simp[ones],by rw[aw,aw,tl];rfl,λq hq=>?_⟩
  .rw[u6];exact kj (aq rfl) (xn (aq rfl) (qx (aq rfl) (ags (du (by omega)))) c5) (b3u (du (by omega)) (ag hj))
  .rcases b9.mp hq with h|h
   .exact tt q h
   .rw[av]at h;subst h;exact bL hj
def qg:SF:=ju (ww STP.ph) 2
def jz:SF:=ju (wz qg K43.uf) 3
theorem b4g(h:T.Ok){x:List Nat}(sx:∀c∈x,c∈T.tg)(xl:x.length<=1000):Pu jz 3 [T.d,.str (S x),.int 0] (fsD T x):=by
 have lk:Pu qg 2 [.str (S T.tg),.str (S x)] (.str (S x)):=by
  refine Pu.of rfl (a7g (gq _) (gq _)) (r:=.ok (.str (S x)) []) ?_ (gf (gq _) (by simp)) (gq _)
  unfold qg;rw[dh];show toR (ww STP.ph [some (.str (S T.tg)),some (.str (S x))] [])=_;unfold ww;refine eti (amm (a00 (xn (aq rfl) (aq rfl) (STP.aps (b46 (by omega)) _)) ((p6 _).trans (by rw[agz,show inT T x=true from bI.mpr λc hc=>aK (sx c hc)])))) ?_
  exact aQ toR (jn (aq rfl))
 refine Pu.of rfl (a3o Table.clo (gq _) (dg _)) (r:=.ok (fsD T x) []) ?_ (gf (K43.as7 _ _) (by simp)) (K43.as7 _ _)
 unfold jz;rw[dh];show toR (wz qg K43.uf [some T.d,some (.str (S x)),some (.int 0)] [])=_;unfold wz;exact aQ toR (jn (a7h (aq rfl) (xn (a0l rfl (a5u (j:=0) rfl)) (aq rfl) (lk _)) (aq rfl) (K43.aaa h sx xl _)))
def iz:SF:=ju (zx jf SRC.cj SRC.bf jz) 8
theorem amc(h:T.Ok){o:O}{N M:Nat}(v:Val T (kds T) N)(N32:N<=32)(P:SRC.Src o M)(hM:M<=999980000):∃o',Dr iz 3 [T.d,ak N] o (.bl true) o'/\SRC.Src o' (M+1200):=by
 have t6:=h.tong.hi;have tlo:=h.tong.lo;have lp:=o7 (g:=kN 3) (b:=xf jf SRC.cj SRC.bf jz) ak
  (λpre τ hh=>∃(u:O) (a b c d e:Option D),τ=[some (.ref 0),some T.d,some (ak N),a,b,c,d,e]/\hh=[u]/\SRC.Src u (M+84*pre.length)) (List.range 12) [some (.ref 0),some T.d,some (ak N),none,none,none,none,none] [o] ?_ ⟨o,none,none,none,none,none,rfl,rfl,P.up (by omega)⟩
 .obtain⟨τ',h',e,u,a,b,c,d,f,rfl,rfl,Pu⟩:=lp;refine⟨u,Dr.of rfl (a7g Table.clo (dg _)) P.clo (r:=.ok (.bl true) [u]) ?_ (gf (jw _) (by intro x hx;rw[show([u]:Hd).take 1=[u] from rfl,av]at hx;subst hx;exact vq (by omega) Pu.clo)) (jw _) Pu.clo,Pu.up (by rw[b6];omega)⟩
  unfold iz;rw[dh];show toR (zx jf SRC.cj SRC.bf jz [some (.ref 0),some T.d,some (ak N),none,none,none,none,none] [o])=_;unfold zx;refine etr (a2g (a3d (n:=12) ckk (du (by omega)))) ?_
  refine aN (aQ (λz=>toR (MI.thn z _)) e) ?_;exact aQ toR (jn ckk)
 .rintro pre k post τ hh all ⟨u,a,b,c,d,e,rfl,rfl,Pv⟩
  have hp12:pre.length<12:=by
   have:=aQ List.length all
   simp at this
   omega
  refine⟨_,_,rfl,?_⟩;obtain⟨x,u2,lx,sx,ex,P2⟩:=afh (most:=31) Pv (by omega) (by omega) (by omega) (by omega) (by omega)
  have cx:jg false 3 jf [.ref 0,.str (S T.tg),.int 31] [u]=.ok (.str (S x)) [u2]:=ex 0 _ rfl;have tg0:∀{hh:Hd},gIx T.d (.int 0) hh=.ok (.str (S T.tg)) hh:=λ{hh}=>a5u (j:=0) rfl;unfold xf;have s1:∀g:SS,di (jj 4 (sA (jg false 3 jf) (aa (sV 0) (aa (s2 gIx (sV 1) (sI 0)) (aa (sI 31) bc))))) (di (jj 5 (sA (jg false 3 SRC.cj) (aa (sV 1) (aa (sV 4) (aa (sI 0) bc))))) g) [some (.ref 0),some T.d,some (ak N),some (ak k),b,c,d,e] [u]=g [some (.ref 0),some T.d,some (ak N),some (ak k),some (.str (S x)),some (fsD T x),d,e] [u2]:=λg =>
   aN (nj (a7h (aq rfl) (a0l rfl tg0) ckk cx)) (nj (a7h (aq (i:=1) rfl) (aq (i:=4) rfl) ckk (K43.a3h h sx (by omega) _)))
  rcases ama h x with z|⟨q,f,fl,ef⟩
  .refine⟨_,_,aN (s1 _) (aN (ifF (tvc rfl ((a0k _).trans (by rw[z];rfl)))) rfl),u2,_,_,_,_,_,rfl,rfl,P2.up (by rw[aw,aM];omega)⟩
  .obtain⟨w,u3,lw,sw,ew,P3⟩:=afh (most:=20) P2 (by omega) (tg:=T.tg) (by omega) (by omega) (by omega) (by omega)
   have cw:jg false 3 jf [.ref 0,.str (S T.tg),.int 20] [u2]=.ok (.str (S w)) [u3]:=ew 0 _ rfl;have i1:∀hh,gIx (fsD T x) (.int 1) hh=.ok (ak f) hh:=λhh=>by rw[ef];exact a5u (j:=1) rfl
   have af:∀{d e:Option D} {uu:O},s2 jb (s2 gIx (sV 5) (sI 1)) (sV 2) [some (.ref 0),some T.d,some (ak N),some (ak k),some (.str (S x)),some (fsD T x),d,e] [uu]=.ok (ak (f+N)) [uu]:=(kj (a0l rfl (i1 _)) (aq (i:=2) rfl) ye).trans (by show R.ok (D.int _) _=R.ok (D.int _) _;congr 2)
   obtain⟨w',u4,lw',sw',hw',P4,es⟩:∃(w':List Nat) (u4:O),w'.length<=40/\(∀c∈w',c∈T.tg)/\(x.length<f+N->w'=[])/\SRC.Src u4 (M+84*pre.length+84)/\∀g:SS,di (sIf (sT (s2 gGe (sA vm (aa (sV 4) bc)) (s2 jb (s2 gIx (sV 5) (sI 1)) (sV 2)))) (aag 6 a0b (sA (jg false 3 jf) (aa (sV 0) (aa (s2 gIx (sV 1) (sI 0)) (aa (sI 20) bc))))) sNx) g [some (.ref 0),some T.d,some (ak N),some (ak k),some (.str (S x)),some (fsD T x),some (.str (S (x.take (f+N)))),e] [u2]=g [some (.ref 0),some T.d,some (ak N),some (ak k),some (.str (S x)),some (fsD T x),some (.str (S (x.take (f+N)++w'))),e] [u4]:=by
    have ct:sT (s2 gGe (sA vm (aa (sV 4) bc)) (s2 jb (s2 gIx (sV 5) (sI 1)) (sV 2))) [some (.ref 0),some T.d,some (ak N),some (ak k),some (.str (S x)),some (fsD T x),some (.str (S (x.take (f+N)))),e] [u2]=.ok (decide (((f+N:Nat):Int)<=(x.length:Nat))) [u2] :=
     t2s (qx (aq (i:=4) rfl) (ags (du (by omega)))) af (apl _ _)
    by_cases c:x.length<f+N
    .rw[aZ (by omega)]at ct
     exact⟨[],u2,by simp,by simp,λ_=>rfl,P2.up (by omega),λg=>(ifN ct).trans (by rw[bX])⟩
    .rw[aK (by omega)]at ct
     refine⟨w,u3,lw,sw,λy=>absurd y c,P3.up (by omega),λg=>ue (aN (ifT ct) ?_)⟩
     exact abr rfl (a7h (aq rfl) (a0l rfl tg0) ckk cw) (SRC.af0 (du (by rw[bY];omega)))
   have so:∀c∈x.take (f+N)++w',c∈T.tg:=λc hc=>(b9.mp hc).elim (λy=>sx c (ff y)) (sw' c);have lo:(x.take (f+N)++w').length<=1000:=by rw[aw,bY];omega
   have en:=enough h v so hw' ef;have ft:=b4g h so lo;have fo:=K43.a3h h so lo;rw[en]at ft fo;have ne0:∀hh,hNe (fsD T x) (fsD T x) hh=.ok (.bl false) hh:=λhh=>by
    rw[ef];unfold hNe;rw[aU ⟨rfl,rfl⟩]
    congr 2
    show(!(_ && (_ && true)))=false;rw[show eqD (.int q) (.int q)=true from dU q,show eqD (ak f) (ak f)=true from dU ((f:Nat):Int)]
    rfl
   have nu:Pu SRC.bf 2 [fsD T x,.int 2] (.bl true):=by rw[ef];exact SRC.a8i (xs:=[q,f]) (by simp)
   refine⟨_,_,aN (s1 _) (aN (ifT (tvc rfl ((a0k _).trans (by rw[ef];rfl)))) (aN (nj (al9 (aq (i:=4) rfl) rfl (al8 af) (b0o (l:=x) (f+N) (du (by omega))))) (aN (es _) (aN (nj (a7h (aq (i:=1) rfl) (aq (i:=6) rfl) ckk (ft _))) (aN (ifF (orF (amm (a00 (xn (aq (i:=7) rfl) ckk (nu _)) (p6 _))) (orF (t2s (aq (i:=7) rfl) (aq (i:=5) rfl) (ne0 _)) (t2s (a7h (aq (i:=1) rfl) (aq (i:=6) rfl) ckk (fo _)) (aq (i:=5) rfl) (ne0 _))))) rfl))))),u4,_,_,_,_,_,rfl,rfl,P4.up (by rw[aw,aM];omega)⟩
def amd:SF:=ju (ad4 SRC.aj iz SRC.bf jd SRC.iw SRC.jc j9 HGT.gk K40.ie bj RCH.j6) 6
theorem b1p(ns:List Int):∃h',K45.amd [.scr (ns.map D.int)] []=.ok (.bl true) h':=by
 obtain⟨o,P,e0⟩:=SRC.akm ns [];obtain⟨m,o2,e2,m0,m1,P2⟩:=SRC.a04 (m:=61) P (by omega) (by omega) (by omega)
 obtain⟨m,rfl⟩:=cL m0;have c2:jg false 2 SRC.aj [.ref 0,.int 61] [o]=.ok (ak m) [o2]:=e2 0 _ rfl;obtain⟨T,o3,hT,rc,e3,P3⟩:=SRC.aln (most:=16) P2 (by omega) (by omega) (by omega)
 have n32:=hT.n32;have c3:jg false 2 SRC.jc [.ref 0,.int 16] [o2]=.ok T.d [o3]:=e3 0 _ rfl;have one:=RCH.aw6 P3
 by_cases nn:RA T (kds T)=.non
 .refine⟨[o3],?_⟩;unfold K45.amd;rw[dh];show toR (ad4 SRC.aj iz SRC.bf jd SRC.iw SRC.jc j9 HGT.gk K40.ie bj RCH.j6 [some (.scr (ns.map D.int)),none,none,none,none,none] [])=_;unfold ad4;refine ets (qx (aq rfl) e0) ?_;refine ets (xn (aq rfl) ckk c2) ?_;refine ets (xn (aq rfl) ckk c3) ?_;refine ets (qx (aq rfl) (RCH.a6i hT _)) ?_;refine aQ toR (a1s (aN (ifT (tvc rfl (by rw[nn];rfl))) ?_))
  have hn:HT T=.non:=by unfold HT;rw[nn];rfl
  have eh:=HGT.a1t hT;rw[hn]at eh;have all5:=a5f (fi:=sIt (sA a0r (aa (sI 0) (aa (sI 1) (aa (sI 2) (aa (sV 2) (aa (sI 60) bc))))))) (fe:=a9k SRC.aj iz SRC.bf jd SRC.iw SRC.jc j9 HGT.gk K40.ie bj RCH.j6) (ix:=[3]) (τ:=[some (.scr (ns.map D.int)),some (.ref 0),some (ak m),some T.d,some (RA T (kds T)),none]) (hp:=[o3]) [0,1,2,m,60] (λ_=>true) (by simp)
   (a6h (b6w (a3n ckk (a3n ckk (a3n ckk (a3n (aq (i:=2) rfl) (a3n ckk rfl))))) |>.trans K41.b72) rfl)
   (λt ht=>xn (aq rfl) (aq rfl) (afd hT rc (n:=t) (by
    simp only[aP,bp,cH]at ht;omega) (λN eN=>by rw[nn]at eN;cases eN) _)) one
  exact jn (akh (kj (qx (aq (i:=3) rfl) (eh _)) ckk rfl) all5)
 .obtain⟨N,Nl,eN,vN⟩:=ac3 hT a05 nn;have G:=aq1 hT nn eN;have eh:=HGT.a1t hT;have hn:HT T=zsD (hgs T):=by
   unfold HT;rw[eN];show D.tup (htD T)=_;rw[b4f hT nn]
  rw[hn]at eh;have ll:=awk (T:=T);have th:Th (zsD (hgs T)):=b1m (by rw[ax,ll];omega) (λx hx=>by obtain⟨i,_,rfl⟩:=bq.mp hx;exact b1n i)
  have nb:Pu SRC.bf 2 [zsD (hgs T),ak T.go.length] (.bl true):=by
   have:=adb (n:=T.go.length) th
   rwa[show b29 T.go.length (zsD (hgs T))=true by
    show(decide (((hgs T).map D.int).length=T.go.length) && ((hgs T).map D.int).all isI)=true;rw[ax,ll,aK rfl,eZ,fS];exact bI.mpr λ_ _=>rfl]at this
  have hd:=K40.a1t hT th (m:=(N:Int));rw[awl G ll]at hd;obtain⟨o4,e4,P4⟩:=amc hT vN (by omega) P3 (by omega)
  have c4:jg false 3 iz [.ref 0,T.d,ak N] [o3]=.ok (.bl true) [o4]:=e4 0 _ rfl;have lp:Pu bj 2 [T.d,ak N] .non:=by
   rcases aad hT rc (n:=N) (by omega) with⟨_,e⟩|⟨z,_⟩
   .exact e
   .have:=z N eN;omega
  refine⟨[o4],?_⟩;unfold K45.amd;rw[dh];show toR (ad4 SRC.aj iz SRC.bf jd SRC.iw SRC.jc j9 HGT.gk K40.ie bj RCH.j6 [some (.scr (ns.map D.int)),none,none,none,none,none] [])=_;unfold ad4;refine ets (qx (aq rfl) e0) ?_;refine ets (xn (aq rfl) ckk c2) ?_;refine ets (xn (aq rfl) ckk c3) ?_;have er:=RCH.a6i hT;rw[eN]at er;refine ets (qx (aq rfl) (er _)) ?_;refine eti (tvc rfl rfl) ?_;have n1:Pu SRC.bf 2 [.tup [ak N],.int 1] (.bl true):=SRC.a8i (xs:=[(N:Int)]) (by simp)
  refine eti (orF (amm (a00 (xn (qx (aq (i:=4) rfl) b6x) ckk (n1 _)) (p6 _))) (orF (t2s (aq (i:=4) rfl) ckk (ard (by omega))) (t2s (aq (i:=4) rfl) (qx (kj (aq (i:=3) rfl) ckk (go1 _)) xm) (b26 (by rw[ax];omega))))) ?_
  refine ets (qx (aq (i:=3) rfl) (eh _)) ?_;refine eti (orF (amm (a00 (xn (aq (i:=5) rfl) (qx (kj (aq (i:=3) rfl) ckk (go1 _)) (xm.trans (by rw[ax]))) (nb _)) (p6 _))) (amm (a00 (a7h (aq (i:=3) rfl) (aq (i:=4) rfl) (aq (i:=5) rfl) (b1o hT ll G _)) (p6 _)))) ?_
  refine eti (orF (t2s (a7h (aq (i:=3) rfl) (aq (i:=4) rfl) (aq (i:=5) rfl) (hd _)) ckk (a4z _ _)) (t2s (xn (aq (i:=3) rfl) (aq (i:=4) rfl) (lp _)) ckk rfl)) ?_;have all5:=a5f (fi:=sRg zg (aa (sV 4) bc)) (fe:=a9l SRC.aj iz SRC.bf jd SRC.iw SRC.jc j9 HGT.gk K40.ie bj RCH.j6) (ix:=[3]) (τ:=[some (.scr (ns.map D.int)),some (.ref 0),some (ak m),some T.d,some (ak N),some (zsD (hgs T))]) (hp:=[o3]) (List.range N) (λ_=>true) (by rw[b6];omega)
   (a3d (n:=N) (aq rfl) (du (by omega)))
   (λt ht=>xn (aq rfl) (aq rfl) (afd hT rc (n:=t) (by have:=aY.mp ht;omega) (λN' eN'=>by
    have:=a5k (eN.symm.trans eN')
    have:=aY.mp ht
    omega) _)) one
  rw[bI.mpr (λ_ _=>rfl)]at all5;exact aQ toR (jn (akh all5 (a7h (aq (i:=1) rfl) (aq (i:=3) rfl) (aq (i:=4) rfl) c4)))
end
end K45
namespace K45
open L2 MI
noncomputable def aq4(K:Fg):Sp:=λvs H Q _=>∃(a:Addr) (ns:List Int),vs=[.ref a]/\SqF K H a (ns.map V.int)/\ns.length<=63/\∀H',Q (.bl true) H'
theorem a2y{K:Fg}{U:List Addr}{H:Hp}:∀ns:List Int,Reps K U H (ns.map V.int) (ns.map D.int)
 |[]=>.nil
 |n::ns=>.cons (.int n) (a2y ns)
theorem b1q{K:Fg}(vs:List V)(H:Hp)(Q:VK)(E:XK)(h:aq4 K vs H Q E):ae9 K 1 K45.amd vs H Q E:=by
 obtain⟨a,ns,rfl,hS,hl,q⟩:=h;obtain⟨h',e⟩:=K45.b1p ns;refine⟨rfl,[],[.scr (ns.map D.int)],[],.cons (.scr hS (a2y ns)) .nil,⟨fP,rfl,λi a o z=>by simp at z⟩,?_⟩
 rw[e]
 intro U' H' b g r hr
 cases r
 exact q H'
theorem b1r{K:Fg}{H:Hp}{a:Addr}{vs:List V}(hO:Only H)(hS:SqL K H a vs):SqF K H a vs:=by
 rcases hS with r|r
 .rcases r with r|⟨o,r⟩
  .rcases hO a with z|⟨o,xs,z⟩<;>rw[z]at r<;>cases r
  .exact .inl ⟨o,r⟩
 .exact .inr (.inr r)
abbrev fo(x:Str)(t:Stmt)(kV dc pm:Value)(an:Option Addr)(cd ct:Value):=PySem.W.fnOf x x (a3r t) (a02 t) (jm t) .none kV dc pm an cd ct
def Df(K:Fg)(f:Addr)(nm:Str)(i:Nat):Prop:=∃oc od kV dc pm an cd ct sl,PySem.W.nsIn K mainGlobals nm=some (some (.ref f))/\K.lookup f=some ⟨oc,od,.func (fo nm (top i) kV dc pm an cd ct),sl⟩/\PySem.W.codeIn K cd nm=true/\PySem.W.keepIn K (.ref f)=true
theorem df{K:Fg}{f:Addr}{nm:Str}{i:Nat}(d:Df K f nm i):∃e,PySem.W.nsIn K mainGlobals nm=some (some (.ref f))/\Fun K nm nm (top i) f e:=by
 obtain⟨_,_,_,_,_,_,_,_,_,a,l,c,k⟩:=d;exact⟨_,a,ay0 l c k⟩
theorem as8{P:Program}{w:World}{K:Fg}{mg:Str->Option Value}{base:Heap}{f:Addr}{k:Nat}{N ps:List Str}{x:Str}{t:Stmt}{b:SS}{fd:FuncData}(Fu:Fun K x x t f fd)(m:MD P w K mg base f k N ps x t b):FnOk P w K mg base CX0 (k+1) f fd ps (ae9 K ps.length (ju b N.length)):=azu Fu m.1 m.2
theorem qi{P:Program}{w:World}{K:Fg}{mg:Str->Option Value}{base h:Heap}{f:Addr}{nm:Str}{i k:Nat}{F:SF}{N ps:List Str}{b:SS}(d:Df K f nm i)(X:K.In h)(G:h.Ns mainGlobals mg)(m:MD P w K mg base f k N ps nm (top i) b)
  (h:∀(kV doc pm:Value) (an:Option Addr) (cdv ct:Value) (us:List Value),us.length=ps.length->bindArgs (PySem.W.fnOf nm nm (a3r (top i)) (a02 (top i)) (jm (top i)) .none kV doc pm an cdv ct) ⟨us,[]⟩=pure (ps.zip us)) (e:F=ju b N.length:=by rfl) :
  ∃fd,Dn P w K mg base (k+1) nm ps (ae9 K ps.length F) f fd:=by
 obtain⟨_,a,Fu⟩:=df d;rw[e];exact⟨_,as8 Fu m,jv X G a,Fu.kp,Fu.binds h⟩
local macro_rules|`(tactic|walk_at "b") => `(tactic|(intro _ _ _ _ _ _ us hl;first|(apply b4x hl;intro _;exact rfl)|(apply b4y hl;intro _ _;exact rfl)|(apply b4z hl;intro _ _ _;exact rfl)|(apply b50 hl;intro _ _ _ _;exact rfl)|(apply b51 hl;intro _ _ _ _ _;exact rfl)|(apply b5w hl;intro _ _ _ _ _ _;exact rfl)|(apply len0 hl;exact rfl)))
theorem b1s{l:PySem.W.OpenLaw}{w:World}{K:Fg}{h:Heap}{mg:Str->Option Value}{fa f1 f2 f3 f4 f5 f6 f7 f8 f9 f10 f11 f12 f13 f14 f15 f16 f17 f18 f19 f20 f21 f22 f23 f24 f25 f26 f27 f28 f29 f30 f31 f32 f33 f34 f35 f36 f37 f38 f39 f40:Addr}(X:K.In h)(G:h.Ns mainGlobals mg)(hfa:mg "law" = some (.ref fa))
  (d1:Df K f1 "is_number" 1)
  (d2:Df K f2 "is_row" 2)
  (d3:Df K f3 "is_text" 7)
  (d4:Df K f4 "looked_text" 9)
  (d5:Df K f5 "rooms_along" 10)
  (d6:Df K f6 "words_to" 11)
  (d7:Df K f7 "hope_words" 13)
  (d8:Df K f8 "hope_word" 14)
  (d9:Df K f9 "hopes" 15)
  (d10:Df K f10 "reach" 17)
  (d11:Df K f11 "reach_from" 18)
  (d12:Df K f12 "rooms_behind" 19)
  (d13:Df K f13 "heights" 20)
  (d14:Df K f14 "height" 21)
  (d15:Df K f15 "heights_hold" 22)
  (d16:Df K f16 "height_holds" 23)
  (d17:Df K f17 "may_lead" 24)
  (d18:Df K f18 "first_piece" 26)
  (d19:Df K f19 "piece_at" 27)
  (d20:Df K f20 "ways_to" 29)
  (d21:Df K f21 "needing" 31)
  (d22:Df K f22 "way_down" 32)
  (d23:Df K f23 "is_next_down" 33)
  (d24:Df K f24 "rounds" 34)
  (d25:Df K f25 "loops_of" 35)
  (d26:Df K f26 "late_pair" 37)
  (d27:Df K f27 "longer_step" 38)
  (d28:Df K f28 "_law_source" 40)
  (d29:Df K f29 "_law_draw" 41)
  (d30:Df K f30 "_law_signs" 42)
  (d31:Df K f31 "_law_tongue" 43)
  (d32:Df K f32 "_law_rooms" 44)
  (d33:Df K f33 "_law_table" 45)
  (d34:Df K f34 "_law_first" 46)
  (d35:Df K f35 "_law_numbers" 47)
  (d36:Df K f36 "_law_drawn" 48)
  (d37:Df K f37 "_law_enough" 49)
  (d38:Df K f38 "_law_shown" 50)
  (d39:Df K f39 "_law_walked" 51)
  (d40:Df K f40 "law" 52)
  (z1:PySem.W.nsIn K mainGlobals "abs" = some none) (z2:PySem.W.nsIn K mainGlobals "all" = some none) (z3:PySem.W.nsIn K mainGlobals "any" = some none) (z4:PySem.W.nsIn K mainGlobals "bool" = some none) (z5:PySem.W.nsIn K mainGlobals "enumerate" = some none) (z6:PySem.W.nsIn K mainGlobals "int" = some none) (z7:PySem.W.nsIn K mainGlobals "isinstance" = some none) (z8:PySem.W.nsIn K mainGlobals "len" = some none) (z9:PySem.W.nsIn K mainGlobals "min" = some none) (z10:PySem.W.nsIn K mainGlobals "range" = some none) (z11:PySem.W.nsIn K mainGlobals "reversed" = some none) (z12:PySem.W.nsIn K mainGlobals "sorted" = some none) (z13:PySem.W.nsIn K mainGlobals "str" = some none) (z14:PySem.W.nsIn K mainGlobals "sum" = some none) (z15:PySem.W.nsIn K mainGlobals "tuple" = some none) (z16:PySem.W.nsIn K mainGlobals "zip" = some none)  :
  ∃fd:FuncData,(∀(s:Shared) (v:Value),BindsTo s fd ⟨[v],[]⟩ [("_law_script",v)])/\∀base:Heap,K.In base->base.Ns mainGlobals mg->FnOk l.prog w K mg base CX0 10 fa fd ["_law_script"] (aq4 K):=by
 obtain⟨_,a40,F40⟩:=df d40;have e:=hfa.symm.trans (jv X G a40);cases e
 obtain⟨oc,od,kV40,dc40,pm40,an40,cd40,ct40,sl,rfl,lk,hc⟩:=id F40.ex;have b40:=F40.binds (ps:=["_law_script"]) (by walk_at "b")
 have M:Nm mg:=⟨bM X G z1,bM X G z2,bM X G z3,bM X G z4,bM X G z5,bM X G z6,bM X G z7,bM X G z8,bM X G z9,bM X G z10,bM X G z11,bM X G z12,bM X G z13,bM X G z14,bM X G z15,bM X G z16⟩;refine⟨PySem.W.fnOf "law" "law" (a3r (top 52)) (a02 (top 52)) (jm (top 52)) .none kV40 dc40 pm40 an40 cd40 ct40,λs v=>.of_eq rfl,λbase _ _=>?_⟩
 obtain⟨_,D_0⟩:=qi (F:=K40.jy) (k:=0) d1 X G (m_0 M) (by walk_at "b")
 obtain⟨_,D_1⟩:=qi (F:=K40.qu) (k:=0) d2 X G (m_1 M) (by walk_at "b")
 obtain⟨_,D_2⟩:=qi (F:=STP.ph) (k:=0) d3 X G (m_2 M) (by walk_at "b")
 obtain⟨_,D_3⟩:=qi (F:=K45.qg) (k:=1) d4 X G (m_3 (dk D_2)) (by walk_at "b")
 obtain⟨_,D_4⟩:=qi (F:=STP.dw) (k:=0) d5 X G (m_4 ) (by walk_at "b")
 obtain⟨_,D_5⟩:=qi (F:=STP.bz) (k:=0) d6 X G (m_5 M) (by walk_at "b")
 obtain⟨_,D_7⟩:=qi (F:=RCH.bw) (k:=0) d8 X G (m_7 M) (by walk_at "b")
 obtain⟨_,D_6⟩:=qi (F:=RCH.au) (k:=1) d7 X G (m_6 M (dk D_7)) (by walk_at "b")
 obtain⟨_,D_8⟩:=qi (F:=RCH.j8) (k:=2) d9 X G (m_8 M (dk D_6)) (by walk_at "b")
 obtain⟨_,D_10⟩:=qi (F:=RCH.iy) (k:=0) d11 X G (b5x M) (by walk_at "b")
 obtain⟨_,D_9⟩:=qi (F:=RCH.j6) (k:=3) d10 X G (m_9 M (dk D_8) (dk D_10)) (by walk_at "b")
 obtain⟨_,D_11⟩:=qi (F:=HGT.jk) (k:=0) d12 X G (b5y M) (by walk_at "b")
 obtain⟨_,D_13⟩:=qi (F:=HGT.zc) (k:=1) d14 X G (b60 (dk D_10)) (by walk_at "b")
 obtain⟨_,D_12⟩:=qi (F:=HGT.gk) (k:=4) d13 X G (b5z M (dk D_13) (dk D_8) (dk D_9) (dk D_11)) (by walk_at "b")
 obtain⟨_,D_16⟩:=qi (F:=K40.pq) (k:=0) d17 X G (b63 ) (by walk_at "b")
 obtain⟨_,D_15⟩:=qi (F:=K40.iu) (k:=1) d16 X G (b62 M (dk D_16)) (by walk_at "b")
 obtain⟨_,D_14⟩:=qi (F:=K40.ie) (k:=2) d15 X G (b61 M (dk D_15) (dk D_0) (dk D_1)) (by walk_at "b")
 obtain⟨_,D_18⟩:=qi (F:=K43.uf) (k:=1) d19 X G (b65 M (dk D_4)) (by walk_at "b")
 obtain⟨_,D_17⟩:=qi (F:=K45.jz) (k:=2) d18 X G (b64 (dk D_3) (dk D_18)) (by walk_at "b")
 obtain⟨_,D_19⟩:=qi (F:=STP.fu) (k:=1) d20 X G (b66 M (dk D_5)) (by walk_at "b")
 obtain⟨_,D_22⟩:=qi (F:=STP.cu) (k:=0) d23 X G (b69 ) (by walk_at "b")
 obtain⟨_,D_21⟩:=qi (F:=STP.jo) (k:=1) d22 X G (b68 M (dk D_22)) (by walk_at "b")
 obtain⟨_,D_20⟩:=qi (F:=STP.j7) (k:=5) d21 X G (b67 M (dk D_12) (dk D_9) (dk D_21) (dk D_19)) (by walk_at "b")
 obtain⟨_,D_24⟩:=qi (F:=RND.jq) (k:=2) d25 X G (b6b M (dk D_6) (dk D_5)) (by walk_at "b")
 obtain⟨_,D_23⟩:=qi (F:=RND.km) (k:=3) d24 X G (b6a M (dk D_24) (dk D_19) (dk D_5)) (by walk_at "b")
 obtain⟨_,D_26⟩:=qi (F:=K43.m8) (k:=6) d27 X G (b6d M (dk D_20) (dk D_23)) (by walk_at "b")
 obtain⟨_,D_25⟩:=qi (F:=K43.bj) (k:=7) d26 X G (b6c (dk D_26)) (by walk_at "b")
 obtain⟨_,D_27⟩:=qi (F:=SRC.iw) (k:=0) d28 X G (b6e M) (by walk_at "b")
 obtain⟨_,D_28⟩:=qi (F:=SRC.aj) (k:=0) d29 X G (b6f M) (by walk_at "b")
 obtain⟨_,D_29⟩:=qi (F:=SRC.lq) (k:=0) d30 X G (b6g ) (by walk_at "b")
 obtain⟨_,D_30⟩:=qi (F:=SRC.dj) (k:=1) d31 X G (b6h M (dk D_28) D_29 (by decide)) (by walk_at "b")
 obtain⟨_,D_31⟩:=qi (F:=SRC.gj) (k:=1) d32 X G (b6i M (dk D_28)) (by walk_at "b")
 obtain⟨_,D_32⟩:=qi (F:=SRC.jc) (k:=2) d33 X G (b6j M (dk D_28) (dk D_31) (dk D_30)) (by walk_at "b")
 obtain⟨_,D_33⟩:=qi (F:=SRC.cj) (k:=0) d34 X G (b6k M) (by walk_at "b")
 obtain⟨_,D_34⟩:=qi (F:=SRC.bf) (k:=0) d35 X G (b6l M) (by walk_at "b")
 obtain⟨_,D_35⟩:=qi (F:=K45.jf) (k:=1) d36 X G (b6m M (dk D_28)) (by walk_at "b")
 obtain⟨_,D_36⟩:=qi (F:=K45.iz) (k:=3) d37 X G (b6n M (dk D_35) (dk D_33) (dk D_34) (dk D_17)) (by walk_at "b")
 obtain⟨_,D_37⟩:=qi (F:=K45.jd) (k:=8) d38 X G (b6o M (dk D_33) (dk D_25)) (by walk_at "b")
 obtain⟨_,D_38⟩:=qi (F:=K45.j9) (k:=0) d39 X G (b6p M) (by walk_at "b")
 have D_39:Dn l.prog w K mg base 10 "law" ["_law_script"] (ae9 K 1 (K45.amd)) _ _:=⟨as8 F40 (b6q M (dk D_28) (dk D_36) (dk D_34) (dk D_37) D_27 (by decide) (dk D_32) (dk D_38) (dk D_12) (dk D_14) (dk D_25) (dk D_9)),jv X G a40,F40.kp,b40⟩
 exact D_39.ok.imp b1q
theorem walk{l:PySem.W.OpenLaw}{q:Program}{loose:List Str}{XP:(Str->Option Value)->Heap->Prop}{YP:World->Heap->Prop}{d:DefRec}{K:Params->Fg}(hn:l.most=some 63)(hdf:d.params.defaults=[])
  (hY:∀(w:World) (h:Heap),YP w h->(K w.params).In h)
  (F:∀(w:World) (mg:Str->Option Value) (fa:Addr) (h:Heap),(K w.params).In h->h.Ns mainGlobals mg->mg d.name=some (.ref fa)->
   ∃fd:FuncData,(∀(s:Shared) (u:Value),BindsTo s fd ⟨[u],[]⟩ [("_law_script",u)])/\∀base:Heap,(K w.params).In base->base.Ns mainGlobals mg->FnOk l.prog w (K w.params) mg base CX0 10 fa fd ["_law_script"] (aq4 (K w.params))) :
  PySem.W.WalkO q loose XP YP l.row.toRowW d [] (λf vs=>PySem.call f vs) :=
 L2.asy (n:=63) (k:=10) (x := "_law_script") (CX:=λ_=>CX0) (sp:=λw=>aq4 (K w.params)) hn (by decide) hdf ⟨rfl,by decide,by decide,rfl⟩ hY F (λ_ _ a ns hl hO hS=>⟨a,ns,rfl,b1r hO hS,hl,λ_=>rfl⟩) λ_ _ _ _ _ z=>z
end K45
open PySem.W PyProof.Rows
local macro_rules|`(tactic|o_head $H) => `(tactic|refine PySem.W.holds_open (q:=K45.hq) (loose:=K45.hl) (Xt:=fun _=>true) (XP:=fun _ _=>True) (Yf:=Hook.obs $H) (Ya:=Hook.val $H) (YP:=Hook.says $H) (N:=20000) ?hl (Hook.of $H) (Hook.keeps $H) (fun _ _=>trivial) (fun _ _ _ _ _=>trivial) (by rfl) (by rfl) (by rfl) (fun _ _=>recFacts_nil rfl) (by rfl) (by assumption) (by decide +kernel) ⟨rfl,rfl,rfl,rfl,rfl,by decide +kernel⟩ ?hw ?hc)
set_option maxRecDepth 100000 in
set_option maxHeartbeats 0 in
theorem PySem.Challenge.cw_nearreach_k45_whole_enough_and_least_holds : PySem.Challenge.rw_nearreach_k45_whole_enough_and_least.Holds := by
 w_on;refine holds_law K45.said fun said=>?_;o_head (kHook K45.A.heap_1 [2,3,15,17,18,20,21,22,24,25,27,28,29,36,37,38,39,42,49,50,51,54,57,58,59,61,62,64,65,66,68,69,71,72,73,75,76,78,79,80,83,84,85,87,88,90,91,92,95,96,97,100,101,102,105,106,107,110,111,112,115,116,117,119,120,122,123,124,127,128,129,132,133,134,136,137,139,140,141,143,144,146,147,148,150,151,153,154,155,158,159,160,163,164,165,168,169,170,172,173,175,176,177,180,181,182,185,186,187,189,190,192,193,194,196,197,199,200,201,204,205,206,208,209,211,212,213,215,216,218,219,220,222,223,225,226,227,230,231,232,235,236,237,239,240,242,243,244,246,247,249,250,251,254,255,256,258,259,261,262,263,266,267,268,270,271,273,274,275,278,279] (fun _=>by kernel_rfl))
 (case hw=>w_witness2)
 (case hl=>exact K45.hlok)
 k_fill
 refine K45.walk (l:=PySem.Challenge.rw_nearreach_k45_whole_enough_and_least) rfl rfl (fun w h Y=>PySem.W.kIn_of Y) ?F
 case F =>
  intro w mg fa h KX G hmg
  refine' K45.b1s KX G hmg ?_ ?_ ?_ ?_ ?_ ?_ ?_ ?_ ?_ ?_ ?_ ?_ ?_ ?_ ?_ ?_ ?_ ?_ ?_ ?_ ?_ ?_ ?_ ?_ ?_ ?_ ?_ ?_ ?_ ?_ ?_ ?_ ?_ ?_ ?_ ?_ ?_ ?_ ?_ ?_ ?_ ?_ ?_ ?_ ?_ ?_ ?_ ?_ ?_ ?_ ?_ ?_ ?_ ?_ ?_ ?_
  all_goals first | k_is | exact ⟨_,_,_,_,_,_,_,_,_,by k_is,by k_is,by k_is,by k_is⟩ | skip
