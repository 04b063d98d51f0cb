import PyProof.Rows.All
import Wide.All
import OpenK.AllK
import Wide.FinOn
import Lean
import PyProof.EqAt
import PyProof.EqKinds
import PyProof.TupleCall
import PyProof.ListStr
import PyProof.TupleOfStr
import PyProof.ConsumeWalk
import PyProof.SliceStr2
import PyProof.CompUse
import PyProof.Rows.SetFrom
import PyProof.SetRoads
import PyProof.StrLawsIn
import PyProof.Rows.StrIndexOr
import PyProof.Rows.StrJoin2
import PyProof.Rows.SumAny
import PyProof.WalkInts
import PyProof.SeqI3
import PyProof.Draws
import PyProof.ZipIter
import PyProof.EnumMake
import Wide.Txt2
import PyProof.Rows.SortWalk
import PyProof.ListRange
import PyProof.Rows.Range3
import KE.KStateDown
import PyProof.ReprRoads
import PyProof.CallFns
import PyProof.WalksMore
import KE.KTryDeep
import PyProof.ExcBaseAll.ValueError
import KE.KTryMore
import KE.KIsNot
import PyProof.ExcAttrAll.ValueError
import PyProof.NsDelKeeps
import PySem.SetOps
import PyProof.SetScanFacts
import PyProof.Walks
import PyProof.CollectWalk
import PyProof.SumWalk
import PyProof.SeqWrite
import KE.KRevIter
import PyProof.CollectIter
import PyProof.WalksS
import PySem.Challenge.RW_nearreach_k11_spreads
set_option Elab.async false
set_option linter.all false
set_option maxRecDepth 100000
set_option maxHeartbeats 4000000
section
open PySem PySem.W PyProof.Rows
theorem K11.said:PySem.Challenge.rw_nearreach_k11_spreads.wellSaid=true:=by kernel_rfl
noncomputable def K11.hq:Program:=view PySem.Challenge.pw_nearreach_k11_spreads [PySem.Challenge.pw_nearreach_k11_spreads.main.body.length - 1]
noncomputable def K11.hl:List Str:=PySem.Challenge.pw_nearreach_k11_spreads.boundNames
local macro_rules | `(tactic| o_head $H) => `(tactic| refine PySem.W.holds_open (q:=K11.hq) (loose:=K11.hl) (Xt:=fun _=>true) (XP:=fun _ _=>True) (Yf:=Hook.obs $H) (Ya:=Hook.val $H) (YP:=Hook.says $H) (N:=20000) ?hl (Hook.of $H) (Hook.keeps $H) (fun _ _=>trivial) (fun _ _ _ _ _=>trivial) (by rfl) (by rfl) (by rfl) (fun _ _=>recFacts_nil rfl) (by rfl) (by assumption) (by decide +kernel) ⟨rfl,rfl,rfl,rfl,rfl,by decide +kernel⟩ ?hw ?hc)
set_option maxRecDepth 100000 in
set_option maxHeartbeats 0 in
theorem K11.A (hyp:∀ p:Prop,p):PySem.Challenge.rw_nearreach_k11_spreads.Holds:=by
 w_on;refine holds_law K11.said fun said=>?_;k_head
 all_goals exact hyp _
set_option maxRecDepth 100000 in
set_option maxHeartbeats 0 in
theorem K11.hlok:LeftO PySem.Challenge.rw_nearreach_k11_spreads.row.prog K11.hq K11.hl (fun _=>true) (Hook.obs (kHook K11.A.heap_1 [2,3,15,22,23,24,25,28,35,36,37,40,47,48,49,52,59,60,61,64,71,72,73,76,83,84,85,88,90,91,93,94,95,97,98,100,101,102,105,106,114,116,117,119,120,121,122,123,124,125,128,130,131,133,134,135,138,139,140,142,143,145,146,147,149,150,152,153,154,157,158,159,161,162,164,165,166,168,169,171,172,173,176,177,178,180,181,183,184,185,188,189,190,192,193,195,196,197,199,200,202,203,204,206,207,209,210,211,213,214,216,217,218,221,222,223,225,226,228,229,230,233,234,235,237,238,240,241,242,244,245,247,248,249,252,253,254,256,257,259,260,261,263,264,266,267,268,271,272,273,276,277,278,280,281,283,284,285,288,289,290,292,293,295,296,297,299,300,302,303,304,306,307,309,310] (fun _=>by kernel_rfl))) (Hook.val (kHook K11.A.heap_1 [2,3,15,22,23,24,25,28,35,36,37,40,47,48,49,52,59,60,61,64,71,72,73,76,83,84,85,88,90,91,93,94,95,97,98,100,101,102,105,106,114,116,117,119,120,121,122,123,124,125,128,130,131,133,134,135,138,139,140,142,143,145,146,147,149,150,152,153,154,157,158,159,161,162,164,165,166,168,169,171,172,173,176,177,178,180,181,183,184,185,188,189,190,192,193,195,196,197,199,200,202,203,204,206,207,209,210,211,213,214,216,217,218,221,222,223,225,226,228,229,230,233,234,235,237,238,240,241,242,244,245,247,248,249,252,253,254,256,257,259,260,261,263,264,266,267,268,271,272,273,276,277,278,280,281,283,284,285,288,289,290,292,293,295,296,297,299,300,302,303,304,306,307,309,310] (fun _=>by kernel_rfl))) 20000:=by
 intro w
 kernel_rfl
end
def ae:=@PySem.wpAny_bind
def af:=@congrArg
def ag:=@Eq.trans
def ah:=@List.getElem?_eq_getElem
def ai:=@PySem.Heap.get?_push_of_some
def ar:=@List.length_append
def av:=@List.getElem?_eq_some_iff
def aw:=@PySem.wpAny_pure
def ax:=@List.length_map
def ay:=@Nat.le_refl
def aA:=@List.size_toArray
def aB:=@List.mem_singleton
def aC:=@if_pos
def aD:=@List.mem_cons
def aF:=@List.length_cons
def aG:=@List.length_singleton
def aH:=@List.getElem?_append_right
def aI:=@PySem.Heap.lt_size
def aJ:=@List.mem_append_right
def aK:=@PySem.Heap.get?_push_size
def aL:=@List.mem_cons_of_mem
def aM:=@Bool.false_ne_true
def aN:=@Option.map_eq_some_iff
def aO:=@Nat.lt_of_lt_of_le
def aP:=@List.getElem?_append_left
def aQ:=@if_neg
def aR:=@List.mem_cons_self
def aS:=@List.replicate_succ
def aT:=@Array.length_toList
def aU:=@Nat.zero_le
def aV:=@List.length_take
def aW:=@List.length_drop
def aX:=@Nat.ne_of_lt
def aY:=@PySem.wpAny_mono
def aZ:=@Bool.and_eq_true
def b9:=@List.append_nil
def bb:=@PySem.W.mg_none_of
def bg:=@List.not_mem_nil
def bp:=@List.map_cons
def bq:=@PySem.W.mg_of
def br:=@decide_eq_false
def bA:=@List.mem_append
def bB:=@List.map_append
def bC:=@List.length_nil
def bD:=@List.mem_of_getElem?
def bE:=@List.all_eq_true
def bF:=@List.length_range
def bG:=@Nat.le_trans
def bH:=@Option.some.inj
def bI:=@PySem.PassesOwn.never
def bJ:=@List.cons_append
def bK:=@PyProof.Rows.slot_tuple_getitem
def bL:=@Bool.or_eq_true
def bM:=@beq_eq_false_iff_ne
def bN:=@PySem.W.kia_one
def bO:=@Array.getElem?_eq_getElem
def bP:=@List.take_of_length_le
def bQ:=@List.drop_eq_nil_of_le
def bR:=@Nat.lt_irrefl
def bS:=@Bool.or_false
def bT:=@Bool.false_eq_true
def bU:=@PyProof.Rows.callWith_type1
def bV:=@PySem.mem_of_lookup
def bW:=@PySem.wpAny_holding
def bX:=@List.getElem?_map
def bY:=@PySem.wpAny_newObj_type
def bZ:=@List.nodup_append
def c6:=@List.getElem?_of_mem
def c8:=@List.mem_map
def c9:=@List.map_replicate
def cb:=@List.getElem?_set_self
def cf:=@List.pairwise_iff_getElem
def cm:=@PySem.wpAny_call_entry
def cy:=@PySem.F.slot_list_append
def cA:=@List.filterMap_cons
def cC:=@PySem.wpAny_callSpecial?_slot
def cD:=@PySem.F.slot_int_rmul
def cG:=@Nat.add_assoc
def cH:=@List.mem_append_left
def cI:=@List.getElem?_set_ne
def cJ:=@PySem.Heap.get?_update_other
def cK:=@List.flatten_cons
def cL:=@List.append_assoc
def cN:=@PySem.call_meets
def cO:=@PySem.Heap.SameBut.update
def cP:=@decide_eq_true_eq
def cQ:=@PySem.wpAny_setState_of
def cR:=@PySem.wpAny_binaryOp_repeat_ref
def cT:=@List.drop_eq_getElem_cons
def cU:=@Nat.mul_le_mul
def cV:=@List.mem_filter
def cX:=@List.length_replicate
def cY:=@PySem.Heap.get?_update_self
def cZ:=@PySem.wpAny_Call_Name_kw
def da:=@PySem.Around.under_plainId
def de:=@PySem.wpAny_standAt
def dk:=@decide_eq_true
def dA:=@Int.toNat_natCast
def dB:=@Nat.le_of_lt_succ
def dC:=@List.nil_append
def dD:=@PySem.codeAny_builtin
def dE:=@PySem.F.slot_tuple_iterator_next
def dF:=@List.getD_eq_getElem?_getD
def dG:=@List.getElem_mem
def dH:=@List.all_cons
def dI:=@Nat.succ_mul
def dJ:=@Int.emod_lt_of_pos
def dM:=@List.mem_range
def dN:=@PySem.Heap.size_push
def dO:=@Classical.byContradiction
def dP:=@Nat.mul_le_mul_right
def dQ:=@PySem.wpAny_truthy_bool
def dR:=@List.nodup_cons
def dS:=@if_true
def dU:=@not_true_eq_false
def dW:=@PySem.F.type_list_append
def dX:=@PySem.F.slot_list_extend
def dY:=@PySem.F.type_list_extend
def dZ:=@List.map_nil
def e8:=@List.map_map
def e9:=@List.getElem?_replicate
def eh:=@or_false
def ei:=@PySem.wpAny_of_eq
def eA:=@List.map_congr_left
def eB:=@beq_iff_eq
def eC:=@PySem.typeIs_int
def eD:=@Bool.and_false
def eE:=@PySem.codeAny_mono
def eF:=@Nat.succ_pos
def eG:=@PySem.F.called_set
def eH:=@Int.emod_nonneg
def eI:=@PySem.F.args_int_rmul_2
def eJ:=@List.mem_iff_getElem
def eK:=@List.Pairwise.filter
def eL:=@Bool.false_and
def eM:=@Nat.lt_succ_self
def eN:=@if_false
def eO:=@PySem.F.slot_int_index
def eP:=@PySem.F.entry_int_rmul
def eQ:=@PySem.F.slot_tuple_mul
def eR:=@beq_self_eq_true
def eS:=@PySem.wpAny_askSetting
def eU:=@Nat.mul_comm
def eV:=@PySem.wpAny_rule
def eW:=@List.eq_of_mem_replicate
def eX:=@Ne.symm
def eY:=@PySem.wpAny_execs_nil
def eZ:=@List.mem_filterMap
def fg:=@PySem.wpAny_passesOwn
def fh:=@PySem.F.fills_int_mul
def fk:=@PySem.AutoListH.list___mul___list_int_3
def fm:=@List.getElem?_take
def fq:=@PyProof.Rows.F.plain_set_update_loop
def fv:=@PySem.codeAny_of_tree
def fz:=@Int.eq_ofNat_of_zero_le
def fA:=@PySem.wpAny_pyIter_rangeiter
def fB:=@List.pairwise_lt_range
def fD:=@PySem.sizeLine_eq
def fE:=@PySem.wpAny_field
def fF:=@Nat.mod_lt
def fG:=@List.nodup_nil
def fI:=@PySem.isSubtype_type
def fJ:=@PySem.wpAny_typeOf
def fK:=@PySem.exec_Assign_Name_used
def fL:=@List.singleton_append
def fM:=@Array.mem_iff_getElem
def fN:=@PySem.F.slot_range_reversed
def fO:=@PySem.F.args_list_append_2
def fP:=@PySem.codeAny_call_builtin
def fQ:=@Array.getElem_toList
def fR:=@List.mem_of_mem_drop
def fS:=@PySem.F.args_tuple_iterator_next_1
def fT:=@Bool.and_true
def fU:=@PySem.plainId_quiet
def fV:=@Bool.or_assoc
def fW:=@List.foldl_cons
def fX:=@PySem.F.entry_list_append
def fY:=@PySem.F.entry_tuple_iterator_next
def fZ:=@PySem.F.attrBase_ValueError
def g7:=@Nat.not_lt_zero
def g9:=@Int.fdiv_eq_ediv_of_nonneg
def gc:=@PySem.F.excBase_ValueError
def gi:=@Array.getElem?_eq_some_iff
def gu:=@Nat.le_of_lt
def gy:=@PySem.wpAny_pyIter_tuple
def gz:=@PySem.W.callWith_K
def gA:=@Nat.lt_or_gt_of_ne
def gB:=@PySem.F.args_tuple_mul_2
def gC:=@List.pairwise_cons
def gD:=@Nat.zero_add
def gF:=@Nat.add_sub_cancel
def gG:=@List.drop_zero
def gH:=@List.getElem?_zip_eq_some
def gI:=@List.take_zero
def gJ:=@Option.isNone_iff_eq_none
def gK:=@PySem.wpAny_pyIter_list
def gL:=@PySem.W.kitx_dict
def gM:=@Option.isSome_iff_exists
def gN:=@List.take_sublist
def gO:=@PySem.F.args_tuple_add_2
def gP:=@PySem.list_append
def gQ:=@PySem.F.entry_tuple_mul
def gR:=@Option.some.injEq
def gS:=@Array.getElem_mem
def gT:=@PySem.F.entry_tuple_add
def gU:=@List.any_cons
def gV:=@List.getElem?_cons_zero
def gW:=@List.length_eq_zero_iff
def gX:=@PySem.wpAny_attempt
def gY:=@Nat.mul_add
def gZ:=@PySem.wpAny_execs_cons
def hG:=@PySem.noFill_tuple_add
def hJ:=@Option.getD_none
def hR:=@PySem.IsL.update
def hU:=@PySem.Around.in1_units
def hV:=@PySem.F.slot_list_iadd
def hW:=@List.of_mem_zip
def hX:=@PySem.seqIndex_neg
def hZ:=@List.length_set
def i3:=@PySem.wpAny_updateSeq
def i4:=@Nat.succ.inj
def i5:=@Int.natCast_mul
def i6:=@PySem.wpAny_call
def i7:=@Nat.le_succ
def i8:=@PySem.seqIndex_of
def i9:=@Nat.mod_mul
def ia:=@Bool.false_or
def ib:=@Prod.mk.injEq
def ic:=@Bool.true_and
open PySem PySem.Spec
namespace L2
open PyProof.Rows
abbrev Key:=Sum Int Str
def atg:Key->Value->Bool
 |.inl k,v=>Value.isInt k v
 |.inr x,v=>Value.isStrOf x v
def b1d(w:World):Key->Int
 |.inl k=>hashInt k
 |.inr x=>hashStr w x
theorem ql:∀{k:Key} {v:Value},atg k v=true->(∃i t,k=Sum.inl i/\v=Value.int i t)\/(∃x t,k=Sum.inr x/\v=Value.str x t)
 |.inl i,v,h=>by
  obtain ⟨t,e⟩:=Value.isInt_shape (k:=i) (v:=v) h;exact .inl ⟨i,t,rfl,e⟩
 |.inr x,v,h=>by
  obtain ⟨t,e⟩:=Value.isStrOf_shape (x:=x) (v:=v) h;exact .inr ⟨x,t,rfl,e⟩
theorem ath(a b:Int):decide ((Sum.inl a:Key)=Sum.inl b)=(a == b):=by
 by_cases e:a=b
 ·subst e;simp
 ·have h:¬ (Sum.inl a:Key)=Sum.inl b:=λq=>e (Sum.inl.inj q);rw [br h];exact (bM.mpr e).symm
theorem ati(a b:Str):decide ((Sum.inr a:Key)=Sum.inr b)=decide (a=b):=by
 by_cases e:a=b
 ·subst e;simp
 ·have h:¬ (Sum.inr a:Key)=Sum.inr b:=λq=>e (Sum.inr.inj q);rw [br h,br e]
theorem atj(a:Int)(b:Str):decide ((Sum.inl a:Key)=Sum.inr b)=false:=br (λq=>nomatch q)
theorem atk(a:Str)(b:Int):decide ((Sum.inr a:Key)=Sum.inl b)=false:=br (λq=>nomatch q)
def a6v(prog:Program)(w:World):PySem.KeyKind prog w Key where
 is:=atg
 hash:=b1d w
 inj:=λv a b ha hb=>by
  rcases ql ha with ⟨i,t,rfl,rfl⟩|⟨x,t,rfl,rfl⟩
  ·rcases ql hb with ⟨j,u,rfl,e⟩|⟨y,u,rfl,e⟩
   ·injection e with e1 _;rw [e1]
   ·exact nomatch e
  ·rcases ql hb with ⟨j,u,rfl,e⟩|⟨y,u,rfl,e⟩
   ·exact nomatch e
   ·injection e with e1 _;rw [e1]
 byValue:=λk v h=>by
  rcases ql h with ⟨i,t,rfl,rfl⟩|⟨x,t,rfl,rfl⟩<;>rfl
 pyHash:=λhv h=>by
  rcases ql hv with ⟨i,t,rfl,rfl⟩|⟨x,t,rfl,rfl⟩
  ·exact wpAny_pyHash_int h
  ·exact wpAny_pyHash_str h
 eqBool:=λhu hv h=>by
  rcases ql hu with ⟨i,t,rfl,rfl⟩|⟨x,t,rfl,rfl⟩
  ·rcases ql hv with ⟨j,u,rfl,rfl⟩|⟨y,u,rfl,rfl⟩
   ·rw [ath] at h;exact wpAny_eqBool_int h
   ·rw [atj] at h;exact SeqAt.EqAt.int_str i t y u _ _ _ _ h
  ·rcases ql hv with ⟨j,u,rfl,rfl⟩|⟨y,u,rfl,rfl⟩
   ·rw [atk] at h;exact SeqAt.EqAt.str_int x t j u _ _ _ _ h
   ·rw [ati] at h;exact wpAny_eqBool_str h
 «strs»:=λk x t v h=>by
  rcases ql h with ⟨i,u,rfl,e⟩|⟨y,u,rfl,e⟩
  ·exact nomatch e
  ·injection e with e1 _
   subst e1
   cases v<;>rfl
inductive V where
 |non|bl (b:Bool)|int (i:Int)|str (x:Str)|byt (b:Array UInt8)|flt (b:UInt64)|ref (a:Addr)|ty (n:String)
 deriving DecidableEq
def RelV:V->Value->Prop
 |.non,u=>u=Value.none
 |.bl b,u=>u=Value.bool b
 |.int i,u=>∃t,u=Value.int i t
 |.str x,u=>∃t,u=Value.str x t
 |.byt b,u=>∃t,u=Value.bytes b t
 |.flt b,u=>∃t,u=Value.float b t
 |.ref a,u=>u=Value.ref a
 |.ty n,u=>u=Value.type n
abbrev Vals:List V->List Value->Prop:=Paired RelV
theorem Vals.length(r:Vals xs us):xs.length=us.length:=Paired.length r
theorem Vals.get:∀{xs:List V} {us:List Value} {i:Nat} {x:V},Vals xs us->xs[i]? = some x->∃u,us[i]? = some u/\RelV x u
 |_,_,_,_,.nil,e=>by simp at e
 |_,_,0,_,.cons r _,e=>by simp at e;subst e;exact ⟨_,rfl,r⟩
 |_,_,i+1,x,.cons _ t,e=>by
  obtain ⟨u,h1,h2⟩:=Vals.get (i:=i) (x:=x) t (by simpa using e)
  exact ⟨u,by simpa using h1,h2⟩
theorem Vals.set(r:RelV x u):∀{xs:List V} {us:List Value} (i:Nat),Vals xs us->Vals (xs.set i x) (us.set i u)
 |_,_,_,.nil=>.nil
 |_,_,0,.cons _ t=>.cons r t
 |_,_,i+1,.cons q t=>.cons q (Vals.set r i t)
theorem Vals.append:∀{xs ys:List V} {us ws:List Value},Vals xs us->Vals ys ws->Vals (xs++ys) (us++ws)
 |_,_,_,_,.nil,s=>s
 |_,_,_,_,.cons r t,s=>.cons r (Vals.append t s)
theorem Vals.take:∀{xs:List V} {us:List Value} (n:Nat),Vals xs us->Vals (xs.take n) (us.take n)
 |_,_,0,_=>.nil
 |_,_,_+1,.nil=>.nil
 |_,_,n+1,.cons r t=>.cons r (Vals.take n t)
theorem Vals.drop:∀{xs:List V} {us:List Value} (n:Nat),Vals xs us->Vals (xs.drop n) (us.drop n)
 |_,_,0,r=>r
 |_,_,_+1,.nil=>.nil
 |_,_,n+1,.cons _ t=>Vals.drop n t
def RelO:Option V->Option Value->Prop
 |some v,some u=>RelV v u
 |none,none=>True
 |_,_=>False
def KV{κ:Type}:List (κ×V)->List (κ×Value)->Prop:=Paired λ(p:κ×V) (q:κ×Value)=>p.1=q.1/\RelV p.2 q.2
def kV:Key->V
 |.inl i=>.int i
 |.inr x=>.str x
inductive HO where
 |lst (xs:List V)
 |tup (xs:List V)
 |dK (kvs:List (Key×V))|dT (kvs:List (List Key×V))
 |set (S:Int->Bool) (n:Nat)
 |ins (C dx:Addr) (fs:List (Str×V))
 |own (x:Addr)
 |xd (fs:List (Str×V))
 |met (f x:Addr)
 |rng (lo hi:Int)
 |frz (o:Obj) (u:HO)
 |tbl (ps:Array Value)
 |ext (φ:Heap->Prop)
abbrev Hp:=Addr->Option HO
def upd(H:Hp)(a:Addr)(o:HO):Hp:=λb=>if b=a then some o else H b
theorem ou:upd H a o a=some o:=by unfold upd;rw [aC rfl]
theorem jh(h:b≠a):upd H a o b=H b:=by unfold upd;rw [aQ h]
theorem jd{H:Hp}{a b:Addr}{o:HO}(h:H a=some o)(h':H b=none):a≠b:=by
 intro e;subst e;rw [h] at h';cases h'
section
variable(P:Program)(w:World)
def ObjOk(H:Hp)(h:Heap)(a:Addr):HO->Prop
 |.lst xs=>xs.length<=sizeLine/\∃(its:List Value) (n:Nat),Vals xs its/\h.get? a=some {cls:=.type "list",data:=.seq its.toArray n}
 |.tup xs=>xs.length<=sizeLine/\∃its:List Value,Vals xs its/\IsTup h a its.toArray
 |.dK kvs=>kvs.length<=sizeLine/\(a == sysModules)=false/\∃vs,KV kvs vs/\h.DictOf (a6v P w) a vs
 | .dT kvs=>kvs.length<=sizeLine/\(a == sysModules)=false/\∃xs:List (List Key×Addr×Value),
   Paired (λ(p:List Key×V) (q:List Key×Addr×Value)=>p.1=q.1/\H q.2.1=some (.tup (p.1.map kV))/\RelV p.2 q.2.2) kvs xs /\
   ∃o es ep,h.get? a=some o/\o.ExactDict/\o.data=.dict es ep/\es.toList=xs.map (entryOfKey (tupleKind (a6v P w)))/\(xs.map (·.1)).Nodup
 |.set S n=>h.SetOf (intKind P w) a S n
 | .ins C dx fs=>H dx=some (.own a)/\fs.length<=1000/\dx≠a/\h.get? a=some (PySem.W.instObj C dx) /\
   ∃mA,h.Ns1 dx mA/\(∀f,RelO (fs.lookup f) (mA f))/\PySem.Within mA (fs.map (·.1))
 |.own _=>∃o,h.get? a=some o
 |.xd fs=>∃mA,h.Ns1 a mA/\∀f,RelO (fs.lookup f) (mA f)
 |.rng lo hi=>∃t u v,h.get? a=some {cls:=.type "range",data:=.fields #[.int lo t,.int hi u,.int 1 v]}
 |.frz o u=>h.get? a=some o/\ObjOk H h a u
 |.tbl ps=>h.get? a=some {cls:=.none,data:=.fields ps}
 |.met f x=>h.get? a=some (PySem.W.methodObj (.ref f) (.ref x))
 |.ext φ=>φ h/\(∃o,h.get? a=some o)/\∀h1 h2:Heap,φ h1->(∀o,h1.get? a=some o->h2.get? a=some o)->φ h2
def HOk(H:Hp)(h:Heap):Prop:=∀a o,H a=some o->ObjOk P w H h a o
end
section
variable{P:Program}{w:World}{H H':Hp}{h h':Heap}{a:Addr}{o:HO}
theorem ObjOk.lt(x:ObjOk P w H h a o):a<h.objs.size:=by
 cases o with
 |lst xs=>obtain ⟨_,_,_,_,e⟩:=x;exact aI e
 |tup xs=>obtain ⟨_,_,_,p⟩:=x;exact p.lt
 |dK kvs=>obtain ⟨_,_,_,_,o,_,_,e,_⟩:=x;exact aI e
 |dT kvs=>obtain ⟨_,_,_,_,o,_,_,e,_⟩:=x;exact aI e
 |set S n=>obtain ⟨o,_,_,_,e,_⟩:=x;exact aI e
 |ins C dx fs=>obtain ⟨_,_,_,e,_⟩:=x;exact aI e
 |own y=>obtain ⟨_,e⟩:=x;exact aI e
 |xd fs=>obtain ⟨_,⟨_,_,_,e,_⟩,_⟩:=x;exact aI e
 |rng lo hi=>obtain ⟨_,_,_,e⟩:=x;exact aI e
 |frz ob u=>obtain ⟨e,_⟩:=x;exact aI e
 |tbl ps=>exact aI (show h.get? a=some _ from x)
 |met f y=>exact aI (show h.get? a=some _ from x)
 |ext φ=>obtain ⟨_,⟨_,e⟩,_⟩:=x;exact aI e
theorem Paired.mapP{α β:Type}{F G:α->β->Prop}:∀{l₁:List α} {l₂:List β},Paired F l₁ l₂->(∀a b,F a b->G a b)->Paired G l₁ l₂
 |_,_,.nil,_=>.nil
 |_,_,.cons r t,f=>.cons (f _ _ r) (Paired.mapP t f)
theorem ObjOk.stay(x:ObjOk P w H h a o)(k:∀b u,(b=a\/H b=some (.own a))->h.get? b=some u->h'.get? b=some u)
  (ho:∀b,H b=some (.own a)->H' b=some (.own a)) (ht:∀b xs,H b=some (.tup xs)->H' b=some (.tup xs)):ObjOk P w H' h' a o:=by
 induction o with
 |lst xs=>obtain ⟨z,its,n,r,e⟩:=x;exact ⟨z,its,n,r,k _ _ (.inl rfl) e⟩
 |tup xs=>obtain ⟨z,its,r,ob,e,c⟩:=x;exact ⟨z,its,r,ob,k _ _ (.inl rfl) e,c⟩
 |dK kvs=>obtain ⟨z,y,vs,r,ob,es,ep,e,c⟩:=x;exact ⟨z,y,vs,r,ob,es,ep,k _ _ (.inl rfl) e,c⟩
 |dT kvs =>
  obtain ⟨z,y,xs,r,ob,es,ep,e,c⟩:=x;exact ⟨z,y,xs,Paired.mapP r λp q z=>⟨z.1,ht _ _ z.2.1,z.2.2⟩,ob,es,ep,k _ _ (.inl rfl) e,c⟩
 |set S n=>obtain ⟨ob,es,ep,t,e,c⟩:=x;exact ⟨ob,es,ep,t,k _ _ (.inl rfl) e,c⟩
 |ins C dx fs =>
  obtain ⟨d,z,ne,e,mA,⟨od,es,ep,e2,c⟩,r⟩:=x;exact ⟨ho _ d,z,ne,k _ _ (.inl rfl) e,mA,⟨od,es,ep,k _ _ (.inr d) e2,c⟩,r⟩
 |own y=>obtain ⟨ob,e⟩:=x;exact ⟨ob,k _ _ (.inl rfl) e⟩
 |xd fs=>obtain ⟨mA,⟨od,es,ep,e,c⟩,r⟩:=x;exact ⟨mA,⟨od,es,ep,k _ _ (.inl rfl) e,c⟩,r⟩
 |rng lo hi=>obtain ⟨t,u,v,e⟩:=x;exact ⟨t,u,v,k _ _ (.inl rfl) e⟩
 |frz ob u ih=>obtain ⟨e,q⟩:=x;exact ⟨k _ _ (.inl rfl) e,ih q⟩
 |tbl ps =>
  have e:h.get? a=some {cls:=.none,data:=.fields ps}:=x;show h'.get? a=some {cls:=.none,data:=.fields ps};exact k a _ (.inl rfl) e
 |met f y =>
  have e:h.get? a=some (PySem.W.methodObj (.ref f) (.ref y)):=x;show h'.get? a=some (PySem.W.methodObj (.ref f) (.ref y));exact k a _ (.inl rfl) e
 |ext φ=>obtain ⟨p,⟨o,e⟩,st⟩:=x;exact ⟨st _ _ p λo q=>k _ _ (.inl rfl) q,⟨o,k _ _ (.inl rfl) e⟩,st⟩
theorem HOk.lt(x:HOk P w H h)(e:H a=some o):a<h.objs.size:=(x a o e).lt
theorem HOk.fresh(x:HOk P w H h)(e:h.objs.size<=a):H a=none:=by
 cases q:H a with
 |none=>rfl
 |some u=>exact absurd (aO (x.lt q) e) (bR _)
theorem HOk.kept(x:HOk P w H h)(k:∀b u,h.get? b=some u->h'.get? b=some u):HOk P w H h':=λa o e =>
 (x a o e).stay (λb u _ q=>k b u q) (λ_ q=>q) λ_ _ q=>q
theorem HOk.laid(x:HOk P w H h)(k:∀b u,h.get? b=some u->h'.get? b=some u)(hp:h.objs.size<=a)(new:ObjOk P w (upd H a o) h' a o):HOk P w (upd H a o) h':=λb u e=>by
 have hn:=x.fresh hp
 by_cases hb:b=a
 ·subst hb;rw [ou] at e;cases e;exact new
 ·rw [jh hb] at e;exact (x b u e).stay (λc v _ q=>k c v q) (λc q=>by rw [jh (jd q hn)];exact q) λc xs q=>by rw [jh (jd q hn)];exact q
end
def Rd(H:Hp)(a:Addr)(u:HO):Prop:=H a=some u\/∃o,H a=some (.frz o u)
theorem Rd.of(h:H a=some u):Rd H a u:=.inl h
theorem Rd.ok(r:Rd H a u)(x:HOk P w H h):ObjOk P w H h a u:=by
 rcases r with r|⟨o,r⟩
 ·exact x a u r
 ·obtain ⟨_,q⟩:=x a _ r;exact q
def Mut:Option HO->Prop
 |some (.lst _)=>True
 |some (.dK _)=>True
 |some (.dT _)=>True
 |some (.set _ _)=>True
 |some (.ins _ _ _)=>True
 |some (.ext _)=>True
 |_=>False
section
variable{P:Program}{w:World}{H:Hp}{h h':Heap}{x e:Addr}{o':HO}
theorem HOk.write(ok:HOk P w H h)(mu:Mut (H x))(he:e=x\/H e=some (.own x))(k:∀b u,b≠e->h.get? b=some u->h'.get? b=some u)(heo:∃u,h'.get? e=some u)
  (new:ObjOk P w (upd H x o') h' x o'):HOk P w (upd H x o') h':=λb u q=>by
 have nown:∀c y,H c=some (.own y)->c≠x:=λc y r z=>by subst z;rw [r] at mu;exact mu
 have ntup:∀c xs,H c=some (.tup xs)->c≠x:=λc xs r z=>by subst z;rw [r] at mu;exact mu
 by_cases hb:b=x
 ·subst hb;rw [ou] at q;cases q;exact new
 ·rw [jh hb] at q
  by_cases hbe:b=e
  ·have q':H b=some (.own x):=by
    rcases he with z|z
    ·exact absurd (hbe.trans z) hb
    ·rw [hbe];exact z
   rw [q] at q';cases q'
   obtain ⟨v,hv⟩:=heo;exact ⟨v,by rw [hbe];exact hv⟩
  ·refine (ok b u q).stay (λc v hc r=>k c v ?_ r) (λc r=>by rw [jh (nown c b r)];exact r) λc xs r=>by rw [jh (ntup c xs r)];exact r
   rcases hc with rfl|hc
   ·exact hbe
   ·rintro rfl
    rcases he with z|z
    ·exact nown c b hc z
    ·rw [hc] at z;cases z;exact hb rfl
end
structure Un (fs ex:List Addr) (H H':Hp) (h h':Heap):Prop where
 keep:∀b o,h.get? b=some o->H b=none->b∉fs->b∉ex->h'.get? b=some o
 slot:∀b o,h.get? b=some o->H b=none->b∈fs->b∉ex->∃sl,h'.get? b=some {o with slots:=sl}
 free:∀b o,h.get? b=some o->H b=none->b∉ex->H' b=none
 there:∀b o,h.get? b=some o->b∉ex->∃o',h'.get? b=some o'
 tups:∀b xs,H b=some (.tup xs)->H' b=some (.tup xs)
 frzs:∀b o u,H b=some (.frz o u)->H' b=some (.frz o u)
 tbls:∀b ps,H b=some (.tbl ps)->∃more,H' b=some (.tbl (ps++more))
section
variable{fs fs' ex ex':List Addr}{H H1 H2:Hp}{h h1 h2 h':Heap}{a x e:Addr}{o:HO}
theorem Un.any(u:Un fs ex H H1 h h1)(q:h.get? b=some ob)(n:H b=none)(hx:b∉ex):∃sl,h1.get? b=some {ob with slots:=sl}:=by
 by_cases hb:b∈fs
 ·exact u.slot b ob q n hb hx
 ·exact ⟨ob.slots,u.keep b ob q n hb hx⟩
theorem Un.kept(k:∀b u,h.get? b=some u->h'.get? b=some u):Un fs ex H H h h' :=
 ⟨λb ob q _ _ _=>k b ob q,λb ob q _ _ _=>⟨ob.slots,k b ob q⟩,λ_ _ _ n _=>n,λb ob q _=>⟨ob,k b ob q⟩,λ_ _ q=>q,λ_ _ _ q=>q,λ_ ps q=>⟨#[],by rw [q];simp⟩⟩
theorem Un.refl:Un fs ex H H h h:=Un.kept λ_ _ q=>q
theorem Un.laid(k:∀b u,h.get? b=some u->h'.get? b=some u)(hp:h.objs.size<=a)(hn:H a=none):Un fs ex H (upd H a o) h h' where
 keep:=λb u q _ _ _=>k b u q
 slot:=λb u q _ _ _=>⟨u.slots,k b u q⟩
 free:=λb u q n _=>by rw [jh (aX (aO (aI q) hp))];exact n
 there:=λb u q _=>⟨u,k b u q⟩
 tups:=λb xs q=>by rw [jh (jd q hn)];exact q
 frzs:=λb u xs q=>by rw [jh (jd q hn)];exact q
 tbls:=λb ps q=>⟨#[],by rw [jh (jd q hn),q];simp⟩
theorem Un.write(mu:Mut (H x))(he:e=x\/H e=some (.own x))(k:∀b u,b≠e->h.get? b=some u->h'.get? b=some u)(heo:∃u,h'.get? e=some u):Un fs ex H (upd H x o) h h':=by
 have hx:∀b,H b=none->b≠x:=λb n z=>by subst z;rw [n] at mu;exact mu
 have hb:∀b,H b=none->b≠e:=λb n z=>by
  subst z
  rcases he with r|r
  ·exact hx b n r
  ·rw [n] at r;cases r
 have hm:∀b u,H b=some u->¬ Mut (some u)->b≠x:=λb u q nm z=>by subst z;rw [q] at mu;exact nm mu
 refine ⟨λb u q n _ _=>k b u (hb b n) q,λb u q n _ _=>⟨u.slots,k b u (hb b n) q⟩,λb u q n _=>by rw [jh (hx b n)];exact n,λb u q _=>?_,
  λb xs q=>by rw [jh (hm b _ q λz=>z)];exact q,λb u xs q=>by rw [jh (hm b _ q λz=>z)];exact q,λb ps q=>⟨#[],by rw [jh (hm b _ q λz=>z),q];simp⟩⟩
 by_cases hbe:b=e
 ·subst hbe;exact heo
 ·exact ⟨u,k b u hbe q⟩
end
def trk(h:Heap)(H:Hp):List Addr:=(List.range h.objs.size).filter λa=>(H a).isSome
def akx(h:Heap)(H:Hp):Heap:=PySem.W.hideAll h (trk h H)
theorem ah2(h:Heap)(H:Hp):(akx h H).objs.size=h.objs.size:=PySem.W.hideAll_size _ _
theorem aky{h:Heap}(e:h.get? b=some o)(n:H b=none):(akx h H).get? b=some o :=
 PySem.W.hideAll_get _ e λhm=>by
  have q:(H b).isSome=true:=(cV.mp hm).2;rw [n] at q;simp at q
theorem apn(e:(akx h H).get? b=some o):h.get? b=some o/\H b=none:=by
 have e':h.get? b=some o:=PySem.W.of_hideAll (trk h H) e;refine ⟨e',?_⟩
 cases q:H b with
 |none=>rfl
 |some x =>
  have hm:b∈trk h H:=cV.mpr ⟨dM.mpr (aI e'),by simp [q]⟩
  have z:(akx h H).get? b=none:=PySem.W.hideAll_none (trk h H) hm;rw [z] at e;cases e
def apo(g h:Heap)(L:Addr):List (Addr×Obj):=(List.range h.objs.size).filterMap λa=>if a=L\/(g.get? a).isSome=true then none else (h.get? a).map λo=>(a,o)
def rest(g h:Heap)(L d:Addr):List (Addr×Obj):=(apo g h L).filter λp=>decide (p.1≠d)
structure Mod (K:PySem.W.Frag) (mg:Str->Option Value) (base:Heap):Prop where
 kin:K.In base
 glob:base.Ns mainGlobals mg
 blt:∃mb,base.Ns builtinsNs mb/\∀x:Str,x ≠ "__name__"->mb x=bootBuiltins x
 nolimit:base.NoLimit
structure Cx where
 prog:Program
 w:World
 K:PySem.W.Frag
 mg:Str->Option Value
 base:Heap
 A:Around
 N:List Str
 s₀:Shared
 H₀:Hp
 env:Env
 outer:List Env
 stack:List Env
 ex:List Addr
 fn:Str->Bool
 calm:Bool
 pn:List (Addr×Obj)
 xe:Value->Shared->Prop
def frs(l:List Env):List Addr:=l.filterMap (·.frame)
abbrev Cx.fs(X:Cx):List Addr:=frs X.outer
def Vis(sc:Scope)(x:Str):Prop:=sc.names.lookup x=some .local\/sc.names.lookup x=some .cell\/sc.names.lookup x=some .free
def Loc(sc:Scope)(x:Str):Prop:=sc.names.lookup x=some .local\/sc.names.lookup x=some .cell
def Look(env:Env)(h:Heap)(m:Str->Option Value)(x:Str)(u:Value):Prop :=
 (env.kindOf x=some .local/\m x=some u)\/((env.kindOf x=some .cell\/env.kindOf x=some .free)/\∃c,env.cells.lookup x=some c/\h.IsCell c (some u))
structure Cx.Ok (X:Cx):Prop where
 mod:Mod X.K X.mg X.base
 kind:X.env.scope.kind=.function
 glob:X.env.globals=mainGlobals
 blt:X.env.builtins=builtinsNs
 above:X.s₀.heap.objs.size<=X.env.locals
 inj:∀x y c,X.env.cells.lookup x=some c->X.env.cells.lookup y=some c->x=y
 has:∀x,(X.env.kindOf x=some .cell\/X.env.kindOf x=some .free)->∃c,X.env.cells.lookup x=some c
 cab:∀x c,X.fn x=true->X.env.cells.lookup x=some c->X.s₀.heap.objs.size<=c
 hd:X.calm=true->X.A.handled=none
 frames:X.A.frames=some X.stack
 stk:X.stack=X.outer\/(X.stack=X.env::X.outer/\X.env.frame=some X.env.locals)
 exf:∀b∈X.ex,b≠X.env.locals/\∀x c,X.env.cells.lookup x=some c->c≠b
 bs:∀b o,X.base.get? b=some o->X.s₀.heap.get? b=some o/\X.H₀ b=none
 bsz:X.base.objs.size<=X.s₀.heap.objs.size
 noex:∀b o,X.base.get? b=some o->b∉X.ex
 exfs:∀b∈X.ex,b∉X.fs
 funs:X.s₀.heap.FunFrames X.base X.outer
 frf:∀b∈X.fs,X.H₀ b=none
structure Inv (X:Cx) (pins:List (Addr×Obj)) (σ:List (Option V)) (H:Hp) (s:Shared):Prop where
 ok:X.Ok
 os:s.os=X.s₀.os
 bare:AllBare s.gens
 base:Un X.fs X.ex X.H₀ H X.s₀.heap s.heap
 loc:∃m,s.heap.Ns X.env.locals m/\∀(i:Nat) (x:Str) (v:V),X.N[i]? = some x->σ[i]? = some (some v)->Vis X.env.scope x->∃u,RelV v u/\Look X.env s.heap m x u
 cell:∀x c,X.env.cells.lookup x=some c->∃v,s.heap.IsCell c v
 free:H X.env.locals=none
 freeC:∀x c,X.env.cells.lookup x=some c->H c=none
 pin:∀p∈X.pn++pins,s.heap.get? p.1=some p.2/\H p.1=none/\p.1≠X.env.locals/\p.1∉X.fs/\∀v,p.2.data≠.cell v
 hok:HOk X.prog X.w H s.heap
 len:σ.length=X.N.length
section
variable{X:Cx}{pins:List (Addr×Obj)}{σ:List (Option V)}{H H':Hp}{s:Shared}{h':Heap}
theorem Cx.Ok.nofr(ok:X.Ok)(e:X.base.get? b=some o):b∉X.fs:=λhb=>by
 have:=(ok.funs.mem hb).1
 rw [e] at this;cases this
theorem Inv.bs(I:Inv X pins σ H s):∀b o,X.base.get? b=some o->s.heap.get? b=some o/\H b=none:=λb o e =>
 ⟨I.base.keep b o (I.ok.bs b o e).1 (I.ok.bs b o e).2 (I.ok.nofr e) (I.ok.noex b o e),I.base.free b o (I.ok.bs b o e).1 (I.ok.bs b o e).2 (I.ok.noex b o e)⟩
theorem Inv.bk(I:Inv X pins σ H s):∀b o,X.base.get? b=some o->s.heap.get? b=some o:=λb o e=>(I.bs b o e).1
theorem Inv.mod(I:Inv X pins σ H s):Mod X.K X.mg X.base:=I.ok.mod
theorem Inv.kIn(I:Inv X pins σ H s):X.K.In s.heap:=I.ok.mod.kin.keeps I.bk
theorem Inv.fr(I:Inv X pins σ H s):∃m,Fr X.base X.env.locals s.heap m :=
 let ⟨m,hn,_⟩:=I.loc
 ⟨m,hn,I.bk,bG I.ok.bsz I.ok.above⟩
theorem Inv.lt(I:Inv X pins σ H s):X.env.locals<s.heap.objs.size:=let ⟨_,hn,_⟩:=I.loc;hn.lt
theorem Inv.sz(I:Inv X pins σ H s):X.s₀.heap.objs.size<=s.heap.objs.size:=bG I.ok.above (gu I.lt)
theorem Inv.nofs(I:Inv X pins σ H s)(h:s.heap.objs.size<=a):a∉X.fs:=λhb=>by
 obtain ⟨_,o,ho,_⟩:=I.ok.funs.mem hb;exact absurd (aO (aI ho) (bG I.sz h)) (bR _)
theorem Inv.cne(I:Inv X pins σ H s):∀x c,X.env.cells.lookup x=some c->c≠X.env.locals:=λx c e z=>by
 obtain ⟨v,o,ho,hd⟩:=I.cell x c e;obtain ⟨m,⟨o',es,ep,ho',hd',_⟩,_⟩:=I.loc;rw [z,ho'] at ho;cases ho;rw [hd'] at hd;cases hd
theorem Inv.funs(I:Inv X pins σ H s):s.heap.FunFrames X.base X.outer:=by
 have all:∀(l:List Env),(∀b∈frs l,b∈X.fs)->X.s₀.heap.FunFrames X.base l->s.heap.FunFrames X.base l:=by
  intro l
  induction l with
  |nil=>intro _ _;trivial
  |cons env r ih =>
   intro hs hl
   obtain ⟨hk,⟨L,o,hf,hn,ho,hd⟩,hr⟩:=hl;have hL:L∈X.fs:=hs L (by unfold frs;rw [cA,hf];exact aR)
   obtain ⟨sl,e⟩:=I.base.slot L o ho (I.ok.frf L hL) hL λz=>I.ok.exfs L z hL;exact ⟨hk,⟨L,_,hf,hn,e,hd⟩,ih (λb hb=>hs b (by unfold frs;rw [cA,hf];exact aL _ hb)) hr⟩
 exact all X.outer (λ_ hb=>hb) I.ok.funs
theorem Inv.stack(I:Inv X pins σ H s):s.heap.FunFrames X.base X.stack:=by
 rcases I.ok.stk with e|⟨e,hf⟩
 ·rw [e];exact I.funs
 ·rw [e];obtain ⟨m,hn,_⟩:=I.loc;refine .cons (by rw [I.ok.kind];decide) hf hn ?_ I.funs
  exact Heap.get?_none_of_le (bG I.ok.bsz I.ok.above)
theorem Inv.stkSub(I:Inv X pins σ H s):∀b∈frs X.stack,b∈X.env.locals::X.fs:=λb hb=>by
 rcases I.ok.stk with e|⟨e,hf⟩
 ·rw [e] at hb;exact aL _ hb
 ·rw [e] at hb;unfold frs at hb;rw [cA,hf] at hb;exact hb
theorem Inv.stkFree(I:Inv X pins σ H s):∀b∈frs X.stack,H b=none:=λb hb=>by
 rcases aD.mp (I.stkSub b hb) with e|hb
 ·rw [e];exact I.free
 ·obtain ⟨_,o,ho,_⟩:=I.ok.funs.mem hb;exact I.base.free b o ho (I.ok.frf b hb) λz=>I.ok.exfs b z hb
theorem Inv.step{g':Array GenState}{t':Nat}{d':Drawn}{ch:List Addr}(I:Inv X pins σ H s)
  (hch:∀b∈ch,(b∈X.ex\/X.s₀.heap.objs.size<=b)/\b≠X.env.locals/\(∀x c,X.env.cells.lookup x=some c->c≠b)/\∀p∈X.pn++pins,p.1≠b)
  (keep:∀b o,b≠X.env.locals->b∉X.fs->b∉ch->s.heap.get? b=some o->H b=none->h'.get? b=some o)
  (slot:∀b o,b≠X.env.locals->b∈X.fs->b∉ch->s.heap.get? b=some o->H b=none->∃sl,h'.get? b=some {o with slots:=sl}) (free:∀b o,b∉ch->s.heap.get? b=some o->H b=none->H' b=none)
  (there:∀b o,b∉ch->s.heap.get? b=some o->∃o',h'.get? b=some o')
  (tups:∀b xs,H b=some (.tup xs)->H' b=some (.tup xs)) (frzs:∀b o u,H b=some (.frz o u)->H' b=some (.frz o u)) (tbls:∀b ps,H b=some (.tbl ps)->∃more,H' b=some (.tbl (ps++more)))
  (ns:∀m,s.heap.Ns X.env.locals m->h'.Ns X.env.locals m) (hok:HOk X.prog X.w H' h') (hg:AllBare g') :
  Inv X pins σ H' {s with heap:=h',gens:=g',drawn:=d',toks:=t' }:=by
 have neL:∀b o,X.s₀.heap.get? b=some o->b≠X.env.locals:=λb o e=>aX (aO (aI e) I.ok.above);have neC:∀b o,X.s₀.heap.get? b=some o->b∉X.ex->b∉ch:=λb o e hx hb=>by
  rcases (hch b hb).1 with z|z
  ·exact hx z
  ·exact absurd (aO (aI e) z) (bR _)
 have cellK:∀x c,X.env.cells.lookup x=some c->∀v,s.heap.IsCell c v->h'.IsCell c v:=λx c e v ⟨o,ho,hd⟩=>by
  have nch:c∉ch:=λz=>(hch c z).2.2.1 x c e rfl
  by_cases hc:c∈X.fs
  ·obtain ⟨sl,q⟩:=slot c o (I.cne x c e) hc nch ho (I.freeC x c e);exact ⟨_,q,hd⟩
  ·exact ⟨o,keep c o (I.cne x c e) hc nch ho (I.freeC x c e),hd⟩
 refine ⟨I.ok,I.os,hg,⟨λb o e n hb hx=>?_,λb o e n hb hx=>?_,λb o e n hx=>?_,λb o e hx=>?_,λb xs e=>tups b xs (I.base.tups b xs e),λb o xs e=>frzs b o xs (I.base.frzs b o xs e),λb ps e=>?_⟩,?_,λx c e=>?_,?_,λx c e=>?_,λp hp=>?_,hok,I.len⟩
 ·exact keep b o (neL b o e) hb (neC b o e hx) (I.base.keep b o e n hb hx) (I.base.free b o e n hx)
 ·obtain ⟨sl,e1⟩:=I.base.slot b o e n hb hx;obtain ⟨sl',e2⟩:=slot b _ (neL b o e) hb (neC b o e hx) e1 (I.base.free b o e n hx);exact ⟨sl',e2⟩
 ·obtain ⟨o',e1⟩:=I.base.there b o e hx;exact free b o' (neC b o e hx) e1 (I.base.free b o e n hx)
 ·obtain ⟨o',e1⟩:=I.base.there b o e hx;exact there b o' (neC b o e hx) e1
 ·obtain ⟨m1,e1⟩:=I.base.tbls b ps e;obtain ⟨m2,e2⟩:=tbls b _ e1;exact ⟨m1++m2,by rw [e2,Array.append_assoc]⟩
 ·obtain ⟨m,hn,hl⟩:=I.loc;refine ⟨m,ns m hn,λi x v e1 e2 e3=>?_⟩;obtain ⟨u,r,l⟩:=hl i x v e1 e2 e3;refine ⟨u,r,?_⟩
  rcases l with l|⟨k,c,e,z⟩
  ·exact .inl l
  ·exact .inr ⟨k,c,e,cellK x c e _ z⟩
 ·obtain ⟨v,z⟩:=I.cell x c e;exact ⟨v,cellK x c e v z⟩
 ·obtain ⟨m,⟨o,_,_,ho,_⟩,_⟩:=I.loc;exact free _ o (λz=>(hch _ z).2.1 rfl) ho I.free
 ·obtain ⟨v,o,ho,hd⟩:=I.cell x c e;exact free c o (λz=>(hch c z).2.2.1 x c e rfl) ho (I.freeC x c e)
 ·obtain ⟨e,n,ne,nf,d⟩:=I.pin p hp;have nch:p.1∉ch:=λz=>(hch p.1 z).2.2.2 p hp rfl;exact ⟨keep p.1 p.2 ne nf nch e n,free p.1 p.2 nch e n,ne,nf,d⟩
theorem Inv.un{t':Nat}(I:Inv X pins σ H s)(u:Un X.fs [] H H' s.heap h')(hok:HOk X.prog X.w H' h'):Inv X pins σ H' {s with heap:=h',toks:=t' }:=by
 obtain ⟨m,⟨o,es,ep,ho,r⟩,_⟩:=id I.loc;obtain ⟨sl,hL⟩:=u.any ho I.free (by simp)
 exact I.step (g':=s.gens) (d':=s.drawn) (ch:=[]) (λ_ z=>nomatch z) (λb o _ hb _ e n=>u.keep b o e n hb (by simp)) (λb o _ hb _ e n=>u.slot b o e n hb (by simp)) (λb o _ e n=>u.free b o e n (by simp)) (λb o _ e=>u.there b o e (by simp)) u.tups u.frzs u.tbls (λm' hm=>by
  obtain ⟨o',es',ep',ho',r'⟩:=hm;rw [ho] at ho';cases ho'
  exact ⟨_,es',ep',hL,r'⟩) hok I.bare
theorem Inv.call{g':Array GenState}{t':Nat}{d':Drawn}{ch:List Addr}(I:Inv X pins σ H s)(u:Un (frs X.stack) ch H H' s.heap h')(hok:HOk X.prog X.w H' h')(hg:AllBare g')
  (hch:∀b∈ch,(b∈X.ex\/X.s₀.heap.objs.size<=b)/\b≠X.env.locals/\(∀x c,X.env.cells.lookup x=some c->c≠b)/\∀p∈X.pn++pins,p.1≠b) :
  Inv X pins σ H' {s with heap:=h',gens:=g',drawn:=d',toks:=t' }:=by
 obtain ⟨m,⟨o,es,ep,ho,r⟩,_⟩:=id I.loc;obtain ⟨sl,hL⟩:=u.any ho I.free λz=>(hch _ z).2.1 rfl;exact I.step (ch:=ch) hch (λb o hL hb hc e n=>u.keep b o e n (λz=>(aD.mp (I.stkSub b z)).elim hL hb) hc) (λb o _ _ hc e n=>u.any e n hc) (λb o hc e n=>u.free b o e n hc) (λb o hc e=>u.there b o e hc) u.tups u.frzs u.tbls (λm' hm=>by
  obtain ⟨o',es',ep',ho',r'⟩:=hm;rw [ho] at ho';cases ho'
  exact ⟨_,es',ep',hL,r'⟩) hok hg
theorem Inv.turned{t':Nat}{it:Addr}(I:Inv X pins σ H s)(k:∀b o,b≠it->s.heap.get? b=some o->h'.get? b=some o)(hn:H it=none)(hL:it≠X.env.locals)
  (h1:it∈X.ex\/X.s₀.heap.objs.size<=it) (h2:∀x c,X.env.cells.lookup x=some c->c≠it) (h3:∀p∈X.pn++pins,p.1≠it):Inv X pins σ H {s with heap:=h',toks:=t' }:=by
 have nit:∀b u,H b=some u->b≠it:=λb u e z=>by rw [z,hn] at e;cases e
 refine I.step (g':=s.gens) (d':=s.drawn) (ch:=[it]) (λb hb=>?_) (λb o _ _ hc e _=>k b o (λz=>hc (by simp [z])) e) (λb o _ _ hc e _=>⟨o.slots,k b o (λz=>hc (by simp [z])) e⟩) (λ_ _ _ _ n=>n)
  (λb o hc e=>⟨o,k b o (λz=>hc (by simp [z])) e⟩) (λ_ _ e=>e) (λ_ _ _ e=>e) (λb ps e=>⟨#[],by rw [e];simp⟩) (λm hm=>?_) (λb u e=>?_) I.bare
 ·have e:b=it:=by simpa using hb
  subst e;exact ⟨h1,hL,h2,h3⟩
 ·obtain ⟨o,es,ep,ho,r⟩:=hm;exact ⟨o,es,ep,k _ o (eX hL) ho,r⟩
 ·refine (I.hok b u e).stay (λc v hc q=>k c v ?_ q) (λ_ q=>q) λ_ _ q=>q
  rcases hc with z|z
  ·rw [z];exact nit b u e
  ·exact nit c _ z
theorem Inv.tok(I:Inv X pins σ H s)(t:Nat):Inv X pins σ H {s with toks:=t}:=I.un (h':=s.heap) (t':=t) Un.refl I.hok
theorem Inv.kept(I:Inv X pins σ H s)(k:∀b u,s.heap.get? b=some u->h'.get? b=some u):Inv X pins σ H {s with heap:=h',toks:=t' }:=I.un (Un.kept k) (I.hok.kept k)
theorem Inv.laid(I:Inv X pins σ H s)(k:∀b u,s.heap.get? b=some u->h'.get? b=some u)(hp:s.heap.objs.size<=a)(new:ObjOk X.prog X.w (upd H a o) h' a o) :
  Inv X pins σ (upd H a o) {s with heap:=h',toks:=t' }:=I.un (Un.laid k hp (I.hok.fresh hp)) (I.hok.laid k hp new)
theorem Inv.write(I:Inv X pins σ H s)(mu:Mut (H x))(he:e=x\/H e=some (.own x))(k:∀b u,b≠e->s.heap.get? b=some u->h'.get? b=some u)(heo:∃u,h'.get? e=some u)
  (new:ObjOk X.prog X.w (upd H x o) h' x o):Inv X pins σ (upd H x o) {s with heap:=h',toks:=t' }:=I.un (Un.write mu he k heo) (I.hok.write mu he k heo new)
theorem Inv.weak{σ':List (Option V)}(I:Inv X pins σ H s)(hl:σ'.length=σ.length)(w:∀(i:Nat) v,σ'[i]? = some (some v)->σ[i]? = some (some v)):Inv X pins σ' H s :=
 ⟨I.ok,I.os,I.bare,I.base,let ⟨m,hn,hl'⟩:=I.loc; ⟨m,hn,λi x v e1 e2 e3=>hl' i x v e1 (w i v e2) e3⟩,I.cell,I.free,I.freeC,I.pin,I.hok,hl.trans I.len⟩
theorem Inv.pins_of(I:Inv X pins σ H s)(h:∀p∈pins',s.heap.get? p.1=some p.2/\H p.1=none/\p.1≠X.env.locals/\p.1∉X.fs/\∀v,p.2.data≠.cell v):Inv X pins' σ H s :=
 ⟨I.ok,I.os,I.bare,I.base,I.loc,I.cell,I.free,I.freeC,λp hp=>(bA.mp hp).elim (λz=>I.pin p (cH _ z)) (h p),I.hok,I.len⟩
theorem a99{N:List Str}(hN:N.Nodup){i j:Nat}(a:N[i]? = some x)(b:N[j]? = some x):i=j:=by
 obtain ⟨h1,e1⟩:=av.mp a;obtain ⟨h2,e2⟩:=av.mp b;exact (List.getElem_inj hN).mp (e1.trans e2.symm)
theorem aaq{i:Nat}(I:Inv X pins σ H s)(hN:X.N.Nodup)(hi:X.N[i]? = some x)(hx:Loc X.env.scope x)(r:RelV v u)
  (h:∀s',Inv X pins (σ.set i (some v)) H s'->(∃a,Heap.SameBut a s.heap s'.heap/\(a=X.env.locals\/X.env.cells.lookup x=some a))->Q () s') (hf:X.fn x=true\/X.env.scope.names.lookup x=some .local:=by first|exact .inl rfl|exact .inr rfl|assumption):wpAny M A (storeName X.env x u) Q E s:=by
 obtain ⟨m,hn,hl⟩:=id I.loc;have hcls:(X.env.scope.kind == .class || (X.env.scope.kind == .module && X.env.locals != X.env.globals))=false:=by rw [I.ok.kind];rfl
 have hiσ:i<σ.length:=by rw [I.len];exact (av.mp hi).1
 have cne:=I.cne;have tracked:∀{a:Addr} {h':Heap},(∃o,s.heap.get? a=some o/\H a=none)->Heap.SameBut a s.heap h'->HOk X.prog X.w H h':=λ{a h'} ha hs b ob e=>by
  obtain ⟨_,_,hfree⟩:=ha;refine (I.hok b ob e).stay (λc w' hc q=>(hs.2 c ?_).trans q) (λ_ q=>q) λ_ _ q=>q
  rintro rfl
  rcases hc with rfl|hc
  ·rw [hfree] at e;cases e
  ·rw [hfree] at hc;cases hc
 rcases hx with hk|hk
 ·refine wpAny_storeName_local hk hn (λh' hn' hs=>?_) hcls;obtain ⟨oL,_,_,hoL,_⟩:=id hn;refine h _ ⟨I.ok,I.os,I.bare,⟨λb o e n hb hx=>?_,λb o e n hb hx=>?_,I.base.free,λb o e hx=>?_,I.base.tups,I.base.frzs,I.base.tbls⟩,⟨_,hn',λj y v' e1 e2 e3=>?_⟩,λy c e=>?_,I.free,I.freeC,λp hp=>?_,tracked ⟨oL,hoL,I.free⟩ hs,by simpa using I.len⟩ ⟨_,hs,.inl rfl⟩
  ·exact (hs.2 b (aX (aO (aI e) I.ok.above))).trans (I.base.keep b o e n hb hx)
  ·obtain ⟨sl,e1⟩:=I.base.slot b o e n hb hx;exact ⟨sl,(hs.2 b (aX (aO (aI e) I.ok.above))).trans e1⟩
  ·obtain ⟨o',e1⟩:=I.base.there b o e hx;exact ⟨o',(hs.2 b (aX (aO (aI e) I.ok.above))).trans e1⟩
  ·by_cases hj:j=i
   ·subst hj;rw [hi] at e1;cases e1
    rw [cb hiσ] at e2;cases e2
    exact ⟨u,r,.inl ⟨hk,by simp⟩⟩
   ·rw [cI (eX hj)] at e2;obtain ⟨u',r',q⟩:=hl j y v' e1 e2 e3;refine ⟨u',r',?_⟩
    rcases q with ⟨k,e⟩|⟨k,c,e,z⟩
    ·refine .inl ⟨k,?_⟩;have:y≠x:=λe=>hj (a99 hN e1 (e ▸ hi));simp [this,e]
    ·exact .inr ⟨k,c,e,z.sameBut hs (cne y c e)⟩
  ·obtain ⟨w',z⟩:=I.cell y c e;exact ⟨w',z.sameBut hs (cne y c e)⟩
  ·obtain ⟨e,n,ne,nf,d⟩:=I.pin p hp;exact ⟨(hs.2 p.1 ne).trans e,n,ne,nf,d⟩
 ·have hfn:X.fn x=true:=by
   rcases hf with z|z
   ·exact z
   ·rw [z] at hk;cases hk
  obtain ⟨c,hc⟩:=I.ok.has x (.inl hk);obtain ⟨w',z⟩:=I.cell x c hc;refine wpAny_storeName_cell I.ok.kind hk hc z (λh' hc' hs=>?_);obtain ⟨oc,hoc,hocd⟩:=id z;refine h {s with heap:=h' } ⟨I.ok,I.os,I.bare,⟨λb o e n hb hx=>?_,λb o e n hb hx=>?_,I.base.free,λb o e hx=>?_,I.base.tups,I.base.frzs,I.base.tbls⟩,⟨m,hn.sameBut hs (eX (cne x c hc)),λj y v' e1 e2 e3=>?_⟩,λy c' e=>?_,I.free,I.freeC,λp hp=>?_,tracked ⟨oc,hoc,I.freeC x c hc⟩ hs,by simpa using I.len⟩ ⟨c,hs,.inr hc⟩
  ·exact (hs.2 b (aX (aO (aI e) (I.ok.cab x c hfn hc)))).trans (I.base.keep b o e n hb hx)
  ·obtain ⟨sl,e1⟩:=I.base.slot b o e n hb hx;exact ⟨sl,(hs.2 b (aX (aO (aI e) (I.ok.cab x c hfn hc)))).trans e1⟩
  ·obtain ⟨o',e1⟩:=I.base.there b o e hx;exact ⟨o',(hs.2 b (aX (aO (aI e) (I.ok.cab x c hfn hc)))).trans e1⟩
  ·by_cases hj:j=i
   ·subst hj;rw [hi] at e1;cases e1
    rw [cb hiσ] at e2;cases e2
    exact ⟨u,r,.inr ⟨.inl hk,c,hc,hc'⟩⟩
   ·rw [cI (eX hj)] at e2;obtain ⟨u',r',q⟩:=hl j y v' e1 e2 e3;refine ⟨u',r',?_⟩
    rcases q with q|⟨k,c',e,z'⟩
    ·exact .inl q
    ·refine .inr ⟨k,c',e,z'.sameBut hs ?_⟩
     rintro rfl
     exact hj (a99 hN e1 (I.ok.inj _ _ _ e hc ▸ hi))
  ·by_cases hcc:c'=c
   ·subst hcc;exact ⟨_,hc'⟩
   ·obtain ⟨w2,z2⟩:=I.cell y c' e;exact ⟨w2,z2.sameBut hs hcc⟩
  ·obtain ⟨e,n,ne,nf,d⟩:=I.pin p hp;refine ⟨(hs.2 p.1 ?_).trans e,n,ne,nf,d⟩
   intro q
   rw [q,hoc] at e;have q':oc=p.2:=bH e;exact d w' (by rw [<-q'];exact hocd)
theorem a6k(I:Inv X pins σ H s)(hN:X.N.Nodup)(hi:X.N[i]? = some x)(hx:Loc X.env.scope x)(r:RelV v u)
  (h:∀s',Inv X pins (σ.set i (some v)) H s'->Q () s') (hf:X.fn x=true\/X.env.scope.names.lookup x=some .local:=by first|exact .inl rfl|exact .inr rfl|assumption):wpAny M A (storeName X.env x u) Q E s :=
 aaq I hN hi hx r (λs' I' _=>h s' I') hf
theorem Inv.call'{s':Shared}(I:Inv X pins σ H s)(ho:s'.os=s.os)(u:Un (frs X.stack) ch H H' s.heap s'.heap)(hok:HOk X.prog X.w H' s'.heap)(hg:AllBare s'.gens)
  (hch:∀b∈ch,(b∈X.ex\/X.s₀.heap.objs.size<=b)/\b≠X.env.locals/\(∀x c,X.env.cells.lookup x=some c->c≠b)/\∀p∈X.pn++pins,p.1≠b):Inv X pins σ H' s':=by
 obtain ⟨h',g',d',t',o'⟩:=s';have e:o'=s.os:=ho;subst e;exact I.call (g':=g') (t':=t') (d':=d') u hok hg hch
end
abbrev XK:=Value->Option Addr->Hp->Prop
abbrev St:=List (Option V)
abbrev VK:=V->Hp->Prop
abbrev TE:=St->Hp->VK->Prop
abbrev TT:=St->Hp->(Bool->Hp->Prop)->Prop
abbrev TA:=St->Hp->(List V->Hp->Prop)->Prop
structure Ends where
 nx:St->Hp->Prop
 rt:VK
 bk:St->Hp->Prop:=λ_ _=>False
 ct:St->Hp->Prop:=λ_ _=>False
abbrev TS:=Ends->St->Hp->Prop
def EP(X:Cx)(pins:List (Addr×Obj))(σ:St)(Q:VK)(u:Value)(s':Shared):Prop:=∃v H',Inv X pins σ H' s'/\RelV v u/\Q v H'
def TP(X:Cx)(pins:List (Addr×Obj))(σ:St)(Q:Bool->Hp->Prop)(b:Bool)(s':Shared):Prop:=∃H',Inv X pins σ H' s'/\Q b H'
def AP(X:Cx)(pins:List (Addr×Obj))(σ:St)(Q:List V->Hp->Prop)(us:List Value)(s':Shared):Prop:=∃vs H',Inv X pins σ H' s'/\Vals vs us/\Q vs H'
def SP(X:Cx)(pins:List (Addr×Obj))(D:Ends)(f:Flow)(s':Shared):Prop :=
 match f with
 |.next=>∃σ' H',Inv X pins σ' H' s'/\D.nx σ' H'
 |.brk=>∃σ' H',Inv X pins σ' H' s'/\D.bk σ' H'
 |.cont=>∃σ' H',Inv X pins σ' H' s'/\D.ct σ' H'
 |.ret u=>∃v σ' H',Inv X pins σ' H' s'/\RelV v u/\D.rt v H'
def PE(X:Cx)(e:Expr)(t:TE):Prop :=
 ∀(pins:List (Addr×Obj)) (s:Shared) (σ:St) (H:Hp) (Q:VK),Inv X pins σ H s->t σ H Q->wpAny (model X.prog X.w) X.A (eval e X.env) (EP X pins σ Q) X.xe s
def PT(X:Cx)(e:Expr)(t:TT):Prop :=
 ∀(pins:List (Addr×Obj)) (s:Shared) (σ:St) (H:Hp) (Q:Bool->Hp->Prop),Inv X pins σ H s->t σ H Q->wpAny (model X.prog X.w) X.A (isTrue e X.env (eval e X.env)) (TP X pins σ Q) X.xe s
def PW(X:Cx)(e:Expr)(t:TT):Prop :=
 ∀(whole:Sem Value) (pins:List (Addr×Obj)) (s:Shared) (σ:St) (H:Hp) (Q:Bool->Hp->Prop),Inv X pins σ H s->t σ H Q->wpAny (model X.prog X.w) X.A (isTrue e X.env whole) (TP X pins σ Q) X.xe s
theorem PW.pt(h:PW X e t):PT X e t:=h _
def PA(X:Cx)(es:List Expr)(t:TA):Prop :=
 ∀(pos:Pos) (pins:List (Addr×Obj)) (s:Shared) (σ:St) (H:Hp) (Q:List V->Hp->Prop),Inv X pins σ H s->t σ H Q->wpAny (model X.prog X.w) X.A (spliced (backTo pos (starEach es X.env))) (AP X pins σ Q) X.xe s
def PS(X:Cx)(st:Stmt)(t:TS):Prop :=
 ∀(pins:List (Addr×Obj)) (s:Shared) (σ:St) (H:Hp) (D:Ends),Inv X pins σ H s->t D σ H->wpAny (model X.prog X.w) X.A (exec st X.env) (SP X pins D) X.xe s
def PSs(X:Cx)(st:List Stmt)(t:TS):Prop :=
 ∀(pins:List (Addr×Obj)) (s:Shared) (σ:St) (H:Hp) (D:Ends),Inv X pins σ H s->t D σ H->wpAny (model X.prog X.w) X.A (execs st X.env) (SP X pins D) X.xe s
theorem thn{α:Type}{t:Sem α}{Q Q':α->Shared->Prop}{M:Model}{A:Around}{E:Value->Shared->Prop}{s:Shared}(h:wpAny M A t Q E s)(hQ:∀a s,Q a s->Q' a s):wpAny M A t Q' E s:=aY h hQ λ_ _ x=>x
section
variable{X:Cx}
def b1e(i:Nat):TE:=λσ H Q=>∃v,σ[i]? = some (some v)/\Q v H
def tC(v:V):TE:=λ_ H Q=>Q v H
theorem ah3(hN:X.N[i]? = some x)(hv:Vis X.env.scope x)(hd:(x == ("__debug__" : Str))=false:=by decide)(hcd:(x == ("__classdict__" : Str))=false:=by decide):PE X (.Name x pos) (b1e i):=by
 intro pins s σ H Q I h
 obtain ⟨v,e,h⟩:=h;obtain ⟨m,hn,hl⟩:=I.loc;obtain ⟨u,r,l⟩:=hl i x v hN e hv;have fin:EP X pins σ Q u s:=⟨v,H,I,r,h⟩
 rcases l with ⟨hk,hm⟩|⟨hk,c,hc,hcell⟩
 ·exact wpAny_Name (wpAny_loadName_local I.ok.kind hk hn hm fin) hd
 ·rcases hk with hk|hk
  ·exact wpAny_Name (wpAny_loadName_cell I.ok.kind hk hc hcell fin) hd
  ·exact wpAny_Name (wpAny_loadName_free I.ok.kind hk hc hcell fin hcd) hd
theorem atl{i j pos}:PE X (.Constant (.int i) j pos) (tC (.int i)):=λ_ _ _ H _ I h=>wpAny_Constant_int ⟨.int i,H,I.tok _,⟨_,rfl⟩,h⟩
theorem ayi{b j pos}:PE X (.Constant (.bool b) j pos) (tC (.bl b)):=λ_ _ _ H _ I h=>Constant_bool ⟨.bl b,H,I,rfl,h⟩
theorem atm{x j pos}:PE X (.Constant (.str x) j pos) (tC (.str x)):=λ_ _ _ H _ I h=>Calls.Constant_str ⟨.str x,H,I.tok _,⟨_,rfl⟩,h⟩
def Gl(X:Cx)(x:Str):Prop:=X.env.kindOf x=some .globalImplicit
theorem a3j(I:Inv X pins σ H s)(hg:Gl X x)(hm:X.mg x=some u)(h:Q u s)
  (hd:(x == ("__debug__" : Str))=false:=by decide):wpAny (model X.prog X.w) X.A (eval (.Name x pos) X.env) Q E s :=
 Calls.Name_function_global I.ok.kind hg (Calls.loadGlobal_global (by rw [I.ok.glob];exact I.mod.glob.keeps I.bk) hm h) hd
theorem a5u(I:Inv X pins σ H s)(hg:Gl X x)(hm:X.mg x=none)(hv:bootBuiltins x=some u)(h:Q u s)
  (hn:x ≠ "__name__":=by decide) (hd:(x == ("__debug__" : Str))=false:=by decide):wpAny (model X.prog X.w) X.A (eval (.Name x pos) X.env) Q E s:=by
 obtain ⟨mb,h1,h2⟩:=I.mod.blt;exact Calls.Name_function_global I.ok.kind hg (Calls.loadGlobal_builtin (by rw [I.ok.glob];exact I.mod.glob.keeps I.bk) hm (by rw [I.ok.blt];exact h1.keeps I.bk) ((h2 x hn).trans hv) h) hd
theorem a4z(hg:Gl X x)(hm:X.mg x=some u)(r:RelV v u)(hd:(x == ("__debug__" : Str))=false:=by decide):PE X (.Name x pos) (tC v) :=
 λ_ _ _ H _ I h=>a3j I hg hm ⟨v,H,I,r,h⟩ hd
theorem ah4(hg:Gl X x)(hm:X.mg x=none)(hv:bootBuiltins x=some u)(r:RelV v u)(hn:x ≠ "__name__":=by decide)(hd:(x == ("__debug__" : Str))=false:=by decide):PE X (.Name x pos) (tC v) :=
 λ_ _ _ H _ I h=>a5u I hg hm hv ⟨v,H,I,r,h⟩ hn hd
variable{a b:Expr}{ta tb:TE}{pos:Pos}
variable{tA tB':TT}{rest:List Expr}
def b1f(t u:TT):TT:=λσ H Q=>t σ H λc H1=>if c=true then u σ H1 Q else Q false H1
def tOr(t u:TT):TT:=λσ H Q=>t σ H λc H1=>if c=true then Q true H1 else u σ H1 Q
def b1g(t:TT):TT:=λσ H Q=>t σ H λc H1=>Q (!c) H1
theorem apq(ha:PT X a tA):PW X (.BoolOp .And [a] pos) tA:=by
 intro wh pins s σ H Q I h
 refine isTrue_and (thn (ha pins s σ H Q I h) λc s1 e=>?_)
 cases c with
 |true=>exact isTrue_and_nil e
 |false=>exact e
theorem atn(ha:PT X a tA):PW X (.BoolOp .Or [a] pos) tA:=by
 intro wh pins s σ H Q I h
 refine isTrue_or (thn (ha pins s σ H Q I h) λc s1 e=>?_)
 cases c with
 |false=>exact isTrue_or_nil e
 |true=>exact e
theorem ato(ha:PT X a tA)(hb:PW X (.BoolOp .And (b::rest) pos) tB'):PW X (.BoolOp .And (a::b::rest) pos) (b1f tA tB'):=by
 intro wh pins s σ H Q I h
 refine isTrue_and (thn (ha pins s σ H _ I h) λc s1 ⟨H1,I1,q1⟩=>?_)
 cases c with
 |true=>exact hb wh pins s1 σ H1 Q I1 q1
 |false=>exact ⟨H1,I1,q1⟩
theorem ayj(ha:PT X a tA)(hb:PW X (.BoolOp .Or (b::rest) pos) tB'):PW X (.BoolOp .Or (a::b::rest) pos) (tOr tA tB'):=by
 intro wh pins s σ H Q I h
 refine isTrue_or (thn (ha pins s σ H _ I h) λc s1 ⟨H1,I1,q1⟩=>?_)
 cases c with
 |true=>exact ⟨H1,I1,q1⟩
 |false=>exact hb wh pins s1 σ H1 Q I1 q1
theorem atp(ha:PT X a tA):PT X (.UnaryOp .Not a pos) (b1g tA):=by
 intro pins s σ H Q I h
 exact isTrue_not (ha pins s σ H (λc H1=>Q (!c) H1) I h)
def ayk(ta tb:TE):TE:=λσ H Q=>ta σ H λx H1=>∃c,x=.bl c/\if c=true then tb σ H1 Q else Q (.bl false) H1
def b1h(ta tb:TE):TE:=λσ H Q=>ta σ H λx H1=>∃c,x=.bl c/\if c=true then Q (.bl true) H1 else tb σ H1 Q
theorem atq{op}(h:PE X a t):PE X (.BoolOp op [a] pos) t:=λpins s σ H Q I hw=>BoolOp_one (h pins s σ H Q I hw)
theorem atr(ha:PE X a ta)(hb:PE X (.BoolOp .And (b::rest) pos) tb):PE X (.BoolOp .And (a::b::rest) pos) (ayk ta tb):=by
 intro pins s σ H Q I h
 refine BoolOp_and (thn (ha pins s σ H _ I h) λv s1 ⟨x,H1,I1,r1,q1⟩=>?_);obtain ⟨c,rfl,q1⟩:=q1;cases r1
 refine dQ ?_
 cases c with
 |true=>exact hb pins s1 σ H1 Q I1 q1
 |false=>exact ⟨.bl false,H1,I1,rfl,q1⟩
theorem ayl(ha:PE X a ta)(hb:PE X (.BoolOp .Or (b::rest) pos) tb):PE X (.BoolOp .Or (a::b::rest) pos) (b1h ta tb):=by
 intro pins s σ H Q I h
 refine BoolOp_or (thn (ha pins s σ H _ I h) λv s1 ⟨x,H1,I1,r1,q1⟩=>?_);obtain ⟨c,rfl,q1⟩:=q1;cases r1
 refine dQ ?_
 cases c with
 |false=>exact hb pins s1 σ H1 Q I1 q1
 |true=>exact ⟨.bl true,H1,I1,rfl,q1⟩
def tIf(t:TT)(ta tb:TE):TE:=λσ H Q=>t σ H λc H1=>if c=true then ta σ H1 Q else tb σ H1 Q
theorem akz{c:Expr}(hc:PT X c tA)(ha:PE X a ta)(hb:PE X b tb):PE X (.IfExp c a b pos) (tIf tA ta tb):=by
 intro pins s σ H Q I h
 refine wpAny_IfExp (thn (hc pins s σ H _ I h) λd s1 ⟨H1,I1,q1⟩=>?_)
 cases d with
 |true=>exact ha pins s1 σ H1 Q I1 q1
 |false=>exact hb pins s1 σ H1 Q I1 q1
end
def SqL(K:PySem.W.Frag)(H:Hp)(a:Addr)(xs:List V):Prop :=
 Rd H a (.lst xs) \/
  ∃(o:Obj) (its:Array Value) (n:Nat),K.lookup a=some o/\o.cls=.type "list"/\o.dict=none/\o.data=.seq its n/\its.size<=sizeLine/\Vals xs its.toList
def SqT(K:PySem.W.Frag)(H:Hp)(a:Addr)(xs:List V):Prop :=
 Rd H a (.tup xs) \/
  ∃(o:Obj) (its:Array Value) (n:Nat),K.lookup a=some o/\o.cls=.type "tuple"/\o.data=.seq its n/\its.size<=sizeLine/\Vals xs its.toList
def b1i:Value->Option V
 |.none=>some .non
 |.bool b=>some (.bl b)
 |.int i _=>some (.int i)
 |.str x _=>some (.str x)
 |.bytes b _=>some (.byt b)
 |.float b _=>some (.flt b)
 |.ref a=>some (.ref a)
 |.type n=>some (.ty n)
 |_=>none
theorem RelV.abs(r:RelV x u):b1i u=some x:=by
 cases x with
 |non=>cases r;rfl
 |bl _=>cases r;rfl
 |int _=>obtain ⟨t,rfl⟩:=r;rfl
 |str _=>obtain ⟨t,rfl⟩:=r;rfl
 |byt _=>obtain ⟨t,rfl⟩:=r;rfl
 |flt _=>obtain ⟨t,rfl⟩:=r;rfl
 |ref _=>cases r;rfl
 |ty _=>cases r;rfl
theorem RelV.inj(r:RelV x u)(q:RelV y u):x=y:=bH (r.abs.symm.trans q.abs)
theorem Vals.inj:∀{xs ys:List V} {us:List Value},Vals xs us->Vals ys us->xs=ys
 |_,_,_,.nil,.nil=>rfl
 |_,_,_,.cons r t,.cons r' t'=>by rw [r.inj r',Vals.inj t t']
section
variable{X:Cx}{pins:List (Addr×Obj)}{σ:St}{H:Hp}{s:Shared}{a:Addr}{xs ys:List V}
theorem SqL.of{K:PySem.W.Frag}(h:H a=some (.lst xs)):SqL K H a xs:=.inl (.inl h)
theorem SqT.of{K:PySem.W.Frag}(h:H a=some (.tup xs)):SqT K H a xs:=.inl (.inl h)
theorem Inv.list(I:Inv X pins σ H s)(h:SqL X.K H a xs):∃its:List Value,Vals xs its/\PlainL s.heap a its.toArray/\xs.length<=sizeLine:=by
 rcases h with h|⟨o,its,n,hk,hc,hd,hs,hz,r⟩
 ·obtain ⟨z,its,n,r,e⟩:=h.ok I.hok;exact ⟨its,r,⟨_,n,e,rfl,rfl,rfl⟩,z⟩
 ·refine ⟨its.toList,r,⟨o,n,I.kIn a o hk,hc,hd,by simpa using hs⟩,?_⟩
  have e:=r.length;simp only [aT] at e;omega
theorem Inv.tuple(I:Inv X pins σ H s)(h:SqT X.K H a xs):∃its:List Value,Vals xs its/\IsTup s.heap a its.toArray/\xs.length<=sizeLine:=by
 rcases h with h|⟨o,its,n,hk,hc,hs,hz,r⟩
 ·obtain ⟨z,its,r,p⟩:=h.ok I.hok;exact ⟨its,r,p,z⟩
 ·refine ⟨its.toList,r,⟨o,I.kIn a o hk,hc,n,by simpa using hs⟩,?_⟩
  have e:=r.length;simp only [aT] at e;omega
theorem Inv.list_inj(I:Inv X pins σ H s)(h:SqL X.K H a xs)(h':SqL X.K H a ys):xs=ys:=by
 obtain ⟨its,r,⟨o,n,e,_,_,d⟩,_⟩:=I.list h;obtain ⟨its',r',⟨o',n',e',_,_,d'⟩,_⟩:=I.list h';rw [e] at e';cases e'
 rw [d] at d'
 injection d' with d1 _
 have:its=its':=by simpa using af Array.toList d1
 subst this;exact r.inj r'
theorem Inv.tuple_inj(I:Inv X pins σ H s)(h:SqT X.K H a xs)(h':SqT X.K H a ys):xs=ys:=by
 obtain ⟨its,r,⟨o,e,_,n,d⟩,_⟩:=I.tuple h;obtain ⟨its',r',⟨o',e',_,n',d'⟩,_⟩:=I.tuple h';rw [e] at e';cases e'
 rw [d] at d'
 injection d' with d1 _
 have:its=its':=by simpa using af Array.toList d1
 subst this;exact r.inj r'
end
abbrev Cx.wish(X:Cx)(E:Value->Shared->Prop):Cx:={X with xe:=E}
abbrev Cx.nox(X:Cx):Cx:=X.wish λ_ _=>False
theorem Cx.Ok.wish{X:Cx}(ok:X.Ok)(E:Value->Shared->Prop):(X.wish E).Ok :=
 ⟨ok.mod,ok.kind,ok.glob,ok.blt,ok.above,ok.inj,ok.has,ok.cab,ok.hd,ok.frames,ok.stk,ok.exf,ok.bs,ok.bsz,ok.noex,ok.exfs,ok.funs,ok.frf⟩
theorem Cx.Ok.unwish{X:Cx}(ok:(X.wish E).Ok):X.Ok :=
 ⟨ok.mod,ok.kind,ok.glob,ok.blt,ok.above,ok.inj,ok.has,ok.cab,ok.hd,ok.frames,ok.stk,ok.exf,ok.bs,ok.bsz,ok.noex,ok.exfs,ok.funs,ok.frf⟩
section
variable{X:Cx}{pins:List (Addr×Obj)}{σ:St}{H:Hp}{s:Shared}{E:Value->Shared->Prop}
theorem Inv.wish(I:Inv X pins σ H s)(E:Value->Shared->Prop):Inv (X.wish E) pins σ H s:=⟨I.ok.wish E,I.os,I.bare,I.base,I.loc,I.cell,I.free,I.freeC,I.pin,I.hok,I.len⟩
theorem Inv.unwish(I:Inv (X.wish E) pins σ H s):Inv X pins σ H s:=⟨I.ok.unwish,I.os,I.bare,I.base,I.loc,I.cell,I.free,I.freeC,I.pin,I.hok,I.len⟩
theorem SP.unwish(h:SP (X.wish E) pins D f s'):SP X pins D f s':=by
 cases f with
 |next=>obtain ⟨σ',H',I,q⟩:=h;exact ⟨σ',H',I.unwish,q⟩
 |brk=>obtain ⟨σ',H',I,q⟩:=h;exact ⟨σ',H',I.unwish,q⟩
 |cont=>obtain ⟨σ',H',I,q⟩:=h;exact ⟨σ',H',I.unwish,q⟩
 |ret u=>obtain ⟨v,σ',H',I,r,q⟩:=h;exact ⟨v,σ',H',I.unwish,r,q⟩
theorem PSs.nox{st:List Stmt}{t:TS}(h:PSs X.nox st t):PSs X st t:=λpins s σ H D I hw =>
 aY (h pins s σ H D (I.wish _) hw) (λ_ _ q=>q.unwish) λ_ _ z=>False.elim z
end
section
variable{X:Cx}{st:Stmt}{rest:List Stmt}{t u:TS}{e:Expr}{te:TE}{pos:Pos}
def aym:TS:=λD σ H=>D.nx σ H
def b1j(t u:TS):TS:=λD σ H=>t {D with nx:=u D} σ H
theorem apr:PSs X [] aym:=λ_ _ σ H _ I h=>eY ⟨σ,H,I,h⟩
theorem al0(h1:PS X st t)(h2:PSs X rest u):PSs X (st::rest) (b1j t u):=by
 intro pins s σ H D I h
 refine gZ (thn (h1 pins s σ H {D with nx:=u D} I h) λf s1 q=>?_)
 cases f with
 |next =>
  obtain ⟨σ',H',I',q⟩:=q;exact h2 pins s1 σ' H' D I' q
 |ret v=>exact q
 |brk=>exact q
 |cont=>exact q
theorem aps(h1:PS X st t):PSs X [st] t:=by
 intro pins s σ H D I h
 refine gZ (thn (h1 pins s σ H D I h) λf s1 q=>?_)
 cases f with
 |next=>exact eY q
 |ret v=>exact q
 |brk=>exact q
 |cont=>exact q
theorem Inv.quiet(I:Inv X pins σ H s):interactive X.env=false:=by simp [interactive,I.ok.kind]
def ayn(te:TE):TS:=λD σ H=>te σ H λ_ H1=>D.nx σ H1
theorem apt(he:PE X e te)(hs:swapsWith e none pos.line X.env=pure false:=by rfl):PS X (.Expr e pos) (ayn te):=by
 intro pins s σ H D I h
 exact wpAny_Expr_any (thn (he pins s σ H _ I h) λv s1 ⟨x,H1,I1,r1,q1⟩=>⟨σ,H1,I1,q1⟩) I.quiet hs
def b1k(te:TE):TS:=λD σ H=>te σ H D.rt
theorem atu(he:PE X e te):PS X (.Return (some e) pos) (b1k te):=by
 intro pins s σ H D I h
 exact wpAny_Return_some (thn (he pins s σ H _ I h) λv s1 ⟨x,H1,I1,r1,q1⟩=>⟨x,σ,H1,I1,r1,q1⟩)
def b1l(c:TT)(t u:TS):TS:=λD σ H=>c σ H λb H1=>if b=true then t D σ H1 else u D σ H1
theorem ayo{c:Expr}{a b:List Stmt}{tc:TT}(hc:PT X c tc)(ha:PSs X a t)(hb:PSs X b u):PS X (.If c a b pos) (b1l tc t u):=by
 intro pins s σ H D I h
 refine wpAny_If (thn (hc pins s σ H _ I h) λd s1 ⟨H1,I1,q1⟩=>?_)
 cases d with
 |true=>exact ha pins s1 σ H1 D I1 q1
 |false=>exact hb pins s1 σ H1 D I1 q1
end
abbrev TG:=V->St->Hp->(St->Hp->Prop)->Prop
abbrev TGs:=List V->St->Hp->(St->Hp->Prop)->Prop
def PG(X:Cx)(target:Expr)(t:TG):Prop :=
 ∀(pins:List (Addr×Obj)) (s:Shared) (σ:St) (H:Hp) (v:V) (u:Value) (Q:St->Hp->Prop),Inv X pins σ H s->RelV v u->t v σ H Q->
  wpAny (model X.prog X.w) X.A (assign target X.env u) (λ_ s'=>∃σ' H',Inv X pins σ' H' s'/\Q σ' H') X.xe s
def PGs(X:Cx)(ts:List Expr)(t:TGs):Prop :=
 ∀(pins:List (Addr×Obj)) (s:Shared) (σ:St) (H:Hp) (vs:List V) (us:List Value) (Q:St->Hp->Prop),Inv X pins σ H s->Vals vs us->t vs σ H Q->
  wpAny (model X.prog X.w) X.A (assignInOrder ((assignEach ts X.env).map (·.2)) us) (λ_ s'=>∃σ' H',Inv X pins σ' H' s'/\Q σ' H') X.xe s
abbrev atv:=V->V->V->Hp->(Hp->Prop)->Prop
def ayp(X:Cx)(t:atv):Prop :=
 ∀(pins:List (Addr×Obj)) (s:Shared) (σ:St) (H:Hp) (o i v:V) (ov iv u:Value) (Q:Hp->Prop),Inv X pins σ H s->RelV o ov->RelV i iv->RelV v u->t o i v H Q->
  wpAny (model X.prog X.w) X.A (setItem ov iv u) (λ_ s'=>∃H',Inv X pins σ H' s'/\Q H') X.xe s
abbrev TIp:=V->V->Hp->VK->Prop
def PIp(X:Cx)(op:Operator)(t:TIp):Prop :=
 ∀(pins:List (Addr×Obj)) (s:Shared) (σ:St) (H:Hp) (x y:V) (v u:Value) (Q:VK),Inv X pins σ H s->RelV x v->RelV y u->t x y H Q->
  wpAny (model X.prog X.w) X.A (inplaceOp op v u) (EP X pins σ Q) X.xe s
section
variable{X:Cx}{pos:Pos}
def a04(i:Nat):TG:=λv σ H Q=>Q (σ.set i (some v)) H
theorem ack(hN:X.N.Nodup)(hi:X.N[i]? = some x)(hx:Loc X.env.scope x)(hf:X.fn x=true\/X.env.scope.names.lookup x=some .local:=by first|exact .inl rfl|exact .inr rfl|assumption):PG X (.Name x pos) (a04 i):=by
 intro pins s σ H v u Q I r h
 exact wpAny_assign_Name (a6k I hN hi hx r (λs' I'=>⟨_,H,I',h⟩) hf)
def b08:TGs:=λvs σ H Q=>vs=[]/\Q σ H
def al2(t:TG)(u:TGs):TGs:=λvs σ H Q=>∃v r,vs=v::r/\t v σ H λσ' H'=>u r σ' H' Q
theorem ah5:PGs X [] b08:=by
 intro pins s σ H vs us Q I r h
 obtain ⟨e,h⟩:=h;subst e;cases r
 exact assignInOrder_nil ⟨σ,H,I,h⟩
theorem a9a{e:Expr}{es:List Expr}{t:TG}{u:TGs}(h1:PG X e t)(h2:PGs X es u)
  (hs:(assignEach (e::es) X.env).map (·.2)=assign e X.env::(assignEach es X.env).map (·.2):=by rfl):PGs X (e::es) (al2 t u):=by
 intro pins s σ H vs us Q I r h
 obtain ⟨v,vr,e1,h⟩:=h;subst e1
 cases r with
 |cons r rr =>
  rw [hs];refine assignInOrder_cons (thn (h1 pins s σ H _ _ _ I r h) λ_ s1 ⟨σ1,H1,I1,q1⟩=>?_);exact h2 pins s1 σ1 H1 _ _ Q I1 rr q1
def yh(K:PySem.W.Frag)(n:Nat)(t:TGs):TG:=λv σ H Q=>∃a xs,v=.ref a/\SqT K H a xs/\xs.length=n/\t xs σ H Q
theorem ao2(hc:X.calm=true)(h:PGs X es t)
  (hn:(assignEach es X.env).length=n:=by rfl) (hst:(assignEach es X.env).findIdx? (·.1)=none:=by rfl):PG X (.Tuple es k pos) (yh X.K n t):=by
 intro pins s σ H v u Q I r hw
 obtain ⟨a,xs,e1,hq,hl,hw⟩:=hw;subst e1;cases r
 obtain ⟨its,rv,ht,hz⟩:=I.tuple hq;refine assign_Tuple_tuple (I.ok.hd hc) ht (by simp [hn,<-hl,rv.length]) hst λh' hx=>?_
 have I1:Inv X pins σ H {s with heap:=h' }:=I.kept (t':=s.toks) λb o e=>hx b o (aX (aI e)) e
 exact h pins _ σ H xs _ Q I1 (by simpa using rv) hw
def ach(to ti:TE)(t:atv):TG:=λv σ H Q=>to σ H λo H1=>ti σ H1 λi H2=>t o i v H2 λH3=>Q σ H3
theorem atw{o i:Expr}{to ti:TE}{t:atv}(ho:PE X o to)(hi:PE X i ti)(hs:ayp X t)
  (ha:∀v,assign (.Subscript o i pos) X.env v=(do
   let ov <-holding [v] (eval o X.env)
   let iv <-holding [v,ov] (eval i X.env)
   standAt pos
   holding [v,ov,iv] (setItem ov iv v)
   release [v,ov,iv] []):=by intro _;rfl):PG X (.Subscript o i pos) (ach to ti t):=by
 intro pins s σ H v u Q I r h
 rw [ha];refine ae (bW (thn (ho pins s σ H _ I h) λov s1 ⟨x,H1,I1,r1,q1⟩=>?_));refine ae (bW (thn (hi pins s1 σ H1 _ I1 q1) λiv s2 ⟨y,H2,I2,r2,q2⟩=>?_));refine ae (de (ae (bW (thn (hs pins s2 σ H2 x y v ov iv u _ I2 r1 r2 r q2) λ_ s3 ⟨H3,I3,q3⟩=>?_))));exact wpAny_release ⟨σ,H3,I3,q3⟩
def atx(te:TE)(g:TG):TS:=λD σ H=>te σ H λx H1=>g x σ H1 D.nx
theorem aty{tg e:Expr}{te:TE}{g:TG}(he:PE X e te)(hg:PG X tg g)(hs:swapsWithSole [tg] e pos.line X.env=pure false:=by rfl)(hw:swappedStores [tg] e X.env=pure none:=by rfl)
  (h1:(assignEach [tg] X.env).map (·.2)=[assign tg X.env]:=by rfl):PS X (.Assign [tg] e pos) (atx te g):=by
 intro pins s σ H D I h
 refine wpAny_Assign_stores (thn (he pins s σ H _ I h) λv s1 ⟨x,H1,I1,r1,q1⟩=>?_) hs hw;rw [h1];exact thn (hg pins s1 σ H1 x v _ I1 r1 q1) λ_ s2 q=>q
theorem atz{i:Nat}{x:Str}{e:Expr}{te:TE}{pos':Pos}(hN:X.N.Nodup)(hi:X.N[i]? = some x)(hx:Loc X.env.scope x)(he:PE X e te)(hs:swapsWith e (some (.Name x pos')) pos.line X.env=pure false:=by rfl)(hf:X.fn x=true\/X.env.scope.names.lookup x=some .local:=by first|exact .inl rfl|exact .inr rfl|assumption) :
  PS X (.Assign [.Name x pos'] e pos) (atx te (a04 i)):=by
 intro pins s σ H D I h
 refine wpAny_Assign_Name (thn (he pins s σ H _ I h) λv s1 ⟨y,H1,I1,r1,q1⟩=>?_) hs;exact a6k I1 hN hi hx r1 (λs2 I2=>⟨_,H1,I2,q1⟩) hf
def b1m(i:Nat)(te:TE)(ti:TIp):TS:=λD σ H=>∃x,σ[i]? = some (some x)/\te σ H λy H1=>ti x y H1 λz H2=>D.nx (σ.set i (some z)) H2
theorem au0{i:Nat}{x:Str}{e:Expr}{te:TE}{op:Operator}{ti:TIp}{pos':Pos}(hN:X.N.Nodup)(hi:X.N[i]? = some x)(hx:Loc X.env.scope x)(he:PE X e te)(ho:PIp X op ti)(hf:X.fn x=true\/X.env.scope.names.lookup x=some .local:=by first|exact .inl rfl|exact .inr rfl|assumption) :
  PS X (.AugAssign (.Name x pos') op e pos) (b1m i te ti):=by
 intro pins s σ H D I h
 obtain ⟨v,e1,h⟩:=h;obtain ⟨m,hn,hl⟩:=I.loc;have vis:Vis X.env.scope x:=by rcases hx with k|k;exact .inl k;exact .inr (.inl k)
 obtain ⟨u,r,l⟩:=hl i x v hi e1 vis;refine wpAny_AugAssign_Name ?_;have go:wpAny (model X.prog X.w) X.A (eval e X.env) (λw s₂=>wpAny (model X.prog X.w) X.A (inplaceOp op u w) (λr s₃=>wpAny (model X.prog X.w) X.A (storeName X.env x r) (λ_=>SP X pins D .next) X.xe s₃) X.xe s₂) X.xe s:=by
  refine thn (he pins s σ H _ I h) ?_
  rintro w s1 ⟨y,H1,I1,r1,q1⟩
  refine thn (ho pins s1 σ H1 v y u w _ I1 r r1 q1) ?_
  rintro z s2 ⟨zv,H2,I2,r2,q2⟩
  exact a6k I2 hN hi hx r2 (λs3 I3=>⟨_,H2,I3,q2⟩) hf
 rcases l with ⟨hk,hm⟩|⟨hk,c,hc,hcell⟩
 ·exact wpAny_loadName_local I.ok.kind hk hn hm go
 ·rcases hk with hk|hk
  ·exact wpAny_loadName_cell I.ok.kind hk hc hcell go
  ·rcases hx with k|k
   ·have:X.env.scope.names.lookup x=some .free:=hk
    rw [k] at this;cases this
   ·have:X.env.scope.names.lookup x=some .free:=hk
    rw [k] at this;cases this
def ayq(to ti te:TE)(tget:V->V->Hp->VK->Prop)(tip:TIp)(tset:atv):TS:=λD σ H=>to σ H λo H1=>ti σ H1 λi H2=>tget o i H2 λx H3=>te σ H3 λy H4=>tip x y H4 λz H5=>tset o i z H5 λH6=>D.nx σ H6
def b09(X:Cx)(t:V->V->Hp->VK->Prop):Prop :=
 ∀(pins:List (Addr×Obj)) (s:Shared) (σ:St) (H:Hp) (o i:V) (ov iv:Value) (Q:VK),Inv X pins σ H s->RelV o ov->RelV i iv->t o i H Q->
  wpAny (model X.prog X.w) X.A (getItem ov iv) (EP X pins σ Q) X.xe s
theorem apu{o i e:Expr}{to ti te:TE}{tget:V->V->Hp->VK->Prop}{tip:TIp}{tset:atv}{op:Operator}{tpos:Pos}(ho:PE X o to)(hi:PE X i ti)(hg:b09 X tget)(he:PE X e te)(hp:PIp X op tip)(hs:ayp X tset)
  (ha:∀ov iv new,augStore i ov iv new=(do holding [new,ov,iv] (setItem ov iv new);release [new,ov,iv] [];pure .next):=by intros;rfl):PS X (.AugAssign (.Subscript o i tpos) op e pos) (ayq to ti te tget tip tset):=by
 intro pins s σ H D I h
 refine wpAny_AugAssign_SubscriptAny (thn (ho pins s σ H _ I h) λov s1 ⟨x1,H1,I1,r1,q1⟩=>?_) ha;refine thn (hi pins s1 σ H1 _ I1 q1) ?_
 rintro iv s2 ⟨x2,H2,I2,r2,q2⟩
 refine thn (hg pins s2 σ H2 x1 x2 ov iv _ I2 r1 r2 q2) ?_
 rintro old s3 ⟨x3,H3,I3,r3,q3⟩
 refine thn (he pins s3 σ H3 _ I3 q3) ?_
 rintro v s4 ⟨x4,H4,I4,r4,q4⟩
 refine thn (hp pins s4 σ H4 x3 x4 old v _ I4 r3 r4 q4) ?_
 rintro new s5 ⟨x5,H5,I5,r5,q5⟩
 exact thn (hs pins s5 σ H5 x1 x2 x5 ov iv new _ I5 r1 r2 r5 q5) λ_ s6 ⟨H6,I6,q6⟩=>⟨σ,H6,I6,q6⟩
end
structure It where
 go:Nat->Hp->Prop
 yld:Nat->Hp->V->Hp->Prop
 stop:Nat->Hp->Prop
def FpOk(X:Cx)(pins:List (Addr×Obj))(H:Hp)(b:Addr):Prop :=
 H b=none/\b≠X.env.locals/\b∉X.fs/\(b∈X.ex\/X.s₀.heap.objs.size<=b)/\(∀x c,X.env.cells.lookup x=some c->c≠b)/\∀p∈X.pn++pins,p.1≠b
theorem Inv.fpOk(I:Inv X pins σ H s)(hb:s.heap.objs.size<=b)(hn:H' b=none):FpOk X pins H' b:=by
 refine ⟨hn,Nat.ne_of_gt (aO I.lt hb),I.nofs hb,.inr (bG I.sz hb),λx c e z=>?_,λp hp z=>?_⟩
 ·obtain ⟨v,q⟩:=I.cell x c e;exact absurd (aO q.lt (by rw [z];exact hb)) (bR _)
 ·exact absurd (aO (aI (I.pin p hp).1) (by rw [z];exact hb)) (bR _)
structure Turn (P:Program) (w:World) (K:PySem.W.Frag) (tg:Expr) (J:It) (fp:List Addr) (it:Addr) (tn:Nat->Heap->Prop):Prop where
 mem:it∈fp
 obj:∀i h,tn i h->∀b∈fp,∃o,h.get? b=some o/\∀v,o.data≠.cell v
 keep:∀i h h',tn i h->(∀b∈fp,∀o,h.get? b=some o->h'.get? b=some o)->tn i h'
 item:∀(X:Cx),X.prog=P->X.w=w->X.K=K->X.calm=true->∀(i:Nat) (pins:List (Addr×Obj)) (s:Shared) (σ:St) (H:Hp) (E:Value->Shared->Prop),Inv X pins σ H s->(∀b∈fp,FpOk X pins H b)->tn i s.heap->J.go i H->
  wpAny (model P w) X.A (pyNext (.ref it)) (λr s1=>∃u,r=some u /\
   wpAny (model P w) X.A (letOwnedTupleGo tg (.ref it) u) (λ_ s2=>∃x H',Inv X pins σ H' s2/\RelV x u/\J.yld i H x H'/\tn (i+1) s2.heap/\∀b∈fp,H' b=none) E s1) E s
 done:∀(X:Cx),X.prog=P->X.w=w->X.K=K->X.calm=true->∀(i:Nat) (pins:List (Addr×Obj)) (s:Shared) (σ:St) (H:Hp) (E:Value->Shared->Prop),Inv X pins σ H s->(∀b∈fp,FpOk X pins H b)->tn i s.heap->J.stop i H->
  wpAny (model P w) X.A (pyNext (.ref it)) (λr s1=>r=none/\Inv X pins σ H s1) E s
 self:∀(A:Around) (i:Nat) (s:Shared) (Q:Value->Shared->Prop) (E:Value->Shared->Prop),tn i s.heap->Q (.ref it) s->wpAny (model P w) A (pyIter (.ref it)) Q E s
abbrev TI:=St->Hp->(It->Hp->Prop)->Prop
def PIE(X:Cx)(pins:List (Addr×Obj))(σ:St)(tg:Expr)(R:It->Hp->Prop)(itv:Value)(s2:Shared):Prop :=
 ∃(it:Addr) (fp:List Addr) (tn:Nat->Heap->Prop) (J:It) (H':Hp),itv=.ref it/\Inv X pins σ H' s2/\Turn X.prog X.w X.K tg J fp it tn/\tn 0 s2.heap/\(∀b∈fp,FpOk X pins H' b)/\R J H'
def PI(X:Cx)(tg iter:Expr)(wi:TI):Prop :=
 ∀(pins:List (Addr×Obj)) (s:Shared) (σ:St) (H:Hp) (R:It->Hp->Prop),Inv X pins σ H s->wi σ H R->
  wpAny (model X.prog X.w) X.A (eval iter X.env) (λv s1=>wpAny (model X.prog X.w) X.A (pyIter v) (PIE X pins σ tg R) X.xe s1) X.xe s
theorem ah6{s:Shared}(ho:s.heap.get? it=some o)(hc:o.cls=.type n)(hd:o.data=.fields vs)
  (hn:["enumerate","zip","dict_itemiterator","dict_reverseitemiterator","odict_iterator","itertools.zip_longest","itertools.pairwise"].contains n=false) (hQ:Q () s):wpAny M A (letOwnedTupleGo tg (.ref it) u) Q E s:=by
 unfold letOwnedTupleGo
 cases tg<;>first
  |exact aw hQ
  | (cases u<;>first
    |exact aw hQ
    | (refine ae (wpAny_load ho ?_)
       rw [hc,hd];show wpAny M A (if (["enumerate","zip","dict_itemiterator","dict_reverseitemiterator","odict_iterator","itertools.zip_longest","itertools.pairwise"].contains n && vs[0]? == some (rawInt _))=true then _ else _) Q E s
       rw [aQ (by intro h;rw [hn,eL] at h;cases h)]
       exact aw hQ))
def Itl(K:PySem.W.Frag)(a:Addr):It :=
 ⟨λi H=>∃xs x,SqL K H a xs/\xs[i]? = some x,λi H x H'=>H'=H/\∀xs,SqL K H a xs->xs[i]? = some x,λi H=>∃xs,SqL K H a xs/\xs.length<=i⟩
def Itt(K:PySem.W.Frag)(a:Addr):It :=
 ⟨λi H=>∃xs x,SqT K H a xs/\xs[i]? = some x,λi H x H'=>H'=H/\∀xs,SqT K H a xs->xs[i]? = some x,λi H=>∃xs,SqT K H a xs/\xs.length<=i⟩
def Itr(lo:Int)(n:Nat):It:=⟨λi _=>i<n,λi H x H'=>H'=H/\x=.int (lo+i),λi _=>n<=i⟩
theorem ah7{P:Program}{w:World}{K:PySem.W.Frag}{tg:Expr}(a it:Addr):Turn P w K tg (Itl K a) [it] it (λi h=>h.IsListIter it a i) where
 mem:=by simp
 obj:=λi h st b hb=>by
  have e:b=it:=by simpa using hb
  subst e;obtain ⟨o,e,c,d⟩:=st;exact ⟨o,e,λv z=>by rw [d] at z;cases z⟩
 keep:=λi h h' st k=>st.at λo e=>k it (by simp) o e
 item:=by
  intro X hP hw hK hc i pins s σ H E I hf st hg
  subst hP hw hK;obtain ⟨xs,x,hq,hx⟩:=hg;obtain ⟨its,rv,p,hz⟩:=I.list hq;obtain ⟨u,hu,ru⟩:=rv.get hx;obtain ⟨f0,f1,f2,f3,f4,f5⟩:=hf it (by simp)
  refine wpAny_pyNext_list_item st p.isList (x:=u) (by simpa using hu) λh' st' sb=>?_
  have I1:Inv X pins σ H {s with heap:=h' }:=I.turned (t':=s.toks) (λb o hb e=>(sb.2 b hb).trans e) f0 f1 f3 f4 f5
  obtain ⟨o,e,c,d⟩:=id st';exact ⟨u,rfl,ah6 (s:={s with heap:=h' }) e c d (by decide) ⟨x,H,I1,ru,⟨rfl,λys hy=>by rw [I.list_inj hy hq];exact hx⟩,st',λb hb=>(hf b hb).1⟩⟩
 done:=by
  intro X hP hw hK hc i pins s σ H E I hf st hg
  subst hP hw hK;obtain ⟨xs,hq,hx⟩:=hg;obtain ⟨its,rv,p,hz⟩:=I.list hq;obtain ⟨f0,f1,f2,f3,f4,f5⟩:=hf it (by simp)
  have hl:=rv.length;exact wpAny_pyNext_list_end (I.ok.hd hc) st p.isList (by simp;omega) λh' eb=>⟨rfl,I.turned (t':=s.toks) (λb o hb e=>eb b o hb e) f0 f1 f3 f4 f5⟩
 self:=λ_ _ _ _ _ st h=>wpAny_pyIter_listiter st h
theorem afl{P:Program}{w:World}{K:PySem.W.Frag}{tg:Expr}(a it:Addr):Turn P w K tg (Itt K a) [it] it (λi h=>h.IsTupleIter it a i) where
 mem:=by simp
 obj:=λi h st b hb=>by
  have e:b=it:=by simpa using hb
  subst e;obtain ⟨o,e,c,d⟩:=st;exact ⟨o,e,λv z=>by rw [d] at z;cases z⟩
 keep:=λi h h' st k=>st.at λo e=>k it (by simp) o e
 item:=by
  intro X hP hw hK hc i pins s σ H E I hf st hg
  subst hP hw hK;obtain ⟨xs,x,hq,hx⟩:=hg;obtain ⟨its,rv,p,hz⟩:=I.tuple hq;obtain ⟨u,hu,ru⟩:=rv.get hx;obtain ⟨f0,f1,f2,f3,f4,f5⟩:=hf it (by simp)
  refine wpAny_pyNext_tuple_item st (show s.heap.IsTuple a its.toArray from p) (x:=u) (by simpa using hu) λh' st' sb=>?_
  have I1:Inv X pins σ H {s with heap:=h' }:=I.turned (t':=s.toks) (λb o hb e=>(sb.2 b hb).trans e) f0 f1 f3 f4 f5
  obtain ⟨o,e,c,d⟩:=id st';exact ⟨u,rfl,ah6 (s:={s with heap:=h' }) e c d (by decide) ⟨x,H,I1,ru,⟨rfl,λys hy=>by rw [I.tuple_inj hy hq];exact hx⟩,st',λb hb=>(hf b hb).1⟩⟩
 done:=by
  intro X hP hw hK hc i pins s σ H E I hf st hg
  subst hP hw hK;obtain ⟨xs,hq,hx⟩:=hg;obtain ⟨its,rv,p,hz⟩:=I.tuple hq;obtain ⟨f0,f1,f2,f3,f4,f5⟩:=hf it (by simp)
  have hl:=rv.length;exact wpAny_pyNext_tuple_end (I.ok.hd hc) st (show s.heap.IsTuple a its.toArray from p) (by simp;omega) λh' eb=>⟨rfl,I.turned (t':=s.toks) (λb o hb e=>eb b o hb e) f0 f1 f3 f4 f5⟩
 self:=λ_ _ _ _ _ st h=>wpAny_pyIter_tupleiter st h
theorem afm{P:Program}{w:World}{K:PySem.W.Frag}{tg:Expr}(it:Addr)(lo:Int)(n:Nat):Turn P w K tg (Itr lo n) [it] it (λi h=>IsRangeIter h it (lo+(i:Nat)*1) ((n:Int)-(i:Nat)) 1) where
 mem:=by simp
 obj:=λi h st b hb=>by
  have e:b=it:=by simpa using hb
  subst e;exact ⟨_,st,λv z=>by
   have z':Data.fields _=Data.cell v:=z
   cases z'⟩
 keep:=λi h h' st k=>k it (by simp) _ st
 item:=by
  intro X hP hw hK hc i pins s σ H E I hf st hg
  subst hP hw hK;obtain ⟨f0,f1,f2,f3,f4,f5⟩:=hf it (by simp)
  have W:=Walks.range (prog:=X.prog) (w:=X.w) (I.ok.hd hc) it lo 1 n;refine W.item i s _ _ hg st λv h' tk hv st' kk=>?_;obtain ⟨t,rfl⟩:=hv;have I1:Inv X pins σ H {s with heap:=h',toks:=tk}:=I.turned (λb o hb e=>kk b o (by simpa using hb) e) f0 f1 f3 f4 f5
  refine ⟨_,rfl,ah6 (s:={s with heap:=h',toks:=tk}) (n := "range_iterator") st' rfl rfl (by decide) ⟨.int (lo+i),H,I1,⟨t,?_⟩,⟨rfl,rfl⟩,st',λb hb=>(hf b hb).1⟩⟩
  rw [Int.mul_one]
 done:=by
  intro X hP hw hK hc i pins s σ H E I hf st hg
  subst hP hw hK;obtain ⟨f0,f1,f2,f3,f4,f5⟩:=hf it (by simp)
  exact wpAny_pyNext_range_end (I.ok.hd hc) st (by have:n<=i:=hg;omega) λh' eb=>⟨rfl,I.turned (t':=s.toks) (λb o hb e=>eb b o hb e) f0 f1 f3 f4 f5⟩
 self:=λ_ _ _ _ _ st h=>fA st h
section
variable{X:Cx}{tg:Expr}
def ayr(K:PySem.W.Frag)(tl:TE):TI:=λσ H R=>tl σ H λx H1=>∃a,x=.ref a/\(∃xs,SqL K H1 a xs)/\R (Itl K a) H1
def b1n(K:PySem.W.Frag)(tl:TE):TI:=λσ H R=>tl σ H λx H1=>∃a,x=.ref a/\(∃xs,SqT K H1 a xs)/\R (Itt K a) H1
theorem ah8{l:Expr}{tl:TE}(hl:PE X l tl):PI X tg l (ayr X.K tl):=by
 intro pins s σ H R I h
 refine thn (hl pins s σ H _ I h) ?_
 rintro v s1 ⟨x,H1,I1,r1,q1⟩
 obtain ⟨a,e,⟨xs,hq⟩,q⟩:=q1;subst e;cases r1
 obtain ⟨its,rv,p,hz⟩:=I1.list hq;refine gK p.isList ?_;refine ⟨s1.heap.objs.size,[s1.heap.objs.size],_,_,H1,rfl,I1.kept (t':=s1.toks) λb o e=>ai _ e,ah7 a _,⟨_,aK _ rfl,rfl,rfl⟩,λb hb=>?_,q⟩;have e:b=s1.heap.objs.size:=by simpa using hb
 subst e;exact I1.fpOk (ay _) (I1.hok.fresh (ay _))
theorem au1{l:Expr}{tl:TE}(hl:PE X l tl):PI X tg l (b1n X.K tl):=by
 intro pins s σ H R I h
 refine thn (hl pins s σ H _ I h) ?_
 rintro v s1 ⟨x,H1,I1,r1,q1⟩
 obtain ⟨a,e,⟨xs,hq⟩,q⟩:=q1;subst e;cases r1
 obtain ⟨its,rv,p,hz⟩:=I1.tuple hq;refine gy (show s1.heap.IsTuple a its.toArray from p) ?_
 refine ⟨s1.heap.objs.size,[s1.heap.objs.size],_,_,H1,rfl,I1.kept (t':=s1.toks) λb o e=>ai _ e,afl a _,⟨_,aK _ rfl,rfl,rfl⟩,λb hb=>?_,q⟩;have e:b=s1.heap.objs.size:=by simpa using hb
 subst e;exact I1.fpOk (ay _) (I1.hok.fresh (ay _))
theorem ae7{s:Shared}{lo hi:Int}{tk:Nat}(I:Inv X pins σ H s)(h1 : -(2^62)<=lo)(h2:lo<2^62)(h3 : -(2^62)<=hi)(h4:hi<2^62)
  (q:R (Itr lo (hi-lo).toNat) H):wpAny (model X.prog X.w) X.A (pyIter (.ref s.heap.objs.size)) (PIE X pins σ tg R) E {s with heap:=s.heap.push {cls:=.type "range",data:=.fields #[.int lo t,.int hi u,.int 1 v]},toks:=tk}:=by
 refine wpAny_pyIter_range (IsRange.new ..) (small_one h1 h2 h3 h4) ?_;have I1:Inv X pins σ H {s with heap:=s.heap.push {cls:=.type "range",data:=.fields #[.int lo t,.int hi u,.int 1 v]},toks:=tk}:=I.kept λb o e=>ai _ e
 refine ⟨(s.heap.push {cls:=.type "range",data:=.fields #[.int lo t,.int hi u,.int 1 v]}).objs.size,[(s.heap.push {cls:=.type "range",data:=.fields #[.int lo t,.int hi u,.int 1 v]}).objs.size],_,_,H,rfl,
  I1.kept (t':=tk) λb o e=>ai _ e,afm _ lo (hi-lo).toNat,?_,λb hb=>?_,q⟩
 ·have e1:lo+((0:Nat):Int)*1=lo:=by simp
  have e2:(((hi-lo).toNat:Nat):Int)-((0:Nat):Int)=Builtin.Range.rangeSize lo hi 1:=by rw [rangeSize_one];split<;>omega
  show IsRangeIter _ _ (lo+((0:Nat):Int)*1) ((((hi-lo).toNat:Nat):Int)-((0:Nat):Int)) 1;rw [e1,e2];exact aK _ rfl
 ·have e:b=(s.heap.push {cls:=.type "range",data:=.fields #[.int lo t,.int hi u,.int 1 v]}).objs.size:=by simpa using hb
  subst e;exact I1.fpOk (ay _) (I1.hok.fresh (ay _))
def ays(ta:TA):TI:=λσ H R=>ta σ H λvs H1=>∃j:Int,vs=[.int j] /\ -(2^62)<=j/\j<2^62/\R (Itr 0 j.toNat) H1
def ayt(ta:TA):TI:=λσ H R=>ta σ H λvs H1=>∃i j:Int,vs=[.int i,.int j]/\(-(2^62)<=i/\i<2^62 /\ -(2^62)<=j/\j<2^62)/\R (Itr i (j-i).toNat) H1
theorem ah9{a:Expr}{ta:TA}{p pos:Pos}(hg:Gl X "range")(hm:X.mg "range" = none)(ha:PA X [a] ta)(hs:starEach [a] X.env=[(false,eval a X.env)]:=by rfl):PI X tg (.Call (.Name "range" p) [a] [] pos) (ays ta):=by
 intro pins s σ H R I h
 refine Call_ (a5u I hg hm boot_range (bU (thn (ha pos pins s σ H _ I h) λus s1 ⟨vs,H1,I1,r1,q1⟩=>?_) hs rfl));obtain ⟨j,e,q1,q2,q⟩:=q1;subst e
 cases r1 with
 |cons r rr =>
  cases rr
  obtain ⟨t,rfl⟩:=r;exact call_range_1 (ae7 I1 (by omega) (by omega) q1 q2 (by simpa using q))
theorem aha{a b:Expr}{ta:TA}{p pos:Pos}(hg:Gl X "range")(hm:X.mg "range" = none)(ha:PA X [a,b] ta)(hs:starEach [a,b] X.env=[(false,eval a X.env),(false,eval b X.env)]:=by rfl)(hs2:starEach [b] X.env=[(false,eval b X.env)]:=by rfl) :
  PI X tg (.Call (.Name "range" p) [a,b] [] pos) (ayt ta):=by
 intro pins s σ H R I h
 refine Call_ (a5u I hg hm boot_range (bU (thn (ha pos pins s σ H _ I h) λus s1 ⟨vs,H1,I1,r1,q1⟩=>?_) (by rw [hs,hs2]) (by rw [hs2];rfl)))
 obtain ⟨i,j,e,⟨q1,q2,q3,q4⟩,q⟩:=q1;subst e
 cases r1 with
 |cons r rr =>
  cases rr with
  |cons r' rr =>
   cases rr
   obtain ⟨t,rfl⟩:=r;obtain ⟨t',rfl⟩:=r';exact call_range_2 (ae7 I1 q1 q2 q3 q4 q)
def b1o(wi:TI)(g:TG)(tb:TS):TS:=λD σ H=>wi σ H λJ H1=>∃W:Nat->Nat->St->Hp->Prop,(∃m,W 0 m σ H1)/\∀i m σ H,W i m σ H->
 (J.stop i H/\D.nx σ H)\/(J.go i H/\∃N:St->Hp->Prop,(∀σ' H',N σ' H'->∃m',m'<m/\W (i+1) m' σ' H')/\∀x H',J.yld i H x H'->g x σ H' λσ2 H2=>tb {D with nx:=N,ct:=N,bk:=D.nx} σ2 H2)
def xf(fp:List Addr)(h:Heap):List (Addr×Obj):=fp.filterMap λb=>(h.get? b).map λo=>(b,o)
theorem jz{h:Heap}(hb:b∈fp)(e:h.get? b=some o):(b,o)∈xf fp h:=eZ.mpr ⟨b,hb,by rw [e];rfl⟩
theorem aar(hp:p∈xf fp h):p.1∈fp/\h.get? p.1=some p.2:=by
 obtain ⟨b,hb,e⟩:=eZ.mp hp
 cases q:h.get? b with
 |none=>rw [q] at e;cases e
 |some o =>
  rw [q] at e;have e':(b,o)=p:=bH e;subst e';exact ⟨hb,q⟩
theorem Inv.pinned(I:Inv X pins σ H s)(hf:∀b∈fp,FpOk X pins H b)(ho:∀b∈fp,∃o,s.heap.get? b=some o/\∀v,o.data≠.cell v):Inv X (pins++xf fp s.heap) σ H s :=
 I.pins_of λp hp=>(bA.mp hp).elim (λz=>I.pin p (aJ _ z)) λz=>by
  obtain ⟨hb,e⟩:=aar z;obtain ⟨f0,f1,f2,_⟩:=hf p.1 hb;obtain ⟨o,e',d⟩:=ho p.1 hb;rw [e] at e';cases e'
  exact ⟨e,f0,f1,f2,d⟩
theorem Inv.unpinned(I:Inv X (pins++pl) σ H s):Inv X pins σ H s:=I.pins_of λp hp=>I.pin p (aJ _ (cH _ hp))
theorem au2{iter:Expr}{body:List Stmt}{wi:TI}{g:TG}{tb:TS}{pos:Pos}(hp:PassesOwn (model X.prog X.w) X.A X.env X.xe)(hc:X.calm=true)(hi:PI X tg iter wi)(hg:PG X tg g)(hb:PSs X body tb)
  (hs:∀x,foldedSetIterable iter X.env x=pure x:=by intro _;rfl):PS X (.For tg iter body [] pos) (b1o wi g tb):=by
 intro pins s σ H D I h
 refine wpAny_For (thn (hi pins s σ H _ I h) λv s1 h1=>thn h1 λitv s2 h2=>?_) hs;obtain ⟨it,fp,tn,J,H2,e,I2,T,st2,f2,W,⟨m0,w0⟩,turn⟩:=h2;subst e;have stat:∀{H':Hp},(∀b∈fp,H' b=none)->∀b∈fp,FpOk X pins H' b:=λhn b hb=>⟨hn b hb,(f2 b hb).2⟩;refine codeAny_forLoop_any (λn s'=>∃i σ' H',Inv X pins σ' H' s'/\tn i s'.heap/\(∀b∈fp,H' b=none)/\W i n σ' H') ?_ m0 ⟨0,σ,H2,I2,st2,λb hb=>(f2 b hb).1,w0⟩
 rintro n s3 ⟨i,σ3,H3,I3,st3,fr3,w3⟩
 rcases turn i n σ3 H3 w3 with ⟨stop,qn⟩|⟨go,N,hN,step⟩
 ·refine fg hp (thn (T.done X rfl rfl rfl hc i pins s3 σ3 H3 X.xe I3 (stat fr3) st3 stop) λr s4 ⟨hr,I4⟩=>?_);subst hr;exact eY ⟨σ3,H3,I4,qn⟩
 ·refine fg hp (thn (T.item X rfl rfl rfl hc i pins s3 σ3 H3 X.xe I3 (stat fr3) st3 go) λr s4 ⟨u,hr,h4⟩=>?_);subst hr;refine fg hp (thn h4 λ_ s5 ⟨x,H5,I5,r5,y5,st5,fr5⟩=>?_);have I5':=I5.pinned (stat fr5) (T.obj _ _ st5);refine fg hp (thn (hg _ s5 σ3 H5 x u _ I5' r5 (step x H5 y5)) λ_ s6 ⟨σ6,H6,I6,q6⟩=>?_);refine fg hp (thn (hb _ s6 σ6 H6 _ I6 q6) λf s7 q7=>?_);have again:∀{σ7:St} {H7:Hp},Inv X (pins++xf fp s5.heap) σ7 H7 s7->N σ7 H7->∃m,m<n/\∃i σ' H',Inv X pins σ' H' s7/\tn i s7.heap/\(∀b∈fp,H' b=none)/\W i m σ' H':=λ{σ7 H7} I7 n7=>by
   obtain ⟨m',hm,w7⟩:=hN σ7 H7 n7;refine ⟨m',hm,i+1,σ7,H7,I7.unpinned,T.keep _ _ _ st5 λb hb o e=>(I7.pin (b,o) (aJ _ (aJ _ (jz hb e)))).1,λb hb=>?_,w7⟩;obtain ⟨o,e,d⟩:=T.obj _ _ st5 b hb;exact (I7.pin (b,o) (aJ _ (aJ _ (jz hb e)))).2.1
  cases f with
  |next=>obtain ⟨σ7,H7,I7,n7⟩:=q7;exact again I7 n7
  |cont=>obtain ⟨σ7,H7,I7,n7⟩:=q7;exact again I7 n7
  |brk=>obtain ⟨σ7,H7,I7,q7⟩:=q7;exact ⟨σ7,H7,I7.unpinned,q7⟩
  |ret v=>obtain ⟨x7,σ7,H7,I7,r7,q7⟩:=q7;exact ⟨x7,σ7,H7,I7.unpinned,r7,q7⟩
end
abbrev R2:=V->V->Hp->VK->Prop
def OpR(X:Cx)(f:Value->Value->Sem Value)(r:R2):Prop :=
 ∀(pins:List (Addr×Obj)) (s:Shared) (σ:St) (H:Hp) (x y:V) (v u:Value) (Q:VK),Inv X pins σ H s->RelV x v->RelV y u->r x y H Q->
  wpAny (model X.prog X.w) X.A (f v u) (EP X pins σ Q) X.xe s
def CallR(X:Cx)(f:Value)(r:List V->Hp->VK->Prop):Prop :=
 ∀(pins:List (Addr×Obj)) (s:Shared) (σ:St) (H:Hp) (xs:List V) (us:List Value) (Q:VK),Inv X pins σ H s->Vals xs us->r xs H Q->
  wpAny (model X.prog X.w) X.A (call f us) (EP X pins σ Q) X.xe s
def b1p(X:Cx)(r:V->Hp->(Bool->Hp->Prop)->Prop):Prop :=
 ∀(pins:List (Addr×Obj)) (s:Shared) (σ:St) (H:Hp) (x:V) (v:Value) (Q:Bool->Hp->Prop),Inv X pins σ H s->RelV x v->r x H Q->
  wpAny (model X.prog X.w) X.A (truthy v) (TP X pins σ Q) X.xe s
def tOp(r:R2)(ta tb:TE):TE:=λσ H Q=>ta σ H λx H1=>tb σ H1 λy H2=>r x y H2 Q
def rI(C:Int->Int->Prop)(g:Int->Int->V):R2:=λx y H Q=>∃i j,x=.int i/\y=.int j/\C i j/\Q (g i j) H
def rI0(g:Int->Int->V):R2:=λx y H Q=>∃i j,x=.int i/\y=.int j/\Q (g i j) H
section
variable{X:Cx}{a b c:Expr}{ta tb tc:TE}{pos:Pos}
theorem ayu(ha:PE X a ta)(hb:PE X b tb){pins:List (Addr×Obj)}{s:Shared}{σ:St}{H:Hp}{R:V->V->Hp->Prop}(I:Inv X pins σ H s)
  (h:ta σ H λx H1=>tb σ H1 λy H2=>R x y H2) {Q:Value->Shared->Prop} {f:Value->Value->Sem Value}
  (hf:∀v u s2 x y H2,Inv X pins σ H2 s2->RelV x v->RelV y u->R x y H2->wpAny (model X.prog X.w) X.A (f v u) Q X.xe s2) :
  wpAny (model X.prog X.w) X.A (eval a X.env) (λv s₁=>wpAny (model X.prog X.w) X.A (eval b X.env) (λu s₂=>wpAny (model X.prog X.w) X.A (f v u) Q X.xe s₂) X.xe s₁) X.xe s:=by
 refine thn (ha pins s σ H _ I h) ?_
 rintro v s1 ⟨x,H1,I1,r1,q1⟩
 refine thn (hb pins s1 σ H1 _ I1 q1) ?_
 rintro u s2 ⟨y,H2,I2,r2,q2⟩
 exact hf v u s2 x y H2 I2 r1 r2 q2
theorem ayv{op:Operator}{r:R2}(ho:OpR X (binaryOp op) r)(ha:PE X a ta)(hb:PE X b tb):PE X (.BinOp a op b pos) (tOp r ta tb):=by
 intro pins s σ H Q I h
 exact wpAny_BinOp (ayu ha hb I h λv u s2 x y H2 I2 rx ry q=>ho pins s2 σ H2 x y v u Q I2 rx ry q)
theorem opI{f:Value->Value->Sem Value}{C:Int->Int->Prop}{g:Int->Int->Int}
  (rule:∀(i j:Int) (t u:Tok) (s:Shared) (Q:Value->Shared->Prop) (E:Value->Shared->Prop),C i j->Q (.int (g i j) s.toks) {s with toks:=s.toks+1}->wpAny (model X.prog X.w) X.A (f (.int i t) (.int j u)) Q E s) :
  OpR X f (rI C λi j=>.int (g i j)):=by
 intro pins s σ H x y v u Q I rx ry h
 obtain ⟨i,j,rfl,rfl,hc,q⟩:=h;obtain ⟨t,rfl⟩:=rx;obtain ⟨t',rfl⟩:=ry;exact rule i j t t' s _ _ hc ⟨.int (g i j),H,I.tok _,⟨_,rfl⟩,q⟩
theorem ay0{f:Value->Value->Sem Value}{g:Int->Int->Int}
  (rule:∀(i j:Int) (t u:Tok) (s:Shared) (Q:Value->Shared->Prop) (E:Value->Shared->Prop),Q (.int (g i j) s.toks) {s with toks:=s.toks+1}->wpAny (model X.prog X.w) X.A (f (.int i t) (.int j u)) Q E s) :
  OpR X f (rI0 λi j=>.int (g i j)):=by
 intro pins s σ H x y v u Q I rx ry h
 obtain ⟨i,j,rfl,rfl,q⟩:=h;obtain ⟨t,rfl⟩:=rx;obtain ⟨t',rfl⟩:=ry;exact rule i j t t' s _ _ ⟨.int (g i j),H,I.tok _,⟨_,rfl⟩,q⟩
theorem ay1{f:Value->Value->Sem Value}{g:Int->Int->Bool}
  (rule:∀(i j:Int) (t u:Tok) (s:Shared) (Q:Value->Shared->Prop) (E:Value->Shared->Prop),Q (.bool (g i j)) s->wpAny (model X.prog X.w) X.A (f (.int i t) (.int j u)) Q E s) :
  OpR X f (rI0 λi j=>.bl (g i j)):=by
 intro pins s σ H x y v u Q I rx ry h
 obtain ⟨i,j,rfl,rfl,q⟩:=h;obtain ⟨t,rfl⟩:=rx;obtain ⟨t',rfl⟩:=ry;exact rule i j t t' s _ _ ⟨.bl (g i j),H,I,rfl,q⟩
def ayw(i j:Int):Prop:=0<j/\j<1073741824
def b0a(i j:Int):Prop:=0<=j/\j<=1000000/\i.natAbs<2^64
def CMul(i j:Int):Prop:=(-(2^64)<i/\i<2^64)\/(-(2^64)<j/\j<2^64)
theorem CMul.ok(h:CMul i j):IntMulOk i j:=by
 rcases h with ⟨h1,h2⟩|⟨h1,h2⟩
 ·exact .of_left (intBits_le_64 h1 h2)
 ·exact .of_right (intBits_le_64 h1 h2)
theorem au3:OpR X (binaryOp .Add) (rI0 λi j=>.int (i+j)):=ay0 λ_ _ _ _ _ _ _ q=>add_int q
theorem au4:OpR X (binaryOp .Sub) (rI0 λi j=>.int (i-j)):=ay0 λ_ _ _ _ _ _ _ q=>sub_int q
theorem ao3:OpR X (binaryOp .Mult) (rI CMul λi j=>.int (i*j)):=opI λ_ _ _ _ _ _ _ hc q=>mul_int q hc.ok
theorem apv:OpR X (binaryOp .FloorDiv) (rI ayw λi j=>.int (i / j)):=opI λi j _ _ _ _ _ hc q=>by
 have h1:(0:Int)<j:=hc.1;have h2:j<1073741824:=hc.2;exact floordiv_int (by omega) (by rw [g9 i (by omega)];exact q) (.inl (PyProof.noPylong_small (by omega)))
theorem au5:OpR X (binaryOp .Mod) (rI (λ_ j=>0<j) λi j=>.int (i%j)):=opI λi j _ _ _ _ _ hc q=>by
 have h1:(0:Int)<j:=hc;exact mod_int' (by omega) (by rw [Int.fmod_eq_emod_of_nonneg i (by omega)];exact q)
theorem au6:OpR X (binaryOp .Pow) (rI b0a λi j=>.int (i^j.toNat)):=opI λ_ _ _ _ _ _ _ hc q=>pow_int_small hc.1 hc.2.1 hc.2.2 q
theorem a1t:OpR X (inplaceOp .Add) (rI0 λi j=>.int (i+j)):=ay0 λ_ _ _ _ _ _ _ q=>iadd_int q
theorem ahb:OpR X (inplaceOp .Sub) (rI0 λi j=>.int (i-j)):=ay0 λ_ _ _ _ _ _ _ q=>isub_int q
theorem al3:OpR X (inplaceOp .FloorDiv) (rI ayw λi j=>.int (i / j)):=opI λi j _ _ _ _ _ hc q=>by
 have h1:(0:Int)<j:=hc.1;have h2:j<1073741824:=hc.2;exact ifloordiv_int (by omega) (by rw [g9 i (by omega)];exact q) (.inl (PyProof.noPylong_small (by omega)))
end
section
variable{X:Cx}{a b c:Expr}{ta tb tc:TE}{pos:Pos}
theorem ahc(I:Inv X pins σ H s)(q:Q (.bl k) H)(e:k=k'):EP X pins σ Q (.bool k') s:=by
 subst e;exact ⟨.bl k,H,I,rfl,q⟩
theorem a88:OpR X (compareOp .Lt) (rI0 λi j=>.bl (decide (i<j))):=ay1 λ_ _ _ _ _ _ _ q=>lt_int q
theorem ahd:OpR X (compareOp .LtE) (rI0 λi j=>.bl (decide (i<=j))):=ay1 λ_ _ _ _ _ _ _ q=>le_int q
theorem al4:OpR X (compareOp .Gt) (rI0 λi j=>.bl (decide (j<i))):=ay1 λ_ _ _ _ _ _ _ q=>gt_int q
theorem apw:OpR X (compareOp .GtE) (rI0 λi j=>.bl (decide (j<=i))):=ay1 λ_ _ _ _ _ _ _ q=>ge_int q
theorem uq:OpR X (compareOp .Lt) (λx y H Q=>∃i j,x=.str i/\y=.str j/\Q (.bl (decide (i.cps.toList<j.cps.toList))) H):=by
 intro pins s σ H x y v u Q I rx ry h
 obtain ⟨i,j,rfl,rfl,q⟩:=h;obtain ⟨t,rfl⟩:=rx;obtain ⟨t',rfl⟩:=ry;exact lt_str (ahc I q rfl)
theorem ahe:OpR X (compareOp .In) (λx y H Q=>∃i j,x=.str i/\y=.str j/\Q (.bl (!(Builtin.Str.occurrences j i 0 j.length 1).isEmpty)) H):=by
 intro pins s σ H x y v u Q I rx ry h
 obtain ⟨i,j,rfl,rfl,q⟩:=h;obtain ⟨t,rfl⟩:=rx;obtain ⟨t',rfl⟩:=ry;exact in_str (ahc I q rfl)
theorem OpR.or(h:OpR X f r)(h':OpR X f r'):OpR X f (λx y H Q=>r x y H Q\/r' x y H Q):=by
 intro pins s σ H x y v u Q I rx ry q
 rcases q with q|q
 ·exact h pins s σ H x y v u Q I rx ry q
 ·exact h' pins s σ H x y v u Q I rx ry q
theorem yz(b:Expr)(h:op≠.In:=by decide)(h2:op≠.NotIn:=by decide):behindInMarks op b=false:=by
 have e1:(op == CmpOp.In)=false:=by cases op<;>first|rfl|exact absurd rfl h
 have e2:(op == CmpOp.NotIn)=false:=by cases op<;>first|rfl|exact absurd rfl h2
 cases b<;>simp [behindInMarks,e1,e2]
theorem apx(ho:OpR X (compareOp op) r)(ha:PE X a ta)(hb:PE X b tb)(hm:behindInMarks op b=false):PE X (.Compare a [op] [b] pos) (tOp r ta tb):=by
 intro pins s σ H Q I h
 exact wpAny_Compare1 (ayu ha hb I h λv u s2 x y H2 I2 rx ry q=>ho pins s2 σ H2 x y v u Q I2 rx ry q) hm
def apy(t:TE):TT:=λσ H Q=>t σ H λx H'=>∃k,x=.bl k/\Q k H'
theorem apz{op:CmpOp}{r:R2}(ho:OpR X (compareOp op) r)(ha:PE X a ta)(hb:PE X b tb)(hm:behindInMarks op b=false):PT X (.Compare a [op] [b] pos) (apy (tOp r ta tb)):=by
 intro pins s σ H Q I h
 refine wpAny_isTrue_Compare1 (thn (ha pins s σ H _ I h) λv s1 ⟨x,H1,I1,r1,q1⟩=>thn (hb pins s1 σ H1 _ I1 q1) λu s2 ⟨y,H2,I2,r2,q2⟩ =>
  thn (ho pins s2 σ H2 x y v u _ I2 r1 r2 q2) λc s3 ⟨z,H3,I3,r3,k,e,q3⟩=>?_) hm
 subst e;cases r3
 exact dQ ⟨H3,I3,q3⟩
def ao4(r r':R2)(ta tb tc:TE):TE:=λσ H Q=>ta σ H λx H1=>tb σ H1 λy H2=>r x y H2 λz H3=>∃k,z=.bl k /\
 (if k=true then tc σ H3 λw' H4=>r' y w' H4 Q else Q (.bl false) H3)
theorem al5{op op':CmpOp}{r r':R2}(ho:OpR X (compareOp op) r)(ho':OpR X (compareOp op') r')(ha:PE X a ta)(hb:PE X b tb)(hc:PE X c tc)
  (hm:lastMarks [op,op'] [b,c]=false:=by with_unfolding_all rfl):PT X (.Compare a [op,op'] [b,c] pos) (apy (ao4 r r' ta tb tc)):=by
 intro pins s σ H Q I h
 refine isTrue_chain (thn (ha pins s σ H _ I h) λv s1 ⟨x,H1,I1,r1,q1⟩=>test_link (thn (hb pins s1 σ H1 _ I1 q1) λu s2 ⟨y,H2,I2,r2,q2⟩ =>
  thn (ho pins s2 σ H2 x y v u _ I2 r1 r2 q2) λd s3 ⟨z,H3,I3,r3,k,e,q3⟩=>?_)) hm
 subst e;cases r3
 refine dQ ?_
 cases k with
 |false =>
  obtain ⟨k',e',q'⟩:=q3
  cases e'
  exact ite_ff ⟨H3,I3,q'⟩
 |true =>
  refine ite_tt (test_last (thn (hc pins s3 σ H3 _ I3 q3) λw' s4 ⟨z',H4,I4,r4,q4⟩=>thn (ho' pins s4 σ H4 y z' u w' _ I4 r2 r4 q4) λd' s5 ⟨z2,H5,I5,r5,k2,e2,q5⟩=>?_));subst e2;cases r5
  exact dQ ⟨H5,I5,q5⟩
def ayx(K:PySem.W.Frag)(x:V)(H:Hp)(k:Bool):Prop :=
 match x with
 |.non=>k=false
 |.bl b=>k=b
 |.int i=>k=(i != 0)
 |.str y=>y.length<=sizeLine/\k=((y.length:Int) != 0)
 |.byt y=>y.size<=sizeLine/\k=((y.size:Int) != 0)
 |.ref p=>(∃xs,SqL K H p xs/\k = !xs.isEmpty)\/(∃xs,SqT K H p xs/\k = !xs.isEmpty)\/∃kvs,H p=some (.dK kvs)/\k = !kvs.isEmpty
 |_=>False
theorem afn{κ:Type}{kvs:List (κ×V)}{vs:List (κ×Value)}(r:KV kvs vs):(!vs.isEmpty) = !kvs.isEmpty:=by
 cases r<;>rfl
theorem a8g(r:Vals xs its):(!its.toArray.isEmpty) = !xs.isEmpty:=by
 cases r<;>simp
theorem a5v:(sizeLine:Nat)<2^63:=by rw [fD];decide
theorem au7:b1p X (λx H Q=>∃k,ayx X.K x H k/\Q k H):=by
 intro pins s σ H x v Q I rx h
 obtain ⟨k,e,q⟩:=h;have hl:=a5v;have hs:sizeLine=16777216:=fD
 cases x with
 |non =>
  cases rx
  have e':k=false:=e;subst e';exact truthy_none ⟨H,I,q⟩
 |bl b =>
  cases rx
  have e':k=b:=e;subst e';exact dQ ⟨H,I,q⟩
 |int i =>
  obtain ⟨t,rfl⟩:=rx;have e':k=(i != 0):=e;subst e';exact PySem.P.truthy_int ⟨H,I,q⟩
 |str y =>
  obtain ⟨t,rfl⟩:=rx;obtain ⟨hy,e'⟩:y.length<=sizeLine/\k=((y.length:Int) != 0):=e;subst e';exact PySem.P.truthy_str (by omega) ⟨H,I.tok _,q⟩
 |byt y =>
  obtain ⟨t,rfl⟩:=rx;obtain ⟨hy,e'⟩:y.size<=sizeLine/\k=((y.size:Int) != 0):=e;subst e';exact PySem.W.truthy_bytes (by omega) ⟨H,I.tok _,q⟩
 |ref p =>
  cases rx
  have e':(∃xs,SqL X.K H p xs/\k = !xs.isEmpty)\/(∃xs,SqT X.K H p xs/\k = !xs.isEmpty)\/∃kvs,H p=some (.dK kvs)/\k = !kvs.isEmpty:=e
  rcases e' with ⟨xs,hx,e'⟩|⟨xs,hx,e'⟩|⟨kvs,hx,e'⟩
  ·subst e';obtain ⟨its,r,pl,hz⟩:=I.list hx;have hlen:=r.length;exact wpAny_truthy_list pl.isList (by simp only [aA];omega) ⟨H,I.tok _,by rw [a8g r];exact q⟩
  ·subst e';obtain ⟨its,r,pl,hz⟩:=I.tuple hx;have hlen:=r.length;exact truthy_tuple pl (by simp only [aA];omega) ⟨H,I.tok _,by rw [a8g r];exact q⟩
  ·subst e';obtain ⟨hz,hS,vs,r,m⟩:kvs.length<=sizeLine/\(p == sysModules)=false/\∃vs,KV kvs vs/\s.heap.DictOf (a6v X.prog X.w) p vs:=I.hok p _ hx;have hlen:kvs.length=vs.length:=Paired.length r;exact wpAny_truthy_dict hS m (by omega) ⟨H,I.tok _,by rw [afn r];exact q⟩
 |_=>exact (show False from e).elim
theorem al6(ha:PE X a ta)(he:∀whole,isTrue a X.env whole=(do let v <-whole;standAt a.pos;holding [v] (truthy v))) :
  PT X a (λσ H Q=>ta σ H λx H'=>∃k,ayx X.K x H' k/\Q k H'):=by
 intro pins s σ H Q I h
 exact isTrue_plain (thn (ha pins s σ H _ I h) λv s1 ⟨x,H1,I1,r1,q1⟩=>au7 pins s1 σ H1 x v Q I1 r1 q1) (he _)
theorem afo:OpR X (binaryOp .Add) (λx y H Q=>∃i j,x=.str i/\y=.str j/\i.length+j.length<=sizeLine/\Q (.str (i++j)) H):=by
 intro pins s σ H x y v u Q I rx ry h
 obtain ⟨i,j,rfl,rfl,hz,q⟩:=h;obtain ⟨t,rfl⟩:=rx;obtain ⟨t',rfl⟩:=ry;exact add_str (λt' tk=>⟨.str (i++j),H,I.tok _,⟨_,rfl⟩,q⟩) hz
theorem u5:OpR X (inplaceOp .Add) (λx y H Q=>∃i j,x=.str i/\y=.str j/\i.length+j.length<=sizeLine/\Q (.str (i++j)) H):=by
 intro pins s σ H x y v u Q I rx ry h
 obtain ⟨i,j,rfl,rfl,hz,q⟩:=h;obtain ⟨t,rfl⟩:=rx;obtain ⟨t',rfl⟩:=ry;exact iadd_str (λt' tk=>⟨.str (i++j),H,I.tok _,⟨_,rfl⟩,q⟩) hz
theorem vals1(r:Vals [x] us):∃u,us=[u]/\RelV x u:=by
 cases r with
 |cons r1 r2=>cases r2;exact ⟨_,rfl,r1⟩
theorem vals2(r:Vals [x,y] us):∃u w',us=[u,w']/\RelV x u/\RelV y w':=by
 cases r with
 |cons r1 r2 =>
  cases r2 with
  |cons r3 r4=>cases r4;exact ⟨_,_,rfl,r1,r3⟩
theorem al7:CallR X (.builtin "abs") (λxs H Q=>∃i,xs=[.int i]/\Q (.int (if i<0 then -i else i)) H):=by
 intro pins s σ H xs us Q I r h
 obtain ⟨i,rfl,q⟩:=h;obtain ⟨u,rfl,t,rfl⟩:=vals1 r;exact call_abs_int λu tk=>⟨.int (if i<0 then -i else i),H,I.tok _,⟨_,rfl⟩,q⟩
theorem ahf(hc:X.calm=true):CallR X (.builtin "max") (λxs H Q=>∃i j,xs=[.int i,.int j]/\Q (.int (if j > i then j else i)) H):=by
 intro pins s σ H xs us Q I r h
 obtain ⟨i,j,rfl,q⟩:=h;obtain ⟨u,w',rfl,⟨t,rfl⟩,⟨t',rfl⟩⟩:=vals2 r;refine max_two_ints (I.ok.hd hc) λh' tk k=>⟨_,H,I.kept k,?_,q⟩
 by_cases hj:j > i
 ·rw [aC hj,aC hj];exact ⟨_,rfl⟩
 ·rw [aQ hj,aQ hj];exact ⟨_,rfl⟩
theorem ahg:CallR X (.type "int") (λxs H Q=>(∃i,xs=[.int i]/\Q (.int i) H)\/∃k,xs=[.bl k]/\Q (.int (if k then 1 else 0)) H):=by
 intro pins s σ H xs us Q I r h
 rcases h with ⟨i,rfl,q⟩|⟨k,rfl,q⟩
 ·obtain ⟨u,rfl,t,rfl⟩:=vals1 r;exact call_int_int ⟨.int i,H,I,⟨_,rfl⟩,q⟩
 ·obtain ⟨u,rfl,r1⟩:=vals1 r;cases r1
  exact call_int_bool ⟨.int (if k then 1 else 0),H,I.tok _,⟨_,rfl⟩,q⟩
end
structure ObjM (h:Heap) (x dx C:Addr) (mA:Str->Option Value):Prop where
 obj:h.get? x=some (PySem.W.instObj C dx)
 ns:h.Ns1 dx mA
 ne:dx≠x
theorem ahh{h:Heap}(n:h.Ns1 dx mA):∃od,h.get? dx=some od/\∀name,PySem.W.lookIn name od=some (mA name):=by
 obtain ⟨o,es,ep,ho,hd,hk,_,hm⟩:=n;refine ⟨o,ho,λname=>?_⟩;have e:=hm name;unfold nsFind findBy at e;rw [<-Array.find?_toList] at e;unfold PySem.W.lookIn;rw [hd];dsimp only
 split
 ·rename_i y q;rw [q] at e;exact af some e
 ·rename_i q;rw [q] at e;have a:es.toList.any (·.refKey)=false:=by
   rw [List.any_eq_false]
   intro y hy
   obtain ⟨z,t,hkey⟩:=hk y (Array.mem_toList_iff.mp hy);simp [DictEntry.refKey,hkey]
  have a':¬ es.toList.any (·.refKey)=true:=by rw [a];exact aM
  rw [aQ a'];exact af some e
theorem ObjM.look(I:ObjM h x dx C mA):∃od,PySem.W.InstAt h x (PySem.W.instObj C dx) C (some od)/\∀name,PySem.W.lookIn name od=some (mA name) :=
 let ⟨od,ho,hl⟩:=ahh I.ns
 ⟨od,⟨I.obj,rfl,rfl,ho⟩,hl⟩
section
variable{prog:Program}{w:World}{A:Around}{E:Value->Shared->Prop}{s:Shared}{K:PySem.W.Frag}{x dx C f:Addr}{mA:Str->Option Value}{name:Str}{v:Value}
theorem ahi(X:K.In s.heap)(I:ObjM s.heap x dx C mA)(hg:PySem.W.plainGet K C name=true)(hh:PySem.W.hasDictIn K C=true)
  (ha:PySem.W.findIn K (.ref C) name=some none) (hv:mA name=some v) (hv':PySem.W.handedIn v=true) (h:Q v {s with toks:=s.toks+1}) :
  wpAny (model prog w) A (getAttr (.ref x) name expr) Q E s:=by
 obtain ⟨od,J,hl⟩:=I.look;exact PySem.W.get_value X J (PySem.W.plainGet_of hg).1 (PySem.W.findObj_own hh ha rfl (by rw [hl,hv])) hv' h
theorem aq0(X:K.In s.heap)(I:ObjM s.heap x dx C mA)
  (hs:PySem.W.findIn K (.ref C) "__setattr__" = some (some (.builtin "object.__setattr__"))) (hp:PySem.W.plainOver K C=true) (ht:PySem.W.takerIn K C name=some none) (hh:PySem.W.hasDictIn K C=true)
  (hw:PySem.Within mA ns) (hsz:ns.length<=sizeLine)
  (h:∀h',ObjM h' x dx C (λy=>if y=name then some v else mA y)->Heap.SameBut dx s.heap h'->Q () {s with heap:=h',toks:=s.toks+2}) :
  wpAny (model prog w) A (setAttr (.ref x) name v) Q E s:=by
 obtain ⟨od,J,hl⟩:=I.look;refine PySem.W.set_plain X J hs (PySem.W.osa_open (s:={s with toks:=s.toks+1}) (r:=none) X J hp ht λb=>?_)
 obtain ⟨cd,hc,hd'⟩:=PySem.W.any_some hh;have hx:s.heap.get? x=some ⟨.ref C,some dx,.plain, #[]⟩:=I.obj;refine ae (aw (ae (ae (wpAny_loadPart hx (ae (PySem.W.Looks.here (s:={s with toks:=s.toks+1}) (PySem.W.looks_clsIn X hc) ?_))))))
 rw [hd'];refine aw (a:=some dx) (ae (aw (ae ?_)));refine wpAny_nsSet1 (s:={s with toks:=s.toks+1}) I.ns λh' hn2 hs2=>?_
 obtain ⟨oD,esD,epD,hoD,hdD,hcD⟩:=hn2.count (PySem.Within.cons name v hw);refine ae (wpAny_lookBehind hoD (by rw [hdD];exact pastItsLine_dict (bG hcD (by rw [aF];omega))) ?_)
 exact aw (h _ ⟨(hs2.2 _ (eX I.ne)).trans I.obj,hn2,I.ne⟩ hs2)
theorem al8(X:K.In s.heap)(hm:PySem.W.makesIn K C=true)
  (hi:PySem.W.findIn K (.ref C) "__init__" = some (some (.ref f))) (hf:PySem.W.typeIn K (.ref f)=some (.type "function"))
  (h:codeAny (model prog w) (A.under (.builtin "type.__call__" ⟨.ref C::vs,kw⟩)) (.call (.ref f) ⟨.ref (s.heap.objs.size+1)::vs,kw⟩) (PySem.W.InitBack (s.heap.objs.size+1) R)
   {s with heap:=(s.heap.push PySem.W.emptyDict).push (PySem.W.instObj C s.heap.objs.size)}) :
  codeAny (model prog w) A (.call (.ref C) ⟨vs,kw⟩) R s:=by
 obtain ⟨hh,g,d,t,os⟩:=s;exact PySem.W.make_core (PySem.W.makes_of X hm) (PySem.W.looks_findIn X hi) (λself=>PySem.W.bind_fn X self hf) (.inl rfl) h
end
def a9b(f:Str)(v:V):List (Str×V)->List (Str×V)
 |[]=>[(f,v)]
 |(g,x)::r=>if g=f then (g,v)::r else (g,x)::a9b f v r
theorem a6w(f g:Str)(v:V):∀fs:List (Str×V),(a9b f v fs).lookup g=if g=f then some v else fs.lookup g
 |[]=>by
  show List.lookup g [(f,v)]=_
  by_cases h:g=f
  ·have hb:(g == f)=true:=eB.mpr h;simp only [List.lookup,hb,aC h]
  ·have hb:(g == f)=false:=bM.mpr h;simp only [List.lookup,hb,aQ h]
 |(k,x)::r=>by
  have ih:=a6w f g v r;rw [show a9b f v ((k,x)::r)=(if k=f then (k,v)::r else (k,x)::a9b f v r) from rfl]
  by_cases hk:k=f
  ·rw [aC hk]
   by_cases h:g=k
   ·have hb:(g == k)=true:=eB.mpr h;simp only [List.lookup,hb,aC (h.trans hk)]
   ·have hb:(g == k)=false:=bM.mpr h;simp only [List.lookup,hb,aQ (λe:g=f=>h (e.trans hk.symm))]
  ·rw [aQ hk]
   by_cases h:g=k
   ·have hb:(g == k)=true:=eB.mpr h;simp only [List.lookup,hb,aQ (λe:g=f=>hk (h.symm.trans e))]
   ·have hb:(g == k)=false:=bM.mpr h;simp only [List.lookup,hb];exact ih
theorem a6x(f:Str)(v:V):∀fs:List (Str×V),f∈(a9b f v fs).map (·.1)/\∀g,g∈fs.map (·.1)->g∈(a9b f v fs).map (·.1)
 |[]=>⟨by simp [a9b],λg h=>by simp at h⟩
 |(k,x)::r=>by
  obtain ⟨i1,i2⟩:=a6x f v r;rw [show a9b f v ((k,x)::r)=(if k=f then (k,v)::r else (k,x)::a9b f v r) from rfl]
  by_cases hk:k=f
  ·rw [aC hk];subst hk;exact ⟨by simp,λg h=>by simpa using h⟩
  ·rw [aQ hk];refine ⟨?_,λg h=>?_⟩
   ·rw [bp];exact aL _ i1
   ·rw [bp] at h ⊢
    rcases aD.mp h with e|e
    ·exact aD.mpr (.inl e)
    ·exact aL _ (i2 g e)
theorem a6y(f:Str)(v:V):∀fs:List (Str×V),(a9b f v fs).length<=fs.length+1
 |[]=>by simp [a9b]
 |(k,x)::r=>by
  have ih:=a6y f v r;rw [show a9b f v ((k,x)::r)=(if k=f then (k,v)::r else (k,x)::a9b f v r) from rfl]
  by_cases hk:k=f
  ·rw [aC hk,aF,aF];omega
  ·rw [aQ hk,aF,aF];omega
theorem RelO.some_of(r:RelO (some v) o):∃u,o=some u/\RelV v u:=by
 cases o with
 |none=>exact (show False from r).elim
 |some u=>exact ⟨u,rfl,r⟩
theorem aas(r:RelV v u):PySem.W.handedIn u=true:=by
 cases v with
 |non=>cases (show u=Value.none from r);rfl
 |bl b=>cases (show u=Value.bool b from r);rfl
 |int i=>obtain ⟨t,e⟩:=(show ∃t,u=Value.int i t from r);cases e;rfl
 |str x=>obtain ⟨t,e⟩:=(show ∃t,u=Value.str x t from r);cases e;rfl
 |byt b=>obtain ⟨t,e⟩:=(show ∃t,u=Value.bytes b t from r);cases e;rfl
 |flt b=>obtain ⟨t,e⟩:=(show ∃t,u=Value.float b t from r);cases e;rfl
 |ref a=>cases (show u=Value.ref a from r);rfl
 |ty n=>cases (show u=Value.type n from r);rfl
section
variable{P:Program}{w:World}{H H':Hp}{h h':Heap}{a C dx:Addr}{fs fs':List (Str×V)}
theorem acl(hok:HOk P w H h)(e:H a=some (.ins C dx fs)):∃mA,ObjM h a dx C mA/\(∀f,RelO (fs.lookup f) (mA f))/\PySem.Within mA (fs.map (·.1))/\fs.length<=1000/\H dx=some (.own a):=by
 obtain ⟨d,z,ne,ob,mA,n,r,q⟩:=(show ObjOk P w H h a (.ins C dx fs) from hok a _ e)
 exact ⟨mA,⟨ob,n,ne⟩,r,q,z,d⟩
end
structure Cls (K:PySem.W.Frag) (C:Addr):Prop where
 pg:PySem.W.plainGet K C Str.empty=true
 hd:PySem.W.hasDictIn K C=true
 po:PySem.W.plainOver K C=true
 sa:PySem.W.findIn K (.ref C) "__setattr__" = some (some (.builtin "object.__setattr__"))
theorem Cls.get{K:PySem.W.Frag}{C:Addr}(c:Cls K C)(f:Str):PySem.W.plainGet K C f=true:=c.pg
def NoAttr(K:PySem.W.Frag)(C:Addr)(f:Str):Prop:=PySem.W.findIn K (.ref C) f=some none
theorem NoAttr.taker{K:PySem.W.Frag}{C:Addr}{f:Str}(n:NoAttr K C f):PySem.W.takerIn K C f=some none:=by
 unfold PySem.W.takerIn;rw [show PySem.W.findIn K (.ref C) f=some none from n]
 rfl
section
variable{X:Cx}{pins:List (Addr×Obj)}{σ:St}{H:Hp}{s:Shared}{a C dx:Addr}{fs:List (Str×V)}{f:Str}{v:V}{A:Around}{E:Value->Shared->Prop}
theorem afp(I:Inv X pins σ H s)(e:H a=some (.ins C dx fs))(c:Cls X.K C)(n:NoAttr X.K C f)(l:fs.lookup f=some v)
  (h:∀u s',Inv X pins σ H s'->RelV v u->Q u s'):wpAny (model X.prog X.w) A (getAttr (.ref a) f b) Q E s:=by
 obtain ⟨mA,O,r,_,_,_⟩:=acl I.hok e;obtain ⟨u,hu,ru⟩:=RelO.some_of (v:=v) (o:=mA f) (by rw [<-l];exact r f)
 exact ahi I.kIn O (c.get f) c.hd n hu (aas ru) (h u _ (I.tok _) ru)
theorem afq(I:Inv X pins σ H s)(e:H a=some (.ins C dx fs))(c:Cls X.K C)(n:NoAttr X.K C f)(hl:fs.length<1000)(ry:RelV y u)
  (h:∀s',Inv X pins σ (upd H a (.ins C dx (a9b f y fs))) s'->Q () s'):wpAny (model X.prog X.w) A (setAttr (.ref a) f u) Q E s:=by
 obtain ⟨mA,O,r,wi,_,ho⟩:=acl I.hok e;have hz:(fs.map (·.1)).length<=sizeLine:=by rw [ax,fD];omega
 refine aq0 I.kIn O c.sa c.po n.taker c.hd wi hz λh' O' sb=>h _ ?_;have hd:∃o,h'.get? dx=some o:=let ⟨o,_,_,e',_⟩:=O'.ns; ⟨o,e'⟩;refine I.write (x:=a) (e:=dx) (by rw [e];exact True.intro) (.inr ho) (λb q hb z=>(sb.2 b hb).trans z) hd ?_
 refine ⟨by rw [jh O.ne];exact ho,?_,O.ne,O'.obj,_,O'.ns,λg=>?_,λg hg=>?_⟩
 ·have:=a6y f y fs;omega
 ·show RelO ((a9b f y fs).lookup g) (if g=f then some u else mA g)
  rw [a6w]
  by_cases q:g=f
  ·rw [aC q,aC q];exact ry
  ·rw [aQ q,aQ q];exact r g
 ·by_cases q:g=f
  ·rw [q];exact (a6x f y fs).1
  ·refine (a6x f y fs).2 g (wi g λz=>hg ?_);show (if g=f then some u else mA g)=none
   rw [aQ q];exact z
theorem Inv.made(I:Inv X pins σ H s):Inv X pins σ (upd (upd H s.heap.objs.size (.own (s.heap.objs.size+1))) (s.heap.objs.size+1) (.ins C s.heap.objs.size []))
  {s with heap:=(s.heap.push PySem.W.emptyDict).push (PySem.W.instObj C s.heap.objs.size)}:=by
 have e1:(s.heap.push PySem.W.emptyDict).get? s.heap.objs.size=some PySem.W.emptyDict:=aK s.heap rfl;have e2:((s.heap.push PySem.W.emptyDict).push (PySem.W.instObj C s.heap.objs.size)).get? (s.heap.objs.size+1)=some (PySem.W.instObj C s.heap.objs.size):=by
  have:=aK (s.heap.push PySem.W.emptyDict) (o:=PySem.W.instObj C s.heap.objs.size) rfl
  rwa [dN] at this
 have e3:(s.heap.push PySem.W.emptyDict).Ns s.heap.objs.size (λ_=>none):=⟨PySem.W.emptyDict, #[],_,e1,rfl,(λe he=>absurd he (by simp)),λ_=>rfl⟩
 have I1:=I.laid (a:=s.heap.objs.size) (o:=.own (s.heap.objs.size+1)) (h':=s.heap.push PySem.W.emptyDict) (t':=s.toks) (λb u q=>ai _ q) (ay _) ⟨_,e1⟩;refine I1.laid (a:=s.heap.objs.size+1) (o:=.ins C s.heap.objs.size []) (t':=s.toks) (λb u q=>ai _ q) (Nat.le_of_eq (dN _ _)) ?_;have ne:s.heap.objs.size≠s.heap.objs.size+1:=aX (eM _);refine ⟨by rw [jh ne,ou],aU _,ne,e2,λ_=>none,(Heap.Ns1.of_empty e3).at λo q=>ai _ q,λ_=>True.intro,λy hy=>absurd rfl hy⟩
theorem aq1(hb:attributeBase e f env (eval e env)=eval e env)
  (h:wpAny (model prog w) A (eval e env) (λo s₁=>wpAny (model prog w) A (getAttr o f true) Q E s₁) E s):wpAny (model prog w) A (eval (.Attribute e f pos) env) Q E s :=
 Attribute_any_ h (by rw [arm_eval_Attribute,hb])
end
def b1q(K:PySem.W.Frag)(ta tv:TE)(f:Str):TS:=λD σ H=>tv σ H λy H1=>ta σ H1 λx H2=>∃a C dx fs,x=.ref a/\H2 a=some (.ins C dx fs)/\Cls K C/\NoAttr K C f/\fs.length<1000 /\
 D.nx σ (upd H2 a (.ins C dx (a9b f y fs)))
section
variable{X:Cx}{o e value:Expr}{f:Str}{pos pos' tpos:Pos}{ta tv:TE}
theorem au8(ha:PE X o ta)(hv:PE X value tv)(hs:swapsWith value (some (.Attribute o f pos')) pos.line X.env=pure false):PS X (.Assign [.Attribute o f pos'] value pos) (b1q X.K ta tv f):=by
 intro pins s σ H D I h
 refine plainObj_wpAny_Assign_Attribute (thn (hv pins s σ H _ I h) λu s1 ⟨y,H1,I1,ry,q⟩=>thn (ha pins s1 σ H1 _ I1 q) λov s2 ⟨x,H2,I2,rx,a,C,dx,fs,ex,ea,c,n,l,q2⟩=>?_) hs;subst ex;obtain rfl:ov=Value.ref a:=rx;exact afq I2 ea c n l ry λs3 I3=>⟨σ,_,I3,q2⟩
end
section
variable{X:Cx}{pins:List (Addr×Obj)}{σ:St}{H:Hp}{s:Shared}{A:Around}{E:Value->Shared->Prop}{Q:Value->Shared->Prop}{c:Value}{b:Bool}
inductive TyOf (K:PySem.W.Frag) (H:Hp):V->Value->Prop where
 |non:TyOf K H .non (.type "NoneType")
 |bl (x:Bool):TyOf K H (.bl x) (.type "bool")
 |int (i:Int):TyOf K H (.int i) (.type "int")
 |str (x:Str):TyOf K H (.str x) (.type "str")
 |flt (x:UInt64):TyOf K H (.flt x) (.type "float")
 |lst {a:Addr} {xs:List V} (e:H a=some (.lst xs)):TyOf K H (.ref a) (.type "list")
 |frz {a:Addr} {o:Obj} {xs:List V} (e:H a=some (.frz o (.lst xs))):TyOf K H (.ref a) (.type "list")
 |tup {a:Addr} {xs:List V} (e:H a=some (.tup xs)):TyOf K H (.ref a) (.type "tuple")
 |dK {a:Addr} {kvs:List (Key×V)} (e:H a=some (.dK kvs)):TyOf K H (.ref a) (.type "dict")
 |dT {a:Addr} {kvs:List (List Key×V)} (e:H a=some (.dT kvs)):TyOf K H (.ref a) (.type "dict")
 | ins {a C dx:Addr} {fs:List (Str×V)} (e:H a=some (.ins C dx fs)) (cl:Cls K C) (ha:PySem.W.findIn K (.ref C) "__class__" = some (some (.builtin "object.__class__")))
   (hn:PySem.W.specialIn K (.builtin "object.__class__") "__get__" = some (some (.builtin "getset_descriptor.__get__"))) (htk:PySem.W.takesIn K (.builtin "object.__class__")=some true)
   (hm:PySem.W.mroIn K C (.type "object")=some true):TyOf K H (.ref a) (.ref C)
theorem ahj(I:Inv X pins σ H s)(rx:RelV x u)(ty:TyOf X.K H x t)(e:PySem.W.kitOne X.K t c=some b)(h:∀tk,Q (.bool b) {s with toks:=tk}) :
  wpAny (model X.prog X.w) A (call (.builtin "isinstance") [u,c]) Q E s:=by
 cases ty with
 |non=>cases (show u=Value.none from rx);exact bN PySem.W.kitx_none I.kIn True.intro e (λz=>nomatch z) h
 |bl y=>cases (show u=Value.bool y from rx);exact bN PySem.W.kitx_bool I.kIn True.intro e (λz=>nomatch z) h
 |int i=>obtain ⟨t,q⟩:=(show ∃t,u=Value.int i t from rx);cases q;exact bN PySem.W.kitx_int I.kIn True.intro e (λz=>nomatch z) h
 |str y=>obtain ⟨t,q⟩:=(show ∃t,u=Value.str y t from rx);cases q;exact bN PySem.W.kitx_str I.kIn True.intro e (λz=>nomatch z) h
 |flt y=>obtain ⟨t,q⟩:=(show ∃t,u=Value.float y t from rx);cases q;exact bN PySem.W.kitx_float I.kIn True.intro e (λz=>nomatch z) h
 |@lst a xs ea =>
  cases (show u=Value.ref a from rx)
  obtain ⟨_,_,n,_,h1⟩:=(show ObjOk X.prog X.w H s.heap a (.lst xs) from I.hok a _ ea)
  exact bN PySem.W.kitx_list I.kIn ⟨_,h1,rfl⟩ e (λz=>nomatch z) h
 |@frz a ob xs ea =>
  cases (show u=Value.ref a from rx)
  obtain ⟨_,_,_,n,_,h1⟩:=(show ObjOk X.prog X.w H s.heap a (.frz ob (.lst xs)) from I.hok a _ ea)
  exact bN PySem.W.kitx_list I.kIn ⟨_,h1,rfl⟩ e (λz=>nomatch z) h
 |@tup a xs ea =>
  cases (show u=Value.ref a from rx)
  obtain ⟨_,_,_,p⟩:=(show ObjOk X.prog X.w H s.heap a (.tup xs) from I.hok a _ ea)
  obtain ⟨o,h1,h2,_⟩:=p;exact bN PySem.W.kitx_tuple I.kIn ⟨o,h1,h2⟩ e (λz=>nomatch z) h
 |@dK a kvs ea =>
  cases (show u=Value.ref a from rx)
  obtain ⟨_,_,vs,_,p⟩:=(show ObjOk X.prog X.w H s.heap a (.dK kvs) from I.hok a _ ea)
  obtain ⟨o,es,ep,h1,h2,_⟩:=p;exact bN gL I.kIn ⟨o,h1,h2.1⟩ e (λz=>nomatch z) h
 |@dT a kvs ea =>
  cases (show u=Value.ref a from rx)
  obtain ⟨_,_,xs,_,o,es,ep,h1,h2,_⟩:=(show ObjOk X.prog X.w H s.heap a (.dT kvs) from I.hok a _ ea)
  exact bN gL I.kIn ⟨o,h1,h2.1⟩ e (λz=>nomatch z) h
 |@ins a C dx fs ea cl ha hn htk hm =>
  cases (show u=Value.ref a from rx)
  obtain ⟨mA,O,_⟩:=acl I.hok ea;obtain ⟨od,J,_⟩:=O.look;exact bN (PySem.W.kitx_own (cl.get _) cl.hd ha hn htk hm) I.kIn J e (λz=>nomatch z) h
end
structure Room (k:Nat) (A:Around):Prop where
 hd:A.handled=none
 dp:A.depth+3*k+5<recursionLimit
 un:A.units+16*k+200<cLine
 gd:A.guards=some []
theorem Room.mono(r:Room k A)(h:j<=k):Room j A:=⟨r.hd,by have:=r.dp;omega,by have:=r.un;omega,r.gd⟩
theorem Room.deeper(r:Room (k+1) A)(env:Env):Room k (A.deeper env) :=
 ⟨r.hd,by have:=r.dp;show A.depth+1+3*k+5<_;omega,by have:=r.un;show A.units+3+16*k+200<_;omega,r.gd⟩
theorem afr{A:Around}:(A.under (.builtin "type.__call__" ⟨.ref C::us,kw⟩)).depth=A.depth+1:=by
 first|rfl|simp [Around.under,Code.weight,Code.isCreation,Code.isGuard,Code.isCaller,Code.frames,Code.isFrame,guardIds]
theorem afs{A:Around}:(A.under (.builtin "type.__call__" ⟨.ref C::us,kw⟩)).units=A.units+1:=by
 first|rfl|simp [Around.under,Code.cUnits,Code.frames,Code.isFrame]
theorem acn{A:Around}:(A.under (.builtin "type.__call__" ⟨.ref C::us,kw⟩)).guards=A.guards:=by
 obtain ⟨_,_,_,g,_⟩:=A
 cases g<;>first|rfl|simp [Around.under,pushGuards,Code.guards,Code.isGuard,guardIds]
theorem Room.make(r:Room (k+1) A)(C:Addr)(us:List Value)(kw:List (Str×Value)):Room k (A.under (.builtin "type.__call__" ⟨.ref C::us,kw⟩)) :=
 ⟨r.hd,by have:=r.dp;rw [afr];omega,by have:=r.un;rw [afs];omega,by rw [acn];exact r.gd⟩
theorem Room.depth(r:Room k A):A.depth<recursionLimit:=by have:=r.dp;omega
theorem Room.units(r:Room k A):A.units+64<cLine:=by have:=r.un;omega
def b0b:TA:=λ_ H Q=>Q [] H
def ayy(ta:TE)(tr:TA):TA:=λσ H Q=>ta σ H λx H1=>tr σ H1 λxs H2=>Q (x::xs) H2
section
variable{X:Cx}{e:Expr}{es:List Expr}{te:TE}{t:TA}{pos:Pos}
theorem a6z:PA X [] b0b:=λ_ _ _ _ H Q I h=>Calls.spliced_nil ⟨[],H,I,.nil,h⟩
theorem yj(ha:PE X e te)(hr:PA X es t)(hs:starEach (e::es) X.env=(false,eval e X.env)::starEach es X.env:=by rfl):PA X (e::es) (ayy te t):=by
 intro pos pins s σ H Q I h
 rw [hs];show wpAny _ _ (spliced ((false,eval e X.env)::backTo pos (starEach es X.env))) _ _ s;refine Calls.spliced_cons (thn (ha pins s σ H _ I h) λu s1 ⟨x,H1,I1,r1,q1⟩=>?_);exact thn (hr pos pins s1 σ H1 _ I1 q1) λus s2 ⟨xs,H2,I2,r2,q2⟩=>⟨x::xs,H2,I2,.cons r1 r2,q2⟩
def b1r(t:TA):TE:=λσ H Q=>t σ H λxs H1=>xs.length<=sizeLine/\∀p,H1 p=none->Q (.ref p) (upd H1 p (.tup xs))
def b1s(t:TA):TE:=λσ H Q=>t σ H λxs H1=>xs.length<=sizeLine/\∀p,H1 p=none->Q (.ref p) (upd H1 p (.lst xs))
theorem ao5{x1}(h:PA X es t):PE X (.Tuple es x1 pos) (b1r t):=by
 intro pins s σ H Q I hq
 refine wpAny_Tuple_spliced (thn (h pos pins s σ H _ I hq) λus s1 ⟨xs,H1,I1,r,z,q⟩=>⟨by rw [<-r.length];exact z,?_⟩)
 have hf:H1 s1.heap.objs.size=none:=I1.hok.fresh (ay _);refine ⟨.ref s1.heap.objs.size,upd H1 s1.heap.objs.size (.tup xs),I1.laid (t':=s1.toks) (λb u e=>ai _ e) (ay _) ?_,rfl,q _ hf⟩;exact ⟨z,us,r,⟨_,aK _ rfl,rfl,_,rfl⟩⟩
theorem au9(h:PA X es t):PE X (.List es pos) (b1s t):=by
 intro pins s σ H Q I hq
 refine wpAny_List_spliced (thn (h pos pins s σ H _ I hq) λus s1 ⟨xs,H1,I1,r,z,q⟩=>⟨by rw [<-r.length];exact z,?_⟩)
 have hf:H1 s1.heap.objs.size=none:=I1.hok.fresh (ay _);refine ⟨.ref s1.heap.objs.size,upd H1 s1.heap.objs.size (.lst xs),I1.laid (t':=s1.toks) (λb u e=>ai _ e) (ay _) ?_,rfl,q _ hf⟩;exact ⟨z,us,0,r,aK _ rfl⟩
end
abbrev Sp:=List V->Hp->VK->XK->Prop
abbrev CXT:=List Env->Hp->Shared->XK->Value->Shared->Prop
structure Env0 (P:Program) (w:World) (K:PySem.W.Frag) (mg:Str->Option Value) (base:Heap) (A:Around) (outer:List Env) (s:Shared) (H:Hp):Prop where
 frames:A.frames=some outer
 mod:Mod K mg base
 bs:∀b o,base.get? b=some o->s.heap.get? b=some o/\H b=none
 bsz:base.objs.size<=s.heap.objs.size
 funs:s.heap.FunFrames base outer
 frf:∀b∈frs outer,H b=none
 hok:HOk P w H s.heap
 bare:AllBare s.gens
def CE(outer:List Env)(P:Program)(w:World)(H:Hp)(s:Shared)(Q:VK)(u:Value)(s':Shared):Prop :=
 ∃v H',s'.os=s.os/\AllBare s'.gens/\Un (frs outer) [] H H' s.heap s'.heap/\HOk P w H' s'.heap/\RelV v u/\Q v H'
def CR(CX:CXT)(outer:List Env)(P:Program)(w:World)(H:Hp)(s:Shared)(Q:VK)(E:XK)(r:Result)(s':Shared):Prop :=
 match r with
 |.ok (.ret u)=>CE outer P w H s Q u s'
 |.ok _=>False
 |.error e=>CX outer H s E e s'
structure FnOk (P:Program) (w:World) (K:PySem.W.Frag) (mg:Str->Option Value) (base:Heap) (CX:CXT) (k:Nat) (f:Addr) (fd:FuncData) (ps:List Str) (sp:Sp):Prop where
 len:∀vs H Q E,sp vs H Q E->vs.length=ps.length
 run:∀(A:Around) (outer:List Env) (s:Shared) (H:Hp) (args:Args) (us:List Value) (vs:List V) (Q:VK) (E:XK),Room k A->Env0 P w K mg base A outer s H->BindsTo s fd args (ps.zip us)->Vals vs us->sp vs H Q E->
  codeAny (model P w) A (.call (.ref f) args) (CR CX outer P w H s Q E) s
theorem FnOk.imp{P:Program}{w:World}{K:PySem.W.Frag}{mg:Str->Option Value}{base:Heap}{CX:CXT}{k:Nat}{f:Addr}{fd:FuncData}{ps:List Str}{sp sp':Sp}(F:FnOk P w K mg base CX k f fd ps sp)
  (h:∀vs H Q E,sp' vs H Q E->sp vs H Q E):FnOk P w K mg base CX k f fd ps sp' :=
 ⟨λvs H Q E q=>F.len vs H Q E (h _ _ _ _ q),λA outer s H args us vs Q E hr he hb hv hs=>F.run A outer s H args us vs Q E hr he hb hv (h _ _ _ _ hs)⟩
theorem Env0.make{P:Program}{w:World}{K:PySem.W.Frag}{mg:Str->Option Value}{base:Heap}{A:Around}{outer:List Env}{s:Shared}{H:Hp}(e:Env0 P w K mg base A outer s H)(C:Addr)(us:List Value)(kw:List (Str×Value)) :
  Env0 P w K mg base (A.under (.builtin "type.__call__" ⟨.ref C::us,kw⟩)) outer s H:=⟨by first|exact e.frames|(simpa [Around.under,Code.envs,Code.isFrame,pushEnvs] using e.frames),e.mod,e.bs,e.bsz,e.funs,e.frf,e.hok,e.bare⟩
section
variable{X:Cx}{pins:List (Addr×Obj)}{σ:St}{H:Hp}{s s':Shared}
theorem Inv.env0(I:Inv X pins σ H s):Env0 X.prog X.w X.K X.mg X.base X.A X.stack s H :=
 ⟨I.ok.frames,I.ok.mod,I.bs,bG I.ok.bsz I.sz,I.stack,I.stkFree,I.hok,I.bare⟩
theorem Inv.after(I:Inv X pins σ H s)(h:CE X.stack X.prog X.w H s Q u s'):EP X pins σ Q u s':=by
 obtain ⟨v,H',os,bare,un,hok,r,q⟩:=h;obtain ⟨hh,g,d,t,os'⟩:=s';obtain rfl:os'=s.os:=os;exact ⟨v,H',I.call (h':=hh) (g':=g) (d':=d) (t':=t) (ch:=[]) un hok bare (λb z=>absurd z (by simp)),r,q⟩
end
def aua(sp:Sp)(dvs:List V)(E:XK)(t:TA):TE:=λσ H Q=>t σ H λvs H1=>sp (vs++dvs) H1 Q E
def ayz(C:Addr)(sp:Sp)(dvs:List V)(E:XK)(t:TA):TE:=λσ H Q=>t σ H λvs H1=>∀x dx,H1 x=none->H1 dx=none->dx≠x->
 sp (.ref x::(vs++dvs)) (upd (upd H1 dx (.own x)) x (.ins C dx [])) (λv H2=>v=.non/\Q (.ref x) H2) E
def Binds(K:PySem.W.Frag)(fd:FuncData)(ps:List Str)(ds:List Value):Prop :=
 ∀(s:Shared) (us:List Value),K.In s.heap->(us++ds).length=ps.length->BindsTo s fd ⟨us,[]⟩ (ps.zip (us++ds))
theorem Binds.all{K:PySem.W.Frag}{fd:FuncData}{ps:List Str}(h:∀us:List Value,us.length=ps.length->bindArgs fd ⟨us,[]⟩=pure (ps.zip us)):Binds K fd ps []:=λs us _ hl=>by
 rw [b9] at hl ⊢;exact .of_eq (h us hl)
def a70(CX:CXT)(X:Cx)(E:XK):Prop:=∀(pins:List (Addr×Obj)) (σ:St) (H:Hp) (s:Shared) (e:Value) (s':Shared),Inv X pins σ H s->CX X.stack H s E e s'->X.xe e s'
section
variable{X:Cx}{CX:CXT}{k:Nat}{f C:Addr}{fd:FuncData}{ps:List Str}{sp:Sp}{dvs:List V}{ds:List Value}{E:XK}{x m:Str}{p pos apos:Pos}{e o:Expr}{es:List Expr}{ta:TE}{t:TA}
theorem ao6(F:FnOk X.prog X.w X.K X.mg X.base CX k f fd ps sp)(hr:Room k X.A)(hb:Binds X.K fd ps ds)(hd:Vals dvs ds)(hx:a70 CX X E)
  (I:Inv X pins σ H s) (r:Vals vs us) (h:sp (vs++dvs) H Q E):wpAny (model X.prog X.w) X.A (call (.ref f) us) (EP X pins σ Q) X.xe s:=by
 have r2:Vals (vs++dvs) (us++ds):=r.append hd;have hl:(us++ds).length=ps.length:=by rw [<-r2.length];exact F.len _ _ _ _ h
 refine i6 (eE (F.run X.A X.stack s H ⟨us,[]⟩ (us++ds) (vs++dvs) Q E hr I.env0 (hb s us I.kIn hl) r2 h) λr s' hq=>?_)
 cases r with
 |error e=>exact hx pins σ H s e s' I hq
 |ok fl =>
  cases fl with
  |ret u=>exact I.after hq
  |next=>exact False.elim hq
  |brk=>exact False.elim hq
  |cont=>exact False.elim hq
theorem aco(F:FnOk X.prog X.w X.K X.mg X.base CX k f fd ps sp)(hr:Room k X.A)(hg:Gl X x)(hm:X.mg x=some (.ref f))(hk:PySem.W.keepIn X.K (.ref f)=true)(hb:Binds X.K fd ps ds)(hd:Vals dvs ds)(hx:a70 CX X E)
  (ha:PA X (e::es) t) (hdb:(x == ("__debug__" : Str))=false:=by decide) (he:starEach (e::es) X.env=(false,eval e X.env)::starEach es X.env:=by rfl) (hpl:(backTo pos (starEach es X.env)).any (·.1)=false:=by rfl) :
  PE X (.Call (.Name x p) (e::es) [] pos) (aua sp dvs E t):=by
 intro pins s σ H Q I h
 refine cZ (a3j I hg hm ?_ hdb);refine gz (h₀:=X.base) I.ok.mod.kin hk (thn (ha pos pins s σ H _ I h) λus s1 ⟨vs,H1,I1,r,q⟩=>⟨I1.kIn,?_⟩) he hpl;exact ao6 F hr hb hd hx I1 r q
theorem al9(F:FnOk X.prog X.w X.K X.mg X.base CX k f fd ps sp)(hr:Room k X.A)(hg:Gl X x)(hm:X.mg x=some (.ref f))(hk:PySem.W.keepIn X.K (.ref f)=true)(hb:Binds X.K fd ps ds)(hd:Vals dvs ds)(hx:a70 CX X E)
  (hdb:(x == ("__debug__" : Str))=false:=by decide):PE X (.Call (.Name x p) [] [] pos) (aua sp dvs E b0b):=by
 intro pins s σ H Q I h
 refine cZ (a3j I hg hm ?_ hdb);exact PySem.W.callWith_K0 I.kIn hk (ao6 (us:=[]) F hr hb hd hx I .nil h)
structure Mk (K:PySem.W.Frag) (C f:Addr):Prop where
 makes:PySem.W.makesIn K C=true
 init:PySem.W.findIn K (.ref C) "__init__" = some (some (.ref f))
 fn:PySem.W.isFn K (.ref f)=true
 kp:PySem.W.keepIn K (.ref C)=true
theorem ala(M:Mk X.K C f)(F:FnOk X.prog X.w X.K X.mg X.base CX k f fd ps sp)(hr:Room (k+1) X.A)(hb:Binds X.K fd ps ds)(hd:Vals dvs ds)
  (hx:a70 CX X E) (I:Inv X pins σ H s) (r:Vals vs us)
  (h:∀x dx,H x=none->H dx=none->dx≠x->sp (.ref x::(vs++dvs)) (upd (upd H dx (.own x)) x (.ins C dx [])) (λv H2=>v=.non/\Q (.ref x) H2) E) :
  wpAny (model X.prog X.w) X.A (call (.ref C) us) (EP X pins σ Q) X.xe s:=by
 have hq:=h (s.heap.objs.size+1) s.heap.objs.size (I.hok.fresh (i7 _)) (I.hok.fresh (ay _)) (aX (eM _));have I2:=Inv.made (C:=C) I;have r2:Vals (V.ref (s.heap.objs.size+1)::(vs++dvs)) (Value.ref (s.heap.objs.size+1)::(us++ds)):=.cons rfl (r.append hd);have hl:(Value.ref (s.heap.objs.size+1)::us++ds).length=ps.length:=by
  have e:=r2.length;rw [F.len _ _ _ _ hq] at e;exact e.symm
 refine i6 (al8 (f:=f) I.kIn M.makes M.init (eB.mp M.fn) (eE (F.run _ X.stack _ _ ⟨Value.ref (s.heap.objs.size+1)::us,[]⟩ (Value.ref (s.heap.objs.size+1)::(us++ds)) _ _ E (hr.make C us [])
  (I2.env0.make C us []) (hb _ (Value.ref (s.heap.objs.size+1)::us) I2.kIn hl) r2 hq) λr s' hq'=>?_))
 cases r with
 |error e=>exact hx pins σ _ _ e s' I2 hq'
 |ok fl =>
  cases fl with
  |ret u =>
   obtain ⟨v,H',I3,rv,ev,q3⟩:=I2.after hq';subst ev;exact ⟨rv,⟨V.ref (s.heap.objs.size+1),H',I3,rfl,q3⟩⟩
  |next=>exact False.elim hq'
  |brk=>exact False.elim hq'
  |cont=>exact False.elim hq'
theorem aq2(M:Mk X.K C f)(F:FnOk X.prog X.w X.K X.mg X.base CX k f fd ps sp)(hr:Room (k+1) X.A)(hg:Gl X x)(hm:X.mg x=some (.ref C))(hb:Binds X.K fd ps ds)(hd:Vals dvs ds)(hx:a70 CX X E)
  (ha:PA X (e::es) t) (hdb:(x == ("__debug__" : Str))=false:=by decide) (he:starEach (e::es) X.env=(false,eval e X.env)::starEach es X.env:=by rfl) (hpl:(backTo pos (starEach es X.env)).any (·.1)=false:=by rfl) :
  PE X (.Call (.Name x p) (e::es) [] pos) (ayz C sp dvs E t):=by
 intro pins s σ H Q I h
 refine cZ (a3j I hg hm ?_ hdb);refine gz (h₀:=X.base) I.ok.mod.kin M.kp (thn (ha pos pins s σ H _ I h) λus s1 ⟨vs,H1,I1,r,q⟩=>⟨I1.kIn,?_⟩) he hpl;exact ala M F hr hb hd hx I1 r q
end
structure FnScope (N P:List Str) (sc:Scope):Prop where
 kind:sc.kind=.function
 co:sc.isCoroutine=false
 gen:sc.isGenerator=false
 nd:N.Nodup
 pre:N.take P.length=P
 par:∀x∈P,sc.names.lookup x=some .local\/sc.names.lookup x=some .cell
 nofree:∀y∈sc.names,y.2≠.free
theorem aat{kindOf:Str->Option NameKind}{x:Str}:∀{binds:List (Str×Value)} {m:Str->Option Value},(∀v,(x,v)∉binds)->bindL kindOf binds m x=m x
 |[],_,_=>rfl
 |(n,v)::r,m,h=>by
  unfold bindL;rw [aat λw hw=>h w (aL _ hw)]
  split
  ·have:x≠n:=by rintro rfl;exact h v aR
   simp [this]
  ·rfl
theorem aau{kindOf:Str->Option NameKind}{x:Str}:∀{binds:List (Str×Value)} {m:Str->Option Value},(∀v,(x,v)∉binds)->bindC kindOf binds m x=m x
 |[],_,_=>rfl
 |(n,v)::r,m,h=>by
  unfold bindC;rw [aau λw hw=>h w (aL _ hw)]
  split
  ·rfl
  ·have:x≠n:=by rintro rfl;exact h v aR
   simp [this]
theorem aav{kindOf:Str->Option NameKind}{x:Str}{v:Value}:∀{P:List Str} {vs:List Value} {i:Nat} {m:Str->Option Value},P.Nodup->P[i]? = some x->vs[i]? = some v->kindOf x=some .local->
  bindL kindOf (P.zip vs) m x=some v
 |[],_,_,_,_,h,_,_=>by simp at h
 |_::_,[],_,_,_,_,h,_=>by simp at h
 |p::P,w::vs,0,m,nd,h1,h2,hk=>by
  simp at h1 h2;subst h1;subst h2
  show bindL kindOf ((p,w)::P.zip vs) m p=_;unfold bindL;rw [aat λv hv=>(dR.mp nd).1 (hW hv).1,aC hk];simp
 |p::P,w::vs,i+1,m,nd,h1,h2,hk=>by
  show bindL kindOf ((p,w)::P.zip vs) m x=_;unfold bindL;exact aav (i:=i) (dR.mp nd).2 (by simpa using h1) (by simpa using h2) hk
theorem aaw{kindOf:Str->Option NameKind}{x:Str}{v:Value}:∀{P:List Str} {vs:List Value} {i:Nat} {m:Str->Option Value},P.Nodup->P[i]? = some x->vs[i]? = some v->kindOf x≠some .local->
  bindC kindOf (P.zip vs) m x=some v
 |[],_,_,_,_,h,_,_=>by simp at h
 |_::_,[],_,_,_,_,h,_=>by simp at h
 |p::P,w::vs,0,m,nd,h1,h2,hk=>by
  simp at h1 h2;subst h1;subst h2
  show bindC kindOf ((p,w)::P.zip vs) m p=_;unfold bindC;rw [aau λv hv=>(dR.mp nd).1 (hW hv).1,aQ hk];simp
 |p::P,w::vs,i+1,m,nd,h1,h2,hk=>by
  show bindC kindOf ((p,w)::P.zip vs) m x=_;unfold bindC;exact aaw (i:=i) (dR.mp nd).2 (by simpa using h1) (by simpa using h2) hk
def start(N:List Str)(vs:List V):St:=vs.map some++List.replicate (N.length-vs.length) none
def agu(CX:CXT)(P:Program)(w:World)(K:PySem.W.Frag)(mg:Str->Option Value)(base:Heap)(N:List Str)(qual:Str)(scope:Scope)(f:Addr)(cd:Value)(A:Around)(outer:List Env)(s:Shared)(H:Hp)(E:XK):Cx where
 prog:=P
 w:=w
 K:=K
 mg:=mg
 base:=base
 A:=A.deeper (envOfC qual scope s.heap.objs.size f cd)
 N:=N
 s₀:=s
 H₀:=H
 env:=envOfC qual scope s.heap.objs.size f cd
 outer:=outer
 stack:=envOfC qual scope s.heap.objs.size f cd::outer
 ex:=[]
 calm:=true
 fn:=λ_=>true
 pn:=[]
 xe:=λe s'=>wpAny (model P w) (A.deeper (envOfC qual scope s.heap.objs.size f cd)) (leaving (envOfC qual scope s.heap.objs.size f cd) e) (λ_ s''=>CX outer H s E e s'') (λe' s''=>CX outer H s E e' s'') s'
theorem ae8{sc:Scope}(h:sc.names.lookup x=some .cell):∃c,(cellsFrom n sc.names []).lookup x=some c:=by
 have q:=PySem.W.cellsFrom_some sc.names n [] (.inl h);exact gM.mp q
theorem ahk{CX:CXT}{P:Program}{w:World}{K:PySem.W.Frag}{mg:Str->Option Value}{base:Heap}{N ps:List Str}{qual:Str}{scope:Scope}{f:Addr}{cd:Value}{A:Around}{outer:List Env}{s s1:Shared}{H:Hp}{E:XK}{us:List Value}{vs:List V}
  (S:FnScope N ps scope) (hd:A.handled=none) (e0:Env0 P w K mg base A outer s H) (hl:vs.length=ps.length) (r:Vals vs us)
  (x:InCallC s s.heap.objs.size (bindL (envOfC qual scope s.heap.objs.size f cd).kindOf (ps.zip us) λ_=>none) (cellsFrom (s.heap.objs.size+1) scope.names []) (bindC (envOfC qual scope s.heap.objs.size f cd).kindOf (ps.zip us) λ_=>none) s1) :
  Inv (agu CX P w K mg base N qual scope f cd A outer s H E) [] (start N vs) H s1:=by
 have hpl:ps.length<=N.length:=by have:=af List.length S.pre;rw [aV] at this;omega
 obtain ⟨h1,tk,rfl,hk⟩:=x.done;have noA:∀b:Addr,b∉(agu CX P w K mg base N qual scope f cd A outer s H E).ex:=λb z=>absurd (show b∈([]:List Addr) from z) (by simp)
 refine ⟨⟨e0.mod,S.kind,rfl,rfl,ay _,λy z c h1 h2=>?_,λy hy=>?_,λy c _ h=>?_,λ_=>hd,Around.frames_deeper e0.frames,.inr ⟨rfl,rfl⟩,λb z=>absurd z (noA b),e0.bs,e0.bsz,λb _ _=>noA b,λb z=>absurd z (noA b),e0.funs,e0.frf⟩,
  rfl,e0.bare,Un.kept hk,⟨_,x.toInCall.ns,λi y v h1 h2 h3=>?_⟩,λy c h=>⟨_,x.cell y c h⟩,e0.hok.fresh (ay _),λy c h=>?_,λp hp=>absurd (show p∈([]:List (Addr×Obj)) from hp) (by simp),e0.hok.kept hk,?_⟩
 ·exact name_of_addr x.apart (bV h1) (bV h2)
 ·have hy:scope.names.lookup y=some .cell\/scope.names.lookup y=some .free:=hy
  rcases hy with hy|hy
  ·exact ae8 hy
  ·exact absurd rfl (S.nofree _ (bV hy))
 ·exact gu (x.above y c (bV h))
 ·have hi:i<vs.length:=by
   unfold start at h2
   by_cases hi:i<vs.length
   ·exact hi
   ·rw [aH (by simpa using hi)] at h2
    rw [e9] at h2
    split at h2<;>cases h2
  have ha:vs[i]? = some v:=by
   unfold start at h2;rw [aP (by simpa using hi),bX] at h2
   cases e:vs[i]? with
   |none=>rw [e] at h2;cases h2
   |some a=>rw [e] at h2;cases h2;rfl
  obtain ⟨u,hu,rv⟩:=r.get ha;have hp:ps[i]? = some y:=by
   rw [<-S.pre,List.getElem?_take_of_lt (by omega)];exact h1
  have ndP:ps.Nodup:=by rw [<-S.pre];exact S.nd.sublist (gN _ _)
  refine ⟨u,rv,?_⟩
  rcases S.par y (bD hp) with k|k
  ·exact .inl ⟨k,aav ndP hp hu k⟩
  ·obtain ⟨c,e⟩:=ae8 (n:=s.heap.objs.size+1) k;refine .inr ⟨.inl k,c,e,?_⟩;have q:=x.cell y c e;rw [aaw ndP hp hu (by show scope.names.lookup y≠_;rw [k];decide)] at q
   exact q
 ·exact e0.hok.fresh (gu (x.above y c (bV h)))
 ·unfold start;show _=N.length;rw [ar,ax,cX];omega
theorem aub{CX:CXT}{P:Program}{w:World}{K:PySem.W.Frag}{mg:Str->Option Value}{base:Heap}{k:Nat}{f:Addr}{name qual:Str}{params:Arguments}{body:List Stmt}{scope:Scope}{dV kV doc pm cdv ct oc:Value}{an od:Option Addr}
  {osl:Array (Option Value)} {N ps:List Str} {sp:Sp} (lk:K.lookup f=some ⟨oc,od,.func (PySem.W.fnOf name qual params body scope dV kV doc pm an cdv ct),osl⟩) (hcd:PySem.W.codeIn K cdv qual=true) (S:FnScope N ps scope)
  (len:∀vs H Q E,sp vs H Q E->vs.length=ps.length)
  (hbody:∀(A:Around) (outer:List Env) (s:Shared) (H:Hp) (vs:List V) (Q:VK) (E:XK),Room k (A.deeper (envOfC qual scope s.heap.objs.size f cdv))->sp vs H Q E->
   ∃t,PSs (agu CX P w K mg base N qual scope f cdv A outer s H E) body t/\t {nx:=λ_ H'=>Q .non H',rt:=Q} (start N vs) H) :
  FnOk P w K mg base CX (k+1) f (PySem.W.fnOf name qual params body scope dV kV doc pm an cdv ct) ps sp:=by
 refine ⟨len,λA outer s H args us vs Q E hr e0 hb r hsp=>?_⟩;have hl:=len _ _ _ _ hsp;have KX:K.In s.heap:=e0.mod.kin.keeps λb o e=>(e0.bs b o e).1;have lim:s.heap.NoLimit:=e0.mod.nolimit.keeps λb o e=>(e0.bs b o e).1;have hkind:∀y∈ps.zip us,scope.names.lookup y.1=some .local\/(scope.names.lookup y.1=some .cell/\((cellsFrom (s.heap.objs.size+1) scope.names []).lookup y.1).isSome=true):=λ⟨n,v⟩ hy=>by
  rcases S.par n (hW hy).1 with q|q
  ·exact .inl q
  ·exact .inr ⟨q,PySem.W.cellsFrom_some _ _ _ (.inl q)⟩
 refine codeAny_call_function hr.depth (KX _ _ lk) rfl S.co S.gen rfl (PySem.W.codeRec_of KX hcd) (hb _ _ _ _ ?_);refine wpAny_newFunctionEnv_cells S.kind hkind λenv he s1 x=>?_;subst he;refine ⟨lim.keeps x.toInCall.keep,codeAny_func ?_⟩;obtain ⟨t,ht,hq⟩:=hbody A outer s H vs Q E (hr.deeper _) hsp;have I:Inv (agu CX P w K mg base N qual scope f cdv A outer s H E) [] (start N vs) H s1:=ahk S hr.hd e0 hl r x;refine aY (ht [] s1 (start N vs) H _ I hq) (λfl s' hs=>?_) λe s' hs=>hs;have fin:∀{σ':St} {H':Hp} {v:V} {u:Value},Inv (agu CX P w K mg base N qual scope f cdv A outer s H E) [] σ' H' s'->RelV v u->Q v H'->CE outer P w H s Q u s' :=
  λ{σ' H' v u} J rv q=>⟨v,H',J.os,J.bare,J.base,J.hok,rv,q⟩
 cases fl with
 |ret u =>
  obtain ⟨v,σ',H',J,rv,q⟩:=hs;exact fin J rv q
 |next =>
  obtain ⟨σ',H',J,q⟩:=hs;exact fin (v:=V.non) (u:=Value.none) J rfl q
 |brk =>
  obtain ⟨_,_,_,q⟩:=hs;exact False.elim q
 |cont =>
  obtain ⟨_,_,_,q⟩:=hs;exact False.elim q
section
variable{X:Cx}{x:Str}{p pos:Pos}{e:Expr}{es:List Expr}{t:TA}{id T:String}{r:List V->Hp->VK->Prop}
def tCB(r:List V->Hp->VK->Prop)(t:TA):TE:=λσ H Q=>t σ H λvs H1=>r vs H1 Q
theorem a6l(hc:CallR X (.builtin id) r)(hg:Gl X x)(hm:X.mg x=none)(hv:bootBuiltins x=some (.builtin id))(ha:PA X (e::es) t)(hn:x ≠ "__name__":=by decide)(hdb:(x == ("__debug__" : Str))=false:=by decide)
  (he:starEach (e::es) X.env=(false,eval e X.env)::starEach es X.env:=by rfl) (hpl:(backTo pos (starEach es X.env)).any (·.1)=false:=by rfl):PE X (.Call (.Name x p) (e::es) [] pos) (tCB r t):=by
 intro pins s σ H Q I h
 refine cZ (a5u I hg hm hv ?_ hn hdb);exact PyProof.Rows.callWith_builtin1 (thn (ha pos pins s σ H _ I h) λus s1 ⟨vs,H1,I1,r1,q1⟩=>hc pins s1 σ H1 vs us Q I1 r1 q1) he hpl
theorem aax(hc:CallR X (.type T) r)(hg:Gl X x)(hm:X.mg x=none)(hv:bootBuiltins x=some (.type T))(ha:PA X (e::es) t)(hn:x ≠ "__name__":=by decide)(hdb:(x == ("__debug__" : Str))=false:=by decide)
  (he:starEach (e::es) X.env=(false,eval e X.env)::starEach es X.env:=by rfl) (hpl:(backTo pos (starEach es X.env)).any (·.1)=false:=by rfl):PE X (.Call (.Name x p) (e::es) [] pos) (tCB r t):=by
 intro pins s σ H Q I h
 refine cZ (a5u I hg hm hv ?_ hn hdb);exact bU (thn (ha pos pins s σ H _ I h) λus s1 ⟨vs,H1,I1,r1,q1⟩=>hc pins s1 σ H1 vs us Q I1 r1 q1) he hpl
end
end L2
namespace HT
open PyProof.Rows
section
variable{prog:Program}{w:World}{A:Around}{E:Value->Shared->Prop}{s:Shared}
theorem aq3{vs ws:List Value}(ht:IsTup s.heap t vs.toArray)(hb:IsTup s.heap b ws.toArray)(hv:vs≠[])
  (h1:ws=[]->Q (.ref t) s) (h2:ws≠[]->Q (.ref s.heap.objs.size) {s with heap:=s.heap.push {cls:=.type "tuple",data:=.seq (vs++ws).toArray} })
  (hsz:vs.length+ws.length<=sizeLine):wpAny (model prog w) A (binaryOp .Add (.ref t) (.ref b)) Q E s:=by
 obtain ⟨⟨cls,dd,data,sl⟩,ho,hc,n,hd⟩:=id ht;obtain ⟨⟨cls2,dd2,data2,sl2⟩,ho2,hc2,n2,hd2⟩:=id hb;simp only at hc hd hc2 hd2;subst hc hd hc2 hd2;have e:vs.toArray++ws.toArray=(vs++ws).toArray:=by simp
 by_cases hw:ws=[]
 ·exact concat_meets ⟨_,ho,rfl⟩ ⟨_,ho2,rfl⟩ hG seq_tuple_add PySem.F.slot_tuple_add gT (gO _ _)
   (tuple_addW1 t b vs.toArray ws.toArray n n2 dd dd2 sl sl2 (by simpa using hv) (by simp [hw])) ⟨ho,ho2,h1 hw⟩
 ·refine concat_meets ⟨_,ho,rfl⟩ ⟨_,ho2,rfl⟩ hG seq_tuple_add PySem.F.slot_tuple_add gT (gO _ _)
   (tuple_addW2 t b vs.toArray ws.toArray n n2 dd dd2 sl sl2 (by simpa using hv) (by simpa using hw) (by rw [aA,aA];exact hsz)) ⟨ho,ho2,?_⟩
  rw [e];exact h2 hw
def sIx(n d:Nat):Option Int->Nat
 |none=>d
 |some v=>if v<0 then (v+(n:Int)).toNat else min v.toNat n
theorem a9c(n d:Nat):sIx n d none=d:=rfl
theorem ahl(n d k:Nat):sIx n d (some (k:Int))=min k n:=by
 show (if (k:Int)<0 then ((k:Int)+(n:Int)).toNat else min (k:Int).toNat n)=min k n
 rw [aQ (by omega),dA]
theorem ahm(n d:Nat)(hd:d<=n)(o:Option Int):sIx n d o<=n:=by
 cases o with
 |none=>exact hd
 |some v =>
  show (if v<0 then (v+(n:Int)).toNat else min v.toNat n)<=n
  by_cases hv:v<0
  ·rw [aC hv];omega
  ·rw [aQ hv];exact Nat.min_le_right _ _
theorem ahn(v:Int)(n d:Nat):(if v<0 then max (v+(n:Int)) 0 else min v (n:Int))=((sIx n d (some v):Nat):Int):=by
 show (if v<0 then max (v+(n:Int)) 0 else min v (n:Int))=(((if v<0 then (v+(n:Int)).toNat else min v.toNat n):Nat):Int)
 by_cases hv:v<0
 ·simp only [aC hv];omega
 ·simp only [aQ hv];omega
theorem aft(lo hi:Option Int)(n:Nat):Builtin.Slice.sliceAdjust lo hi 1 (n:Int)=(((sIx n 0 lo:Nat):Int),((sIx n n hi:Nat):Int)):=by
 have h1:¬ ((1:Int)<0):=by omega
 unfold Builtin.Slice.sliceAdjust;simp only [h1,eN];refine Prod.ext ?_ ?_
 ·cases lo with
  |none=>rfl
  |some v=>exact ahn v n 0
 ·cases hi with
  |none=>rfl
  |some v=>exact ahn v n n
theorem afu(i j:Nat):Builtin.Slice.slicePlaces (i:Int) (j:Int) 1=j-i:=by
 unfold Builtin.Slice.slicePlaces;have h1:(1:Int) > 0:=by omega
 simp only [h1,dS,Int.ediv_one]
 split<;>omega
theorem a8h(p:IsPart v o)(h:Q o s):wpAny (model prog w) A (Builtin.Slice.slicePartIndex v) Q E s:=by
 cases p with
 |none=>exact slicePart_none h
 |int i t=>exact slicePart_int h
theorem a1k{sl:Addr}{vl vu:Value}{lo hi:Option Int}{n:Nat}{Q:Int×Int×Nat->Shared->Prop}(hs:s.heap.IsSliceOf sl vl vu .none)(pl:IsPart vl lo)(pu:IsPart vu hi)
  (h:Q (((sIx n 0 lo:Nat):Int),1,sIx n n hi-sIx n 0 lo) s):wpAny (model prog w) A (Builtin.Slice.sliceApplied (.ref sl) (pure (n:Int))) Q E s:=by
 obtain ⟨os,hos,hcs,hds⟩:=id hs;unfold Builtin.Slice.sliceApplied Builtin.Slice.sliceFields;refine ae (ae (fE hos hds (x:=vl) rfl (ae (fE hos hds (x:=vu) rfl (ae (fE hos hds (x:=.none) rfl (aw ?_)))))));refine ae (slicePart_none ?_);show wpAny _ _ (if ((1:Int) == 0)=true then _ else _) _ _ s
 rw [aQ (by decide)]
 refine ae (a8h pl (ae (a8h pu (ae (aw ?_)))));show wpAny _ _ (match Builtin.Slice.sliceAdjust lo hi 1 (n:Int) with|(lo,hi)=>pure (lo,(1:Int),Builtin.Slice.slicePlaces lo hi 1)) _ _ s
 rw [aft lo hi n];show wpAny _ _ (pure (((sIx n 0 lo:Nat):Int),(1:Int),Builtin.Slice.slicePlaces ((sIx n 0 lo:Nat):Int) ((sIx n n hi:Nat):Int) 1)) _ _ s;rw [afu];exact aw h
theorem alb(xs:Array Value)(i k:Nat):((List.range k).filterMap λ(m:Nat)=>xs[((i:Int)+(m:Int)*1).toNat]?).toArray=((xs.toList.drop i).take k).toArray:=by
 have e:(λ(m:Nat)=>xs[((i:Int)+(m:Int)*1).toNat]?)=λm=>xs[i+m]?:=by
  funext m
  have:((i:Int)+(m:Int)*1).toNat=i+m:=by omega
  rw [this]
 rw [e];have:=pick_run xs i k;rw [List.filterMap_map] at this;have e2:((λx=>xs[x]?) ∘ λx=>i+x)=λm=>xs[i+m]?:=rfl;rw [e2] at this;rw [this]
theorem a5a{t sl:Addr}{items:Array Value}{vl vu:Value}{lo hi:Option Int}{Q:Value->Shared->Prop}(ht:IsTup s.heap t items)(hs:s.heap.IsSliceOf sl vl vu .none)(pl:IsPart vl lo)(pu:IsPart vu hi)
  (hw:¬ (sIx items.size 0 lo=0/\sIx items.size items.size hi=items.size))
  (h:Q (.ref s.heap.objs.size) {s with heap:=s.heap.push {cls:=.type "tuple",data:=.seq ((items.toList.drop (sIx items.size 0 lo)).take (sIx items.size items.size hi-sIx items.size 0 lo)).toArray} })
  (hsz:items.size<=sizeLine):wpAny (model prog w) A (getItem (.ref t) (.ref sl)) Q E s:=by
 have htake:sizeOk (.seq ((items.toList.drop (sIx items.size 0 lo)).take (sIx items.size items.size hi-sIx items.size 0 lo)).toArray):=by
  show ((items.toList.drop (sIx items.size 0 lo)).take (sIx items.size items.size hi-sIx items.size 0 lo)).toArray.size<=sizeLine;rw [aA,aV,aW,aT];omega
 have hj:sIx items.size items.size hi<=items.size:=ahm _ _ (ay _) hi;obtain ⟨os,hos,hcs,hds⟩:=id hs;have hTs:s.TypeIs (.ref sl) "slice":=⟨os,hos,hcs⟩;unfold getItem
 try with_reducible refine bW ?_
 first|refine ae (aw ?_)|skip
 refine ae (wpAny_sequenceKey ht.typeIs (by decide) ?_)
 refine ae (cC (name:=Str.ofString "__getitem__") ht.typeIs bK
  (cm bK ht.typeIs entry_tuple_getitem ?_ (args_tuple_getitem _ _)))
 show wpAny _ _ (Builtin.Tuple.tupleItemsOf (.ref t)>>=_) _ _ s;refine ae (tupleItemsOf_ ht ?_);refine ae (fJ hTs ?_);rw [aC (by decide)]
 refine ae (a1k hs pl pu ?_);have hno:¬ ((((sIx items.size 0 lo:Nat):Int) == 0 && (1:Int) == 1 && (sIx items.size items.size hi-sIx items.size 0 lo) == items.size)=true):=by
  intro q
  rw [aZ,aZ] at q;have q1:((sIx items.size 0 lo:Nat):Int)=0:=eq_of_beq q.1.1;have q2:sIx items.size items.size hi-sIx items.size 0 lo=items.size:=eq_of_beq q.2;exact hw ⟨by omega,by omega⟩
 show wpAny _ _ (if (((sIx items.size 0 lo:Nat):Int) == 0 && (1:Int) == 1 && (sIx items.size items.size hi-sIx items.size 0 lo) == items.size)=true then _ else _) _ _ s
 rw [aQ hno,alb]
 first
  |exact ae (m:=Builtin.Tuple.tupleExact _) (bY (aw ⟨_,rfl,aw h⟩) htake)
  |exact ae (m:=Builtin.Tuple.tupleExact _) (bY (ae (aw (aw ⟨_,rfl,aw h⟩))) htake)
  |exact ae (ae (m:=Builtin.Tuple.tupleExact _) (bY (aw (aw ⟨_,rfl,aw h⟩)) htake))
  |exact ae (ae (m:=Builtin.Tuple.tupleExact _) (bY (aw ⟨_,rfl,aw h⟩) htake))
end
end HT
namespace L2
open PyProof.Rows
abbrev TO:=St->Hp->(Option Int->Hp->Prop)->Prop
def PO(X:Cx)(e:Option Expr)(t:TO):Prop :=
 ∀(pins:List (Addr×Obj)) (s:Shared) (σ:St) (H:Hp) (Q:Option Int->Hp->Prop),Inv X pins σ H s->t σ H Q->
  wpAny (model X.prog X.w) X.A (evalPart e X.env) (λu s'=>∃o H',Inv X pins σ H' s'/\IsPart u o/\Q o H') X.xe s
def aq4:TO:=λ_ H Q=>Q none H
def az0(t:TE):TO:=λσ H Q=>t σ H λx H1=>∃i,x=.int i/\Q (some i) H1
theorem intsAre_of{ns:List Int}:∀{us:List Value},Vals (ns.map V.int) us->IntsAre us ns:=by
 induction ns with
 |nil=>intro us r;rw [dZ] at r;cases r;exact .nil
 |cons n ns ih =>
  intro us r
  rw [bp] at r
  cases r with
  |cons r1 r2 =>
   obtain ⟨t,e⟩:=r1;subst e;exact .cons n t (ih r2)
section
variable{X:Cx}{e:Expr}{te:TE}{lo hi:Option Expr}{tl th:TO}{pos p2:Pos}
theorem aq5:PO X none aq4:=by
 intro pins s σ H Q I h
 rw [evalPart_none];exact aw ⟨none,H,I,.none,h⟩
theorem aq6(h:PE X e te):PO X (some e) (az0 te):=by
 intro pins s σ H Q I hw
 rw [evalPart_some];refine thn (h pins s σ H _ I hw) ?_
 rintro u s1 ⟨x,H1,I1,r1,q1⟩
 obtain ⟨i,rfl,q⟩:=q1;obtain ⟨t,rfl⟩:=r1;exact ⟨some i,H1,I1,.int i t,q⟩
def SlR(X:Cx)(r:V->Option Int->Option Int->Hp->VK->Prop):Prop :=
 ∀(pins:List (Addr×Obj)) (s:Shared) (σ:St) (H:Hp) (x:V) (v vl vu:Value) (lo hi:Option Int) (sl:Addr) (Q:VK),Inv X pins σ H s->RelV x v->s.heap.IsSliceOf sl vl vu .none->IsPart vl lo->IsPart vu hi->r x lo hi H Q->
  ∃T id,typeLookup (.type T) "__getitem__" = pure (some (.builtin id))/\s.TypeIs v T/\wpAny (model X.prog X.w) X.A (getItem v (.ref sl)) (EP X pins σ Q) X.xe s
theorem SlR.or(h:SlR X r)(h':SlR X r'):SlR X (λx lo hi H Q=>r x lo hi H Q\/r' x lo hi H Q):=by
 intro pins s σ H x v vl vu lo hi sl Q I rx hs pl pu q
 rcases q with q|q
 ·exact h pins s σ H x v vl vu lo hi sl Q I rx hs pl pu q
 ·exact h' pins s σ H x v vl vu lo hi sl Q I rx hs pl pu q
def tSl(r:V->Option Int->Option Int->Hp->VK->Prop)(te:TE)(tl th:TO):TE:=λσ H Q=>te σ H λx H1=>tl σ H1 λl H2=>th σ H2 λu H3=>r x l u H3 Q
theorem alc(hr:SlR X r)(he:PE X e te)(hl:PO X lo tl)(hu:PO X hi th):PE X (.Subscript e (.Slice lo hi none p2) pos) (tSl r te tl th):=by
 intro pins s σ H Q I h
 refine Subscript_ (thn (he pins s σ H _ I h) λv s1 ⟨x,H1,I1,r1,q1⟩=>?_);refine wpAny_Slice (thn (hl pins s1 σ H1 _ I1 q1) λvl s2 ⟨l,H2,I2,pl,q2⟩=>thn (hu pins s2 σ H2 _ I2 q2) λvu s3 ⟨u,H3,I3,pu,q3⟩=>?_);rw [evalPart_none];refine aw ?_;have I4:Inv X pins σ H3 {s3 with heap:=s3.heap.push {cls:=.type "slice",data:=.fields #[vl,vu,.none]} }:=I3.kept (t':=s3.toks) λb ob q=>ai _ q
 obtain ⟨T,id,hT,ht,hg⟩:=hr pins {s3 with heap:=s3.heap.push {cls:=.type "slice",data:=.fields #[vl,vu,.none]} } σ H3 x v vl vu l u s3.heap.objs.size Q I4 r1 (Heap.IsSliceOf.new ..) pl pu q3
 show wpAny (model X.prog X.w) X.A (subscriptTail e (.Slice lo hi none p2) v (.ref s3.heap.objs.size)) (EP X pins σ Q) X.xe {s3 with heap:=s3.heap.push {cls:=.type "slice",data:=.fields #[vl,vu,.none]} }
 exact tail_any (ops:=[.ref s3.heap.objs.size,v]) ht hT hg (by with_unfolding_all rfl)
def ao7(xs:List V)(lo hi:Option Int):List V:=(xs.drop (HT.sIx xs.length 0 lo)).take (HT.sIx xs.length xs.length hi-HT.sIx xs.length 0 lo)
theorem a71(xs:List V)(lo hi:Option Int):(ao7 xs lo hi).length<=xs.length:=by
 unfold ao7;rw [aV,aW];omega
def az1(K:PySem.W.Frag):V->Option Int->Option Int->Hp->VK->Prop:=λx lo hi H Q=>∃a xs,x=.ref a/\SqT K H a xs /\
 ¬ (HT.sIx xs.length 0 lo=0/\HT.sIx xs.length xs.length hi=xs.length)/\∀p,H p=none->Q (.ref p) (upd H p (.tup (ao7 xs lo hi)))
theorem auc:SlR X (az1 X.K):=by
 intro pins s σ H x v vl vu lo hi sl Q I rx hs pl pu h
 obtain ⟨a,xs,rfl,hx,hw,q⟩:=h;cases rx
 obtain ⟨its,r,ht,hz⟩:=I.tuple hx;have hlen:its.toArray.size=xs.length:=by rw [aA];exact r.length.symm
 refine ⟨"tuple",_,bK.lookup,ht.typeIs,?_⟩;refine HT.a5a ht hs pl pu (by rw [hlen];exact hw) ?_ (by rw [hlen];exact hz)
 rw [hlen];refine ⟨.ref s.heap.objs.size,_,I.laid (t':=s.toks) (o:=.tup (ao7 xs lo hi)) (λb ob q=>ai _ q) (ay _) ?_,rfl,q _ (I.hok.fresh (ay _))⟩;exact ⟨bG (a71 xs lo hi) hz,_,(r.drop (HT.sIx xs.length 0 lo)).take (HT.sIx xs.length xs.length hi-HT.sIx xs.length 0 lo),IsTup.new _ _⟩
def aud(K:PySem.W.Frag):R2:=λx y H Q=>∃a b xs ys,x=.ref a/\y=.ref b/\SqT K H a xs/\SqT K H b ys/\xs≠[]/\xs.length+ys.length<=sizeLine /\
 (ys=[]->Q (.ref a) H)/\(ys≠[]->∀p,H p=none->Q (.ref p) (upd H p (.tup (xs++ys))))
theorem Vals.nil_iff(r:Vals xs us):us=[]↔xs=[]:=by
 cases r with
 |nil=>simp
 |cons _ _=>simp
theorem aq7:OpR X (binaryOp .Add) (aud X.K):=by
 intro pins s σ H x y v u Q I rx ry h
 obtain ⟨a,b,xs,ys,rfl,rfl,ha,hb,hx,hz,q1,q2⟩:=h;cases rx
 cases ry
 obtain ⟨its,r1,p1,_⟩:=I.tuple ha;obtain ⟨its2,r2,p2,_⟩:=I.tuple hb;refine HT.aq3 p1 p2 (λz=>hx (r1.nil_iff.mp z)) (λz=>⟨.ref a,H,I,rfl,q1 (r2.nil_iff.mp z)⟩) (λz=>?_) (by rw [<-r1.length,<-r2.length];exact hz)
 refine ⟨.ref s.heap.objs.size,_,I.laid (t':=s.toks) (o:=.tup (xs++ys)) (λb ob q=>ai _ q) (ay _) ?_,rfl,q2 (λw=>z (r2.nil_iff.mpr w)) _ (I.hok.fresh (ay _))⟩;exact ⟨by rw [ar];exact hz,_,r1.append r2,IsTup.new _ _⟩
end
def ixN(n:Nat)(i:Int):Option Nat:=if 0<=i then (if i<n then some i.toNat else none) else if -(n:Int)<=i then some (i+n).toNat else none
def atI{α:Type}(xs:List α)(i:Int):Option α:=(ixN xs.length i).bind λj=>xs[j]?
theorem aho(h:ixN n i=some j):seqIndex? i n=some j/\j<n /\ -(n:Int)<=i/\i<n:=by
 unfold ixN at h
 by_cases h0:0<=i
 ·rw [aC h0] at h
  by_cases h1:i<n
  ·rw [aC h1] at h;have e:i.toNat=j:=bH h;exact ⟨by rw [i8 h0 h1,e],by omega,by omega,h1⟩
  ·rw [aQ h1] at h;cases h
 ·rw [aQ h0] at h
  by_cases h1 : -(n:Int)<=i
  ·rw [aC h1] at h;have e:(i+n).toNat=j:=bH h;exact ⟨by rw [hX (by omega) h1,e],by omega,h1,by omega⟩
  ·rw [aQ h1] at h;cases h
theorem a9d{α:Type}{xs:List α}{i:Int}{v:α}(h:atI xs i=some v):∃j,seqIndex? i xs.length=some j/\xs[j]? = some v/\j<xs.length /\ -(xs.length:Int)<=i/\i<xs.length:=by
 unfold atI at h
 cases e:ixN xs.length i with
 |none=>rw [e] at h;cases h
 |some j =>
  rw [e] at h;obtain ⟨h1,h2,h3,h4⟩:=aho e;exact ⟨j,h1,h,h2,h3,h4⟩
theorem xg{α:Type}{xs:List α}{j:Nat}{v:α}(h:xs[j]? = some v):atI xs (j:Int)=some v:=by
 have hj:j<xs.length:=(av.mp h).1;have e:ixN xs.length (j:Int)=some j:=by
  unfold ixN;rw [aC (by omega),aC (by omega)];simp
 unfold atI;rw [e];exact h
def a9e(b:Expr):Prop:=∀o i,subscripted b false o i=operate [o,i] (getItem o i)
def IxR(X:Cx)(r:R2):Prop :=
 ∀(value slice:Expr) (pins:List (Addr×Obj)) (s:Shared) (σ:St) (H:Hp) (x y:V) (v u:Value) (Q:VK),Inv X pins σ H s->RelV x v->RelV y u->r x y H Q->
  subscripted slice false v u=operate [v,u] (getItem v u)->wpAny (model X.prog X.w) X.A (subscriptTail value slice v u) (EP X pins σ Q) X.xe s
def MtR(X:Cx)(id:String)(r:V->List V->Hp->VK->Prop):Prop :=
 ∀(pins:List (Addr×Obj)) (s:Shared) (σ:St) (H:Hp) (x:V) (xs:List V) (v:Value) (us:List Value) (Q:VK),Inv X pins σ H s->RelV x v->Vals xs us->r x xs H Q->
  wpAny (model X.prog X.w) X.A (call (.builtin id) (v::us)) (EP X pins σ Q) X.xe s
section
variable{X:Cx}{a b:Expr}{ta tb:TE}{pos:Pos}
theorem IxR.or(h:IxR X r)(h':IxR X r'):IxR X (λx y H Q=>r x y H Q\/r' x y H Q):=by
 intro value slice pins s σ H x y v u Q I rx ry q hs
 rcases q with q|q
 ·exact h value slice pins s σ H x y v u Q I rx ry q hs
 ·exact h' value slice pins s σ H x y v u Q I rx ry q hs
theorem MtR.or{id:String}{r r':V->List V->Hp->VK->Prop}(h:MtR X id r)(h':MtR X id r'):MtR X id (λx xs H Q=>r x xs H Q\/r' x xs H Q):=by
 intro pins s σ H x xs v us Q I rx rs q
 rcases q with q|q
 ·exact h pins s σ H x xs v us Q I rx rs q
 ·exact h' pins s σ H x xs v us Q I rx rs q
theorem az2(hr:IxR X r)(ha:PE X a ta)(hb:PE X b tb)(hs:a9e b):PE X (.Subscript a b pos) (tOp r ta tb):=by
 intro pins s σ H Q I h
 exact Subscript_ (ayu ha hb I h λv u s2 x y H2 I2 rx ry q=>hr a b pins s2 σ H2 x y v u Q I2 rx ry q (hs _ _))
def ay2(K:PySem.W.Frag):R2:=λx y H Q=>∃p xs i v,x=.ref p/\y=.int i/\SqL K H p xs/\atI xs i=some v/\Q v H
def b0c(K:PySem.W.Frag):R2:=λx y H Q=>∃p xs i v,x=.ref p/\y=.int i/\SqT K H p xs/\atI xs i=some v/\Q v H
def b0d:R2:=λx y H Q=>∃z i c,x=.str z/\y=.int i/\z.length<=sizeLine/\atI z.cps.toList i=some c/\Q (.str ⟨#[c]⟩) H
theorem aq8:IxR X (ay2 X.K):=by
 intro value slice pins s σ H x y v u Q I rx ry h hs
 obtain ⟨p,xs,i,z,rfl,rfl,hq,he,q⟩:=h;cases rx
 obtain ⟨t,rfl⟩:=ry;obtain ⟨its,r,pl,hz⟩:=I.list hq;obtain ⟨j,h1,h2,h3,h4,h5⟩:=a9d he;obtain ⟨w,ew,rw'⟩:=r.get h2;have hl:=r.length;have hn:=a5v;have fin:EP X pins σ Q w s:=⟨z,H,I,rw',q⟩
 by_cases h0:0<=i
 ·have hj:i.toNat=j:=by
   rw [i8 h0 h5] at h1;exact bH h1
  exact item_listR pl.isList h0 (by omega) (by rw [hj];simpa using ew) fin hs
 ·have hj:(i+(its.toArray.size:Int)).toNat=j:=by
   rw [hX (by omega) h4] at h1
   rw [aA,<-hl];exact bH h1
  exact subscriptTail_builtinR (x:=w) pl.isList.typeIs slot_list_getitem.lookup
   (wpAny_getItem_list_neg (Q:=λr s'=>r=w/\EP X pins σ Q r s') pl.isList (by omega) (by rw [aA]<;>omega) (by omega) (by rw [hj];simpa using ew) ⟨rfl,fin⟩) hs
theorem a72:IxR X (b0c X.K):=by
 intro value slice pins s σ H x y v u Q I rx ry h hs
 obtain ⟨p,xs,i,z,rfl,rfl,hq,he,q⟩:=h;cases rx
 obtain ⟨t,rfl⟩:=ry;obtain ⟨its,r,pl,hz⟩:=I.tuple hq;obtain ⟨j,h1,h2,h3,h4,h5⟩:=a9d he;obtain ⟨w,ew,rw'⟩:=r.get h2;have hl:=r.length;have hn:=a5v;have fin:EP X pins σ Q w s:=⟨z,H,I,rw',q⟩;exact subscriptTail_builtinR (x:=w) pl.typeIs slot_tuple_getitem.lookup
  (getItem_tuple (j:=j) (Q:=λr s'=>r=w/\EP X pins σ Q r s') pl (by omega) (by omega) (by rw [aA,<-hl];exact h1) (by simpa using ew) ⟨rfl,fin⟩) hs
theorem aue:IxR X b0d:=by
 intro value slice pins s σ H x y v u Q I rx ry h hs
 obtain ⟨z,i,c,rfl,rfl,hz,he,q⟩:=h;obtain ⟨t,rfl⟩:=rx;obtain ⟨t',rfl⟩:=ry;obtain ⟨j,h1,h2,h3,h4,h5⟩:=a9d he;have hl:z.cps.toList.length=z.length:=by simp [Str.length]
 rw [hl] at h1 h4 h5;have hn:=a5v;exact tail_any (typeIs_str s z t) slot_str_getitem.lookup (getItem_str (c:=c) (by
  have e1:decide (i < -(2^63:Int))=false:=br (by omega)
  have e2:decide (i≥2^63)=false:=br (by omega)
  rw [e1,e2,bS]) (by rw [h1];simpa using h2) ⟨.str ⟨#[c]⟩,H,I.tok _,⟨_,rfl⟩,q⟩) hs
def rIx(K:PySem.W.Frag):R2:=λx y H Q=>ay2 K x y H Q\/b0c K x y H Q\/b0d x y H Q
theorem auf:IxR X (rIx X.K):=aq8.or (a72.or aue)
theorem afv(its:List Value)(n j:Nat)(u:Value):Obj.mapSeq (·.setIfInBounds j u) {cls:=.type "list",data:=.seq its.toArray n}={cls:=.type "list",data:=.seq (its.set j u).toArray n}:=by
 simp [Obj.mapSeq]
theorem Inv.lst{pins:List (Addr×Obj)}{σ:St}{H:Hp}{s:Shared}{p:Addr}{xs:List V}(I:Inv X pins σ H s)(h:H p=some (.lst xs)) :
  ∃(its:List Value) (n:Nat),Vals xs its/\s.heap.get? p=some {cls:=.type "list",data:=.seq its.toArray n}/\xs.length<=sizeLine:=by
 obtain ⟨z,its,n,r,e⟩:=I.hok p _ h;exact ⟨its,n,r,e,z⟩
theorem Inv.lstUpd{its its':List Value}(I:Inv X pins σ H s)(h:H p=some (.lst xs))
  (ho:s.heap.get? p=some {cls:=.type "list",data:=.seq its.toArray n}) (hf:f {cls:=.type "list",data:=.seq its.toArray n}={cls:=.type "list",data:=.seq its'.toArray n' }) (r:Vals ys its') (hz:ys.length<=sizeLine) (t:Nat) :
  Inv X pins σ (upd H p (.lst ys)) {s with heap:=s.heap.update p f,toks:=t}:=by
 have e:(s.heap.update p f).get? p=some {cls:=.type "list",data:=.seq its'.toArray n' }:=by
  rw [cY f ho (by rw [hf]<;>rfl),hf]
 refine I.write (x:=p) (e:=p) (by rw [h];trivial) (.inl rfl) (λb u hb q=>(cJ _ _ (eX hb)).trans q) ⟨_,e⟩ ?_
 exact ⟨hz,its',n',r,e⟩
def auh:V->V->V->Hp->(Hp->Prop)->Prop:=λo i v H Q=>∃p xs k j,o=.ref p/\i=.int k/\H p=some (.lst xs)/\ixN xs.length k=some j/\Q (upd H p (.lst (xs.set j v)))
theorem set_list:ayp X auh:=by
 intro pins s σ H o i v ov iv u Q I ro ri rv h
 obtain ⟨p,xs,k,j,rfl,rfl,hp,hj,q⟩:=h;cases ro
 obtain ⟨t,rfl⟩:=ri;obtain ⟨its,n,r,ho,hz⟩:=I.lst hp;obtain ⟨h1,h2,h3,h4⟩:=aho hj;have hl:=r.length;have hn:=a5v;have I':Inv X pins σ (upd H p (.lst (xs.set j v))) {s with heap:=s.heap.update p (Obj.mapSeq (·.setIfInBounds j u))} :=
  I.lstUpd hp ho (afv its n j u) (r.set rv j) (by rw [hZ];exact hz) s.toks
 by_cases h0:0<=k
 ·have hk:k.toNat=j:=by
   rw [i8 h0 h4] at h1;exact bH h1
  exact PySem.W.ki_setAt ho h0 (by omega) (by rw [aA,<-hl];exact h4) (by rw [hk];exact ⟨_,I',q⟩)
 ·have hk:(k+(its.toArray.size:Int)).toNat=j:=by
   rw [hX (by omega) h3] at h1
   rw [aA,<-hl];exact bH h1
  exact PySem.W.ki_setBack ho (by omega) (by rw [aA,<-hl];exact h3) (by omega) (by rw [hk];exact ⟨_,I',q⟩)
theorem aay(lo hi:Option Int)(n:Nat):(sliceBounds lo hi none n).1=((HT.sIx n 0 lo:Nat):Int)/\(sliceBounds lo hi none n).2.1=((HT.sIx n n hi:Nat):Int)/\(sliceBounds lo hi none n).2.2=1:=by
 refine ⟨?_,?_,rfl⟩
 ·cases lo with
  |none=>simp [sliceBounds,HT.sIx]
  |some i =>
   simp only [sliceBounds,HT.sIx,hJ,show (1:Int) > 0 by decide,dS]
   by_cases h:i<0
   ·simp only [h,dS]<;>omega
   ·simp only [h,eN]<;>omega
 ·cases hi with
  |none=>simp [sliceBounds,HT.sIx]
  |some i =>
   simp only [sliceBounds,HT.sIx,hJ,show (1:Int) > 0 by decide,dS]
   by_cases h:i<0
   ·simp only [h,dS]<;>omega
   ·simp only [h,eN]<;>omega
theorem a9f(its:List Value)(lo hi:Option Int):slicePick its.toArray lo hi none=((its.drop (HT.sIx its.length 0 lo)).take (HT.sIx its.length its.length hi-HT.sIx its.length 0 lo)).toArray:=by
 obtain ⟨h1,h2,h3⟩:=aay lo hi its.toArray.size;unfold slicePick;rw [h1,h2,h3];simp only [sliceRange_one,pick_run,aA]<;>rfl
def az3(K:PySem.W.Frag):V->Option Int->Option Int->Hp->VK->Prop:=λx lo hi H Q=>∃a xs,x=.ref a/\SqL K H a xs/\∀p,H p=none->Q (.ref p) (upd H p (.lst (ao7 xs lo hi)))
theorem aq9:SlR X (az3 X.K):=by
 intro pins s σ H x v vl vu lo hi sl Q I rx hs pl pu h
 obtain ⟨a,xs,rfl,hx,q⟩:=h;cases rx
 obtain ⟨its,r,ht,hz⟩:=I.list hx;have hlen:=r.length;refine ⟨"list",_,slot_list_getitem.lookup,ht.isList.typeIs,?_⟩;refine wpAny_getItem_list_slice ht.isList hs pl pu .none (by simp) ?_ (by rw [aA]<;>omega)
 rw [a9f,<-hlen];refine ⟨.ref s.heap.objs.size,_,I.laid (t':=s.toks) (o:=.lst (ao7 xs lo hi)) (λb ob q=>ai _ q) (ay _) ?_,rfl,q _ (I.hok.fresh (ay _))⟩;exact ⟨bG (a71 xs lo hi) hz,_,0,(r.drop (HT.sIx xs.length 0 lo)).take (HT.sIx xs.length xs.length hi-HT.sIx xs.length 0 lo),aK _ rfl⟩
def a3k:V->Bool
 |.non=>true
 |.bl _=>true
 |.int _=>true
 |.str _=>true
 |_=>false
def eqV:V->V->Bool
 |.non,.non=>true
 |.bl a,.bl b=>a == b
 |.bl a,.int b=>(if a then 1 else 0) == b
 |.int a,.bl b=>a == (if b then 1 else 0)
 |.int a,.int b=>a == b
 |.str a,.str b=>a == b
 |_,_=>false
theorem ahp(ry:RelV y u)(rx:RelV x v)(fy:a3k y=true)(fx:a3k x=true):SeqAt.EqAt A s u v (eqV y x):=by
 cases y with
 |non =>
  cases ry
  cases x with
  |non=>cases rx;exact SeqAt.EqAt.same _
  |bl b=>cases rx;exact SeqAt.EqAt.none_bool b
  |int b=>obtain ⟨t,rfl⟩:=rx;exact SeqAt.EqAt.none_int b t
  |str b=>obtain ⟨t,rfl⟩:=rx;exact SeqAt.EqAt.none_str b t
  |_=>exact absurd (show false=true from fx) aM
 |bl a =>
  cases ry
  cases x with
  |non=>cases rx;exact SeqAt.EqAt.bool_none a
  |bl b=>cases rx;exact SeqAt.EqAt.bool_bool a b
  |int b=>obtain ⟨t,rfl⟩:=rx;exact SeqAt.EqAt.bool_int a b t
  |str b=>obtain ⟨t,rfl⟩:=rx;exact SeqAt.EqAt.bool_str a b t
  |_=>exact absurd (show false=true from fx) aM
 |int a =>
  obtain ⟨t',rfl⟩:=ry
  cases x with
  |non=>cases rx;exact SeqAt.EqAt.int_none a t'
  |bl b=>cases rx;exact SeqAt.EqAt.int_bool a t' b
  |int b=>obtain ⟨t,rfl⟩:=rx;exact SeqAt.EqAt.int_int a t' b t
  |str b=>obtain ⟨t,rfl⟩:=rx;exact SeqAt.EqAt.int_str a t' b t
  |_=>exact absurd (show false=true from fx) aM
 |str a =>
  obtain ⟨t',rfl⟩:=ry
  cases x with
  |non=>cases rx;exact SeqAt.EqAt.str_none a t'
  |bl b=>cases rx;exact SeqAt.EqAt.str_bool a t' b
  |int b=>obtain ⟨t,rfl⟩:=rx;exact SeqAt.EqAt.str_int a t' b t
  |str b=>obtain ⟨t,rfl⟩:=rx;exact SeqAt.EqAt.str_str a t' b t
  |_=>exact absurd (show false=true from fx) aM
 |_=>exact absurd (show false=true from fy) aM
def eqU(x:V)(u:Value):Bool:=match u with
 |.none=>eqV .non x
 |.bool b=>eqV (.bl b) x
 |.int i _=>eqV (.int i) x
 |.str z _=>eqV (.str z) x
 |_=>false
theorem ao8(r:RelV y u)(f:a3k y=true):eqU x u=eqV y x:=by
 cases y with
 |non=>cases r;rfl
 |bl b=>cases r;rfl
 |int i=>obtain ⟨t,rfl⟩:=r;rfl
 |str z=>obtain ⟨t,rfl⟩:=r;rfl
 |_=>exact absurd (show false=true from f) aM
theorem acp:∀{xs:List V} {us:List Value},Vals xs us->xs.all a3k=true->us.any (eqU x)=xs.any λy=>eqV y x
 |_,_,.nil,_=>rfl
 |y::xs,u::us,.cons r t,f=>by
  rw [dH,aZ] at f;rw [gU,gU,ao8 r f.1,acp t f.2]
theorem a9g(rx:RelV x v)(fx:a3k x=true):∀{xs:List V} {us:List Value},Vals xs us->xs.all a3k=true->∀u∈us,SeqAt.EqAt A s u v (eqU x u)
 |_,_,.nil,_=>λu hu=>by cases hu
 |y::xs,u::us,.cons r t,f=>λu' hu=>by
  rw [dH,aZ] at f
  rcases aD.mp hu with rfl|hu
  ·rw [ao8 r f.1];exact ahp r rx f.1 fx
  ·exact a9g rx fx t f.2 u' hu
def inV(x:V)(xs:List V):Bool:=xs.any λy=>eqV y x
def rIn(K:PySem.W.Frag)(neg:Bool):R2:=λx y H Q=>∃p xs,y=.ref p/\(SqL K H p xs\/SqT K H p xs)/\a3k x=true/\xs.all a3k=true/\Q (.bl (if neg then !inV x xs else inV x xs)) H
theorem aaz:OpR X (compareOp .In) (rIn X.K false):=by
 intro pins s σ H x y v u Q I rx ry h
 obtain ⟨p,xs,rfl,hq,fx,fs,q⟩:=h;cases ry
 rcases hq with hq|hq
 ·obtain ⟨its,r,pl,hz⟩:=I.list hq;refine SeqAt.in_listAt (eqU x) pl.isList (λw hw=>a9g rx fx r fs w (by simpa using hw)) ⟨.bl _,H,I,rfl,?_⟩
  rw [show its.toArray.any (eqU x)=its.any (eqU x) by simp,acp r fs]
  exact q
 ·obtain ⟨its,r,pl,hz⟩:=I.tuple hq;refine SeqAt.in_tupleAt (eqU x) pl (λw hw=>a9g rx fx r fs w (by simpa using hw)) ⟨.bl _,H,I,rfl,?_⟩
  rw [show its.toArray.any (eqU x)=its.any (eqU x) by simp,acp r fs]
  exact q
theorem ab0:CallR X (.builtin "len") (λxs H Q=>∃p ys,xs=[.ref p]/\(SqL X.K H p ys\/SqT X.K H p ys)/\Q (.int ys.length) H):=by
 intro pins s σ H xs us Q I r h
 obtain ⟨p,ys,rfl,hq,q⟩:=h;obtain ⟨u,rfl,rx⟩:=vals1 r;cases rx
 have hn:=a5v
 rcases hq with hq|hq
 ·obtain ⟨its,r',pl,hz⟩:=I.list hq;have hlen:=r'.length;exact Calls.call_len_list pl.isList (by simp only [aA]<;>omega) ⟨.int ys.length,H,I.tok _,⟨s.toks+1,by rw [aA,hlen]⟩,q⟩
 ·obtain ⟨its,r',pl,hz⟩:=I.tuple hq;have hlen:=r'.length;exact len_tuple pl (by simp only [aA]<;>omega) ⟨.int ys.length,H,I.tok _,⟨s.toks+1,by rw [aA,hlen]⟩,q⟩
theorem ab1:CallR X (.builtin "len") (λxs H Q=>∃z,xs=[.str z]/\z.length<=sizeLine/\Q (.int z.length) H):=by
 intro pins s σ H xs us Q I r h
 obtain ⟨z,rfl,hz,q⟩:=h;obtain ⟨u,rfl,t,rfl⟩:=vals1 r;have hn:=a5v;exact len_str (by omega) ⟨.int z.length,H,I.tok _,⟨_,rfl⟩,q⟩
theorem CallR.or(h:CallR X f r)(h':CallR X f r'):CallR X f (λxs H Q=>r xs H Q\/r' xs H Q):=by
 intro pins s σ H xs us Q I rs q
 rcases q with q|q
 ·exact h pins s σ H xs us Q I rs q
 ·exact h' pins s σ H xs us Q I rs q
theorem m7:CallR X (.type "tuple") (λxs H Q=>∃p ys,xs=[.ref p]/\((SqL X.K H p ys/\∀l,H l=none->Q (.ref l) (upd H l (.tup ys)))\/(SqT X.K H p ys/\Q (.ref p) H))):=by
 intro pins s σ H xs us Q I r h
 obtain ⟨p,ys,rfl,h⟩:=h;obtain ⟨u,rfl,rx⟩:=vals1 r;cases rx
 rcases h with ⟨hq,q⟩|⟨hq,q⟩
 ·obtain ⟨its,r',pl,hz⟩:=I.list hq;have hlen:=r'.length;refine call_tuple_list pl.isList (λh' kp=>?_) (by simp only [aA]<;>omega)
  have I1:Inv X pins σ H {s with heap:=h' }:=I.kept (t':=s.toks) kp
  have I2:Inv X pins σ (upd H h'.objs.size (.tup ys)) {s with heap:=h'.push {cls:=.type "tuple",data:=.seq its.toArray} } :=
   I1.laid (t':=s.toks) (λb o e=>ai _ e) (ay _) (show ObjOk X.prog X.w _ _ _ (.tup ys) from ⟨hz,its,r',IsTup.new _ _⟩)
  exact ⟨.ref h'.objs.size,_,I2,rfl,q _ (I1.hok.fresh (ay _))⟩
 ·obtain ⟨its,r',pl,hz⟩:=I.tuple hq;exact call_tuple_same pl ⟨.ref p,H,I,rfl,q⟩
def tyV(K:PySem.W.Frag)(T:String)(x:V)(H:Hp):Prop:=match x with
 |.str _=>T = "str"
 |.int _=>T = "int"
 | .ref p=>(T = "list"/\∃xs,SqL K H p xs)\/(T = "tuple"/\∃o,K.lookup p=some o/\o.cls=.type "tuple"/\o.dict=none) \/
   (T = "dict"/\((∃kvs,H p=some (.dK kvs))\/∃kvs,H p=some (.dT kvs)))\/(T = "set"/\∃S n,H p=some (.set S n))
 |_=>False
theorem aui(I:Inv X pins σ H s)(r:RelV x v)(ty:tyV X.K T x H) :
  s.TypeIs v T/\∀a,v=.ref a->∃ob,s.heap.get? a=some ob/\ob.dict=none:=by
 cases x with
 |str z =>
  obtain ⟨t,rfl⟩:=r
  cases (show T = "str" from ty)
  exact ⟨typeIs_str s z t,λ_ e=>nomatch e⟩
 |int i =>
  obtain ⟨t,rfl⟩:=r
  cases (show T = "int" from ty)
  exact ⟨eC s i t,λ_ e=>nomatch e⟩
 |ref p =>
  cases r
  rcases ty with ⟨rfl,xs,hq⟩|⟨rfl,o,hk,hc,hd⟩|⟨rfl,hk⟩|⟨rfl,S,n,hk⟩
  ·obtain ⟨its,_,pl,_⟩:=I.list hq;refine ⟨pl.isList.typeIs,λa e=>?_⟩;cases e
   obtain ⟨o,n,e,c,hd,_⟩:=pl;exact ⟨o,e,hd⟩
  ·refine ⟨⟨o,I.kIn p o hk,hc⟩,λa e=>?_⟩;cases e
   exact ⟨o,I.kIn _ o hk,hd⟩
  ·have z:∃o,s.heap.get? p=some o/\o.ExactDict:=by
    rcases hk with ⟨kvs,hk⟩|⟨kvs,hk⟩
    ·obtain ⟨_,_,_,_,o,_,_,e,ex,_⟩:=I.hok p _ hk;exact ⟨o,e,ex⟩
    ·obtain ⟨_,_,_,_,o,_,_,e,ex,_⟩:=I.hok p _ hk;exact ⟨o,e,ex⟩
   obtain ⟨o,e,ex⟩:=z;refine ⟨⟨o,e,ex.1⟩,λa e2=>?_⟩;cases e2
   exact ⟨o,e,ex.2.1⟩
  ·obtain ⟨o,_,_,_,e,ex,_⟩:=I.hok p _ hk;refine ⟨⟨o,e,ex.1⟩,λa e2=>?_⟩;cases e2
   exact ⟨o,e,ex.2.1⟩
 |_=>exact False.elim ty
def tBM(K:PySem.W.Frag)(T:String)(r:V->List V->Hp->VK->Prop)(to:TE)(t:TA):TE:=λσ H Q=>to σ H λx H1=>tyV K T x H1/\t σ H1 λxs H2=>r x xs H2 Q
variable{o e:Expr}{es:List Expr}{to:TE}{t:TA}{name:Str}{apos cpos:Pos}{T id:String}{r:V->List V->Hp->VK->Prop}
theorem az4(pa:PlainAttrs T)(slot:Slot T name id)(hty:typeOf (.builtin id)=pure (.type "method_descriptor"))(hm:MtR X id r)(ho:PE X o to)(ha:PA X (e::es) t)
  (hbase:attributeBase o name X.env (eval o X.env)=eval o X.env:=by rfl)
  (hfew:((backTo cpos (starEach (e::es) X.env)).all (λx => !x.1) && (backToKw cpos (keywordEach [] X.env)).all (λx=>x.1.isSome)
   && decide ((e::es).length+([]:List Keyword).length+(if ([]:List Keyword).isEmpty then 0 else 1)<30))=true:=by rfl)
  (hline:(apos.endLine == cpos.line)=true:=by rfl) (hs:starEach (e::es) X.env=(false,eval e X.env)::starEach es X.env:=by rfl) (hplain:(backTo cpos (starEach es X.env)).any (·.1)=false:=by rfl) :
  PE X (.Call (.Attribute o name apos) (e::es) [] cpos) (tBM X.K T r to t):=by
 intro pins s σ H Q I h
 refine wpAny_Call_method_late hbase hfew hline rfl (thn (ho pins s σ H _ I h) λv s1 ⟨x,H1,I1,r1,ty,q1⟩=>?_);obtain ⟨h1,h2⟩:=aui I1 r1 ty;refine ⟨T,id,pa,slot,hty,h1,h2,?_⟩;have hA:=ha cpos pins s1 σ H1 _ I1 q1;rw [hs] at hA ⊢;refine Calls.callWith_builtin (by show (false || (backTo cpos (starEach es X.env)).any (·.1))=false;rw [hplain]<;>rfl) (Calls.evalArgs_plain ?_)
 exact thn hA λus s2 ⟨vs,H2,I2,r2,q2⟩=>hm pins s2 σ H2 x vs v us Q I2 r1 r2 q2
end
def MtM(X:Cx)(id:String)(r:V->List V->Hp->VK->Prop):Prop :=
 ∀(pins:List (Addr×Obj)) (s:Shared) (σ:St) (H:Hp) (x:V) (xs:List V) (v:Value) (us:List Value) (Q:VK),Inv X pins σ H s->RelV x v->Vals xs us->r x xs H Q->
  wpAny (model X.prog X.w) X.A (call (.builtin id) (v::us)) (EP X pins σ Q) X.xe s
theorem Vals.one:∀{x:V} {us:List Value},Vals [x] us->∃u,us=[u]/\RelV x u
 |_,_,.cons r .nil=>⟨_,rfl,r⟩
theorem Vals.rep(h:Vals xs us):∀k:Nat,Vals (List.replicate k xs).flatten (List.replicate k us).flatten
 |0=>.nil
 |k+1=>by
  rw [aS,aS,cK,cK];exact Vals.append h (Vals.rep h k)
theorem foldl_rep(its:List Value):∀(k:Nat) (acc:List Value),
  List.foldl (λx1 x2=>x1++x2) acc.toArray (List.replicate k its.toArray)=(acc++(List.replicate k its).flatten).toArray
 |0,acc=>by simp
 |k+1,acc=>by
  have e:acc.toArray++its.toArray=(acc++its).toArray:=by simp
  have e2:(acc++its)++(List.replicate k its).flatten=acc++(List.replicate (k+1) its).flatten:=by
   rw [aS,cK,cL]
  rw [<-e2,<-foldl_rep its k (acc++its),<-e,aS,fW]
section
variable{X:Cx}{pins:List (Addr×Obj)}{σ:St}{H:Hp}{s:Shared}{l b:Addr}{xs ys zs:List V}
theorem Inv.lset{its its':List Value}(I:Inv X pins σ H s)(hH:H l=some (.lst xs))
  (e:s.heap.get? l=some {cls:=.type "list",data:=.seq its.toArray n}) (hf:f its.toArray=its'.toArray) (hv:Vals ys its') (hz:ys.length<=sizeLine) :
  Inv X pins σ (upd H l (.lst ys)) {s with heap:=s.heap.update l (Obj.mapSeq f),toks:=t' }:=by
 have q:=hR e f;rw [hf] at q;refine I.write (x:=l) (e:=l) (by rw [hH];exact trivial) (.inl rfl) (λb' u hb hu=>(cJ s.heap (Obj.mapSeq f) (eX hb)).trans hu) ⟨_,q⟩ ?_
 exact ⟨hz,its',_,hv,q⟩
theorem Inv.lnew(I:Inv X pins σ H s)(hv:Vals ys its)(hz:ys.length<=sizeLine) :
  Inv X pins σ (upd H s.heap.objs.size (.lst ys)) {s with heap:=s.heap.push {cls:=.type "list",data:=.seq its.toArray},toks:=t' } :=
 I.laid (λ_ _ q=>ai _ q) (ay _) ⟨hz,its,0,hv,aK _ rfl⟩
theorem Inv.fresh(I:Inv X pins σ H s):H s.heap.objs.size=none:=I.hok.fresh (ay _)
theorem Inv.lstM(I:Inv X pins σ H s)(hH:H l=some (.lst xs)):xs.length<=sizeLine/\∃(its:List Value) (n:Nat),Vals xs its/\xs.length=its.length/\s.heap.get? l=some {cls:=.type "list",data:=.seq its.toArray n}:=by
 obtain ⟨z,its,n,r,e⟩:=I.hok l _ hH;exact ⟨z,its,n,r,r.length,e⟩
theorem a3v(h:n<=sizeLine):Builtin.List.listTooLong n=false:=by
 unfold Builtin.List.listTooLong;exact br (by omega)
end
section
variable{X:Cx}
def ahq:V->List V->Hp->VK->Prop:=λx vs H Q=>∃l xs y,x=.ref l/\vs=[y]/\H l=some (.lst xs)/\xs.length<sizeLine/\Q .non (upd H l (.lst (xs++[y])))
theorem a3w:MtM X "list.append" ahq:=by
 intro pins s σ H x vs v us Q I rx rv h
 obtain ⟨l,xs,y,rfl,rfl,hH,hz,q⟩:=h;cases rx
 obtain ⟨u,rfl,ru⟩:=rv.one;obtain ⟨z,its,n,r,hl,e⟩:=I.lstM hH;refine cN cy ⟨_,e,rfl⟩ fX (fO _ _) (gP l its.toArray n u (by rw [aA];omega)) ⟨e,?_⟩
 refine ⟨.non,_,I.lset (its':=its++[u]) hH e (by simp) (r.append (.cons ru .nil)) ?_,rfl,q⟩
 rw [ar,aG];omega
def auj:R2:=λx y H Q=>∃l k xs,x=.ref l/\y=.int k/\H l=some (.lst xs) /\ -(2^63)<=k/\k<2^63/\xs.length*k.toNat<=sizeLine /\
 ∀p,H p=none->Q (.ref p) (upd H p (.lst (List.replicate k.toNat xs).flatten))
theorem len_rep{α:Type}(xs:List α)(k:Nat):(List.replicate k xs).flatten.length=k*xs.length:=by
 induction k with
 |zero=>simp
 |succ k ih=>rw [aS,cK,ar,ih,dI,Nat.add_comm]
theorem auk:OpR X (binaryOp .Mult) auj:=by
 intro pins s σ H x y v u Q I rx ry h
 obtain ⟨l,k,xs,rfl,rfl,hH,h1,h2,hz,q⟩:=h;cases rx
 obtain ⟨t,rfl⟩:=ry;obtain ⟨z,its,n,r,hl,e⟩:=I.lstM hH;have hlen:its.toArray.size*k.toNat<=sizeLine:=by rw [aA,<-hl];exact hz
 have hcap:¬ its.toArray.size*k.toNat > (2^63-1) / 8:=by
  have:(sizeLine:Nat)<=(2^63-1) / 8:=by decide
  omega
 have hfit:¬ (!Builtin.List.listFitsIndex k)=true:=by
  rw [fitsIndex_both h1 h2];exact aM
 have hlong:¬ Builtin.List.listTooLong (its.toArray.size*k.toNat)=true:=by
  rw [a3v hlen];exact aM
 have hnew:List.foldl (λx1 x2=>x1++x2) #[] (List.replicate (if its.toArray.isEmpty=true then 0 else k.toNat) its.toArray)=(List.replicate k.toNat its).flatten.toArray:=by
  have f0:∀m:Nat,List.foldl (λx1 x2=>x1++x2) #[] (List.replicate m its.toArray)=(List.replicate m its).flatten.toArray:=λm=>by
   have:=foldl_rep its m []
   rw [dC] at this;exact this
  rw [f0]
  cases its with
  |nil=>simp
  |cons a r'=>rw [aQ (by simp)]
 refine cR (T := "list") (U := "int") (by decide) ⟨_,e,rfl⟩ (λs'=>eC s' k t) noFill_list_mul fh cD repeat_list eO.lookup
  (cN cD (eC s k t) eP (eI _ _) (int___rmul___int_list k t l its.toArray n)
   ⟨e,rfl,⟨_,e,rfl⟩,cN F.slot_list_mul ⟨_,e,rfl⟩ F.entry_list_mul (F.args_list_mul_2 _ _) (fk l its.toArray n k t hfit hcap hlong) ⟨e,?_⟩⟩)
 rw [hnew];exact ⟨.ref _,_,I.lnew (t':=s.toks) (r.rep k.toNat) (by rw [len_rep,eU];exact hz),rfl,q _ I.fresh⟩
end
end L2
namespace Att
open PySem.W PySem.Calls PyProof.Rows
theorem a73:∀(ns:List Int) (vs:List Value),WellAll P h vs (ns.map WData.int)->IntsAre vs ns:=by
 intro ns
 induction ns with
 |nil =>
  intro vs w
  rw [dZ] at w;cases w
  exact .nil
 |cons n ns ih =>
  intro vs w
  rw [bp] at w
  cases w with
  |cons a b =>
   cases a
   exact .cons _ _ (ih _ b)
theorem ahr{l:OpenLaw}(hn:l.most=some n)
  (hpre:l.row.toRowW.claim.pre args=true) (hwl:WellAll P h vals args) :
  ∃a vs ns,vals=[Value.ref a]/\args=[WData.list (ns.map WData.int)]/\h.get? a=some {cls:=.type "list",data:=.seq vs.toArray}/\IntsAre vs ns/\ns.length<=n:=by
 have hsh:WShape.hasAll [] args [.list .int]=true:=(pre_splitW hpre).1;have hc:l.pre.holds [] {args:=args}=true:=(pre_splitW hpre).2;obtain ⟨d,r,rfl,h1,h2⟩:=hasAllW_cons hsh;obtain rfl:=hasAllW_nil h2;obtain ⟨xs,rfl,h3⟩:=hasW_list h1;obtain ⟨ns,rfl⟩:=items_int h3;have hlen:ns.length<=n:=by
  unfold OpenLaw.pre at hc;have h4:(WTm.not (.lt (.lit (.int (n:Int))) (.len (.arg 0)))).holds [] {args:=[.list (ns.map .int)]}=true:=by
   have h4:=(holds_andW hc).1;rw [hn] at h4;exact h4
  have h5:=condW_of h4 (w_not (w_lt w_lit (w_len_list (w_arg rfl))));rw [ax] at h5;refine Nat.le_of_not_lt λq=>?_;have q':(n:Int)<((ns.length:Nat):Int):=by omega
  first
   |(rw [dk q'] at h5;exact absurd h5 (by decide))
   |(simp at h5;omega)
 cases hwl with
 |cons w1 w2 =>
  cases w2
  cases w1 with
  |list ho hall=>exact ⟨_,_,ns,rfl,rfl,ho,a73 ns _ hall,hlen⟩
theorem ahs(l:OpenLaw)(args:List WData):l.row.toRowW.claim.post args (.bool true) args=true :=
 postW_of (r:=l.row.toRowW) (X:=(true == true))
  (show WShape.has [] (.bool true) .bool=true by first|rfl|decide|simp [WShape.has,WShape.arms,WShape.armsAll])
  (show (WTm.eq .res (.lit (.bool true))).value [] {args:=args,res:=some (.bool true),after:=args}=some (.bool (true == true)) from w_eq_bool (w_res rfl) w_lit) rfl
theorem acq{l:OpenLaw}{d:DefRec}
  (hn:l.most=some n) (hdf:d.params.defaults=[])
  (call:∀(w:World) (s₀ s₁:Shared) (mg mb:Str->Option Value) (fa:Addr) (o:Obj) (pm cd doc:Value) (a:Addr) (vs:List Value) (ns:List Int),
   Ground q loose [] XP w s₀ mg mb s₁.heap->YP w s₁.heap->
   s₁.heap.get? fa=some o->o.data=.func (docDef d.name d.params d.body d.scope pm cd doc)->s₁.heap.CodeRec cd d.name->mg d.name=some (.ref fa)->
   s₁.heap.get? a=some {cls:=.type "list",data:=.seq vs.toArray}->IntsAre vs ns->ns.length<=n->s₁.gens = #[]->
   codeAny (model l.prog w) callerA (.call (.ref fa) ⟨[.ref a],[]⟩) (λr s'=>r=.ok (.ret (.bool true))/\OldK s₁.heap s'.heap/\s'.os=s₁.os/\AllBare s'.gens) s₁) :
  WalkO q loose XP YP l.row.toRowW d [] (λf vs=>PySem.call f vs):=by
 intro w s₀ s₁ mg mb G Y fa o pm cd doc dV kV ho hd hcd hD hmg hg args vals as hpre hlay hrd hwl hlo
 obtain rfl:dV=.none:=Dflts.none hD hdf
 obtain rfl:kV=.none:=Dflts.noKw hD
 obtain ⟨a,vs,ns,rfl,rfl,hobj,hints,hlen⟩:=ahr hn hpre hwl;refine enter_call (eE (call w s₀ s₁ mg mb fa o pm cd doc a vs ns G Y ho (fd_plain hd) hcd hmg hobj hints hlen hg) λr s' hq=>?_);obtain ⟨rfl,h2,h3,h4⟩:=hq;exact ⟨.inl ⟨.bool true,.bool true,[],rfl,λ_=>rfl,.bool true,ahs l _,λ_=>⟨List.Pairwise.nil,λ_ hm=>(nomatch hm)⟩⟩,h2,h3,h4⟩
end Att
namespace L2
open PyProof.Rows
theorem a74:∀{vs:List Value} {ns:List Int},IntsAre vs ns->Vals (ns.map V.int) vs
 |_,_,.nil=>.nil
 |_,_,.cons n t h=>.cons ⟨t,rfl⟩ (a74 h)
def Only(H:Hp):Prop:=∀b,H b=none\/∃o xs,H b=some (.frz o (.lst xs))
theorem ald{K:PySem.W.Frag}{s₁:Shared}{vs:List Value}
  (KX:K.In s₁.heap) (hns:s₁.heap.Ns mainGlobals mg) (hb:s₁.heap.Ns builtinsNs mb) (hbb:∀x:Str,x ≠ "__name__"->mb x=bootBuiltins x) (hlim:s₁.heap.NoLimit) (hg:s₁.gens = #[])
  (ha:s₁.heap.get? a=some {cls:=.type "list",data:=.seq vs.toArray}) (hi:IntsAre vs ns) (hl:ns.length<=sizeLine) (hr:Room k callerA)
  (F:∀base:Heap,K.In base->base.Ns mainGlobals mg->FnOk P w K mg base CX k fa fd [x] sp) (hbind:∀(s:Shared) (u:Value),BindsTo s fd ⟨[u],[]⟩ [(x,u)])
  (hsp:∀H:Hp,Only H->SqL K H a (ns.map V.int)->sp [.ref a] H (λv _=>v=.bl true) λ_ _ _=>False)
  (hCX:∀H e s',CX [] H s₁ (λ_ _ _=>False) e s'->False) :
  codeAny (model P w) callerA (.call (.ref fa) ⟨[.ref a],[]⟩) (λr s'=>r=.ok (.ret (.bool true))/\OldK s₁.heap s'.heap/\s'.os=s₁.os/\AllBare s'.gens) s₁:=by
 have rv:=a74 hi;have lenV:=hi.length;have core:∀H:Hp,Only H->SqL K H a (ns.map V.int)->HOk P w H s₁.heap->(∀b,H b≠none->b=a)->(H a≠none->K.lookup a=none)->
   codeAny (model P w) callerA (.call (.ref fa) ⟨[.ref a],[]⟩) (λr s'=>r=.ok (.ret (.bool true))/\OldK s₁.heap s'.heap/\s'.os=s₁.os/\AllBare s'.gens) s₁:=by
  intro H hO hS hok hA hK
  have base_of:∀{b:Addr} {o:Obj},s₁.heap.get? b=some o->H b=none->(akx s₁.heap H).get? b=some o:=λe n=>aky e n;have noA:∀{b:Addr} {o:Obj} {es:Array DictEntry} {ep:Nat},s₁.heap.get? b=some o->o.data=.dict es ep->H b=none:=λ{b o es ep} e d=>by
   cases q:H b with
   |none=>rfl
   |some u =>
    have e':b=a:=hA b (by rw [q];simp)
    subst e';rw [ha] at e;cases e
    have d':Data.seq vs.toArray _=Data.dict es ep:=d
    cases d'
  have nsK:∀{b:Addr} {m:Str->Option Value},s₁.heap.Ns b m->(akx s₁.heap H).Ns b m:=λ{b m} ⟨o,es,ep,e,d,r⟩=>⟨o,es,ep,base_of e (noA e d),d,r⟩;have hKb:K.In (akx s₁.heap H):=λb o e=>base_of (KX b o e) (by
   cases q:H b with
   |none=>rfl
   |some u =>
    have e':b=a:=hA b (by rw [q];simp)
    subst e';rw [hK (by rw [q];simp)] at e;cases e)
  have hM:Mod K mg (akx s₁.heap H):=⟨hKb,nsK hns,⟨mb,nsK hb,hbb⟩,let ⟨mc,h1,h2⟩:=hlim; ⟨mc,nsK h1,h2⟩⟩;have e0:Env0 P w K mg (akx s₁.heap H) callerA [] s₁ H:=⟨rfl,hM,λb o e=>apn e,Nat.le_of_eq (ah2 _ _),trivial,λb hb=>absurd (show b∈([]:List Addr) from hb) (by simp),hok,.of_eq hg⟩
  refine eE ((F _ hKb (nsK hns)).run callerA [] s₁ H ⟨[.ref a],[]⟩ [.ref a] [.ref a] _ _ hr e0 (hbind s₁ (.ref a)) (.cons rfl .nil) (hsp H hO hS)) λr s' h=>?_
  cases r with
  |error e=>exact (hCX H e s' h).elim
  |ok fl =>
   cases fl with
   |next=>exact False.elim h
   |brk=>exact False.elim h
   |cont=>exact False.elim h
   |ret u =>
    obtain ⟨v,H',os,bare,un,hok',r',q⟩:=h;have q':v=.bl true:=q;subst q';obtain rfl:u=Value.bool true:=r';refine ⟨rfl,OldK.of_keep λb o e=>?_,os,bare⟩
    cases q:H b with
    |none=>exact un.keep b o e q (by intro z;exact absurd (show b∈([]:List Addr) from z) (by simp)) (by simp)
    |some u =>
     rcases hO b with z|⟨ob,xs,z⟩
     ·rw [q] at z;cases z
     ·have z2:=un.frzs b ob _ z;obtain ⟨e1,_⟩:=hok b _ z;obtain ⟨e2,_⟩:=hok' b _ z2;rw [e] at e1;cases e1
      exact e2
 cases hk:K.lookup a with
 |some o =>
  have e:=KX a o hk;rw [ha] at e;cases e
  refine core (λ_=>none) (λ_=>.inl rfl) (.inr ⟨_,vs.toArray,_,hk,rfl,rfl,rfl,by rw [aA,lenV];exact hl,by simpa using rv⟩) (λb u z=>by have z':(none:Option HO)=some u:=z;cases z') (λb z=>absurd rfl z) λz=>absurd rfl z
 |none =>
  refine core (λb=>if b=a then some (.frz {cls:=.type "list",data:=.seq vs.toArray} (.lst (ns.map V.int))) else none) (λb=>?_) (.inl (.inr ⟨{cls:=.type "list",data:=.seq vs.toArray},aC rfl⟩)) (λb u z=>?_) (λb z=>?_) λ_=>hk
  ·by_cases hb:b=a
   ·exact .inr ⟨_,_,aC hb⟩
   ·exact .inl (aQ hb)
  ·by_cases hb:b=a
   ·have z':=(aC hb).symm.trans z
    cases z'
    subst hb;exact ⟨ha,by rw [ax];exact hl,vs,_,rv,ha⟩
   ·have z':=(aQ hb).symm.trans z
    cases z'
  ·by_cases hb:b=a
   ·exact hb
   ·exact absurd (aQ hb) z
theorem aqa{l:PySem.W.OpenLaw}{n k:Nat}{q:Program}{loose:List Str}{XP:(Str->Option Value)->Heap->Prop}{YP:World->Heap->Prop}{d:DefRec}{K:Params->PySem.W.Frag}{CX:World->CXT}{sp:World->Sp}{x:Str}
  (hn:l.most=some n) (hn2:n<=sizeLine) (hdf:d.params.defaults=[]) (hr:Room k callerA)
  (hY:∀(w:World) (h:Heap),YP w h->(K w.params).In h)
  (F:∀(w:World) (mg:Str->Option Value) (fa:Addr) (h:Heap),(K w.params).In h->h.Ns mainGlobals mg->mg d.name=some (.ref fa)->
   ∃fd:FuncData,(∀(s:Shared) (u:Value),BindsTo s fd ⟨[u],[]⟩ [(x,u)]) /\
    ∀base:Heap,(K w.params).In base->base.Ns mainGlobals mg->FnOk l.prog w (K w.params) mg base (CX w) k fa fd [x] (sp w))
  (hsp:∀(w:World) (H:Hp) (a:Addr) (ns:List Int),ns.length<=n->Only H->SqL (K w.params) H a (ns.map V.int)->sp w [.ref a] H (λv _=>v=.bl true) λ_ _ _=>False)
  (hCX:∀(w:World) (H:Hp) (s:Shared) (e:Value) (s':Shared),CX w [] H s (λ_ _ _=>False) e s'->False) :
  PySem.W.WalkO q loose XP YP l.row.toRowW d [] (λf vs=>PySem.call f vs):=by
 refine Att.acq hn hdf λw s₀ s₁ mg mb fa o pm cd doc a vs ns G Y ho hd hcd hmg hobj hints hlen hg=>?_;have KX:=hY w _ Y;obtain ⟨fd,hb,hF⟩:=F w mg fa _ KX G.T.g hmg;exact ald KX G.T.g G.T.b G.T.builtins G.T.nolimit hg hobj hints (bG hlen hn2) hr hF hb (λH hO hS=>hsp w H a ns hlen hO hS) λH e s'=>hCX w H s₁ e s'
def a1u(s:Stmt):Arguments:=match s with
 |.FunctionDef _ a _ _ _ _ _ _ _ _=>a
 |_=>{posonlyargs:=[],args:=[],vararg:=none,kwonlyargs:=[],kw_defaults:=[],kwarg:=none,defaults:=[]}
def uh(s:Stmt):List Stmt:=match s with
 |.FunctionDef _ _ b _ _ _ _ _ _ _=>b
 |_=>[]
def dh(s:Stmt):Scope:=match s with
 |.FunctionDef _ _ _ _ _ _ sc _ _ _=>sc
 |_=>{kind:=.function,names:=[],isGenerator:=false,isCoroutine:=false}
abbrev CX0:CXT:=λ_ _ _ _ _ _=>False
abbrev E0:XK:=λ_ _ _=>False
theorem ale:a70 CX0 X E0:=λ_ _ _ _ _ _ _ h=>h.elim
structure Fun (K:PySem.W.Frag) (x qual:Str) (st:Stmt) (f:Addr) (fd:FuncData):Prop where
 ex:∃(oc:Value) (od:Option Addr) (kV doc pm:Value) (an:Option Addr) (cdv ct:Value) (osl:Array (Option Value)),
  fd=PySem.W.fnOf x qual (a1u st) (uh st) (dh st) .none kV doc pm an cdv ct/\K.lookup f=some ⟨oc,od,.func fd,osl⟩/\PySem.W.codeIn K cdv qual=true
 kp:PySem.W.keepIn K (.ref f)=true
section
variable{P:Program}{w:World}{K:PySem.W.Frag}{mg:Str->Option Value}{base:Heap}
theorem Fun.ok{x qual:Str}{st:Stmt}{f:Addr}{fd:FuncData}{N ps:List Str}{k:Nat}{sp:Sp}(F:Fun K x qual st f fd)(S:FnScope N ps (dh st))(len:∀vs H Q E,sp vs H Q E->vs.length=ps.length)
  (hbody:∀(cdv:Value) (A:Around) (outer:List Env) (s:Shared) (H:Hp) (vs:List V) (Q:VK) (E:XK),Room k (A.deeper (envOfC qual (dh st) s.heap.objs.size f cdv))->sp vs H Q E->
   ∃t,PSs (agu CX0 P w K mg base N qual (dh st) f cdv A outer s H E).nox (uh st) t/\t {nx:=λ_ H'=>Q .non H',rt:=Q} (start N vs) H):FnOk P w K mg base CX0 (k+1) f fd ps sp:=by
 obtain ⟨oc,od,kV,doc,pm,an,cdv,ct,osl,rfl,lk,hcd⟩:=F.ex;refine aub lk hcd S len λA outer s H vs Q E hr hsp=>?_;obtain ⟨t,h,q⟩:=hbody cdv A outer s H vs Q E hr hsp;exact ⟨t,h.nox,q⟩
theorem Fun.binds{x qual:Str}{st:Stmt}{f:Addr}{fd:FuncData}{ps:List Str}(F:Fun K x qual st f fd)
  (h:∀(kV doc pm:Value) (an:Option Addr) (cdv ct:Value) (us:List Value),us.length=ps.length->bindArgs (PySem.W.fnOf x qual (a1u st) (uh st) (dh st) .none kV doc pm an cdv ct) ⟨us,[]⟩=pure (ps.zip us)):Binds K fd ps []:=by
 obtain ⟨oc,od,kV,doc,pm,an,cdv,ct,osl,rfl,lk,hcd⟩:=F.ex;exact .all (h kV doc pm an cdv ct)
theorem ao9{x qual:Str}{st:Stmt}{f:Addr}{oc:Value}{od an:Option Addr}{osl:Array (Option Value)}{kV doc pm cdv ct:Value}(l:K.lookup f=some ⟨oc,od,.func (PySem.W.fnOf x qual (a1u st) (uh st) (dh st) .none kV doc pm an cdv ct),osl⟩)
  (c:PySem.W.codeIn K cdv qual=true) (k:PySem.W.keepIn K (.ref f)=true):Fun K x qual st f (PySem.W.fnOf x qual (a1u st) (uh st) (dh st) .none kV doc pm an cdv ct):=⟨⟨oc,od,kV,doc,pm,an,cdv,ct,osl,rfl,l,c⟩,k⟩
end
section
variable{κ:Type}[DecidableEq κ]
theorem RelO.getD{o:Option V}{u:Option Value}{d:V}{d':Value}(r:RelO o u)(rd:RelV d d'):RelV (o.getD d) (u.getD d'):=by
 cases o with
 |none=>cases u with
  |none=>exact rd
  |some _=>exact (show False from r).elim
 |some _=>cases u with
  |none=>exact (show False from r).elim
  |some _=>exact r
end
section
variable{X:Cx}
theorem a1v:OpR X (compareOp .LtE) (λx y H Q=>∃i j,x=.str i/\y=.str j/\Q (.bl (!decide (j.cps.toList<i.cps.toList))) H):=by
 intro pins s σ H x y v u Q I rx ry h
 obtain ⟨i,j,rfl,rfl,q⟩:=h;obtain ⟨t,rfl⟩:=rx;obtain ⟨t',rfl⟩:=ry;exact PySem.P.le_str (ahc I q rfl)
def a75{α:Type}(xs:List α)(lo hi:Option Int):List α:=(xs.drop (HT.sIx xs.length 0 lo)).take (HT.sIx xs.length xs.length hi-HT.sIx xs.length 0 lo)
def az5:V->Option Int->Option Int->Hp->VK->Prop:=λx lo hi H Q=>∃z,x=.str z/\z.length<=sizeLine/\Q (.str ⟨(a75 z.cps.toList lo hi).toArray⟩) H
theorem aul(lo hi:Option Int)(n:Nat):Builtin.Str.strSliceIndices lo hi 1 n=(List.range (HT.sIx n n hi-HT.sIx n 0 lo)).map λk=>HT.sIx n 0 lo+k:=by
 have e1:Builtin.Str.strSliceIndices lo hi 1 n=sliceRange ((HT.sIx n 0 lo:Nat):Int) ((HT.sIx n n hi:Nat):Int) 1:=by
  unfold Builtin.Str.strSliceIndices;dsimp only
  congr 1
  ·cases lo with
   |none=>simp [HT.sIx]
   |some i=>simp only [HT.sIx,show (1:Int) > 0 by decide,dS];split<;>omega
  ·cases hi with
   |none=>simp [HT.sIx]
   |some i=>simp only [HT.sIx,show (1:Int) > 0 by decide,dS];split<;>omega
 rw [e1];exact sliceRange_one _ _
theorem aum{α:Type}(xs:List α)(a:Nat):∀k,a+k<=xs.length->((List.range k).map λj=>a+j).filterMap (xs[·]?)=(xs.drop a).take k
 |0,_=>by simp
 |k+1,h=>by
  rw [List.range_succ,bB,List.filterMap_append,aum xs a k (by omega)]
  have hk:a+k<xs.length:=by omega
  rw [List.take_succ]
  congr 1
  simp [List.getElem?_drop,hk]
theorem aun:SlR X az5:=by
 intro pins s σ H x v vl vu lo hi sl Q I rx hs pl pu h
 obtain ⟨z,rfl,hz,q⟩:=h;obtain ⟨t,rfl⟩:=rx;refine ⟨"str",_,PyProof.Rows.slot_str_getitem.lookup,typeIs_str s z t,?_⟩;have hl:z.cps.toList.length=z.length:=by simp [Str.length]
 have fin:∀(l u:Option (Int×Tok)),vl=partValue l->vu=partValue u->l.map (·.1)=lo->u.map (·.1)=hi->wpAny (model X.prog X.w) X.A (getItem (.str z t) (.ref sl)) (EP X pins σ Q) X.xe s:=by
  intro l u e1 e2 e3 e4
  subst e1 e2;refine wpAny_getItem_str_slice (l:=l) (u:=u) (st:=none) hs rfl ?_;have hp:slicePicked z l u none=(List.range (HT.sIx z.length z.length hi-HT.sIx z.length 0 lo)).map λk=>HT.sIx z.length 0 lo+k:=by
   unfold slicePicked;rw [e3,e4];exact aul lo hi z.length
  have hb1:HT.sIx z.length z.length hi<=z.length:=HT.ahm _ _ (ay _) _;have hb2:HT.sIx z.length 0 lo<=z.length:=HT.ahm _ _ (aU _) _;unfold sliceMade
  split
  ·rename_i c;simp only [aZ,eB] at c;obtain ⟨_,c⟩:=c;rw [hp,ax,bF] at c;have e:(⟨(a75 z.cps.toList lo hi).toArray⟩:Str)=z:=by
    unfold a75;rw [hl];have z1:HT.sIx z.length 0 lo=0:=by omega
    have z2:HT.sIx z.length z.length hi=z.length:=by omega
    rw [z1,z2,gG,Nat.sub_zero,bP (by omega)]
   rw [e] at q;exact ⟨.str z,H,I,⟨_,rfl⟩,q⟩
  ·have e:(⟨(a75 z.cps.toList lo hi).toArray⟩:Str)=⟨((slicePicked z l u none).filterMap (z.cps[·]?)).toArray⟩:=by
    rw [hp];unfold a75;rw [hl]
    by_cases hc:HT.sIx z.length 0 lo<=HT.sIx z.length z.length hi
    ·rw [<-aum z.cps.toList _ _ (by omega)]
     simp only [Array.getElem?_toList]
    ·rw [show HT.sIx z.length z.length hi-HT.sIx z.length 0 lo=0 by omega]
     simp
   rw [e] at q;refine ⟨?_,.str _,H,I.tok _,⟨_,rfl⟩,q⟩;rw [<-e];show (a75 z.cps.toList lo hi).toArray.size<=sizeLine;rw [aA];unfold a75;rw [aV,aW,hl];omega
 cases pl with
 |none=>cases pu with
  |none=>exact fin none none rfl rfl rfl rfl
  |int j t'=>exact fin none (some (j,t')) rfl rfl rfl rfl
 |int i t'=>cases pu with
  |none=>exact fin (some (i,t')) none rfl rfl rfl rfl
  |int j t''=>exact fin (some (i,t')) (some (j,t'')) rfl rfl rfl rfl
theorem uz:CallR X (.builtin "isinstance") (λxs H Q=>∃x T t b,xs=[x,.ty T]/\TyOf X.K H x t/\PySem.W.kitOne X.K t (.type T)=some b/\Q (.bl b) H):=by
 intro pins s σ H xs us Q I r h
 obtain ⟨x,T,t,b,rfl,ty,e,q⟩:=h;obtain ⟨u,w',rfl,rx,rt⟩:=vals2 r;cases rt
 exact ahj I rx ty e λtk=>⟨.bl b,H,I.tok tk,rfl,q⟩
def a1l(x:Str):List V:=x.cps.toList.map λc=>V.str ⟨#[c]⟩
theorem afw(h:ItemsOf (SignAt x) acc x.cps.size):Vals (a1l x) acc.toList:=by
 obtain ⟨hs,ha⟩:=h;have key:∀(cs:List Nat) (us:List Value),us.length=cs.length->(∀(j:Nat) (v:Value),us[j]? = some v->∃c u,cs[j]? = some c/\v=.str ⟨#[c]⟩ u)->Vals (cs.map λc=>V.str ⟨#[c]⟩) us:=by
  intro cs
  induction cs with
  |nil=>intro us hl _;cases us with|nil=>exact .nil|cons _ _=>simp at hl
  |cons c cs ih =>
   intro us hl hp
   cases us with
   |nil=>simp at hl
   |cons u us =>
    refine .cons ?_ (ih us (by simpa using hl) λj v e=>hp (j+1) v (by simpa using e))
    obtain ⟨c',t,e1,e2⟩:=hp 0 u rfl;simp at e1;subst e1;exact ⟨t,e2⟩
 refine key _ _ (by simp [hs]) λj v e=>?_
 obtain ⟨c,u,e1,e2⟩:=ha j v (by simpa using e)
 exact ⟨c,u,by simpa using e1,e2⟩
theorem o8(hc:X.calm=true):CallR X (.type "tuple") (λxs H Q=>∃z,xs=[.str z]/\z.length<=sizeLine/\∀l,H l=none->Q (.ref l) (upd H l (.tup (a1l z)))):=by
 intro pins s σ H xs us Q I r h
 obtain ⟨z,rfl,hz,q⟩:=h;obtain ⟨u,rfl,t,rfl⟩:=vals1 r;refine PySem.call_tuple_str (I.ok.hd hc) z t (λh' tk acc kp hi=>?_) (by simpa [Str.length] using hz)
 have I1:Inv X pins σ H {s with heap:=h',toks:=tk}:=I.kept kp
 have I2:Inv X pins σ (upd H h'.objs.size (.tup (a1l z))) {s with heap:=h'.push {cls:=.type "tuple",data:=.seq acc},toks:=tk} :=
  I1.laid (t':=tk) (λb o e=>ai _ e) (ay _) (show ObjOk X.prog X.w _ _ _ (.tup (a1l z)) from ⟨by simpa [a1l,Str.length] using hz,acc.toList,afw hi,by simpa using IsTup.new h' acc⟩)
 exact ⟨.ref h'.objs.size,_,I2,rfl,q _ (I1.hok.fresh (ay _))⟩
end
def Its(x:Str):It:=⟨λi _=>i<x.cps.size,λi H v H'=>H'=H/\∃c,x.cps.toList[i]? = some c/\v=.str ⟨#[c]⟩,λi _=>i=x.cps.size⟩
theorem ae9{P:Program}{w:World}{K:PySem.W.Frag}{tg:Expr}(it:Addr)(x:Str)(t:Tok)(ty:String)
  (hty:["enumerate","zip","dict_itemiterator","dict_reverseitemiterator","odict_iterator","itertools.zip_longest","itertools.pairwise"].contains ty=false)
  (W:∀A':Around,A'.handled=none->Walks P w A' it [it] [it] x.cps.size (SignAt x) (λi h=>h.IsStrIter it ty x t i))
  (slf:∀(A:Around) (i:Nat) (s:Shared) (Q:Value->Shared->Prop) (E:Value->Shared->Prop),s.heap.IsStrIter it ty x t i->Q (.ref it) s->wpAny (model P w) A (pyIter (.ref it)) Q E s) :
  Turn P w K tg (Its x) [it] it (λi h=>h.IsStrIter it ty x t i) where
 mem:=by simp
 obj:=λi h st b hb=>by
  have e:b=it:=by simpa using hb
  subst e;obtain ⟨o,e,c,d⟩:=st;exact ⟨o,e,λv z=>by rw [d] at z;cases z⟩
 keep:=λi h h' st k=>by
  obtain ⟨o,e,c,d⟩:=st;exact ⟨o,k it (by simp) o e,c,d⟩
 item:=by
  intro X hP hw hK hc i pins s σ H E I hf st hg
  subst hP hw hK;obtain ⟨f0,f1,f2,f3,f4,f5⟩:=hf it (by simp)
  refine (W X.A (I.ok.hd hc)).item i s _ _ hg st λv h' tk hv st' kk=>?_;obtain ⟨c,u,hx,rfl⟩:=hv;have I1:Inv X pins σ H {s with heap:=h',toks:=tk}:=I.turned (λb o hb e=>kk b o (by simpa using hb) e) f0 f1 f3 f4 f5
  obtain ⟨o,e,oc,d⟩:=id st';exact ⟨_,rfl,ah6 (s:={s with heap:=h',toks:=tk}) e oc d hty ⟨.str ⟨#[c]⟩,H,I1,⟨_,rfl⟩,⟨rfl,c,by simpa using hx,rfl⟩,st',λb hb=>(hf b hb).1⟩⟩
 done:=by
  intro X hP hw hK hc i pins s σ H E I hf st hg
  subst hP hw hK;obtain ⟨f0,f1,f2,f3,f4,f5⟩:=hf it (by simp)
  have hg':i=x.cps.size:=hg;subst hg';exact (W X.A (I.ok.hd hc)).done s _ _ st λh' tk eb=>⟨rfl,I.turned (λb o hb e=>eb b o (by simpa using hb) e) f0 f1 f3 f4 f5⟩
 self:=slf
section
variable{X:Cx}{tg:Expr}
def b1t(tl:TE):TI:=λσ H R=>tl σ H λx H1=>∃z,x=.str z/\R (Its z) H1
theorem aoa{l:Expr}{tl:TE}(hl:PE X l tl):PI X tg l (b1t tl):=by
 intro pins s σ H R I h
 refine thn (hl pins s σ H _ I h) ?_
 rintro v s1 ⟨x,H1,I1,r1,q1⟩
 obtain ⟨z,e,q⟩:=q1;subst e;obtain ⟨t,rfl⟩:=r1;have fp:∀b∈[s1.heap.objs.size],FpOk X pins H1 b:=λb hb=>by
  have e:b=s1.heap.objs.size:=by simpa using hb
  subst e;exact I1.fpOk (ay _) (I1.hok.fresh (ay _))
 cases ha:z.cps.all (· < 128)
 ·exact wpAny_pyIter_wide ha ⟨s1.heap.objs.size,[s1.heap.objs.size],_,_,H1,rfl,I1.kept (t':=s1.toks) λb o e=>ai _ e,
   ae9 _ z t "str_iterator" (by decide) (λA' hA=>Walks.strWide hA _ z t) (λ_ _ _ _ _ st h=>wpAny_pyIter_striter_wide st h),⟨_,aK _ rfl,rfl,rfl⟩,fp,q⟩
 ·exact wpAny_pyIter_ascii ha ⟨s1.heap.objs.size,[s1.heap.objs.size],_,_,H1,rfl,I1.kept (t':=s1.toks) λb o e=>ai _ e,
   ae9 _ z t "str_ascii_iterator" (by decide) (λA' hA=>Walks.strAscii hA _ z t) (λ_ _ _ _ _ st h=>wpAny_pyIter_striter_ascii st h),⟨_,aK _ rfl,rfl,rfl⟩,fp,q⟩
end
def cxC(X:Cx)(N:List Str)(scope:Scope)(cl:List (Str×Addr))(C:Addr)(fp:List Addr)(s:Shared)(H:Hp):Cx where
 prog:=X.prog
 w:=X.w
 K:=X.K
 mg:=X.mg
 base:=X.base
 A:=X.A
 N:=N
 s₀:=s
 H₀:=H
 env:=compEnvC scope cl C X.env
 outer:=X.stack
 stack:=X.stack
 ex:=fp
 fn:=λ_=>false
 calm:=X.calm
 pn:=[]
 xe:=λ_ _=>False
structure CSc (X:Cx) (scope:Scope) (cl:List (Str×Addr)) (ts fr:List Str) (ix:List Nat):Prop where
 clos:closureFor scope X.env=pure cl
 kind:scope.kind=.function
 nocell:∀y∈scope.names,y.2≠.cell
 names:∀y∈scope.names,y.2=.local->scope.names.lookup y.1=some .local
 sub:∀y c,cl.lookup y=some c->X.env.cells.lookup y=some c
 has:∀y,((relabel scope X.env).names.lookup y=some .cell\/(relabel scope X.env).names.lookup y=some .free)->∃c,cl.lookup y=some c
 nofn:∀y∈ts,(relabel scope X.env).names.lookup y=some .local
 len:ix.length=fr.length
 vis:∀(j:Nat) (y:Str),fr[j]? = some y->∃i:Nat,ix[j]? = some i/\X.N[i]? = some y/\(X.env.kindOf y=some .cell\/X.env.kindOf y=some .free)/\((relabel scope X.env).names.lookup y=some .cell\/(relabel scope X.env).names.lookup y=some .free)
def Ext(a b:St):Prop:=b.length=a.length/\∀(i:Nat) v,a[i]? = some (some v)->b[i]? = some (some v)
def qu(nt:Nat)(ix:List Nat)(σ:St):St:=List.replicate nt none++ix.map λi=>(σ[i]?).join
def aqb(J:It)(s0:St)(g:TG)(te:TE)(Q:VK)(H1:Hp):Prop:=∃W:Nat->Nat->List V->Hp->Prop,(∃m,W 0 m [] H1)/\∀i m ys H,W i m ys H->
 (J.stop i H/\∀p,H p=none->Q (.ref p) (upd H p (.lst ys))) \/
 (J.go i H/\ys.length<sizeLine/\∀x H',J.yld i H x H'->g x s0 H' λσ2 H2=>Ext s0 σ2/\te σ2 H2 λy H3=>∃m',m'<m/\W (i+1) m' (ys++[y]) H3)
def aht(wi:TI)(s0:St->St)(g:TG)(te:TE):TE:=λσ H Q=>wi σ H λJ H1=>aqb J (s0 σ) g te Q H1
def acr(J:It)(s0:St)(g:TG)(tc:TT)(te:TE)(Q:VK)(H1:Hp):Prop:=∃W:Nat->Nat->List V->Hp->Prop,(∃m,W 0 m [] H1)/\∀i m ys H,W i m ys H->
 (J.stop i H/\∀p,H p=none->Q (.ref p) (upd H p (.lst ys))) \/
 (J.go i H/\ys.length<sizeLine/\∀x H',J.yld i H x H'->g x s0 H' λσ2 H2=>Ext s0 σ2/\tc σ2 H2 λok H2'=>if ok=true then te σ2 H2' (λy H3=>∃m',m'<m/\W (i+1) m' (ys++[y]) H3) else ∃m',m'<m/\W (i+1) m' ys H2')
def a5b(wi:TI)(s0:St->St)(g:TG)(tc:TT)(te:TE):TE:=λσ H Q=>wi σ H λJ H1=>acr J (s0 σ) g tc te Q H1
theorem a76(elt target iter cnd:Expr)(scope:Scope)(pos:Pos)(it acc:Value)(env:Env) :
  compTurn (.ListComp elt [⟨target,iter,[cnd],0⟩] scope pos) 0 it acc env=(standAt iter.pos>>=λ_=>pyNext it>>=λr=>match r with
   |none=>pure (.done .next)
   |some v=>letOwnedTupleGo target it v>>=λ_=>assign target env v>>=λ_=>isTrue cnd env (eval cnd env)>>=λok =>
    (if ok=true then (eval elt env>>=λx=>call (.builtin "list.append") [acc,x]>>=λ_=>pure ()) else pure ())>>=λ_ =>
     again (.compLoop (.ListComp elt [⟨target,iter,[cnd],0⟩] scope pos) 0 it acc env)):=by
 first
  |rfl
  |(unfold compTurn;simp only [gV];rfl)
  | (show (standAt iter.pos>>=λ_=>pyNext it>>=λr=>_)=_
     congr 1;funext _;congr 1;funext r
     cases r with
     |none=>rfl
     |some v =>
      show (letOwnedTupleGo target it v>>=λ_=>assign target env v>>=λ_=>_)=(letOwnedTupleGo target it v>>=λ_=>assign target env v>>=λ_=>_)
      congr 1;funext _;congr 1;funext _
      simp
      congr 1;funext ok
      cases ok with
      |false=>rw [aQ aM,aQ aM,pure_bind]
      |true =>
       rw [aC rfl,aC rfl,bind_assoc]
       congr 1;funext x
       rw [map_eq_pure_bind,bind_assoc]
       congr 1)
def runC(cnd:Option Expr)(env:Env):Sem Bool:=match cnd with
 |none=>pure true
 |some c=>isTrue c env (eval c env)
def PTO(X:Cx)(cnd:Option Expr)(t:TT):Prop :=
 ∀(pins:List (Addr×Obj)) (s:Shared) (σ:St) (H:Hp) (Q:Bool->Hp->Prop),Inv X pins σ H s->t σ H Q->wpAny (model X.prog X.w) X.A (runC cnd X.env) (TP X pins σ Q) X.xe s
theorem a89(elt target iter:Expr)(cnd:Option Expr)(scope:Scope)(pos:Pos)(it acc:Value)(env:Env) :
  compTurn (.ListComp elt [⟨target,iter,cnd.toList,0⟩] scope pos) 0 it acc env=(standAt iter.pos>>=λ_=>pyNext it>>=λr=>match r with
   |none=>pure (.done .next)
   |some v=>letOwnedTupleGo target it v>>=λ_=>assign target env v>>=λ_=>runC cnd env>>=λok =>
    (if ok=true then (eval elt env>>=λx=>call (.builtin "list.append") [acc,x]>>=λ_=>pure ()) else pure ())>>=λ_ =>
     again (.compLoop (.ListComp elt [⟨target,iter,cnd.toList,0⟩] scope pos) 0 it acc env)):=by
 cases cnd with
 |some c=>exact a76 ..
 |none =>
  rw [show (none:Option Expr).toList=[] from rfl,compTurn_list1]
  congr 1
theorem ahu{cnd:Option Expr}{E:Value->Shared->Prop}(no:∀v s,E v s->False)(J:Nat->Shared->Prop)
  (step:∀m z,J m z->wpAny (model prog w) A (pyNext it) (λgot z1=>match got with
   |none=>R (.ok .next) z1
   |some v=>wpAny (model prog w) A (letOwnedTupleGo target it v) (λ_ z2=>wpAny (model prog w) A (assign target env v) (λ_ z3=>wpAny (model prog w) A (runC cnd env) (λok z3'=>if ok=true then wpAny (model prog w) A (eval elt env) (λx z4 =>
     wpAny (model prog w) A (call (.builtin "list.append") [acc,x]) (λ_ z5=>∃m',m'<m/\J m' z5) E z4)
     E z3' else ∃m',m'<m/\J m' z3') E z3) E z2) E z1) E z)
  (m:Nat) (j0:J m s):codeAny (model prog w) A (.compLoop (.ListComp elt [⟨target,iter,cnd.toList,0⟩] scope pos) 0 it acc env) R s:=by
 refine codeAny_loop rfl J (λm z hj=>(wpAny_noted ?_:wpAny _ _ ((compTurn (.ListComp elt [⟨target,iter,cnd.toList,0⟩] scope pos) 0 it acc env).onRaise _) _ _ z)) m j0;rw [a89];refine ae (de (ae (aY (step m z hj) (λgot z1 h1=>?_) λ_ _ e=>(no _ _ e).elim)))
 match got,h1 with
 |none,h1=>exact aw h1
 |some v,h1 =>
  refine ae (aY h1 (λ_ z2 h2=>ae (aY h2 (λ_ z3 h3=>ae (aY h3 (λok z3' h3'=>?_) λ_ _ e=>(no _ _ e).elim)) λ_ _ e=>(no _ _ e).elim)) λ_ _ e=>(no _ _ e).elim)
  match ok,h3' with
  |true,h3' =>
   rw [aC rfl] at h3';refine ae (ae (aY h3' (λx z4 h4=>?_) λ_ _ e=>(no _ _ e).elim));exact ae (aY h4 (λ_ z5 h5=>aw (aw ⟨rfl,h5⟩)) λ_ _ e=>(no _ _ e).elim)
  |false,h3' =>
   rw [aQ aM] at h3';exact ae (aw (aw ⟨rfl,h3'⟩))
section
variable{X:Cx}
theorem ab2(S:CSc X scope cl ts fr ix)(I:Inv X pins σ H s)
  (hf:∀b∈fp,FpOk X pins H b) (hb:∀b∈fp,b<s.heap.objs.size) (hC:s.heap.objs.size<=C):(cxC X (ts++fr) scope cl C fp s H).Ok where
 mod:=I.ok.mod
 kind:=S.kind
 glob:=I.ok.glob
 blt:=I.ok.blt
 above:=hC
 inj:=λx y c h1 h2=>I.ok.inj x y c (S.sub x c h1) (S.sub y c h2)
 has:=S.has
 cab:=λ_ _ z=>nomatch z
 hd:=I.ok.hd
 frames:=I.ok.frames
 stk:=.inl rfl
 exf:=λb hb'=>⟨aX (aO (hb b hb') hC),λx c e=>(hf b hb').2.2.2.2.1 x c (S.sub x c e)⟩
 bs:=λb o e=>I.bs b o e
 bsz:=bG I.ok.bsz I.sz
 noex:=λb o e hb'=>by
  rcases (hf b hb').2.2.2.1 with z|z
  ·exact I.ok.noex b o e z
  ·exact absurd (aO (aI e) (bG I.ok.bsz z)) (bR _)
 exfs:=λb hb' z=>by
  rcases aD.mp (I.stkSub b z) with e|e
  ·exact (hf b hb').2.1 e
  ·exact (hf b hb').2.2.1 e
 funs:=I.stack
 frf:=λb hb'=>I.stkFree b hb'
theorem afx:(qu nt ix σ).length=nt+ix.length:=by
 unfold qu;rw [ar,cX,ax]
theorem ahv{s4:Shared}(S:CSc X scope cl ts fr ix)(I:Inv X pins σ H s)
  (hf:∀b∈fp,FpOk X pins H b) (hb:∀b∈fp,b<s.heap.objs.size) (hC:s.heap.objs.size<=C)
  (k:∀b o,s.heap.get? b=some o->s4.heap.get? b=some o) (hn:s4.heap.Ns C m) (ho:s4.os=s.os) (hg:s4.gens=s.gens) :
  Inv (cxC X (ts++fr) scope cl C fp s H) [] (qu ts.length ix σ) H s4 where
 ok:=ab2 S I hf hb hC
 os:=ho
 bare:=by rw [hg];exact I.bare
 base:=Un.kept k
 loc:=by
  refine ⟨m,hn,λi x v e1 e2 e3=>?_⟩;have e1:(ts++fr)[i]? = some x:=e1
  by_cases hi:i<ts.length
  ·unfold qu at e2;rw [aP (by simpa using hi),e9,aC hi] at e2
   cases e2
  ·rw [aH (by omega)] at e1
   unfold qu at e2;rw [aH (by simpa using hi),cX,bX] at e2
   obtain ⟨j,h1,h2,h3,h4⟩:=S.vis _ x e1;rw [h1] at e2;have e2':(σ[j]?).join=some v:=bH e2;have e5:σ[j]? = some (some v):=by
    cases q:σ[j]? with
    |none=>rw [q] at e2';cases e2'
    |some o=>rw [q] at e2';simp at e2';rw [e2']
   obtain ⟨m0,_,hl⟩:=I.loc;have vis:Vis X.env.scope x:=h3.elim (λz=>.inr (.inl z)) λz=>.inr (.inr z);obtain ⟨u,ru,l⟩:=hl j x v h2 e5 vis;refine ⟨u,ru,?_⟩
   rcases l with ⟨z,_⟩|⟨_,c,hc,hcell⟩
   ·rcases h3 with h3|h3<;>rw [h3] at z<;>cases z
   ·obtain ⟨c',hc'⟩:=S.has x h4;have e6:c'=c:=bH ((S.sub x c' hc').symm.trans hc);subst e6;obtain ⟨o,ho,hd⟩:=hcell;exact .inr ⟨h4,c',hc',o,k _ _ ho,hd⟩
 cell:=λx c e=>by
  obtain ⟨v,o,ho,hd⟩:=I.cell x c (S.sub x c e);exact ⟨v,o,k _ _ ho,hd⟩
 free:=I.hok.fresh hC
 freeC:=λx c e=>I.freeC x c (S.sub x c e)
 pin:=λp hp=>absurd (show p∈([]:List (Addr×Obj)) from hp) (by simp)
 hok:=I.hok.kept k
 len:=by
  rw [afx];show _=(ts++fr).length;rw [ar,S.len]
theorem Inv.unpinned'(I:Inv X pins σ H s):Inv X [] σ H s:=I.pins_of λ_ hp=>nomatch hp
theorem comp_back{its:List Value}(I:Inv X pins σ H s)
  (hf:∀b∈fp,FpOk X pins H b) (hC:s.heap.objs.size<=C) (hacc:s.heap.objs.size<=acc) (hCa:C≠acc)
  (J:Inv (cxC X N scope cl C fp s H) [] σ' H' s') (hn:H' acc=none) (ha:s'.heap.get? acc=some {cls:=.type "list",data:=.seq its.toArray n}) (rv:Vals ys its) (hz:ys.length<=sizeLine) (sb:Heap.SameBut C s'.heap h') :
  Inv X pins σ (upd H' acc (.lst ys)) {s' with heap:=h' }:=by
 have k:∀b o,b≠C->s'.heap.get? b=some o->h'.get? b=some o:=λb o hb e=>sb.extBut b o hb e;have old:∀b o,s.heap.get? b=some o->b≠C/\b≠acc:=λb o e=>⟨aX (aO (aI e) hC),aX (aO (aI e) hacc)⟩;have u0:Un (frs X.stack) fp H H' s.heap s'.heap:=J.base;have fC:H' C=none:=J.free;have u:Un (frs X.stack) fp H (upd H' acc (.lst ys)) s.heap h':=by
  refine ⟨λb o e n' hb hx=>k b o (old b o e).1 (u0.keep b o e n' hb hx),λb o e n' hb hx=>?_,λb o e n' hx=>?_,λb o e hx=>?_,λb xs e=>?_,λb o v e=>?_,λb ps e=>?_⟩
  ·obtain ⟨sl,e1⟩:=u0.slot b o e n' hb hx;exact ⟨sl,k b _ (old b o e).1 e1⟩
  ·rw [jh (old b o e).2];exact u0.free b o e n' hx
  ·obtain ⟨o',e1⟩:=u0.there b o e hx;exact ⟨o',k b _ (old b o e).1 e1⟩
  ·rw [jh (jd (u0.tups b xs e) hn)];exact u0.tups b xs e
  ·rw [jh (jd (u0.frzs b o v e) hn)];exact u0.frzs b o v e
  ·obtain ⟨more,e1⟩:=u0.tbls b ps e;exact ⟨more,by rw [jh (jd e1 hn)];exact e1⟩
 have hok:HOk X.prog X.w (upd H' acc (.lst ys)) h':=λb o e=>by
  by_cases hb:b=acc
  ·subst hb;rw [ou] at e;cases e
   exact ⟨hz,its,n,rv,k _ _ (eX hCa) ha⟩
  ·rw [jh hb] at e;refine (J.hok b o e).stay (λc v hc q=>k c v ?_ q) (λc q=>by rw [jh (jd q hn)];exact q) λc xs q=>by rw [jh (jd q hn)];exact q
   rcases hc with z|z
   ·rw [z];exact jd e fC
   ·exact jd z fC
 have J':=I.call (g':=s'.gens) (t':=s'.toks) (d':=s'.drawn) (ch:=fp) u hok J.bare λb hb=>⟨(hf b hb).2.2.2.1,(hf b hb).2.1,(hf b hb).2.2.2.2.1,(hf b hb).2.2.2.2.2⟩;have eo:s'.os=s.os:=J.os;obtain ⟨hp,g,d,t,o⟩:=s';have eo':o=s.os:=eo;subst eo';exact J'
def a5c(X:Cx)(pins:List (Addr×Obj))(σ:St)(use:Option (Value->Sem Unit))(Q:VK)(Qf:Value->Shared->Prop):Prop :=
 ∀(acc C:Addr) (s6:Shared) (H6:Hp) (m6:Str->Option Value),s6.heap.Ns C m6->FpOk X pins H6 C->(∀h',Heap.SameBut C s6.heap h'->Inv X pins σ H6 {s6 with heap:=h' })->Q (.ref acc) H6->
  compPost (model X.prog X.w) X.A X.xe use Qf (.ref acc) C (.ok .next) s6
theorem aea:a5c X pins σ none Q (EP X pins σ Q):=λacc C s6 H6 m6 hn _ k q=>⟨m6,hn,λh' sb=>⟨.ref acc,H6,k h' sb,rfl,q⟩⟩
theorem a9h{D:Ends}(hN:X.N.Nodup)(hi:X.N[i]? = some x)(hx:Loc X.env.scope x)(hf:X.fn x=true\/X.env.scope.names.lookup x=some .local) :
  a5c X pins σ (some (assign (.Name x pos') X.env)) (λv H1=>a04 i v σ H1 D.nx) (λ_ s'=>SP X pins D .next s'):=by
 intro acc C s6 H6 m6 hn fp k q
 obtain ⟨f1,f2,f3,f4,f5,f6⟩:=fp;have I6:Inv X pins σ H6 s6:=k s6.heap (Heap.SameBut.refl _ _);refine wpAny_assign_Name (aaq (v:=.ref acc) I6 hN hi hx rfl (λs' I' ⟨a,sb,ha⟩=>⟨m6,hn.sameBut sb ?_,λh' sb'=>⟨_,H6,I'.turned (t':=s'.toks) (it:=C) (λb o hb e=>sb'.extBut b o hb e) f1 f2 f4 f5 f6,q⟩⟩) hf)
 rcases ha with ha|ha
 ·rw [ha];exact f2
 ·exact λz=>f5 x a ha z.symm
theorem ahw{Y:Cx}{cnd:Option Expr}{N it:Addr}{fp:List Addr}{tn:Nat->Heap->Prop}{J:It}{σ0:St}{H2:Hp}{s4:Shared}{W:Nat->Nat->List V->Hp->Prop}{Q:VK}(hc:Y.calm=true)(no:∀v s,Y.xe v s->False)(hp0:Y.pn=[])(T:Turn Y.prog Y.w Y.K tg J fp it tn)
  (stat:∀{H':Hp},(∀b∈fp,H' b=none)->∀b∈fp,FpOk Y [] H' b) (statA:∀{H':Hp},H' N=none->FpOk Y [] H' N) (accF:N∉fp) (hg:PG Y tg g) (he:PE Y elt te) (ht:PTO Y cnd tc)
  (turn:∀i m ys H,W i m ys H->(J.stop i H/\∀p,H p=none->Q (.ref p) (upd H p (.lst ys)))\/(J.go i H/\ys.length<sizeLine/\∀x H',J.yld i H x H'->g x σ0 H' λσ2 H2=>Ext σ0 σ2/\tc σ2 H2 λok H2'=>if ok=true then te σ2 H2' (λy H3=>∃m',m'<m/\W (i+1) m' (ys++[y]) H3) else ∃m',m'<m/\W (i+1) m' ys H2'))
  (w0:W 0 m0 [] H2) (K0:Inv Y [] σ0 H2 s4) (st4:tn 0 s4.heap) (f0:∀b∈fp,H2 b=none) (fa:H2 N=none) (hacc:s4.heap.get? N=some {cls:=.type "list",data:=.seq ([]:List Value).toArray 0})
  (fin:∀s6 H6 ys its k,Inv Y [(N,{cls:=.type "list",data:=.seq its.toArray k})] σ0 H6 s6->H6 N=none->Vals ys its->ys.length<=sizeLine->(∀p,H6 p=none->Q (.ref p) (upd H6 p (.lst ys)))->R (.ok .next) s6) :
  codeAny (model Y.prog Y.w) Y.A (.compLoop (.ListComp elt [⟨tg,iter,cnd.toList,0⟩] scope pos) 0 (.ref it) (.ref N) Y.env) R s4:=by
 refine ahu no (λn s'=>∃i σ' H' ys its k,Inv Y [] σ' H' s'/\Ext σ0 σ'/\tn i s'.heap/\(∀b∈fp,H' b=none)/\H' N=none /\
  s'.heap.get? N=some {cls:=.type "list",data:=.seq its.toArray k}/\Vals ys its/\ys.length<=sizeLine/\W i n ys H') ?_ m0
  ⟨0,_,H2,[],[],0,K0,⟨rfl,λ_ _ z=>z⟩,st4,f0,fa,hacc,.nil,aU _,w0⟩
 rintro n s5 ⟨i,σ5,H5,ys,its,k5,I5,x5,st5,fr5,fa5,ac5,rv5,hz5,w5⟩
 have I5':Inv Y [] σ0 H5 s5:=I5.weak x5.1.symm x5.2;obtain ⟨ob,hob⟩:∃ob:Obj,ob={cls:=.type "list",data:=.seq its.toArray k5}:=⟨_,rfl⟩;rw [<-hob] at ac5;have IP:Inv Y [(N,ob)] σ0 H5 s5:=I5'.pins_of λp hp=>by
  rw [aB.mp hp];obtain ⟨a0,a1,a2,_⟩:=statA fa5;exact ⟨ac5,a0,a1,a2,λv z=>by rw [hob] at z;cases z⟩
 have FB:∀b∈fp,FpOk Y [(N,ob)] H5 b:=λb hb=>by
  obtain ⟨b0,b1,b2,b3,b4,b5⟩:=stat fr5 b hb;refine ⟨b0,b1,b2,b3,b4,λp hp=>?_⟩;rw [hp0] at hp;rw [aB.mp hp];exact λz=>accF (by have z':N=b:=z;rw [z'];exact hb)
 rcases turn i n ys H5 w5 with ⟨stop,qn⟩|⟨go,hlt,step⟩
 ·refine thn (T.done Y rfl rfl rfl hc i [(N,ob)] s5 _ H5 _ IP FB st5 stop) ?_
  rintro r s6 ⟨hr,I6⟩
  subst hr;rw [hob] at I6;exact fin s6 H5 ys its k5 I6 fa5 rv5 hz5 qn
 ·refine thn (T.item Y rfl rfl rfl hc i [(N,ob)] s5 _ H5 _ IP FB st5 go) ?_
  rintro r s6 ⟨u,hr,h6⟩
  subst hr;refine thn h6 ?_
  rintro _ s7 ⟨x,H7,I7,r7,y7,st7,fr7⟩
  obtain ⟨ac7,fa7,_⟩:=I7.pin (N,ob) (by simp)
  have I7':Inv Y (xf (N::fp) s7.heap) σ0 H7 s7:=by
   show Inv Y ([]++xf (N::fp) s7.heap) _ _ _;refine Inv.pinned I7.unpinned' (λb hb=>?_) λb hb=>?_
   ·rcases aD.mp hb with e|e
    ·subst e;exact statA fa7
    ·exact stat fr7 b e
   ·rcases aD.mp hb with e|e
    ·subst e;exact ⟨_,ac7,λv z=>by rw [hob] at z;cases z⟩
    ·exact T.obj _ _ st7 b e
  have keep:∀{σ':St} {H9:Hp} {s9:Shared} {ps:List (Addr×Obj)},Inv Y (xf (N::fp) s7.heap) σ' H9 s9->(s9.heap.get? N=some ob/\H9 N=none)/\∀b∈fp,(∀o,s7.heap.get? b=some o->s9.heap.get? b=some o)/\H9 b=none:=λI9=>by
   refine ⟨?_,λb hb=>?_⟩
   ·obtain ⟨z1,z2,_⟩:=I9.pin (N,ob) (aJ _ (jz aR ac7));exact ⟨z1,z2⟩
   ·obtain ⟨o,e,_⟩:=T.obj _ _ st7 b hb;obtain ⟨z1,z2,_⟩:=I9.pin (b,o) (aJ _ (jz (aL _ hb) e));exact ⟨λo' e'=>by rw [e] at e';cases e';exact z1,z2⟩
  refine thn (hg _ s7 _ H7 x u _ I7' r7 (step x H7 y7)) ?_
  rintro _ s8 ⟨σ8,H8,I8,x8,q8⟩
  refine thn (ht _ s8 _ H8 _ I8 q8) ?_
  rintro ok s8' ⟨H8',I8',q8'⟩
  cases ok with
  |false =>
   rw [aQ aM] at q8' ⊢;obtain ⟨m',hm',w9⟩:=q8';obtain ⟨⟨ac9,fa9⟩,k9⟩:=keep (ps:=[]) I8';exact ⟨m',hm',i+1,σ8,H8',ys,its,k5,I8'.unpinned',x8,T.keep _ _ _ st7 λb hb o e=>(k9 b hb).1 o e,λb hb=>(k9 b hb).2,fa9,by rw [ac9,hob],rv5,hz5,w9⟩
  |true =>
   rw [aC rfl] at q8' ⊢;refine thn (he _ s8' _ H8' _ I8' q8') ?_
   rintro yv s9 ⟨y,H9,I9,r9,m',hm',w9⟩
   obtain ⟨⟨ac9,fa9⟩,k9⟩:=keep (ps:=[]) I9;rw [hob] at ac9;have hl:=rv5.length;refine cN cy ⟨_,ac9,rfl⟩ fX (fO _ _) (gP N its.toArray k5 yv (by rw [aA];omega)) ⟨ac9,?_⟩
   have q:=hR ac9 (λa=>a.push yv);have qo:∀b o,b≠N->s9.heap.get? b=some o->(s9.heap.update N (Obj.mapSeq (λa=>a.push yv))).get? b=some o:=λb o hb e=>(cJ s9.heap _ (eX hb)).trans e;have q':∃k,(s9.heap.update N (Obj.mapSeq (λa=>a.push yv))).get? N=some {cls:=.type "list",data:=.seq (its++[yv]).toArray k}:=⟨_,by rw [q];simp;rfl⟩
   obtain ⟨k9',q9⟩:=q';obtain ⟨a0,a1,a2,a3,a4,a5⟩:=statA fa9;refine ⟨m',hm',i+1,σ8,H9,ys++[y],its++[yv],k9',(I9.unpinned').turned qo a0 a1 a3 a4 a5,x8,T.keep _ _ _ st7 λb hb o e=>qo b o (λz=>accF (z ▸ hb)) ((k9 b hb).1 o e),λb hb=>(k9 b hb).2,fa9,q9,rv5.append (.cons r9 .nil),?_,w9⟩;rw [ar,aG];omega
theorem a8i{cnd:Option Expr}(hc:X.calm=true)(S:CSc X scope cl ts fr ix)(hi:PI X tg iter wi)
  (hg:∀C fp s H,PG (cxC X (ts++fr) scope cl C fp s H) tg g) (he:∀C fp s H,PE (cxC X (ts++fr) scope cl C fp s H) elt te) (ht:∀C fp s H,PTO (cxC X (ts++fr) scope cl C fp s H) cnd tc) (hs:∀x,foldedSetIterable iter X.env x=pure x)
  (use:Option (Value->Sem Unit)) (I:Inv X pins σ H s) (h:a5b wi (qu ts.length ix) g tc te σ H Q) (fin:a5c X pins σ use Q Qf) :
  wpAny (model X.prog X.w) X.A (comprehension (.ListComp elt [⟨tg,iter,cnd.toList,0⟩] scope pos) scope X.env ppos (newList []) false (eval iter X.env) use) Qf X.xe s:=by
 refine wpAny_comprehension_free (use:=use) rfl hs S.clos S.kind S.names (thn (hi pins s σ H _ I h) λv s1 h1=>thn h1 λitv s2 h2=>?_);obtain ⟨it,fp,tn,J,H2,e,I2,T,st2,f2,W,⟨m0,w0⟩,turn⟩:=h2;subst e;have hob:∀b∈fp,b<s2.heap.objs.size:=λb hb=>let ⟨o,e,_⟩:=T.obj _ _ st2 b hb;aI e;refine bY (wpAny_newFunctionEnv S.nocell (by intro y hy;simp at hy) (λh4 hns4 hsb4=>?_) S.kind)
 dsimp only at hns4 hsb4 ⊢
 generalize hH2:s2.heap.push {cls:=.type "list",dict:=none,data:=.seq ([]:List Value).toArray}=G at hns4 hsb4 ⊢
 have hCs:G.objs.size=s2.heap.objs.size+1:=by rw [<-hH2,dN]
 have hCle:s2.heap.objs.size<=G.objs.size:=by omega
 have hne:G.objs.size≠s2.heap.objs.size:=by omega
 have old:∀b o,s2.heap.get? b=some o->h4.get? b=some o:=λb o e=>by
  have hlt:=aI e;exact hsb4.extBut b o (aX (aO hlt hCle)) (ai _ (hH2 ▸ ai _ e))
 have hacc:h4.get? s2.heap.objs.size=some {cls:=.type "list",data:=.seq ([]:List Value).toArray 0} :=
  hsb4.extBut _ _ (eX hne) (ai _ (hH2 ▸ aK _ rfl))
 have K0:Inv (cxC X (ts++fr) scope cl G.objs.size fp s2 H2) [] (qu ts.length ix σ) H2 {s2 with heap:=h4,toks:=s2.toks+([]:List (Str×Value)).length} :=
  ahv S I2 f2 hob hCle old hns4 rfl rfl
 have st4:tn 0 h4:=T.keep _ _ _ st2 λb _ o e=>old b o e;have accF:s2.heap.objs.size∉fp:=λz=>bR _ (hob _ z);have stat:∀{H':Hp},(∀b∈fp,H' b=none)->∀b∈fp,FpOk (cxC X (ts++fr) scope cl G.objs.size fp s2 H2) [] H' b:=λhn b hb =>
  ⟨hn b hb,λz=>by have h1:=hob b hb;have z':b=G.objs.size:=z;exact aX (aO h1 hCle) z',λz=>(ab2 S I2 f2 hob hCle).exfs b hb z,.inl hb,λx c e=>(f2 b hb).2.2.2.2.1 x c (S.sub x c e),λp hp=>absurd (show p∈([]:List (Addr×Obj)) from hp) (by simp)⟩
 have statA:∀{H':Hp},H' s2.heap.objs.size=none->FpOk (cxC X (ts++fr) scope cl G.objs.size fp s2 H2) [] H' s2.heap.objs.size:=λhn =>
  ⟨hn,λz=>hne (show G.objs.size=s2.heap.objs.size from z.symm),λz=>by
   obtain ⟨_,o,ho,_⟩:=(ab2 S I2 f2 hob hCle).funs.mem z;exact bR _ (aI ho),.inr (ay _),λx c e z=>by
   obtain ⟨v,o,ho,_⟩:=I2.cell x c (S.sub x c e);rw [z] at ho;exact bR _ (aI ho),λp hp=>absurd (show p∈([]:List (Addr×Obj)) from hp) (by simp)⟩
 have loop:codeAny (model X.prog X.w) X.A (.compLoop (.ListComp elt [⟨tg,iter,cnd.toList,0⟩] scope pos) 0 (.ref it) (.ref s2.heap.objs.size) (compEnvC scope cl G.objs.size X.env))
   (compPost (model X.prog X.w) X.A X.xe use Qf (.ref s2.heap.objs.size) G.objs.size) {s2 with heap:=h4,toks:=s2.toks+([]:List (Str×Value)).length} :=
  ahw (Y:=cxC X (ts++fr) scope cl G.objs.size fp s2 H2) hc (λ_ _ h=>h) rfl T stat statA accF (hg _ _ _ _) (he _ _ _ _) (ht _ _ _ _) turn w0 K0 st4 (λb hb=>(f2 b hb).1) (I2.hok.fresh (ay _)) hacc λs6 H6 ys its k I6 fa rv hz qn=>by
   have e6:=(I6.pin (s2.heap.objs.size,{cls:=.type "list",data:=.seq its.toArray k}) (by show _∈[]++[_];simp)).1
   obtain ⟨m6,hn6,_⟩:=I6.loc;exact fin _ _ s6 _ m6 hn6 (I2.fpOk hCle (by rw [jh hne];exact I6.free)) (λh' sb=>comp_back I2 f2 hCle (ay _) hne I6.unpinned' fa e6 rv hz sb) (qn _ fa)
 exact codeAny_compStart_list loop (T.self _ 0 _ _ _ st4 loop)
theorem ab3(hc:X.calm=true)(S:CSc X scope cl ts fr ix)(hi:PI X tg iter wi)
  (hg:∀C fp s H,PG (cxC X (ts++fr) scope cl C fp s H) tg g) (he:∀C fp s H,PE (cxC X (ts++fr) scope cl C fp s H) elt te) (hs:∀x,foldedSetIterable iter X.env x=pure x)
  (use:Option (Value->Sem Unit)) (I:Inv X pins σ H s) (h:aht wi (qu ts.length ix) g te σ H Q) (fin:a5c X pins σ use Q Qf) :
  wpAny (model X.prog X.w) X.A (comprehension (.ListComp elt [⟨tg,iter,[],0⟩] scope pos) scope X.env ppos (newList []) false (eval iter X.env) use) Qf X.xe s:=by
 refine a8i (cnd:=none) (tc:=λσ H Q=>Q true H) hc S hi hg he (λ_ _ _ _ pins s σ H Q I h=>aw ⟨H,I,h⟩) hs use I ?_ fin;unfold a5b acr;unfold aht aqb at h;simpa only [dS] using h
theorem alf(hc:X.calm=true)(S:CSc X scope cl ts fr ix)(hi:PI X tg iter wi)
  (hg:∀C fp s H,PG (cxC X (ts++fr) scope cl C fp s H) tg g) (he:∀C fp s H,PE (cxC X (ts++fr) scope cl C fp s H) elt te)
  (hs:∀x,foldedSetIterable iter X.env x=pure x:=by intro _;rfl) :
  PE X (.ListComp elt [⟨tg,iter,[],0⟩] scope pos) (aht wi (qu ts.length ix) g te):=by
 intro pins s σ H Q I h
 rw [eval_ListComp];exact ab3 hc S hi hg he hs none I h aea
theorem alg{spos:Pos}(hN:X.N.Nodup)(hi':X.N[i]? = some x)(hx:Loc X.env.scope x)(hc:X.calm=true)(S:CSc X scope cl ts fr ix)(hi:PI X tg iter wi)
  (hg:∀C fp s H,PG (cxC X (ts++fr) scope cl C fp s H) tg g) (he:∀C fp s H,PE (cxC X (ts++fr) scope cl C fp s H) elt te)
  (hs:∀x,foldedSetIterable iter X.env x=pure x:=by intro _;rfl) (hsw:swapsWith (.ListComp elt [⟨tg,iter,[],0⟩] scope pos) (some (.Name x pos')) spos.line X.env=pure true:=by rfl) (hf:X.fn x=true\/X.env.scope.names.lookup x=some .local:=by first|exact .inl rfl|exact .inr rfl|assumption) :
  PS X (.Assign [.Name x pos'] (.ListComp elt [⟨tg,iter,[],0⟩] scope pos) spos) (atx (aht wi (qu ts.length ix) g te) (a04 i)):=by
 intro pins s σ H D I h
 rw [fK _ _ _ _ hsw];refine ae (de (ae ?_));refine ae (aY (ab3 hc S hi hg he hs (some (assign (.Name x pos') X.env)) I h (a9h hN hi' hx hf)) (λ_ s' hq=>aw (aw hq)) λ_ _ e=>e)
end
section
variable{K:Type}[DecidableEq K]
def stepK(l:List K)(v:K):List K:=if v∈l then l else l++[v]
end
end L2
namespace L2
theorem auo:bootBuiltins "len" = some (.builtin "len"):=PySem.boot_len
theorem jq:bootBuiltins "isinstance" = some (.builtin "isinstance"):=by first|exact PySem.boot_isinstance|exact PyProof.Rows.boot_isinstance
theorem aup:bootBuiltins "str" = some (.type "str"):=by first|exact PySem.boot_str|exact PyProof.Rows.boot_str
theorem auq:bootBuiltins "abs" = some (.builtin "abs"):=by first|exact PySem.boot_abs|exact PyProof.Rows.boot_abs
theorem aob:bootBuiltins "int" = some (.type "int"):=by first|exact PySem.boot_int|exact PyProof.Rows.boot_int
theorem ud:bootBuiltins "tuple" = some (.type "tuple"):=by first|exact PySem.boot_tuple|exact PyProof.Rows.boot_tuple
structure Dn (P:Program) (w:World) (K:PySem.W.Frag) (mg:Str->Option Value) (base:Heap) (k:Nat) (x:Str) (ps:List Str) (sp:Sp) (f:Addr) (fd:FuncData):Prop where
 ok:FnOk P w K mg base CX0 k f fd ps sp
 m:mg x=some (.ref f)
 kp:PySem.W.keepIn K (.ref f)=true
 b:Binds K fd ps []
theorem az6:sizeLine=16777216:=fD
theorem acs(h:n<=16777216):n<=sizeLine:=by rw [fD];exact h
theorem CSc.noFree{scope:Scope}(kind:scope.kind=.function)(h:∀y∈scope.names,y.2≠.cell/\y.2≠.free)(names:∀y∈scope.names,y.2=.local->scope.names.lookup y.1=some .local)
  (ht:∀y∈ts,scope.names.lookup y=some .local):CSc X scope [] ts [] []:=by
 have e:(relabel scope X.env).names=scope.names:=by
  show scope.names.map _=_;refine map_eq_self λy hy=>?_;obtain ⟨n,k⟩:=y;have:(k == NameKind.free)=false:=by simpa using (h _ hy).2
  simp [this]
 refine ⟨closureFor_none λy hy=>(h y hy).2,kind,λy hy=>(h y hy).1,names,(λ_ _ z=>nomatch z),λy z=>?_,λy hy=>by rw [e];exact ht y hy,rfl,(λ_ _ z=>by simp at z)⟩
 rw [e] at z
 rcases z with z|z
 ·exact absurd rfl (h _ (bV z)).1
 ·exact absurd rfl (h _ (bV z)).2
theorem az7(x y:Str):(x++y).cps.toList=x.cps.toList++y.cps.toList:=by
 show (x.cps++y.cps).toList=_;simp
theorem acu{α:Type}(xs:List α)(k:Nat):a75 xs none (some (k:Int))=xs.take k:=by
 unfold a75;rw [HT.a9c,HT.ahl,gG,Nat.sub_zero]
 by_cases h:k<=xs.length
 ·rw [Nat.min_eq_left h]
 ·rw [Nat.min_eq_right (by omega),bP (ay _),bP (by omega)]
theorem ab4{α:Type}(xs:List α)(k:Nat):a75 xs (some (k:Int)) none=xs.drop k:=by
 unfold a75;rw [HT.a9c,HT.ahl]
 by_cases h:k<=xs.length
 ·rw [Nat.min_eq_left h,bP (by rw [aW];omega)]
 ·rw [Nat.min_eq_right (by omega),bQ (ay _),bQ (by omega),List.take_nil]
end L2
namespace L2
open PyProof.Rows
section
variable{X:Cx}
theorem a77(hc:X.calm=true)(S:CSc X scope cl ts fr ix)(hi:PI X tg iter wi)
  (hg:∀C fp s H,PG (cxC X (ts++fr) scope cl C fp s H) tg g) (he:∀C fp s H,PE (cxC X (ts++fr) scope cl C fp s H) elt te) (ht:∀C fp s H,PT (cxC X (ts++fr) scope cl C fp s H) cnd tc) (hs:∀x,foldedSetIterable iter X.env x=pure x)
  (use:Option (Value->Sem Unit)) (I:Inv X pins σ H s) (h:a5b wi (qu ts.length ix) g tc te σ H Q) (fin:a5c X pins σ use Q Qf) :
  wpAny (model X.prog X.w) X.A (comprehension (.ListComp elt [⟨tg,iter,[cnd],0⟩] scope pos) scope X.env ppos (newList []) false (eval iter X.env) use) Qf X.xe s :=
 a8i (cnd:=some cnd) hc S hi hg he ht hs use I h fin
theorem afy(hc:X.calm=true)(S:CSc X scope cl ts fr ix)(hi:PI X tg iter wi)
  (hg:∀C fp s H,PG (cxC X (ts++fr) scope cl C fp s H) tg g) (he:∀C fp s H,PE (cxC X (ts++fr) scope cl C fp s H) elt te) (ht:∀C fp s H,PT (cxC X (ts++fr) scope cl C fp s H) cnd tc)
  (hs:∀x,foldedSetIterable iter X.env x=pure x:=by intro _;rfl) :
  PE X (.ListComp elt [⟨tg,iter,[cnd],0⟩] scope pos) (a5b wi (qu ts.length ix) g tc te):=by
 intro pins s σ H Q I h
 rw [eval_ListComp];exact a77 hc S hi hg he ht hs none I h aea
theorem afz{spos:Pos}(hN:X.N.Nodup)(hi':X.N[i]? = some x)(hx:Loc X.env.scope x)(hc:X.calm=true)(S:CSc X scope cl ts fr ix)(hi:PI X tg iter wi)
  (hg:∀C fp s H,PG (cxC X (ts++fr) scope cl C fp s H) tg g) (he:∀C fp s H,PE (cxC X (ts++fr) scope cl C fp s H) elt te) (ht:∀C fp s H,PT (cxC X (ts++fr) scope cl C fp s H) cnd tc)
  (hs:∀x,foldedSetIterable iter X.env x=pure x:=by intro _;rfl) (hsw:swapsWith (.ListComp elt [⟨tg,iter,[cnd],0⟩] scope pos) (some (.Name x pos')) spos.line X.env=pure true:=by rfl) (hf:X.fn x=true\/X.env.scope.names.lookup x=some .local:=by first|exact .inl rfl|exact .inr rfl|assumption) :
  PS X (.Assign [.Name x pos'] (.ListComp elt [⟨tg,iter,[cnd],0⟩] scope pos) spos) (atx (a5b wi (qu ts.length ix) g tc te) (a04 i)):=by
 intro pins s σ H D I h
 rw [fK _ _ _ _ hsw];refine ae (de (ae ?_));refine ae (aY (a77 hc S hi hg he ht hs (some (assign (.Name x pos') X.env)) I h (a9h hN hi' hx hf)) (λ_ s' hq=>aw (aw hq)) λ_ _ e=>e)
end
section
variable{X:Cx}
theorem ahx:OpR X (compareOp .In) (λx y H Q=>∃c T,x=.str ⟨#[c]⟩/\y=.str T/\Q (.bl (decide (c∈T.cps.toList))) H):=by
 intro pins s σ H x y v u Q I rx ry h
 obtain ⟨c,T,rfl,rfl,q⟩:=h;exact ahe pins s σ H _ _ v u Q I rx ry ⟨_,_,rfl,rfl,by rw [StrLaws.found_one];exact q⟩
end
theorem CSc.of{X:Cx}{ts fr:List Str}{ix:List Nat}(clos:closureFor scope X.env=pure cl)(kind:scope.kind=.function)
  (nocell:(scope.names.all λp=>p.2 != .cell)=true) (names:(scope.names.all λp=>p.2 != .local || scope.names.lookup p.1 == some .local)=true) (sub:∀p∈cl,X.env.cells.lookup p.1=some p.2)
  (has:((relabel scope X.env).names.all λp => !(p.2 == .cell || p.2 == .free) || (cl.lookup p.1).isSome)=true) (nofn:(ts.all λy=>(relabel scope X.env).names.lookup y == some .local)=true)
  (len:ix.length=fr.length) (vis:((fr.zip ix).all λp=>X.N[p.2]? == some p.1 && (X.env.kindOf p.1 == some .cell || X.env.kindOf p.1 == some .free) && ((relabel scope X.env).names.lookup p.1 == some .cell || (relabel scope X.env).names.lookup p.1 == some .free))=true) :
  CSc X scope cl ts fr ix:=by
 refine ⟨clos,kind,λy hy=>?_,λy hy e=>?_,λy c e=>sub _ (bV e),λy z=>?_,λy hy=>?_,len,λj y e=>?_⟩
 ·have:=bE.mp nocell y hy
  simpa using this
 ·have:=bE.mp names y hy
  rw [e] at this;simpa using this
 ·have key:∀k,(relabel scope X.env).names.lookup y=some k->(k == .cell || k == .free)=true->∃c,cl.lookup y=some c:=λk e hk=>by
   have:=bE.mp has _ (bV e)
   rw [hk] at this;exact gM.mp (by simpa using this)
  rcases z with z|z
  ·exact key _ z rfl
  ·exact key _ z rfl
 ·have:=bE.mp nofn y hy
  simpa using this
 ·obtain ⟨hj,_⟩:=av.mp e;have hj2:j<ix.length:=by omega
  have hm:(y,ix[j])∈fr.zip ix:=by
   rw [List.mem_iff_getElem?];exact ⟨j,by rw [gH];exact ⟨e,ah hj2⟩⟩
  have:=bE.mp vis _ hm
  simp only [aZ,bL,eB] at this;exact ⟨ix[j],ah hj2,this.1.1,this.1.2,this.2⟩
end L2
namespace HT
open PyProof.Rows
end HT
namespace L2
open PyProof.Rows
section
variable{X:Cx}
theorem a5d(hc:X.calm=true):CallR X (.builtin "sum") (λxs H Q=>∃(p:Addr) (ns:List Int),xs=[.ref p]/\SqL X.K H p (ns.map V.int)/\Q (.int ns.sum) H):=by
 intro pins s σ H xs us Q I r h
 obtain ⟨p,ns,rfl,hq,q⟩:=h;obtain ⟨u,rfl,rx⟩:=vals1 r;cases rx
 obtain ⟨its,r',pl,hz⟩:=I.list hq;have hInts:IntsAre its ns:=intsAre_of r';obtain ⟨prs,ep⟩:=hInts.allInts.items;refine sum_intListG (xs:=prs) (I.ok.hd hc) (ep ▸ pl.isList) λh' tk t' hk=>⟨.int ns.sum,H,I.kept hk,⟨t',?_⟩,q⟩;have nums:prs.toList.map (·.1)=ns:=by
  rw [<-nums_intItems,<-ep];exact hInts.numsOf
 have tot:preSum (numAt prs) prs.size=ns.sum:=by
  rw [preSum_eq,<-nums]
  congr 1
  exact bP (by simp)
 rw [tot]
end
end L2
namespace SHP
open L2
end SHP
namespace L2
open PyProof.Rows
open PySem.AutoSeq1 in
theorem a78(l b:Addr)(xs ys:Array Value)(n m:Nat)(dd:Option Addr)(sl:Array (Option Value))(long:¬(!xs.isEmpty && Builtin.List.listTooLong (xs.size+ys.size))=true)(fit1:xs.size<=sizeLine)(fit2:xs.size+ys.size<=sizeLine+1) :
  Meets (Builtin.«list.extend» ⟨[.ref l,.ref b],[]⟩) (λ_ R s=>(s.heap.get? l=some {cls:=.type "list",dict:=none,data:=.seq xs n,slots := #[]}/\s.heap.get? b=some {cls:=.type "tuple",dict:=dd,data:=.seq ys m,slots:=sl})/\R (.ok (.ret Value.none)) {s with heap:=s.heap.update l (Obj.mapSeq (·++ys))}) :=
 .of_wp λprog w A R ⟨hp,gn,dr,tk,os⟩ ⟨⟨hl,hb⟩,q⟩=>by
  have a1:=idx_int;have a2:=AutoSeq1.sub_tuple_tuple;have a3:=AutoSeq1.sub_list_list;have a4:=AutoSeq1.sub_tuple_list;have a5:=AutoSeq1.sub_list_tuple;have both:(xs++ys).size<=sizeLine+1:=by simpa using fit2
  wp_walk using i3 hl rfl (hz:=fit1) (_hz':=both),wpAny_loadPart' hl,wpAny_loadPart' hb
  exact ⟨_,rfl,q⟩
section
variable{X:Cx}
def aeb(K:PySem.W.Frag):V->List V->Hp->VK->Prop:=λx vs H Q=>∃l b xs zs,x=.ref l/\vs=[.ref b]/\H l=some (.lst xs)/\SqT K H b zs/\xs.length+zs.length<=sizeLine/\Q .non (upd H l (.lst (xs++zs)))
theorem a2n:MtM X "list.extend" (aeb X.K):=by
 intro pins s σ H x vs v us Q I rx rv h
 obtain ⟨l,b,xs,zs,rfl,rfl,hH,hB,hz,q⟩:=h;cases rx
 obtain ⟨u,rfl,ru⟩:=rv.one;cases ru
 obtain ⟨z,its,n,r,hl,e⟩:=I.lstM hH;obtain ⟨its2,r2,p2,_⟩:=I.tuple hB;have hl2:=r2.length;obtain ⟨⟨cls,dd,data,sl⟩,e2,hc,hrest⟩:=id p2;have hsz:its.toArray.size+its2.toArray.size<=sizeLine:=by rw [aA,aA];omega
 have hlong:¬ (!its.toArray.isEmpty && Builtin.List.listTooLong (its.toArray.size+its2.toArray.size))=true:=by
  rw [a3v hsz,eD];exact aM
 obtain ⟨n2,hd⟩:=(show ∃n2,data=.seq its2.toArray n2 from by first|exact hrest|exact ⟨_,hrest.2⟩|(obtain ⟨_,n,hd⟩:=hrest;exact ⟨n,hd⟩))
 have hc':cls=.type "tuple":=hc;subst hc' hd;refine cN F.slot_list_extend ⟨_,e,rfl⟩ F.entry_list_extend (F.args_list_extend_2 _ _)
  (a78 l b its.toArray its2.toArray n n2 dd sl hlong (by rw [aA];omega) (by omega)) ⟨⟨e,e2⟩,?_⟩
 refine ⟨.non,_,I.lset (its':=its++its2) hH e (by simp) (r.append r2) ?_,rfl,q⟩
 rw [ar];omega
end
end L2
namespace SHP
open L2
end SHP
namespace MI
open L2
inductive D where
 |non|bl (b:Bool)|int (i:Int)|str (x:Str)|ty (n:String)|tup (xs:List D)|rol (xs:List D)|ref (i:Nat)|scr (xs:List D)|rod (ks:List Key) (xs:List D)|rdT (ks:List (List Key)) (xs:List D)|exc (c:Str)|ins (c:Str) (ks:List Str) (xs:List D)
inductive O where
 |lst (xs:List D)|dK (kvs:List (Key×D))|dT (kvs:List (List Key×D))|ins (c:Str) (fs:List (Str×D))
abbrev Hd:=List O
abbrev Sd:=List (Option D)
inductive R (α:Type) where
 |ok (a:α) (h:Hd)|ex (c:Str) (h:Hd)|no
def R.bind{α β:Type}:R α->(α->Hd->R β)->R β
 |.ok a h,k=>k a h
 |.ex c h,_=>.ex c h
 |.no,_=>.no
inductive Fl where
 |nx (σ:Sd) (h:Hd)|rt (d:D) (h:Hd)|bk (σ:Sd) (h:Hd)|ct (σ:Sd) (h:Hd)|ex (c:Str) (h:Hd)|no
def R.fl{α:Type}:R α->(α->Hd->Fl)->Fl
 |.ok a h,k=>k a h
 |.ex c h,_=>.ex c h
 |.no,_=>.no
abbrev SE:=Sd->Hd->R D
abbrev ST:=Sd->Hd->R Bool
abbrev SA:=Sd->Hd->R (List D)
abbrev SS:=Sd->Hd->Fl
def SqF(K:PySem.W.Frag)(H:Hp)(a:Addr)(vs:List V):Prop:=(∃o,H a=some (.frz o (.lst vs)))\/SqL K (λ_=>none) a vs
theorem SqF.l(h:SqF K H a vs):SqL K H a vs:=by
 rcases h with ⟨o,h⟩|h
 ·exact .inl (.inr ⟨o,h⟩)
 ·rcases h with (h|⟨o,h⟩)|h
  ·cases h
  ·cases h
  ·exact .inr h
def SqZ(H:Hp)(a:Addr)(vs:List V):Prop:=∃o,H a=some (.frz o (.lst vs))
theorem SqZ.l(h:SqZ H a vs):SqL K H a vs:=let ⟨o,e⟩:=h; .inl (.inr ⟨o,e⟩)
def exO(a:Addr):HO:=.ext λh=>∃o,h.get? a=some o
mutual
inductive Rep (K:PySem.W.Frag) (ι:List Addr) (H:Hp):V->D->Prop
 |non:Rep K ι H .non .non
 |bl (b:Bool):Rep K ι H (.bl b) (.bl b)
 |int (i:Int):Rep K ι H (.int i) (.int i)
 |str (x:Str):Rep K ι H (.str x) (.str x)
 |ty (n:String):Rep K ι H (.ty n) (.ty n)
 |tup {a:Addr} {vs:List V} {xs:List D} (h:H a=some (.tup vs)) (r:Reps K ι H vs xs):Rep K ι H (.ref a) (.tup xs)
 |rol {a:Addr} {vs:List V} {xs:List D} (h:SqZ H a vs) (r:Reps K ι H vs xs):Rep K ι H (.ref a) (.rol xs)
 |scr {a:Addr} {vs:List V} {xs:List D} (h:SqF K H a vs) (r:Reps K ι H vs xs):Rep K ι H (.ref a) (.scr xs)
 |ref {a:Addr} {i:Nat} (h:ι[i]? = some a):Rep K ι H (.ref a) (.ref i)
 |rod {a:Addr} {o:Obj} {us:List (Key×V)} {ks:List Key} {xs:List D} (h:H a=some (.frz o (.dK us))) (e:us.map (·.1)=ks) (r:Reps K ι H (us.map (·.2)) xs):Rep K ι H (.ref a) (.rod ks xs)
 |rdT {a:Addr} {o:Obj} {us:List (List Key×V)} {ks:List (List Key)} {xs:List D} (h:H a=some (.frz o (.dT us))) (e:us.map (·.1)=ks) (r:Reps K ι H (us.map (·.2)) xs):Rep K ι H (.ref a) (.rdT ks xs)
 |exc {a C:Addr} {o:Obj} {c:Str} (h:H a=some (.frz o (exO a))) (hc:o.cls=.ref C) (hn:PySem.W.nsIn K mainGlobals c=some (some (.ref C))):Rep K ι H (.ref a) (.exc c)
 |ins {a C dx:Addr} {o:Obj} {c:Str} {us:List (Str×V)} {ks:List Str} {xs:List D} (h:H a=some (.frz o (.ins C dx us))) (hn:PySem.W.nsIn K mainGlobals c=some (some (.ref C))) (e:us.map (·.1)=ks) (r:Reps K ι H (us.map (·.2)) xs):Rep K ι H (.ref a) (.ins c ks xs)
inductive Reps (K:PySem.W.Frag) (ι:List Addr) (H:Hp):List V->List D->Prop
 |nil:Reps K ι H [] []
 |cons {v:V} {d:D} {vs:List V} {ds:List D} (r:Rep K ι H v d) (rs:Reps K ι H vs ds):Reps K ι H (v::vs) (d::ds)
end
structure Gw (ι:List Addr) (H:Hp) (ι':List Addr) (H':Hp):Prop where
 pre:∃m,ι'=ι++m
 tup:∀a vs,H a=some (.tup vs)->H' a=some (.tup vs)
 frz:∀a o u,H a=some (.frz o u)->H' a=some (.frz o u)
structure Gr (ι:List Addr) (H:Hp) (ι':List Addr) (H':Hp):Prop where
 pre:∃m,ι'=ι++m/\∀a∈m,H a=none
 tup:∀a vs,H a=some (.tup vs)->H' a=some (.tup vs)
 frz:∀a o u,H a=some (.frz o u)->H' a=some (.frz o u)
 oth:∀a u,H a=some u->a∉ι->H' a=some u
 kp:∀a u,H a=some u->∃u',H' a=some u'
theorem Gr.w(g:Gr ι H ι' H'):Gw ι H ι' H':=⟨let ⟨m,e,_⟩:=g.pre; ⟨m,e⟩,g.tup,g.frz⟩
theorem Gr.refl(ι:List Addr)(H:Hp):Gr ι H ι H:=⟨⟨[],by simp,by simp⟩,λ_ _ h=>h,λ_ _ _ h=>h,λ_ _ h _=>h,λ_ u h=>⟨u,h⟩⟩
theorem Gr.trans(a:Gr ι H ι1 H1)(b:Gr ι1 H1 ι2 H2):Gr ι H ι2 H2:=by
 obtain ⟨m,rfl,hm⟩:=a.pre;obtain ⟨n,rfl,hn⟩:=b.pre;refine ⟨⟨m++n,by simp,λx hx=>?_⟩,λx vs h=>b.tup x vs (a.tup x vs h),λx o u h=>b.frz x o u (a.frz x o u h),λx u h hx=>?_,λx u h=>?_⟩
 ·rcases bA.mp hx with hx|hx
  ·exact hm x hx
  ·cases e:H x with
   |none=>rfl
   |some u =>
    obtain ⟨u',e'⟩:=a.kp x u e;rw [hn x hx] at e';cases e'
 ·refine b.oth x u (a.oth x u h hx) λz=>?_
  rcases bA.mp z with z|z
  ·exact hx z
  ·rw [hm x z] at h;cases h
 ·obtain ⟨u',e⟩:=a.kp x u h;exact b.kp x u' e
theorem Gw.at(g:Gw ι H ι' H'){i:Nat}(h:ι[i]? = some a):ι'[i]? = some a:=by
 obtain ⟨m,rfl⟩:=g.pre;rw [aP (av.mp h).1];exact h
theorem Gr.at(g:Gr ι H ι' H'){i:Nat}(h:ι[i]? = some a):ι'[i]? = some a:=g.w.at h
theorem SqF.monoW(g:Gw ι H ι' H')(h:SqF K H a vs):SqF K H' a vs:=by
 rcases h with ⟨o,h⟩|h
 ·exact .inl ⟨o,g.frz _ _ _ h⟩
 ·exact .inr h
theorem SqZ.monoW(g:Gw ι H ι' H')(h:SqZ H a vs):SqZ H' a vs:=let ⟨o,e⟩:=h; ⟨o,g.frz _ _ _ e⟩
theorem SqZ.mono(g:Gr ι H ι' H')(h:SqZ H a vs):SqZ H' a vs:=h.monoW g.w
mutual
theorem Rep.monoW(g:Gw ι H ι' H'):∀{v:V} {d:D},Rep K ι H v d->Rep K ι' H' v d
 |_,_,.non=>.non
 |_,_,.bl b=>.bl b
 |_,_,.int i=>.int i
 |_,_,.str x=>.str x
 |_,_,.ty n=>.ty n
 |_,_,.tup h r=>.tup (g.tup _ _ h) (Reps.monoW g r)
 |_,_,.rol h r=>.rol (h.monoW g) (Reps.monoW g r)
 |_,_,.scr h r=>.scr (h.monoW g) (Reps.monoW g r)
 |_,_,.ref h=>.ref (g.at h)
 |_,_,.rod h e r=>.rod (g.frz _ _ _ h) e (Reps.monoW g r)
 |_,_,.rdT h e r=>.rdT (g.frz _ _ _ h) e (Reps.monoW g r)
 |_,_,.exc h hc hn=>.exc (g.frz _ _ _ h) hc hn
 |_,_,.ins h hn e r=>.ins (g.frz _ _ _ h) hn e (Reps.monoW g r)
theorem Reps.monoW(g:Gw ι H ι' H'):∀{vs:List V} {ds:List D},Reps K ι H vs ds->Reps K ι' H' vs ds
 |_,_,.nil=>.nil
 |_,_,.cons r rs=>.cons (Rep.monoW g r) (Reps.monoW g rs)
end
theorem Rep.mono(g:Gr ι H ι' H')(r:Rep K ι H v d):Rep K ι' H' v d:=r.monoW g.w
theorem Reps.mono(g:Gr ι H ι' H')(r:Reps K ι H vs ds):Reps K ι' H' vs ds:=r.monoW g.w
section
variable{K:PySem.W.Frag}{ι:List Addr}{H:Hp}
theorem Reps.len:Reps K ι H vs ds->vs.length=ds.length
 |.nil=>rfl
 |.cons _ rs=>by rw [aF,aF,rs.len]
theorem Reps.get:∀{vs:List V} {ds:List D} {i:Nat} {d:D},Reps K ι H vs ds->ds[i]? = some d->∃v,vs[i]? = some v/\Rep K ι H v d
 |_,_,_,_,.nil,e=>by simp at e
 |_,_,0,_,.cons r _,e=>by simp at e;subst e;exact ⟨_,rfl,r⟩
 |_,_,i+1,d,.cons _ rs,e=>by
  obtain ⟨u,h1,h2⟩:=Reps.get (i:=i) (d:=d) rs (by simpa using e)
  exact ⟨u,by simpa using h1,h2⟩
theorem Reps.app:∀{vs us:List V} {ds es:List D},Reps K ι H vs ds->Reps K ι H us es->Reps K ι H (vs++us) (ds++es)
 |_,_,_,_,.nil,s=>s
 |_,_,_,_,.cons r rs,s=>.cons r (Reps.app rs s)
theorem Reps.set(q:Rep K ι H v d):∀{vs:List V} {ds:List D} (i:Nat),Reps K ι H vs ds->Reps K ι H (vs.set i v) (ds.set i d)
 |_,_,_,.nil=>.nil
 |_,_,0,.cons _ rs=>.cons q rs
 |_,_,i+1,.cons r rs=>.cons r (Reps.set q i rs)
theorem Reps.take:∀{vs:List V} {ds:List D} (n:Nat),Reps K ι H vs ds->Reps K ι H (vs.take n) (ds.take n)
 |_,_,0,_=>.nil
 |_,_,_+1,.nil=>.nil
 |_,_,n+1,.cons r rs=>.cons r (Reps.take n rs)
theorem Reps.drop:∀{vs:List V} {ds:List D} (n:Nat),Reps K ι H vs ds->Reps K ι H (vs.drop n) (ds.drop n)
 |_,_,0,r=>r
 |_,_,_+1,.nil=>.nil
 |_,_,n+1,.cons _ rs=>Reps.drop n rs
theorem Reps.snoc(r:Reps K ι H vs ds)(q:Rep K ι H v d):Reps K ι H (vs++[v]) (ds++[d]):=r.app (.cons q .nil)
theorem Reps.flat:∀{vs:List V} {ds:List D} (k:Nat),Reps K ι H vs ds->Reps K ι H (List.replicate k vs).flatten (List.replicate k ds).flatten
 |_,_,0,_=>.nil
 |vs,ds,k+1,r=>by
  rw [aS,aS,cK,cK];exact r.app (Reps.flat k r)
end
def KRep{κ:Type}(K:PySem.W.Frag)(ι:List Addr)(H:Hp)(us:List (κ×V))(kvs:List (κ×D)):Prop:=us.map (·.1)=kvs.map (·.1)/\Reps K ι H (us.map (·.2)) (kvs.map (·.2))
def ORep(K:PySem.W.Frag)(ι:List Addr)(H:Hp)(a:Addr):O->Prop
 |.lst xs=>∃vs,H a=some (.lst vs)/\Reps K ι H vs xs
 |.dK kvs=>∃us,H a=some (.dK us)/\KRep K ι H us kvs
 |.dT kvs=>∃us,H a=some (.dT us)/\KRep K ι H us kvs
 |.ins c fs=>∃C dx us,H a=some (.ins C dx us)/\PySem.W.nsIn K mainGlobals c=some (some (.ref C))/\KRep K ι H us fs
structure HRep (K:PySem.W.Frag) (ι:List Addr) (H:Hp) (h:Hd):Prop where
 nd:ι.Nodup
 len:ι.length=h.length
 obj:∀(i:Nat) (a:Addr) (o:O),ι[i]? = some a->h[i]? = some o->ORep K ι H a o
section
variable{K:PySem.W.Frag}{ι:List Addr}{H:Hp}{h:Hd}
theorem ORep.some(r:ORep K ι H a o):∃u,H a=some u/\(∀vs,u≠.tup vs)/\(∀o' u',u≠.frz o' u'):=by
 cases o with
 |lst xs=>obtain ⟨vs,e,_⟩:=r;exact ⟨_,e,λ_ z=>(by cases z),λ_ _ z=>(by cases z)⟩
 |dK kvs=>obtain ⟨us,e,_⟩:=r;exact ⟨_,e,λ_ z=>(by cases z),λ_ _ z=>(by cases z)⟩
 |dT kvs=>obtain ⟨us,e,_⟩:=r;exact ⟨_,e,λ_ z=>(by cases z),λ_ _ z=>(by cases z)⟩
 |ins c fs=>obtain ⟨C,dx,us,e,_⟩:=r;exact ⟨_,e,λ_ z=>(by cases z),λ_ _ z=>(by cases z)⟩
theorem HRep.at(r:HRep K ι H h){i:Nat}(e:ι[i]? = some a):∃o,h[i]? = some o/\ORep K ι H a o:=by
 have hi:i<h.length:=by rw [<-r.len];exact (av.mp e).1
 exact ⟨h[i],ah hi,r.obj i a _ e (ah hi)⟩
theorem HRep.addr(r:HRep K ι H h){i:Nat}(e:h[i]? = some o):∃a,ι[i]? = some a/\ORep K ι H a o:=by
 have hi:i<ι.length:=by rw [r.len];exact (av.mp e).1
 exact ⟨ι[i],ah hi,r.obj i _ o (ah hi) e⟩
theorem HRep.notin(r:HRep K ι H h)(e:H p=none):p∉ι:=λz=>by
 obtain ⟨i,hi⟩:=c6 z;obtain ⟨o,_,q⟩:=r.at hi;obtain ⟨u,q,_⟩:=q.some;rw [e] at q;cases q
theorem ORep.monoW(g:Gw ι H ι' H')(e:H' a=H a)(r:ORep K ι H a o):ORep K ι' H' a o:=by
 cases o with
 |lst xs=>obtain ⟨vs,h1,h2⟩:=r;exact ⟨vs,by rw [e];exact h1,h2.monoW g⟩
 |dK kvs=>obtain ⟨us,h1,h2,h3⟩:=r;exact ⟨us,by rw [e];exact h1,h2,h3.monoW g⟩
 |dT kvs=>obtain ⟨us,h1,h2,h3⟩:=r;exact ⟨us,by rw [e];exact h1,h2,h3.monoW g⟩
 |ins c fs=>obtain ⟨C,dx,us,h1,hn,h2,h3⟩:=r;exact ⟨C,dx,us,by rw [e];exact h1,hn,h2,h3.monoW g⟩
theorem ORep.mono(g:Gr ι H ι' H')(e:H' a=H a)(r:ORep K ι H a o):ORep K ι' H' a o:=r.monoW g.w e
theorem a0n(e:H p=none)(o:HO):Gr ι H ι (upd H p o) :=
 ⟨⟨[],by simp,by simp⟩,λa vs h=>by rw [jh (jd h e)];exact h,λa o u h=>by rw [jh (jd h e)];exact h,λa u h _=>by rw [jh (jd h e)];exact h,λa u h=>⟨u,by rw [jh (jd h e)];exact h⟩⟩
theorem HRep.aside(r:HRep K ι H h)(e:H p=none)(o:HO):HRep K ι (upd H p o) h:=by
 refine ⟨r.nd,r.len,λi a o' e1 e2=>?_⟩;have q:=r.obj i a o' e1 e2;obtain ⟨u,hu,_⟩:=q.some;exact q.mono (a0n e o) (jh (jd hu e))
theorem aec(e:H p=none)(o:HO):Gr ι H (ι++[p]) (upd H p o) :=
 ⟨⟨[p],rfl,by simpa using e⟩,(a0n (ι:=ι) e o).tup,(a0n (ι:=ι) e o).frz,(a0n (ι:=ι) e o).oth,(a0n (ι:=ι) e o).kp⟩
theorem HRep.add(r:HRep K ι H h)(e:H p=none)(q:ORep K (ι++[p]) (upd H p o) p ob):HRep K (ι++[p]) (upd H p o) (h++[ob]):=by
 refine ⟨?_,by simp [r.len],λi a o' e1 e2=>?_⟩
 ·rw [bZ];exact ⟨r.nd,by simp,λa ha b hb z=>r.notin e (by rw [aB.mp hb] at z;rw [<-z];exact ha)⟩
 ·by_cases hi:i<ι.length
  ·rw [aP hi] at e1;rw [aP (by rw [<-r.len];exact hi)] at e2
   have q:=r.obj i a o' e1 e2;obtain ⟨u,hu,_⟩:=q.some;exact q.mono (aec e o) (jh (jd hu e))
  ·have hi2:i<(ι++[p]).length:=(av.mp e1).1;have:i=ι.length:=by simp at hi2;omega
   subst this;rw [aH (ay _)] at e1;rw [r.len,aH (ay _)] at e2;simp at e1 e2;subst e1 e2;exact q
theorem a79{i:Nat}(r:HRep K ι H h)(e:ι[i]? = some a)(o:HO):Gr ι H ι (upd H a o):=by
 obtain ⟨_,_,q⟩:=r.at e;obtain ⟨u,hu,n1,n2⟩:=q.some;refine ⟨⟨[],by simp,by simp⟩,λb vs hb=>?_,λb o' u' hb=>?_,λb u' hb hn=>?_,λb u' hb=>?_⟩
 ·rw [jh (λz=>by subst z;rw [hu] at hb;exact n1 _ (bH hb))];exact hb
 ·rw [jh (λz=>by subst z;rw [hu] at hb;exact n2 _ _ (bH hb))];exact hb
 ·rw [jh (λz=>hn (by subst z;exact bD e))];exact hb
 ·by_cases z:b=a
  ·subst z;exact ⟨o,ou⟩
  ·exact ⟨u',by rw [jh z];exact hb⟩
theorem HRep.put(r:HRep K ι H h){i:Nat}(e:ι[i]? = some a)(q:ORep K ι (upd H a o) a ob):HRep K ι (upd H a o) (h.set i ob):=by
 refine ⟨r.nd,by rw [hZ];exact r.len,λj b o' e1 e2=>?_⟩
 by_cases hj:i=j
 ·subst hj;rw [e] at e1;cases e1
  have hi:i<h.length:=by rw [<-r.len];exact (av.mp e).1
  rw [cb hi] at e2;cases e2
  exact q
 ·rw [cI hj] at e2;have hne:b≠a:=λz=>by
   subst z;obtain ⟨h1,g1⟩:=av.mp e;obtain ⟨h2,g2⟩:=av.mp e1;have np:=cf.mp r.nd
   rcases gA hj with l|l
   ·exact np i j h1 h2 l (g1.trans g2.symm)
   ·exact np j i h2 h1 l (g2.trans g1.symm)
  exact (r.obj j b o' e1 e2).mono (a79 r e o) (jh hne)
end
structure SRep (K:PySem.W.Frag) (ι:List Addr) (H:Hp) (σ:St) (τ:Sd):Prop where
 len:σ.length=τ.length
 val:∀(i:Nat) (d:D),τ[i]? = some (some d)->∃v,σ[i]? = some (some v)/\Rep K ι H v d
theorem SRep.mono(g:Gr ι H ι' H')(s:SRep K ι H σ τ):SRep K ι' H' σ τ :=
 ⟨s.len,λi d e=>let ⟨v,h1,h2⟩:=s.val i d e; ⟨v,h1,h2.mono g⟩⟩
theorem SRep.set(s:SRep K ι H σ τ)(r:Rep K ι H v d)(i:Nat):SRep K ι H (σ.set i (some v)) (τ.set i (some d)):=by
 refine ⟨by simp [s.len],λj d' e=>?_⟩
 by_cases hj:i=j
 ·subst hj;have hi:i<τ.length:=by
   have:=(av.mp e).1
   simpa using this
  rw [cb hi] at e;cases e
  exact ⟨v,by rw [cb (by rw [s.len];exact hi)],r⟩
 ·rw [cI hj] at e ⊢;exact s.val j d' e
abbrev XD:=Str->List Addr->Hp->Hd->Prop
def out{α β:Type}(K:PySem.W.Frag)(E:XD)(Rp:List Addr->Hp->β->α->Prop)(ι:List Addr)(H:Hp)(r:R α)(Q:β->Hp->Prop):Prop :=
 match r with
 |.ok a h=>∀ι' H' b,Gr ι H ι' H'->Rp ι' H' b a->HRep K ι' H' h->Q b H'
 |.ex c h=>∀ι' H',Gr ι H ι' H'->HRep K ι' H' h->E c ι' H' h
 |.no=>False
theorem a2o{α β:Type}{K:PySem.W.Frag}{E:XD}{Rp:List Addr->Hp->β->α->Prop}{ι ι1:List Addr}{H H1:Hp}{r:R α}{Q:β->Hp->Prop}(o:out K E Rp ι H r Q)(g:Gr ι H ι1 H1):out K E Rp ι1 H1 r Q:=by
 cases r with
 |ok a h=>exact λι' H' b g'=>o ι' H' b (g.trans g')
 |ex c h=>exact λι' H' g'=>o ι' H' (g.trans g')
 |no=>exact o
theorem g8{α β γ δ:Type}{K:PySem.W.Frag}{E:XD}{Rp:List Addr->Hp->β->α->Prop}{Sp:List Addr->Hp->δ->γ->Prop}{ι:List Addr}{H:Hp}{r:R α}{k:α->Hd->R γ}{Q:δ->Hp->Prop}{P:β->Hp->Prop}
  (o:out K E Sp ι H (r.bind k) Q) (hP:∀a h ι1 H1 b,Gr ι H ι1 H1->Rp ι1 H1 b a->HRep K ι1 H1 h->out K E Sp ι1 H1 (k a h) Q->P b H1):out K E Rp ι H r P:=by
 cases r with
 |ok a h=>exact λι' H' b g r' hr=>hP a h ι' H' b g r' hr (a2o o g)
 |ex c h=>exact o
 |no=>exact o
abbrev vh(K:PySem.W.Frag):List Addr->Hp->V->D->Prop:=λι H v d=>Rep K ι H v d
abbrev b1u(K:PySem.W.Frag):List Addr->Hp->List V->List D->Prop:=λι H v d=>Reps K ι H v d
abbrev acv:List Addr->Hp->Bool->Bool->Prop:=λ_ _ a b=>a=b
abbrev b1v:List Addr->Hp->Option Int->Option Int->Prop:=λ_ _ a b=>a=b
def akq(K:PySem.W.Frag)(E:XD)(ι:List Addr)(H:Hp)(r:Fl)(N:Ends):Prop :=
 match r with
 |.nx τ h=>∀ι' H' σ,Gr ι H ι' H'->SRep K ι' H' σ τ->HRep K ι' H' h->N.nx σ H'
 |.bk τ h=>∀ι' H' σ,Gr ι H ι' H'->SRep K ι' H' σ τ->HRep K ι' H' h->N.bk σ H'
 |.ct τ h=>∀ι' H' σ,Gr ι H ι' H'->SRep K ι' H' σ τ->HRep K ι' H' h->N.ct σ H'
 |.rt d h=>∀ι' H' v,Gr ι H ι' H'->Rep K ι' H' v d->HRep K ι' H' h->N.rt v H'
 |.ex c h=>∀ι' H',Gr ι H ι' H'->HRep K ι' H' h->E c ι' H' h
 |.no=>False
theorem xr(o:akq K E ι H r N)(g:Gr ι H ι1 H1):akq K E ι1 H1 r N:=by
 cases r with
 |nx τ h=>exact λι' H' b g'=>o ι' H' b (g.trans g')
 |bk τ h=>exact λι' H' b g'=>o ι' H' b (g.trans g')
 |ct τ h=>exact λι' H' b g'=>o ι' H' b (g.trans g')
 |rt d h=>exact λι' H' b g'=>o ι' H' b (g.trans g')
 |ex c h=>exact λι' H' g'=>o ι' H' (g.trans g')
 |no=>exact o
theorem v7{α β:Type}{K:PySem.W.Frag}{E:XD}{Rp:List Addr->Hp->β->α->Prop}{ι:List Addr}{H:Hp}{r:R α}{k:α->Hd->Fl}{N:Ends}{P:β->Hp->Prop}
  (o:akq K E ι H (r.fl k) N) (hP:∀a h ι1 H1 b,Gr ι H ι1 H1->Rp ι1 H1 b a->HRep K ι1 H1 h->akq K E ι1 H1 (k a h) N->P b H1):out K E Rp ι H r P:=by
 cases r with
 |ok a h=>exact λι' H' b g r' hr=>hP a h ι' H' b g r' hr (xr o g)
 |ex c h=>exact o
 |no=>exact o
def lift{α β:Type}(K:PySem.W.Frag)(E:XD)(Rp:List Addr->Hp->β->α->Prop)(f:Sd->Hd->R α):St->Hp->(β->Hp->Prop)->Prop:=λσ H Q =>
 ∃ι τ h,SRep K ι H σ τ/\HRep K ι H h/\out K E Rp ι H (f τ h) Q
def a9i(K:PySem.W.Frag)(E:XD)(f:SS):TS:=λN σ H=>∃ι τ h,SRep K ι H σ τ/\HRep K ι H h/\akq K E ι H (f τ h) N
abbrev ME(X:Cx)(E:XD)(e:Expr)(f:SE):Prop:=PE X e (lift X.K E (vh X.K) f)
abbrev MT(X:Cx)(E:XD)(e:Expr)(f:ST):Prop:=PT X e (lift X.K E acv f)
abbrev MW(X:Cx)(E:XD)(e:Expr)(f:ST):Prop:=PW X e (lift X.K E acv f)
abbrev MA(X:Cx)(E:XD)(es:List Expr)(f:SA):Prop:=PA X es (lift X.K E (b1u X.K) f)
abbrev MS(X:Cx)(E:XD)(st:Stmt)(f:SS):Prop:=PS X st (a9i X.K E f)
abbrev MSs(X:Cx)(E:XD)(st:List Stmt)(f:SS):Prop:=PSs X st (a9i X.K E f)
theorem PE.weak(h:PE X e t)(i:∀σ H Q,t' σ H Q->t σ H Q):PE X e t':=λpins s σ H Q I q=>h pins s σ H Q I (i _ _ _ q)
theorem PT.weak(h:PT X e t)(i:∀σ H Q,t' σ H Q->t σ H Q):PT X e t':=λpins s σ H Q I q=>h pins s σ H Q I (i _ _ _ q)
theorem PW.weak(h:PW X e t)(i:∀σ H Q,t' σ H Q->t σ H Q):PW X e t':=λwh pins s σ H Q I q=>h wh pins s σ H Q I (i _ _ _ q)
theorem PA.weak(h:PA X e t)(i:∀σ H Q,t' σ H Q->t σ H Q):PA X e t':=λpos pins s σ H Q I q=>h pos pins s σ H Q I (i _ _ _ q)
theorem PS.weak(h:PS X e t)(i:∀N σ H,t' N σ H->t N σ H):PS X e t':=λpins s σ H N I q=>h pins s σ H N I (i _ _ _ q)
theorem PSs.weak(h:PSs X e t)(i:∀N σ H,t' N σ H->t N σ H):PSs X e t':=λpins s σ H N I q=>h pins s σ H N I (i _ _ _ q)
abbrev LINE:Nat:=16777216
theorem ll{n:Nat}(h:n<=LINE):n<=sizeLine:=acs h
def sV(i:Nat):SE:=λτ h=>match τ[i]? with|some (some d)=>.ok d h|_=>.no
def sC(d:D):SE:=λ_ h=>.ok d h
section
variable{X:Cx}{E:XD}{a b c e:Expr}{fa fb fc:SE}{pos:Pos}
theorem cj(i:Nat)(hN:X.N[i]? = some x:=by rfl)(hv:Vis X.env.scope x:=by first|exact Or.inl rfl|exact Or.inr (Or.inl rfl)|exact Or.inr (Or.inr rfl))(hd:(x == ("__debug__" : Str))=false:=by decide)
  (hcd:(x == ("__classdict__" : Str))=false:=by decide):ME X E (.Name x pos) (sV i):=by
 refine PE.weak (ah3 hN hv hd hcd) ?_
 rintro σ H Q ⟨ι,τ,h,S,Rh,o⟩
 unfold sV at o
 split at o
 ·rename_i d e;obtain ⟨v,h1,h2⟩:=S.val i d e;exact ⟨v,h1,o ι H v (.refl _ _) h2 Rh⟩
 ·exact o.elim
theorem aur(h:PE X e (tC v))(r:∀ι H,Rep X.K ι H v d):ME X E e (sC d) :=
 PE.weak h λσ H Q ⟨ι,τ,h,S,Rh,o⟩=>o ι H v (.refl _ _) (r ι H) Rh
theorem bf{i j pos}:ME X E (.Constant (.int i) j pos) (sC (.int i)):=aur atl λ_ _=>.int i
theorem zb{i j pos}:ME X E (.Constant (.bool i) j pos) (sC (.bl i)):=aur ayi λ_ _=>.bl i
theorem jj{i j pos}:ME X E (.Constant (.str i) j pos) (sC (.str i)):=aur atm λ_ _=>.str i
theorem acw(hg:Gl X x)(hm:X.mg x=none)(hv:bootBuiltins x=some (.type n))(hn:x ≠ "__name__":=by decide)(hd:(x == ("__debug__" : Str))=false:=by decide):ME X E (.Name x pos) (sC (.ty n)) :=
 aur (ah4 (v:=.ty n) hg hm hv rfl hn hd) λ_ _=>.ty n
theorem aqc(hg:Gl X x)(hm:X.mg x=some (.int i t))(hd:(x == ("__debug__" : Str))=false:=by decide):ME X E (.Name x pos) (sC (.int i)) :=
 aur (a4z (v:=.int i) hg hm ⟨t,rfl⟩ hd) λ_ _=>.int i
def s2(g:D->D->Hd->R D)(fa fb:SE):SE:=λτ h=>(fa τ h).bind λx h1=>(fb τ h1).bind λy h2=>g x y h2
def s1(g:D->Hd->R D)(fa:SE):SE:=λτ h=>(fa τ h).bind g
def a1w(K:PySem.W.Frag)(g:D->D->Hd->R D)(r:R2):Prop:=∀(E:XD) ι H h x y dx dy Q,Rep K ι H x dx->Rep K ι H y dy->HRep K ι H h->out K E (vh K) ι H (g dx dy h) Q->r x y H Q
def akr(K:PySem.W.Frag)(g:List D->Hd->R D)(r:List V->Hp->VK->Prop):Prop:=∀(E:XD) ι H h xs ds Q,Reps K ι H xs ds->HRep K ι H h->out K E (vh K) ι H (g ds h) Q->r xs H Q
theorem ay3(hs:a1w K g r)(q:lift K E (vh K) (s2 g fa fb) σ H Q):tOp r (lift K E (vh K) fa) (lift K E (vh K) fb) σ H Q:=by
 obtain ⟨ι,τ,h,S,Rh,o⟩:=q;refine ⟨ι,τ,h,S,Rh,g8 o λd h1 ι1 H1 v g1 r1 hr1 o1=>?_⟩;refine ⟨ι1,τ,h1,S.mono g1,hr1,g8 o1 λd2 h2 ι2 H2 u g2 r2 hr2 o2=>?_⟩;exact hs E ι2 H2 h2 v u d d2 Q (r1.mono g2) r2 hr2 o2
theorem acx(ho:OpR X (binaryOp op) r)(hs:a1w X.K g r)(ha:ME X E a fa)(hb:ME X E b fb):ME X E (.BinOp a op b pos) (s2 g fa fb) :=
 PE.weak (ayv ho ha hb) λσ H Q q=>ay3 hs q
theorem a0h(ho:OpR X (compareOp op) r)(hs:a1w X.K g r)(ha:ME X E a fa)(hb:ME X E b fb)(hm:behindInMarks op b=false):ME X E (.Compare a [op] [b] pos) (s2 g fa fb) :=
 PE.weak (apx ho ha hb hm) λσ H Q q=>ay3 hs q
theorem az8(ho:IxR X r)(hs:a1w X.K g r)(ha:ME X E a fa)(hb:ME X E b fb)(hp:a9e b):ME X E (.Subscript a b pos) (s2 g fa fb) :=
 PE.weak (az2 ho ha hb hp) λσ H Q q=>ay3 hs q
def asB(d:D)(h:Hd):R Bool:=match d with|.bl b=>.ok b h|_=>.no
def sT(f:SE):ST:=λτ h=>(f τ h).bind asB
theorem ahy(hi:∀σ H Q,lift K E (vh K) f σ H Q->t σ H Q)(q:lift K E acv (sT f) σ H Q):apy t σ H Q:=by
 refine hi σ H _ ?_;obtain ⟨ι,τ,h,S,Rh,o⟩:=q;refine ⟨ι,τ,h,S,Rh,g8 o λd h1 ι1 H1 v g1 r1 hr1 o1=>?_⟩
 cases r1 with
 |bl b=>exact ⟨b,rfl,o1 ι1 H1 b (.refl _ _) rfl hr1⟩
 |_=>exact o1.elim
theorem a3l(ho:OpR X (compareOp op) r)(hs:a1w X.K g r)(ha:ME X E a fa)(hb:ME X E b fb)(hm:behindInMarks op b=false):MT X E (.Compare a [op] [b] pos) (sT (s2 g fa fb)) :=
 PT.weak (apz ho ha hb hm) λσ H Q q=>ahy (λ_ _ _=>ay3 hs) q
def sCh(g g':D->D->Hd->R D)(fa fb fc:SE):SE:=λτ h=>(fa τ h).bind λx h1=>(fb τ h1).bind λy h2=>(g x y h2).bind λz h3=>match z with
 |.bl true=>(fc τ h3).bind λw h4=>g' y w h4
 |.bl false=>.ok (.bl false) h3
 |_=>.no
theorem aus(hs:a1w K g r)(hs':a1w K g' r')(q:lift K E (vh K) (sCh g g' fa fb fc) σ H Q) :
  ao4 r r' (lift K E (vh K) fa) (lift K E (vh K) fb) (lift K E (vh K) fc) σ H Q:=by
 obtain ⟨ι,τ,h,S,Rh,o⟩:=q;refine ⟨ι,τ,h,S,Rh,g8 o λd h1 ι1 H1 v g1 r1 hr1 o1=>?_⟩;refine ⟨ι1,τ,h1,S.mono g1,hr1,g8 o1 λd2 h2 ι2 H2 u g2 r2 hr2 o2=>?_⟩;refine hs E ι2 H2 h2 v u d d2 _ (r1.mono g2) r2 hr2 (g8 o2 λd3 h3 ι3 H3 z g3 r3 hr3 o3=>?_)
 cases r3 with
 |bl k =>
  refine ⟨k,rfl,?_⟩
  cases k with
  |true =>
   rw [aC rfl];refine ⟨ι3,τ,h3,((S.mono g1).mono g2).mono g3,hr3,g8 o3 λd4 h4 ι4 H4 w g4 r4 hr4 o4=>?_⟩;exact hs' E ι4 H4 h4 u w d2 d4 Q ((r2.mono g3).mono g4) r4 hr4 o4
  |false =>
   rw [aQ aM];exact o3 ι3 H3 (.bl false) (.refl _ _) (.bl false) hr3
 |_=>exact o3.elim
theorem a3x(ho:OpR X (compareOp op) r)(ho':OpR X (compareOp op') r')(hs:a1w X.K g r)(hs':a1w X.K g' r')(ha:ME X E a fa)(hb:ME X E b fb)(hc:ME X E c fc)
  (hm:lastMarks [op,op'] [b,c]=false:=by with_unfolding_all rfl):MT X E (.Compare a [op,op'] [b,c] pos) (sT (sCh g g' fa fb fc)) :=
 PT.weak (al5 ho ho' ha hb hc hm) λσ H Q q=>ahy (λ_ _ _=>aus hs hs') q
def tru(d:D)(h:Hd):R Bool:=match d with
 |.non=>.ok false h
 |.bl b=>.ok b h
 |.int i=>.ok (i != 0) h
 |.str x=>if x.length<=LINE then .ok ((x.length:Int) != 0) h else .no
 |.tup xs=>.ok (!xs.isEmpty) h
 |.rol xs=>.ok (!xs.isEmpty) h
 |.ref i=>match h[i]? with
  |some (.lst xs)=>.ok (!xs.isEmpty) h
  |some (.dK kvs)=>.ok (!kvs.isEmpty) h
  |_=>.no
 |_=>.no
theorem Reps.emp{K:PySem.W.Frag}{ι:List Addr}{H:Hp}{vs:List V}{ds:List D}(r:Reps K ι H vs ds):vs.isEmpty=ds.isEmpty:=by cases r<;>rfl
theorem KRep.emp{κ:Type}{K:PySem.W.Frag}{ι:List Addr}{H:Hp}{us:List (κ×V)}{kvs:List (κ×D)}(r:KRep K ι H us kvs):us.isEmpty=kvs.isEmpty:=by
 have:=af List.length r.1
 cases us<;>cases kvs<;>simp at this ⊢
theorem aqd{K:PySem.W.Frag}{ι:List Addr}{H:Hp}{h:Hd}{x:V}{d:D}{Q:Bool->Hp->Prop}(r:Rep K ι H x d)(hr:HRep K ι H h)(o:out K E acv ι H (tru d h) Q):∃k,ayx K x H k/\Q k H:=by
 cases r with
 |non=>exact ⟨false,rfl,o ι H _ (.refl _ _) rfl hr⟩
 |bl b=>exact ⟨b,rfl,o ι H _ (.refl _ _) rfl hr⟩
 |int i=>exact ⟨_,rfl,o ι H _ (.refl _ _) rfl hr⟩
 |str x =>
  by_cases hl:x.length<=LINE
  ·simp only [tru,aC hl] at o;exact ⟨_,⟨ll hl,rfl⟩,o ι H _ (.refl _ _) rfl hr⟩
  ·simp only [tru,aQ hl] at o;exact o.elim
 |ty n=>exact o.elim
 |rod _ _ _=>exact o.elim
 |scr _ _=>exact o.elim
 |rdT _ _ _=>exact o.elim
 |exc _ _ _=>exact o.elim
 |ins _ _ _ _=>exact o.elim
 |tup e rs=>exact ⟨_,.inr (.inl ⟨_,SqT.of e,rfl⟩),by rw [rs.emp];exact o ι H _ (.refl _ _) rfl hr⟩
 |rol e rs=>exact ⟨_,.inl ⟨_,e.l,rfl⟩,by rw [rs.emp];exact o ι H _ (.refl _ _) rfl hr⟩
 |@ref a i e =>
  obtain ⟨ob,h1,h2⟩:=hr.at e;simp only [tru,h1] at o
  cases ob with
  |lst xs =>
   obtain ⟨vs,h3,h4⟩:=h2;exact ⟨_,.inl ⟨_,SqL.of h3,rfl⟩,by rw [h4.emp];exact o ι H _ (.refl _ _) rfl hr⟩
  |dK kvs =>
   obtain ⟨us,h3,h4⟩:=h2;exact ⟨_,.inr (.inr ⟨_,h3,rfl⟩),by rw [h4.emp];exact o ι H _ (.refl _ _) rfl hr⟩
  |dT kvs=>exact o.elim
  |ins _ _=>exact o.elim
def a1n(f:SE):ST:=λτ h=>(f τ h).bind tru
theorem ph(ha:ME X E a fa)(he:∀whole,isTrue a X.env whole=(do let v <-whole;standAt a.pos;holding [v] (truthy v)):=by intro _;rfl):MT X E a (a1n fa):=by
 refine PT.weak (al6 ha he) ?_
 rintro σ H Q ⟨ι,τ,h,S,Rh,o⟩
 exact ⟨ι,τ,h,S,Rh,g8 o λd h1 ι1 H1 v g1 r1 hr1 o1=>aqd r1 hr1 o1⟩
def a7a(f g:ST):ST:=λτ h=>(f τ h).bind λb h1=>if b=true then g τ h1 else .ok false h1
def sOr(f g:ST):ST:=λτ h=>(f τ h).bind λb h1=>if b=true then .ok true h1 else g τ h1
def a7b(f:ST):ST:=λτ h=>(f τ h).bind λb h1=>.ok (!b) h1
variable{ga gb:ST}
theorem a5e(ha:MT X E a ga):MW X E (.BoolOp .And [a] pos) ga:=apq ha
theorem a7c(ha:MT X E a ga):MW X E (.BoolOp .Or [a] pos) ga:=atn ha
theorem a7d{rest:List Expr}(ha:MT X E a ga)(hb:MW X E (.BoolOp .And (b::rest) pos) gb):MW X E (.BoolOp .And (a::b::rest) pos) (a7a ga gb):=by
 refine PW.weak (ato ha hb) ?_
 rintro σ H Q ⟨ι,τ,h,S,Rh,o⟩
 refine ⟨ι,τ,h,S,Rh,g8 o λd h1 ι1 H1 v g1 r1 hr1 o1=>?_⟩;cases r1
 cases d with
 |true=>exact ⟨ι1,τ,h1,S.mono g1,hr1,o1⟩
 |false=>exact o1 ι1 H1 false (.refl _ _) rfl hr1
theorem a9j{rest:List Expr}(ha:MT X E a ga)(hb:MW X E (.BoolOp .Or (b::rest) pos) gb):MW X E (.BoolOp .Or (a::b::rest) pos) (sOr ga gb):=by
 refine PW.weak (ayj ha hb) ?_
 rintro σ H Q ⟨ι,τ,h,S,Rh,o⟩
 refine ⟨ι,τ,h,S,Rh,g8 o λd h1 ι1 H1 v g1 r1 hr1 o1=>?_⟩;cases r1
 cases d with
 |true=>exact o1 ι1 H1 true (.refl _ _) rfl hr1
 |false=>exact ⟨ι1,τ,h1,S.mono g1,hr1,o1⟩
theorem a05(ha:MT X E a ga):MT X E (.UnaryOp .Not a pos) (a7b ga):=by
 refine PT.weak (atp ha) ?_
 rintro σ H Q ⟨ι,τ,h,S,Rh,o⟩
 refine ⟨ι,τ,h,S,Rh,g8 o λd h1 ι1 H1 v g1 r1 hr1 o1=>?_⟩;cases r1
 exact o1 ι1 H1 _ (.refl _ _) rfl hr1
def a0y(f g:SE):SE:=λτ h=>(f τ h).bind λd h1=>match d with|.bl true=>g τ h1|.bl false=>.ok (.bl false) h1|_=>.no
def aao(f g:SE):SE:=λτ h=>(f τ h).bind λd h1=>match d with|.bl true=>.ok (.bl true) h1|.bl false=>g τ h1|_=>.no
def alh(f:SE):SE:=λτ h=>(f τ h).bind λd h1=>match d with|.bl b=>.ok (.bl (!b)) h1|_=>.no
theorem a1x{op}(ha:ME X E a fa):ME X E (.BoolOp op [a] pos) fa:=atq ha
theorem a7e{rest:List Expr}(ha:ME X E a fa)(hb:ME X E (.BoolOp .And (b::rest) pos) fb):ME X E (.BoolOp .And (a::b::rest) pos) (a0y fa fb):=by
 refine PE.weak (atr ha hb) ?_
 rintro σ H Q ⟨ι,τ,h,S,Rh,o⟩
 refine ⟨ι,τ,h,S,Rh,g8 o λd h1 ι1 H1 v g1 r1 hr1 o1=>?_⟩
 cases r1 with
 |bl k =>
  refine ⟨k,rfl,?_⟩
  cases k with
  |true=>exact ⟨ι1,τ,h1,S.mono g1,hr1,o1⟩
  |false=>exact o1 ι1 H1 _ (.refl _ _) (.bl _) hr1
 |_=>exact o1.elim
theorem ahz{rest:List Expr}(ha:ME X E a fa)(hb:ME X E (.BoolOp .Or (b::rest) pos) fb):ME X E (.BoolOp .Or (a::b::rest) pos) (aao fa fb):=by
 refine PE.weak (ayl ha hb) ?_
 rintro σ H Q ⟨ι,τ,h,S,Rh,o⟩
 refine ⟨ι,τ,h,S,Rh,g8 o λd h1 ι1 H1 v g1 r1 hr1 o1=>?_⟩
 cases r1 with
 |bl k =>
  refine ⟨k,rfl,?_⟩
  cases k with
  |false=>exact ⟨ι1,τ,h1,S.mono g1,hr1,o1⟩
  |true=>exact o1 ι1 H1 _ (.refl _ _) (.bl _) hr1
 |_=>exact o1.elim
def aed(c:ST)(f g:SE):SE:=λτ h=>(c τ h).bind λb h1=>if b=true then f τ h1 else g τ h1
theorem ai0(hc:MT X E c ga)(ha:ME X E a fa)(hb:ME X E b fb):ME X E (.IfExp c a b pos) (aed ga fa fb):=by
 refine PE.weak (akz hc ha hb) ?_
 rintro σ H Q ⟨ι,τ,h,S,Rh,o⟩
 refine ⟨ι,τ,h,S,Rh,g8 o λd h1 ι1 H1 v g1 r1 hr1 o1=>?_⟩;cases r1
 cases d with
 |true=>exact ⟨ι1,τ,h1,S.mono g1,hr1,o1⟩
 |false=>exact ⟨ι1,τ,h1,S.mono g1,hr1,o1⟩
def dq:SA:=λ_ h=>.ok [] h
def ak(f:SE)(g:SA):SA:=λτ h=>(f τ h).bind λd h1=>(g τ h1).bind λds h2=>.ok (d::ds) h2
variable{es:List Expr}{ka:SA}
theorem bc:MA X E [] dq:=PA.weak a6z λσ H Q ⟨ι,τ,h,S,Rh,o⟩=>o ι H [] (.refl _ _) .nil Rh
theorem aa(ha:ME X E e fa)(hr:MA X E es ka)(hs:starEach (e::es) X.env=(false,eval e X.env)::starEach es X.env:=by rfl):MA X E (e::es) (ak fa ka):=by
 refine PA.weak (yj ha hr hs) ?_
 rintro σ H Q ⟨ι,τ,h,S,Rh,o⟩
 refine ⟨ι,τ,h,S,Rh,g8 o λd h1 ι1 H1 v g1 r1 hr1 o1=>?_⟩;refine ⟨ι1,τ,h1,S.mono g1,hr1,g8 o1 λd2 h2 ι2 H2 u g2 r2 hr2 o2=>?_⟩;exact o2 ι2 H2 _ (.refl _ _) (.cons (r1.mono g2) r2) hr2
def yh(ds:List D)(h:Hd):R D:=if ds.length<=LINE then .ok (.tup ds) h else .no
def uw(ds:List D)(h:Hd):R D:=if ds.length<=LINE then .ok (.ref h.length) (h++[.lst ds]) else .no
def sA(g:List D->Hd->R D)(k:SA):SE:=λτ h=>(k τ h).bind g
theorem a0z(r:Reps K ι H vs ds)(hr:HRep K ι H h)(o:out K E (vh K) ι H (.ok (.tup ds) h) Q):∀p,H p=none->Q (.ref p) (upd H p (.tup vs)):=λp hp =>
 o ι _ _ (a0n hp _) (.tup ou (r.mono (a0n hp _))) (hr.aside hp _)
theorem zc(r:Reps K ι H vs ds)(hr:HRep K ι H h)(o:out K E (vh K) ι H (.ok (.ref h.length) (h++[.lst ds])) Q):∀p,H p=none->Q (.ref p) (upd H p (.lst vs)):=λp hp =>
 o (ι++[p]) _ _ (aec hp _) (.ref (by rw [aH (by rw [hr.len];exact ay _),hr.len];simp)) (hr.add hp ⟨_,ou,r.mono (aec hp _)⟩)
theorem a9k{K:PySem.W.Frag}{ι:List Addr}{H:Hp}{h:Hd}{i:Nat}{a:Addr}{vs:List V}{ds:List D}{d:D}{v:V}{Q:VK}(r:Reps K ι H vs ds)(hr:HRep K ι H h)(hi:ι[i]? = some a)(rd:Rep K ι H v d)(o:out K E (vh K) ι H (.ok d (h.set i (.lst ds))) Q):Q v (upd H a (.lst vs)) :=
 o ι _ _ (a79 hr hi _) (rd.mono (a79 hr hi _)) (hr.put hi ⟨_,ou,r.mono (a79 hr hi _)⟩)
theorem vf{x1}(h:MA X E es ka):ME X E (.Tuple es x1 pos) (sA yh ka):=by
 refine PE.weak (ao5 h) ?_
 rintro σ H Q ⟨ι,τ,h,S,Rh,o⟩
 refine ⟨ι,τ,h,S,Rh,g8 o λd h1 ι1 H1 v g1 r1 hr1 o1=>?_⟩;unfold yh at o1
 split at o1
 ·rename_i hl;exact ⟨ll (by rw [r1.len];exact hl),a0z r1 hr1 o1⟩
 ·exact o1.elim
theorem jx(h:MA X E es ka):ME X E (.List es pos) (sA uw ka):=by
 refine PE.weak (au9 h) ?_
 rintro σ H Q ⟨ι,τ,h,S,Rh,o⟩
 refine ⟨ι,τ,h,S,Rh,g8 o λd h1 ι1 H1 v g1 r1 hr1 o1=>?_⟩;unfold uw at o1
 split at o1
 ·rename_i hl;exact ⟨ll (by rw [r1.len];exact hl),zc r1 hr1 o1⟩
 ·exact o1.elim
theorem a5f{x:Str}{p:Pos}{id:String}{r:List V->Hp->VK->Prop}{g:List D->Hd->R D}(hc:CallR X (.builtin id) r)(hs:akr X.K g r)(hg:Gl X x)(hm:X.mg x=none)(hv:bootBuiltins x=some (.builtin id))(ha:MA X E (e::es) ka)(hn:x ≠ "__name__":=by decide)(hdb:(x == ("__debug__" : Str))=false:=by decide)
  (he:starEach (e::es) X.env=(false,eval e X.env)::starEach es X.env:=by rfl) (hpl:(backTo pos (starEach es X.env)).any (·.1)=false:=by rfl):ME X E (.Call (.Name x p) (e::es) [] pos) (sA g ka):=by
 refine PE.weak (a6l hc hg hm hv ha hn hdb he hpl) ?_
 rintro σ H Q ⟨ι,τ,h,S,Rh,o⟩
 exact ⟨ι,τ,h,S,Rh,g8 o λd h1 ι1 H1 v g1 r1 hr1 o1=>hs E ι1 H1 h1 v d Q r1 hr1 o1⟩
theorem a0i{x:Str}{p:Pos}{id:String}{r:List V->Hp->VK->Prop}{g:List D->Hd->R D}(hc:CallR X (.type id) r)(hs:akr X.K g r)(hg:Gl X x)(hm:X.mg x=none)(hv:bootBuiltins x=some (.type id))(ha:MA X E (e::es) ka)(hn:x ≠ "__name__":=by decide)(hdb:(x == ("__debug__" : Str))=false:=by decide)
  (he:starEach (e::es) X.env=(false,eval e X.env)::starEach es X.env:=by rfl) (hpl:(backTo pos (starEach es X.env)).any (·.1)=false:=by rfl):ME X E (.Call (.Name x p) (e::es) [] pos) (sA g ka):=by
 refine PE.weak (aax hc hg hm hv ha hn hdb he hpl) ?_
 rintro σ H Q ⟨ι,τ,h,S,Rh,o⟩
 exact ⟨ι,τ,h,S,Rh,g8 o λd h1 ι1 H1 v g1 r1 hr1 o1=>hs E ι1 H1 h1 v d Q r1 hr1 o1⟩
end
def iz(f g:SS):SS:=λτ h=>match f τ h with|.nx τ1 h1=>g τ1 h1|r=>r
def sNx:SS:=λτ h=>.nx τ h
def oh(f:SE):SS:=λτ h=>(f τ h).fl λd h1=>.rt d h1
def yr(f:SE):SS:=λτ h=>(f τ h).fl λ_ h1=>.nx τ h1
def sIf(c:ST)(f g:SS):SS:=λτ h=>(c τ h).fl λb h1=>if b=true then f τ h1 else g τ h1
def nu(i:Nat)(f:SE):SS:=λτ h=>(f τ h).fl λd h1=>.nx (τ.set i (some d)) h1
def ab5(i:Nat)(g:D->D->Hd->R D)(f:SE):SS:=λτ h=>match τ[i]? with
 |some (some x)=>(f τ h).fl λy h1=>(g x y h1).fl λz h2=>.nx (τ.set i (some z)) h2
 |_=>.no
section
variable{X:Cx}{E:XD}{e o:Expr}{es:List Expr}{fa fb fc:SE}{ga:ST}{st:Stmt}{sts a b:List Stmt}{f g:SS}{pos:Pos}
theorem ig:MSs X E [] sNx:=PSs.weak apr λN σ H ⟨ι,τ,h,S,Rh,o⟩=>o ι H σ (.refl _ _) S Rh
theorem aut(q:a9i K E (iz f g) N σ H):a9i K E f {N with nx:=a9i K E g N} σ H:=by
 obtain ⟨ι,τ,h,S,Rh,o⟩:=q;refine ⟨ι,τ,h,S,Rh,?_⟩;unfold iz at o
 cases hf:f τ h with
 |nx τ1 h1 =>
  rw [hf] at o;exact λι1 H1 σ1 g1 S1 R1=>⟨ι1,τ1,h1,S1,R1,xr o g1⟩
 |_=>rw [hf] at o;exact o
theorem au(h1:MS X E st f)(h2:MSs X E sts g):MSs X E (st::sts) (iz f g):=PSs.weak (al0 h1 h2) λN σ H q=>aut q
theorem cu(h1:MS X E st f):MSs X E [st] f:=aps h1
theorem ik(he:ME X E e fa):MS X E (.Return (some e) pos) (oh fa):=by
 refine PS.weak (atu he) ?_
 rintro N σ H ⟨ι,τ,h,S,Rh,o⟩
 exact ⟨ι,τ,h,S,Rh,v7 o λd h1 ι1 H1 v g1 r1 hr1 o1=>o1 ι1 H1 v (.refl _ _) r1 hr1⟩
theorem a1y(he:ME X E e fa)(hs:swapsWith e none pos.line X.env=pure false:=by rfl):MS X E (.Expr e pos) (yr fa):=by
 refine PS.weak (apt he hs) ?_
 rintro N σ H ⟨ι,τ,h,S,Rh,o⟩
 exact ⟨ι,τ,h,S,Rh,v7 o λd h1 ι1 H1 v g1 r1 hr1 o1=>o1 ι1 H1 σ (.refl _ _) (S.mono g1) hr1⟩
theorem mz(hc:MT X E c ga)(ha:MSs X E a f)(hb:MSs X E b g):MS X E (.If c a b pos) (sIf ga f g):=by
 refine PS.weak (ayo hc ha hb) ?_
 rintro N σ H ⟨ι,τ,h,S,Rh,o⟩
 refine ⟨ι,τ,h,S,Rh,v7 o λd h1 ι1 H1 v g1 r1 hr1 o1=>?_⟩;cases r1
 cases d with
 |true=>exact ⟨ι1,τ,h1,S.mono g1,hr1,o1⟩
 |false=>exact ⟨ι1,τ,h1,S.mono g1,hr1,o1⟩
theorem auu(hN:X.N.Nodup)(hi:X.N[i]? = some x)(hx:Loc X.env.scope x)(he:ME X E e fa)(hs:swapsWith e (some (.Name x pos')) pos.line X.env=pure false:=by rfl)(hf:X.fn x=true\/X.env.scope.names.lookup x=some .local:=by first|exact .inl rfl|exact .inr rfl|assumption) :
  MS X E (.Assign [.Name x pos'] e pos) (nu i fa):=by
 refine PS.weak (atz hN hi hx he hs hf) ?_
 rintro N σ H ⟨ι,τ,h,S,Rh,o⟩
 exact ⟨ι,τ,h,S,Rh,v7 o λd h1 ι1 H1 v g1 r1 hr1 o1=>o1 ι1 H1 _ (.refl _ _) ((S.mono g1).set r1 i) hr1⟩
theorem a5w(hN:X.N.Nodup)(hi:X.N[i]? = some x)(hx:Loc X.env.scope x)(ho:OpR X (inplaceOp op) r)(hs:a1w X.K gg r)(he:ME X E e fa)(hf:X.fn x=true\/X.env.scope.names.lookup x=some .local:=by first|exact .inl rfl|exact .inr rfl|assumption) :
  MS X E (.AugAssign (.Name x pos') op e pos) (ab5 i gg fa):=by
 refine PS.weak (au0 hN hi hx he ho hf) ?_
 rintro N σ H ⟨ι,τ,h,S,Rh,o⟩
 unfold ab5 at o
 split at o
 ·rename_i d ed;obtain ⟨v,h1,h2⟩:=S.val i d ed;refine ⟨v,h1,ι,τ,h,S,Rh,v7 o λd2 h3 ι1 H1 u g1 r1 hr1 o1=>?_⟩;refine hs E ι1 H1 h3 v u d d2 _ (h2.mono g1) r1 hr1 (v7 o1 λd3 h4 ι2 H2 z g2 r2 hr2 o2=>?_);exact o2 ι2 H2 _ (.refl _ _) (((S.mono g1).mono g2).set r2 i) hr2
 ·exact o.elim
def put(o k v:D)(h:Hd):Option Hd:=match o,k with
 |.ref i,.int j=>match h[i]? with
  |some (.lst xs)=>match ixN xs.length j with
   |some m=>some (h.set i (.lst (xs.set m v)))
   |none=>none
  |_=>none
 |_,_=>none
theorem ai1{K:PySem.W.Frag}{ι:List Addr}{H:Hp}{h h':Hd}{o k v:V}{od kd vd:D}{Q:Hp->Prop}(r1:Rep K ι H o od)(r2:Rep K ι H k kd)(r3:Rep K ι H v vd)(hr:HRep K ι H h)(e:put od kd vd h=some h')
  (q:∀H',Gr ι H ι H'->HRep K ι H' h'->Q H'):auh o k v H Q:=by
 cases r1 with
 |@ref a i ha =>
  cases r2 with
  |int j =>
   obtain ⟨ob,h1,h2⟩:=hr.at ha
   cases ob with
   |lst xs =>
    obtain ⟨vs,h3,h4⟩:=h2;simp only [put,h1] at e
    cases hm:ixN xs.length j with
    |none=>rw [hm] at e;cases e
    |some m =>
     rw [hm] at e;cases e
     exact ⟨a,vs,j,m,rfl,rfl,h3,by rw [h4.len];exact hm,q _ (a79 hr ha _) (hr.put ha ⟨_,ou,(h4.set r3 m).mono (a79 hr ha _)⟩)⟩
   |dK _=>simp only [put,h1] at e;cases e
   |dT _=>simp only [put,h1] at e;cases e
   |ins _ _=>simp only [put,h1] at e;cases e
  |_=>cases e
 |_=>cases e
def ag0(fe fo fi:SE):SS:=λτ h=>(fe τ h).fl λv h1=>(fo τ h1).fl λo h2=>(fi τ h2).fl λk h3=>match put o k v h3 with|some h4=>.nx τ h4|none=>.no
theorem aoc(he:ME X E e fa)(ho:ME X E o fb)(hi:ME X E i fc)
  (hs:swapsWithSole [.Subscript o i pos'] e pos.line X.env=pure false:=by rfl) (hw:swappedStores [.Subscript o i pos'] e X.env=pure none:=by rfl)
  (h1:(assignEach [.Subscript o i pos'] X.env).map (·.2)=[assign (.Subscript o i pos') X.env]:=by rfl)
  (ha:∀v,assign (.Subscript o i pos') X.env v=(do
   let ov <-holding [v] (eval o X.env)
   let iv <-holding [v,ov] (eval i X.env)
   standAt pos'
   holding [v,ov,iv] (setItem ov iv v)
   release [v,ov,iv] []):=by intro _;rfl):MS X E (.Assign [.Subscript o i pos'] e pos) (ag0 fa fb fc):=by
 refine PS.weak (aty he (atw ho hi set_list ha) hs hw h1) ?_
 rintro N σ H ⟨ι,τ,h,S,Rh,oo⟩
 refine ⟨ι,τ,h,S,Rh,v7 oo λd h1 ι1 H1 v g1 r1 hr1 o1=>?_⟩;refine ⟨ι1,τ,h1,S.mono g1,hr1,v7 o1 λd2 h2 ι2 H2 u g2 r2 hr2 o2=>?_⟩;refine ⟨ι2,τ,h2,(S.mono g1).mono g2,hr2,v7 o2 λd3 h3 ι3 H3 w g3 r3 hr3 o3=>?_⟩
 cases hp:put d2 d3 d h3 with
 |none=>rw [hp] at o3;exact o3.elim
 |some h4 =>
  rw [hp] at o3;exact ai1 (r2.mono g3) r3 ((r1.mono g2).mono g3) hr3 hp λH' g4 hr4=>o3 ι3 H' σ g4 ((((S.mono g1).mono g2).mono g3).mono g4) hr4
def sWh(c:ST)(f:SS):Nat->SS
 |0,_,_=>.no
 |n+1,τ,h=>(c τ h).fl λb h1=>if b=true then (match f τ h1 with|.nx τ2 h2=>sWh c f n τ2 h2|.ct τ2 h2=>sWh c f n τ2 h2|.bk τ2 h2=>.nx τ2 h2|r=>r) else .nx τ h1
end
abbrev SG:=D->Sd->Hd->Fl
def aqe(K:PySem.W.Frag)(E:XD)(g:SG):TG:=λv σ H Q=>∃ι τ h d,Rep K ι H v d/\SRep K ι H σ τ/\HRep K ι H h/\akq K E ι H (g d τ h) {nx:=Q,rt:=λ_ _=>False}
abbrev MG(X:Cx)(E:XD)(tg:Expr)(g:SG):Prop:=PG X tg (aqe X.K E g)
abbrev SGs:=List D->Sd->Hd->Fl
def ai2(K:PySem.W.Frag)(E:XD)(g:SGs):TGs:=λvs σ H Q=>∃ι τ h ds,Reps K ι H vs ds/\SRep K ι H σ τ/\HRep K ι H h/\akq K E ι H (g ds τ h) {nx:=Q,rt:=λ_ _=>False}
abbrev MGs(X:Cx)(E:XD)(tg:List Expr)(g:SGs):Prop:=PGs X tg (ai2 X.K E g)
theorem PG.weak(h:PG X e t)(i:∀v σ H Q,t' v σ H Q->t v σ H Q):PG X e t':=λpins s σ H v u Q I r q=>h pins s σ H v u Q I r (i _ _ _ _ q)
theorem PGs.weak(h:PGs X e t)(i:∀v σ H Q,t' v σ H Q->t v σ H Q):PGs X e t':=λpins s σ H v u Q I r q=>h pins s σ H v u Q I r (i _ _ _ _ q)
def kN(i:Nat):SG:=λd τ h=>.nx (τ.set i (some d)) h
def aod:SGs:=λds τ h=>match ds with|[]=>.nx τ h|_=>.no
def a5g(g:SG)(k:SGs):SGs:=λds τ h=>match ds with|d::r=>(match g d τ h with|.nx τ1 h1=>k r τ1 h1|_=>.no)|[]=>.no
def ali(n:Nat)(k:SGs):SG:=λd τ h=>match d with|.tup ds=>if ds.length=n then k ds τ h else .no|_=>.no
section
variable{X:Cx}{E:XD}{e:Expr}{es:List Expr}{fa:SE}{pos:Pos}{g:SG}{ks:SGs}
theorem um(hN:X.N.Nodup)(hi:X.N[i]? = some x)(hx:Loc X.env.scope x)(hf:X.fn x=true\/X.env.scope.names.lookup x=some .local:=by first|exact .inl rfl|exact .inr rfl|assumption):MG X E (.Name x pos) (kN i) :=
 PG.weak (ack hN hi hx hf) λv σ H Q ⟨ι,τ,h,d,r,S,Rh,o⟩=>o ι H _ (.refl _ _) (S.set r i) Rh
theorem aqf:MGs X E [] aod:=by
 refine PGs.weak ah5 ?_
 rintro vs σ H Q ⟨ι,τ,h,ds,r,S,Rh,o⟩
 cases r with
 |nil=>exact ⟨rfl,o ι H σ (.refl _ _) S Rh⟩
 |cons _ _=>exact o.elim
theorem alj(q:ai2 K E (a5g g ks) vs σ H Q):al2 (aqe K E g) (ai2 K E ks) vs σ H Q:=by
 obtain ⟨ι,τ,h,ds,r,S,Rh,o⟩:=q
 cases r with
 |nil=>exact o.elim
 |@cons v d vs ds r rs =>
  refine ⟨v,vs,rfl,ι,τ,h,d,r,S,Rh,?_⟩;simp only [a5g] at o
  cases hg:g d τ h with
  |nx τ1 h1 =>
   rw [hg] at o;exact λι1 H1 σ1 g1 S1 R1=>⟨ι1,τ1,h1,ds,rs.mono g1,S1,R1,xr o g1⟩
  |_=>rw [hg] at o;exact o.elim
theorem auv(hc:X.calm=true)(h:MGs X E es ks)(hn:(assignEach es X.env).length=n:=by rfl)(hst:(assignEach es X.env).findIdx? (·.1)=none:=by rfl):MG X E (.Tuple es k pos) (ali n ks):=by
 refine PG.weak (ao2 hc h hn hst) ?_
 rintro v σ H Q ⟨ι,τ,h,d,r,S,Rh,o⟩
 cases r with
 |@tup a vs xs e rs =>
  simp only [ali] at o
  by_cases hl:xs.length=n
  ·rw [aC hl] at o;exact ⟨a,vs,rfl,SqT.of e,by rw [rs.len];exact hl,ι,τ,h,xs,rs,S,Rh,o⟩
  ·rw [aQ hl] at o;exact o.elim
 |_=>exact o.elim
def ay4(f:SE)(g:SG):SS:=λτ h=>(f τ h).fl λd h1=>match g d τ h1 with|.nx τ2 h2=>.nx τ2 h2|_=>.no
end
structure Itm where
 xs:List D
 ck:Hd->Prop
def alk(K:PySem.W.Frag)(ι0:List Addr)(H0:Hp)(J:It)(it:Itm):Prop:=∀ι H h,Gr ι0 H0 ι H->HRep K ι H h->it.ck h->
 (∀(i:Nat) (d:D),it.xs[i]? = some d->J.go i H/\∀x H',J.yld i H x H'->Gr ι H ι H'/\Rep K ι H' x d/\HRep K ι H' h)/\J.stop it.xs.length H
abbrev aoe(K:PySem.W.Frag):List Addr->Hp->It->Itm->Prop:=λι H J it=>alk K ι H J it
abbrev SI:=Sd->Hd->R Itm
abbrev MI(X:Cx)(E:XD)(tg iter:Expr)(f:SI):Prop:=PI X tg iter (lift X.K E (aoe X.K) f)
def a1z(x:Str):List D:=x.cps.toList.map λc=>D.str ⟨#[c]⟩
def aks(d:D)(h:Hd):R Itm:=match d with
 |.tup xs=>.ok ⟨xs,λ_=>True⟩ h
 |.rol xs=>.ok ⟨xs,λ_=>True⟩ h
 |.str x=>.ok ⟨a1z x,λ_=>True⟩ h
 |.ref i=>match h[i]? with
  |some (.lst xs)=>.ok ⟨xs,λh=>h[i]? = some (.lst xs)⟩ h
  |_=>.no
 |_=>.no
def sIt(f:SE):SI:=λτ h=>(f τ h).bind aks
theorem aog(hl:∀ι H h,Gr ι0 H0 ι H->HRep K ι H h->ck h->∃vs,SqL K H a vs/\Reps K ι H vs xs):alk K ι0 H0 (Itl K a) ⟨xs,ck⟩:=by
 intro ι H h g hr c
 obtain ⟨vs,h1,h2⟩:=hl ι H h g hr c;refine ⟨λi d e=>?_,⟨vs,h1,by rw [h2.len];exact ay _⟩⟩
 obtain ⟨v,e1,r⟩:=h2.get e;refine ⟨⟨vs,v,h1,e1⟩,λx H' y=>?_⟩;obtain ⟨rfl,y⟩:=y;have:=y vs h1;rw [e1] at this;cases this
 exact ⟨.refl _ _,r,hr⟩
theorem ur(hl:ME X E l f):MI X E tg l (sIt f):=by
 rintro pins s σ H Rr I ⟨ι,τ,h,S,Rh,o⟩
 unfold sIt at o
 cases hf:f τ h with
 |no=>rw [hf] at o;exact o.elim
 |ex c h1 =>
  rw [hf] at o;exact aoa hl pins s σ H Rr I ⟨ι,τ,h,S,Rh,by rw [hf];exact o⟩
 |ok d h1 =>
  rw [hf] at o
  cases d with
  |tup xs =>
   refine au1 hl pins s σ H Rr I ⟨ι,τ,h,S,Rh,?_⟩;rw [hf]
   intro ι1 H1 v g1 r1 hr1
   cases r1 with
   |@tup a vs _ e rs =>
    refine ⟨a,rfl,⟨vs,SqT.of e⟩,o ι1 H1 _ g1 ?_ hr1⟩
    intro ι2 H2 h2 g2 hr2 _
    have e2:=g2.tup _ _ e;have rs2:=rs.mono g2;refine ⟨λi d ed=>?_,⟨vs,SqT.of e2,by rw [rs2.len];exact ay _⟩⟩
    obtain ⟨v,e1,r⟩:=rs2.get ed;refine ⟨⟨vs,v,SqT.of e2,e1⟩,λx H' y=>?_⟩;obtain ⟨rfl,y⟩:=y;have:=y vs (SqT.of e2);rw [e1] at this;cases this
    exact ⟨.refl _ _,r,hr2⟩
  |rol xs =>
   refine ah8 hl pins s σ H Rr I ⟨ι,τ,h,S,Rh,?_⟩;rw [hf]
   intro ι1 H1 v g1 r1 hr1
   cases r1 with
   |@rol a vs _ e rs =>
    refine ⟨a,rfl,⟨vs,e.l⟩,o ι1 H1 _ g1 ?_ hr1⟩;exact aog (λι2 H2 h2 g2 hr2 _=>⟨vs,(e.mono g2).l,rs.mono g2⟩)
  |str x =>
   refine aoa hl pins s σ H Rr I ⟨ι,τ,h,S,Rh,?_⟩;rw [hf]
   intro ι1 H1 v g1 r1 hr1
   cases r1
   refine ⟨x,rfl,o ι1 H1 _ g1 ?_ hr1⟩
   intro ι2 H2 h2 g2 hr2 _
   refine ⟨λi d ed=>?_,by show (a1z x).length=_;simp [a1z]⟩
   simp only [a1z,bX,aN] at ed;obtain ⟨c,ec,rfl⟩:=ed;refine ⟨by show i<x.cps.size;have:=(av.mp ec).1;simpa using this,λy H' q=>?_⟩
   obtain ⟨rfl,c',ec',rfl⟩:=q;rw [ec] at ec';cases ec'
   exact ⟨.refl _ _,.str _,hr2⟩
  |ref i =>
   simp only [R.bind,aks] at o
   cases ho:h1[i]? with
   |none=>rw [ho] at o;exact o.elim
   |some ob =>
    rw [ho] at o
    cases ob with
    |dK _=>exact o.elim
    |dT _=>exact o.elim
    |ins _ _=>exact o.elim
    |lst xs =>
     refine ah8 hl pins s σ H Rr I ⟨ι,τ,h,S,Rh,?_⟩;rw [hf]
     intro ι1 H1 v g1 r1 hr1
     cases r1 with
     |@ref a _ e =>
      obtain ⟨vs,e1,rs⟩:=hr1.obj i a _ e ho;refine ⟨a,rfl,⟨vs,SqL.of e1⟩,o ι1 H1 _ g1 ?_ hr1⟩;refine aog (λι2 H2 h2 g2 hr2 c=>?_);obtain ⟨us,e3,rs3⟩:=hr2.obj i a _ (g2.at e) c;exact ⟨us,SqL.of e3,rs3⟩
  |_=>exact o.elim
def rng(lo:Int)(n:Nat):List D:=(List.range n).map λi=>D.int (lo+(i:Nat))
def B62(j:Int):Prop := -(2^62)<=j/\j<2^62
instance (j:Int):Decidable (B62 j):=by unfold B62;exact inferInstance
def a6i(ds:List D)(h:Hd):R Itm:=match ds with
 |[.int j]=>if B62 j then .ok ⟨rng 0 j.toNat,λ_=>True⟩ h else .no
 |_=>.no
def a5h(ds:List D)(h:Hd):R Itm:=match ds with
 |[.int i,.int j]=>if B62 i/\B62 j then .ok ⟨rng i (j-i).toNat,λ_=>True⟩ h else .no
 |_=>.no
def sRg(g:List D->Hd->R Itm)(k:SA):SI:=λτ h=>(k τ h).bind g
theorem aoh(lo:Int)(n:Nat):alk K ι0 H0 (Itr lo n) ⟨rng lo n,λ_=>True⟩:=by
 intro ι H h g hr _
 refine ⟨λi d ed=>?_,by show n<=(rng lo n).length;simp [rng]⟩
 simp only [rng,bX,aN] at ed;obtain ⟨j,ej,rfl⟩:=ed;obtain ⟨hj,e⟩:=av.mp ej;simp at e hj;subst e;refine ⟨hj,λy H' q=>?_⟩;obtain ⟨rfl,rfl⟩:=q;exact ⟨.refl _ _,.int _,hr⟩
theorem acy(hg:Gl X "range")(hm:X.mg "range" = none)(ha:MA X E [a] k)(hs:starEach [a] X.env=[(false,eval a X.env)]:=by rfl):MI X E tg (.Call (.Name "range" p) [a] [] pos) (sRg a6i k):=by
 rintro pins s σ H Rr I ⟨ι,τ,h,S,Rh,o⟩
 refine ah9 hg hm ha hs pins s σ H Rr I ⟨ι,τ,h,S,Rh,g8 o λds h1 ι1 H1 vs g1 r1 hr1 o1=>?_⟩;unfold a6i at o1
 split at o1
 ·rename_i j
  cases r1 with
  |cons r rs =>
   cases r;cases rs
   by_cases hb:B62 j
   ·rw [aC hb] at o1;exact ⟨j,rfl,hb.1,hb.2,o1 ι1 H1 _ (.refl _ _) (aoh 0 j.toNat) hr1⟩
   ·rw [aQ hb] at o1;exact o1.elim
 ·exact o1.elim
theorem a7f(hg:Gl X "range")(hm:X.mg "range" = none)(ha:MA X E [a,b] k)(hs:starEach [a,b] X.env=[(false,eval a X.env),(false,eval b X.env)]:=by rfl)(hs2:starEach [b] X.env=[(false,eval b X.env)]:=by rfl):MI X E tg (.Call (.Name "range" p) [a,b] [] pos) (sRg a5h k):=by
 rintro pins s σ H Rr I ⟨ι,τ,h,S,Rh,o⟩
 refine aha hg hm ha hs hs2 pins s σ H Rr I ⟨ι,τ,h,S,Rh,g8 o λds h1 ι1 H1 vs g1 r1 hr1 o1=>?_⟩;unfold a5h at o1
 split at o1
 ·rename_i i j
  cases r1 with
  |cons r rs =>
   cases r
   cases rs with
   |cons r rs =>
   cases r;cases rs
   by_cases hb:B62 i/\B62 j
   ·rw [aC hb] at o1;exact ⟨i,j,rfl,⟨hb.1.1,hb.1.2,hb.2.1,hb.2.2⟩,o1 ι1 H1 _ (.refl _ _) (aoh i _) hr1⟩
   ·rw [aQ hb] at o1;exact o1.elim
 ·exact o1.elim
open Classical in
noncomputable def forL(ck:Hd->Prop)(g:SG)(b:SS):List D->Sd->Hd->Fl
 |[],τ,h=>if ck h then .nx τ h else .no
 | x::xs,τ,h=>if ck h then (match g x τ h with
   |.nx τ1 h1=>(match b τ1 h1 with
    |.nx τ2 h2=>forL ck g b xs τ2 h2
    |.ct τ2 h2=>forL ck g b xs τ2 h2
    |.bk τ2 h2=>.nx τ2 h2
    |r=>r)
   |_=>.no) else .no
noncomputable def a6m(f:SI)(g:SG)(b:SS):SS:=λτ h=>(f τ h).fl λit h1=>forL it.ck g b it.xs τ h1
theorem aqg(ir:alk K ι0 H0 J it)(S:SRep K ι0 H0 σ0 τ0)(Rh:HRep K ι0 H0 h0)(o:akq K E ι0 H0 (forL it.ck g b it.xs τ0 h0) N) :
  ∃W:Nat->Nat->St->Hp->Prop,(∃m,W 0 m σ0 H0)/\∀i m σ H,W i m σ H->
   (J.stop i H/\N.nx σ H)\/(J.go i H/\∃M:St->Hp->Prop,(∀σ' H',M σ' H'->∃m',m'<m/\W (i+1) m' σ' H')/\∀x H',J.yld i H x H'->aqe K E g x σ H' λσ2 H2=>a9i K E b {N with nx:=M,ct:=M,bk:=N.nx} σ2 H2):=by
 refine ⟨λi m σ H=>m=it.xs.length-i/\i<=it.xs.length/\∃ι τ h,Gr ι0 H0 ι H/\SRep K ι H σ τ/\HRep K ι H h/\akq K E ι H (forL it.ck g b (it.xs.drop i) τ h) N,⟨_,rfl,aU _,ι0,τ0,h0,.refl _ _,S,Rh,o⟩,?_⟩
 rintro i m σ H ⟨rfl,hi,ι,τ,h,g0,S,Rh,o⟩
 by_cases hlt:i<it.xs.length
 ·rw [cT hlt,forL] at o
  by_cases hc:it.ck h
  ·rw [aC hc] at o;obtain ⟨go,yl⟩:=(ir ι H h g0 Rh hc).1 i _ (ah hlt);refine .inr ⟨go,λσ' H'=>it.xs.length-(i+1)<it.xs.length-i/\∃ι τ h,Gr ι0 H0 ι H'/\SRep K ι H' σ' τ/\HRep K ι H' h/\akq K E ι H' (forL it.ck g b (it.xs.drop (i+1)) τ h) N,λσ' H' q=>⟨_,q.1,rfl,hlt,q.2⟩,λx H' y=>?_⟩;obtain ⟨g1,r1,hr1⟩:=yl x H' y;refine ⟨ι,τ,h,_,r1,S.mono g1,hr1,?_⟩;have o':=xr o g1
   cases hg:g it.xs[i] τ h with
   |nx τ1 h1 =>
    rw [hg] at o';dsimp only at o'
    intro ι2 H2 σ2 g2 S2 R2
    refine ⟨ι2,τ1,h1,S2,R2,?_⟩;have o2:=xr o' g2;have gg:=(g0.trans g1).trans g2
    cases hb:b τ1 h1 with
    |nx τ2 h2=>rw [hb] at o2;exact λι3 H3 σ3 g3 S3 R3=>⟨by omega,ι3,τ2,h2,gg.trans g3,S3,R3,xr o2 g3⟩
    |ct τ2 h2=>rw [hb] at o2;exact λι3 H3 σ3 g3 S3 R3=>⟨by omega,ι3,τ2,h2,gg.trans g3,S3,R3,xr o2 g3⟩
    |bk τ2 h2=>rw [hb] at o2;exact o2
    |rt d h2=>rw [hb] at o2;exact o2
    |ex c h2=>rw [hb] at o2;exact o2
    |no=>rw [hb] at o2;exact o2.elim
   |_=>rw [hg] at o';exact o'.elim
  ·rw [aQ hc] at o;exact o.elim
 ·have e:i=it.xs.length:=by omega
  subst e;rw [bQ (ay _),forL] at o
  by_cases hc:it.ck h
  ·rw [aC hc] at o;exact .inl ⟨(ir ι H h g0 Rh hc).2,o ι H σ (.refl _ _) S Rh⟩
  ·rw [aQ hc] at o;exact o.elim
theorem zf{X:Cx}(hp:PassesOwn (model X.prog X.w) X.A X.env X.xe)(hc:X.calm=true)(hi:MI X E tg iter f)(hg:MG X E tg g)(hb:MSs X E body b)(hs:∀x,foldedSetIterable iter X.env x=pure x:=by intro _;rfl):MS X E (.For tg iter body [] pos) (a6m f g b):=by
 refine PS.weak (au2 hp hc hi hg hb hs) ?_
 rintro N σ H ⟨ι,τ,h,S,Rh,o⟩
 exact ⟨ι,τ,h,S,Rh,v7 o λit h1 ι1 H1 J g1 r1 hr1 o1=>aqg r1 (S.mono g1) hr1 o1⟩
end MI
namespace MI
open L2
theorem R.bind_assoc{α β γ:Type}(r:R α)(f:α->Hd->R β)(g:β->Hd->R γ):(r.bind f).bind g=r.bind λa h=>(f a h).bind g:=by cases r<;>rfl
open Classical in
noncomputable def mapR(ck:Hd->Prop)(f:D->Hd->R D):List D->Hd->R (List D)
 |[],h=>if ck h then .ok [] h else .no
 |x::xs,h=>if ck h then (f x h).bind λy h1=>(mapR ck f xs h1).bind λys h2=>.ok (y::ys) h2 else .no
open Classical in
noncomputable def akt(ck:Hd->Prop)(f:D->Hd->R (Option D)):List D->Hd->R (List D)
 |[],h=>if ck h then .ok [] h else .no
 |x::xs,h=>if ck h then (f x h).bind λy h1=>(akt ck f xs h1).bind λys h2=>.ok (y.toList++ys) h2 else .no
def frs'(ix:List Nat)(τ:Sd):Sd:=ix.map λi=>(τ[i]?).join
def t1(d:D):Option Sd:=some [some d]
def tN(n:Nat)(d:D):Option Sd:=match d with|.tup ds=>if ds.length=n then some (ds.map some) else none|_=>none
def acz(t:D->Option Sd)(fe:SE)(rest:Sd)(x:D)(h:Hd):R D:=match t x with|some ts=>fe (ts++rest) h|none=>.no
def ab6(t:D->Option Sd)(c:ST)(fe:SE)(rest:Sd)(x:D)(h:Hd):R (Option D):=match t x with
 |some ts=>(c (ts++rest) h).bind λb h1=>if b=true then (fe (ts++rest) h1).bind λy h2=>.ok (some y) h2 else .ok none h1
 |none=>.no
def aap(yd zs:List D)(h:Hd):R D:=.ok (.ref h.length) (h++[.lst (yd++zs)])
theorem auw(r:R D)(m:Hd->R (List D))(yd:List D):(r.bind λy h1=>(m h1).bind λys h2=>.ok (y::ys) h2).bind (aap yd)=r.bind λy h1=>(m h1).bind (aap (yd++[y])):=by
 cases r with
 |ok y h1 =>
  show ((m h1).bind _).bind _=(m h1).bind _
  cases m h1 with
  |ok ys h2=>simp [R.bind,aap]
  |_=>rfl
 |_=>rfl
theorem az9(r:R (Option D))(m:Hd->R (List D))(yd:List D):(r.bind λy h1=>(m h1).bind λys h2=>.ok (y.toList++ys) h2).bind (aap yd)=r.bind λy h1=>(m h1).bind (aap (yd++y.toList)):=by
 cases r with
 |ok y h1 =>
  show ((m h1).bind _).bind _=(m h1).bind _
  cases m h1 with
  |ok ys h2=>simp [R.bind,aap]
  |_=>rfl
 |_=>rfl
noncomputable def a5i(fi:SI)(t:D->Option Sd)(fe:SE)(ix:List Nat):SE:=λτ h=>(fi τ h).bind λit h1=>if it.xs.length<=LINE then (mapR it.ck (acz t fe (frs' ix τ)) it.xs h1).bind (aap []) else .no
noncomputable def ut(fi:SI)(t:D->Option Sd)(c:ST)(fe:SE)(ix:List Nat):SE:=λτ h=>(fi τ h).bind λit h1=>if it.xs.length<=LINE then (akt it.ck (ab6 t c fe (frs' ix τ)) it.xs h1).bind (aap []) else .no
def aku(K:PySem.W.Frag)(n:Nat)(g:TG)(t:D->Option Sd):Prop:=∀ι H v d ts (r:St) (Q:St->Hp->Prop),Rep K ι H v d->t d=some ts->(∀us:St,us.length=n->SRep K ι H us ts->Q (us++r) H)->g v (List.replicate n none++r) H Q
theorem a9l:SRep K ι H [] []:=⟨rfl,λi d e=>by simp at e⟩
theorem zg(r:Rep K ι H v d)(s:SRep K ι H σ τ):SRep K ι H (some v::σ) (some d::τ):=by
 refine ⟨by simp [s.len],λi d' e=>?_⟩
 cases i with
 |zero=>simp at e;subst e;exact ⟨v,rfl,r⟩
 |succ i=>simpa using s.val i d' (by simpa using e)
theorem a6n(s:SRep K ι H σ τ)(s':SRep K ι H σ' τ'):SRep K ι H (σ++σ') (τ++τ'):=by
 refine ⟨by simp [s.len,s'.len],λi d e=>?_⟩
 by_cases hi:i<τ.length
 ·rw [aP hi] at e;rw [aP (by rw [s.len];exact hi)]
  exact s.val i d e
 ·rw [aH (by omega)] at e
  rw [aH (by rw [s.len];omega),s.len]
  exact s'.val _ d e
theorem a3y(s:SRep K ι H σ τ)(ix:List Nat):SRep K ι H (ix.map λi=>(σ[i]?).join) (frs' ix τ):=by
 refine ⟨by simp [frs'],λj d e=>?_⟩
 simp only [frs',bX,aN] at e;obtain ⟨i,hi,e⟩:=e;have:τ[i]? = some (some d):=by
  cases q:τ[i]? with
  |none=>rw [q] at e;cases e
  |some o=>rw [q] at e;simp at e;rw [e]
 obtain ⟨v,h1,h2⟩:=s.val i d this;exact ⟨v,by simp [hi,h1],h2⟩
theorem a2a:aku K 1 (a04 0) t1:=λι H v d ts r Q hr e q=>by
 cases e
 exact q [some v] rfl (zg hr a9l)
theorem auy{α:Type}{xs:List α}(h:xs.length=n+1):∃x ys,xs=x::ys:=by cases xs with|nil=>cases h|cons x ys=>exact ⟨x,ys,rfl⟩
theorem aoi{vs:List V}{d:D}{ds:List D}(r:Reps K ι H vs (d::ds)):∃v us,vs=v::us/\Rep K ι H v d/\Reps K ι H us ds:=by cases r with|cons r rs=>exact ⟨_,_,rfl,r,rs⟩
theorem auz:aku K 2 (L2.yh K 2 (al2 (a04 0) (al2 (a04 1) b08))) (tN 2):=λι H v d ts r Q hr e q=>by
 unfold tN at e
 cases hr with
 |@tup a vs xs h rs =>
  simp only at e
  split at e
  ·rename_i hl;cases e
   obtain ⟨x1,xs,rfl⟩:=auy hl;obtain ⟨x2,xs,rfl⟩:=auy (i4 hl);obtain rfl:=gW.mp (i4 (i4 hl));obtain ⟨v1,vs,rfl,r1,rs⟩:=aoi rs;obtain ⟨v2,vs,rfl,r2,rs⟩:=aoi rs;cases rs
   exact ⟨a,_,rfl,SqT.of h,rfl,_,_,rfl,_,_,rfl,rfl,q [some _,some _] rfl (zg r1 (zg r2 a9l))⟩
  ·cases e
 |_=>cases e
theorem ai3{us:St}(h:us.length=n):L2.Ext (List.replicate n none++r) (us++r):=by
 refine ⟨by simp [h],λi v e=>?_⟩
 by_cases hi:i<n
 ·rw [aP (by simpa using hi),e9,aC hi] at e
  cases e
 ·rw [aH (by simpa using hi),cX] at e
  rw [aH (by omega),h]
  exact e
theorem aee(ir:alk K ι0 H0 J it)(tg:aku K n g t)(S:SRep K ι0 H0 r rd)(Rh:HRep K ι0 H0 h0)(hl:it.xs.length<=LINE)
  (o:out K E (vh K) ι0 H0 ((mapR it.ck (acz t fe rd) it.xs h0).bind (aap [])) Q):aqb J (List.replicate n none++r) g (lift K E (vh K) fe) Q H0:=by
 refine ⟨λi m ys H=>m=it.xs.length-i/\i<=it.xs.length/\ys.length<=i/\∃ι h yd,Gr ι0 H0 ι H/\HRep K ι H h/\Reps K ι H ys yd/\out K E (vh K) ι H ((mapR it.ck (acz t fe rd) (it.xs.drop i) h).bind (aap yd)) Q,
  ⟨_,rfl,aU _,aU _,ι0,h0,[],.refl _ _,Rh,.nil,o⟩,?_⟩
 rintro i m ys H ⟨rfl,hi,hy,ι,h,yd,g0,Rh,ry,o⟩
 by_cases hlt:i<it.xs.length
 ·rw [cT hlt,mapR] at o
  by_cases hc:it.ck h
  ·rw [aC hc,auw] at o;obtain ⟨go,yl⟩:=(ir ι H h g0 Rh hc).1 i _ (ah hlt);refine .inr ⟨go,Nat.lt_of_le_of_lt hy (aO hlt (ll hl)),λx H' y=>?_⟩;obtain ⟨g1,r1,hr1⟩:=yl x H' y;have o':=a2o o g1
   cases ht:t it.xs[i] with
   |none=>simp only [acz,ht] at o';exact o'.elim
   |some ts =>
    simp only [acz,ht] at o';refine tg ι H' x _ ts r _ r1 ht λus hus su=>⟨ai3 hus,ι,ts++rd,h,a6n su (S.mono (g0.trans g1)),hr1,g8 o' λd2 h2 ι2 H2 u g2 r2 hr2 o2=>?_⟩;refine ⟨it.xs.length-(i+1),by omega,rfl,hlt,by simp;omega,ι2,h2,yd++[d2],(g0.trans g1).trans g2,hr2,((ry.mono g1).mono g2).snoc r2,o2⟩
  ·rw [aQ hc] at o;exact o.elim
 ·have e:i=it.xs.length:=by omega
  subst e;rw [bQ (ay _),mapR] at o
  by_cases hc:it.ck h
  ·rw [aC hc] at o;refine .inl ⟨(ir ι H h g0 Rh hc).2,zc (E:=E) ry Rh ?_⟩;simpa [R.bind,aap] using o
  ·rw [aQ hc] at o;exact o.elim
theorem ab7(ir:alk K ι0 H0 J it)(tg:aku K n g t)(S:SRep K ι0 H0 r rd)(Rh:HRep K ι0 H0 h0)(hl:it.xs.length<=LINE)
  (o:out K E (vh K) ι0 H0 ((akt it.ck (ab6 t c fe rd) it.xs h0).bind (aap [])) Q):acr J (List.replicate n none++r) g (lift K E acv c) (lift K E (vh K) fe) Q H0:=by
 refine ⟨λi m ys H=>m=it.xs.length-i/\i<=it.xs.length/\ys.length<=i/\∃ι h yd,Gr ι0 H0 ι H/\HRep K ι H h/\Reps K ι H ys yd/\out K E (vh K) ι H ((akt it.ck (ab6 t c fe rd) (it.xs.drop i) h).bind (aap yd)) Q,
  ⟨_,rfl,aU _,aU _,ι0,h0,[],.refl _ _,Rh,.nil,o⟩,?_⟩
 rintro i m ys H ⟨rfl,hi,hy,ι,h,yd,g0,Rh,ry,o⟩
 by_cases hlt:i<it.xs.length
 ·rw [cT hlt,akt] at o
  by_cases hc:it.ck h
  ·rw [aC hc,az9] at o;obtain ⟨go,yl⟩:=(ir ι H h g0 Rh hc).1 i _ (ah hlt);refine .inr ⟨go,Nat.lt_of_le_of_lt hy (aO hlt (ll hl)),λx H' y=>?_⟩;obtain ⟨g1,r1,hr1⟩:=yl x H' y;have o':=a2o o g1
   cases ht:t it.xs[i] with
   |none=>simp only [ab6,ht] at o';exact o'.elim
   |some ts =>
    simp only [ab6,ht] at o';rw [R.bind_assoc] at o';refine tg ι H' x _ ts r _ r1 ht λus hus su=>⟨ai3 hus,ι,ts++rd,h,a6n su (S.mono (g0.trans g1)),hr1,g8 o' λb h1 ι1 H1 b' g2 rb hrb ob=>?_⟩;have su1:SRep K ι1 H1 (us++r) (ts++rd):=(a6n su (S.mono (g0.trans g1))).mono g2;cases rb
    cases b with
    |true =>
     rw [aC rfl] at ob ⊢;rw [R.bind_assoc] at ob;refine ⟨ι1,ts++rd,h1,su1,hrb,g8 ob λd2 h2 ι2 H2 u g3 r2 hr2 o2=>?_⟩;refine ⟨it.xs.length-(i+1),by omega,rfl,hlt,by simp;omega,ι2,h2,yd++[d2],((g0.trans g1).trans g2).trans g3,hr2,(((ry.mono g1).mono g2).mono g3).snoc r2,?_⟩
     simpa [R.bind] using o2
    |false =>
     rw [aQ aM] at ob ⊢;refine ⟨it.xs.length-(i+1),by omega,rfl,hlt,by omega,ι1,h1,yd,(g0.trans g1).trans g2,hrb,(ry.mono g1).mono g2,?_⟩
     simpa [R.bind] using ob
  ·rw [aQ hc] at o;exact o.elim
 ·have e:i=it.xs.length:=by omega
  subst e;rw [bQ (ay _),akt] at o
  by_cases hc:it.ck h
  ·rw [aC hc] at o;refine .inl ⟨(ir ι H h g0 Rh hc).2,zc (E:=E) ry Rh ?_⟩;simpa [R.bind,aap] using o
  ·rw [aQ hc] at o;exact o.elim
section
variable{X:Cx}{E:XD}{elt tg iter cnd:Expr}{scope:Scope}{pos:Pos}{cl:List (Str×Addr)}{ts fr:List Str}{ix:List Nat}{fi:SI}{g:TG}{t:D->Option Sd}{fe:SE}{fc:ST}
theorem ai4(hc:X.calm=true)(S:CSc X scope cl ts fr ix)(hi:MI X E tg iter fi)(hg:∀C fp s H,PG (cxC X (ts++fr) scope cl C fp s H) tg g)(ht:aku X.K ts.length g t)(he:∀C fp s H,ME (cxC X (ts++fr) scope cl C fp s H) E elt fe)
  (hs:∀x,foldedSetIterable iter X.env x=pure x:=by intro _;rfl):ME X E (.ListComp elt [⟨tg,iter,[],0⟩] scope pos) (a5i fi t fe ix):=by
 refine PE.weak (alf (te:=lift X.K E (vh X.K) fe) hc S hi hg he hs) ?_
 rintro σ H Q ⟨ι,τ,h,Sr,Rh,o⟩
 refine ⟨ι,τ,h,Sr,Rh,g8 o λit h1 ι1 H1 J g1 r1 hr1 o1=>?_⟩
 by_cases hl:it.xs.length<=LINE
 ·rw [aC hl] at o1;exact aee r1 ht (a3y (Sr.mono g1) ix) hr1 hl o1
 ·rw [aQ hl] at o1;exact o1.elim
theorem a06(hc:X.calm=true)(S:CSc X scope cl ts fr ix)(hi:MI X E tg iter fi)(hg:∀C fp s H,PG (cxC X (ts++fr) scope cl C fp s H) tg g)(ht:aku X.K ts.length g t)(he:∀C fp s H,ME (cxC X (ts++fr) scope cl C fp s H) E elt fe)
  (hq:∀C fp s H,MT (cxC X (ts++fr) scope cl C fp s H) E cnd fc)
  (hs:∀x,foldedSetIterable iter X.env x=pure x:=by intro _;rfl):ME X E (.ListComp elt [⟨tg,iter,[cnd],0⟩] scope pos) (ut fi t fc fe ix):=by
 refine PE.weak (afy (te:=lift X.K E (vh X.K) fe) (tc:=lift X.K E acv fc) hc S hi hg he hq hs) ?_
 rintro σ H Q ⟨ι,τ,h,Sr,Rh,o⟩
 refine ⟨ι,τ,h,Sr,Rh,g8 o λit h1 ι1 H1 J g1 r1 hr1 o1=>?_⟩
 by_cases hl:it.xs.length<=LINE
 ·rw [aC hl] at o1;exact ab7 r1 ht (a3y (Sr.mono g1) ix) hr1 hl o1
 ·rw [aQ hl] at o1;exact o1.elim
end
mutual
def clo(n:Nat):D->Prop
 |.tup xs=>clos n xs
 |.rol xs=>clos n xs
 |.rod _ xs=>clos n xs
 |.scr xs=>clos n xs
 |.rdT _ xs=>clos n xs
 |.ins _ _ xs=>clos n xs
 |.ref i=>i<n
 |_=>True
def clos(n:Nat):List D->Prop
 |[]=>True
 |x::xs=>clo n x/\clos n xs
end
mutual
theorem Rep.clo:∀{v:V} {d:D},Rep K ι H v d->clo ι.length d
 |_,_,.non=>by simp [MI.clo]
 |_,_,.bl b=>by simp [MI.clo]
 |_,_,.int i=>by simp [MI.clo]
 |_,_,.str x=>by simp [MI.clo]
 |_,_,.ty n=>by simp [MI.clo]
 |_,_,.tup h r=>by simp only [MI.clo];exact Reps.clo r
 |_,_,.rol h r=>by simp only [MI.clo];exact Reps.clo r
 |_,_,.ref h=>by simp only [MI.clo];exact (av.mp h).1
 |_,_,.rod h e r=>by simp only [MI.clo];exact Reps.clo r
 |_,_,.scr h r=>by simp only [MI.clo];exact Reps.clo r
 |_,_,.rdT h e r=>by simp only [MI.clo];exact Reps.clo r
 |_,_,.exc h hc hn=>by simp [MI.clo]
 |_,_,.ins h hn e r=>by simp only [MI.clo];exact Reps.clo r
theorem Reps.clo:∀{vs:List V} {ds:List D},Reps K ι H vs ds->clos ι.length ds
 |_,_,.nil=>by simp [MI.clos]
 |_,_,.cons r rs=>by simp only [MI.clos];exact ⟨Rep.clo r,Reps.clo rs⟩
end
mutual
theorem Rep.cut:∀{v:V} {d:D},Rep K ι H v d->clo n d->Rep K (ι.take n) H v d
 |_,_,.non,_=>.non
 |_,_,.bl b,_=>.bl b
 |_,_,.int i,_=>.int i
 |_,_,.str x,_=>.str x
 |_,_,.ty n,_=>.ty n
 |_,_,.tup h r,c=>.tup h (Reps.cut r (by simpa only [MI.clo] using c))
 |_,_,.rol h r,c=>.rol h (Reps.cut r (by simpa only [MI.clo] using c))
 |_,_,.ref h,c=>.ref (by simp only [MI.clo] at c;rw [fm,aC c];exact h)
 |_,_,.rod h e r,c=>.rod h e (Reps.cut r (by simpa only [MI.clo] using c))
 |_,_,.scr h r,c=>.scr h (Reps.cut r (by simpa only [MI.clo] using c))
 |_,_,.rdT h e r,c=>.rdT h e (Reps.cut r (by simpa only [MI.clo] using c))
 |_,_,.exc h hc hn,_=>.exc h hc hn
 |_,_,.ins h hn e r,c=>.ins h hn e (Reps.cut r (by simpa only [MI.clo] using c))
theorem Reps.cut:∀{vs:List V} {ds:List D},Reps K ι H vs ds->clos n ds->Reps K (ι.take n) H vs ds
 |_,_,.nil,_=>.nil
 |_,_,.cons r rs,c=>by simp only [MI.clos] at c;exact .cons (Rep.cut r c.1) (Reps.cut rs c.2)
end
def xj(n:Nat):O->Prop
 |.lst xs=>clos n xs
 |.dK kvs=>clos n (kvs.map (·.2))
 |.dT kvs=>clos n (kvs.map (·.2))
 |.ins _ fs=>clos n (fs.map (·.2))
def av0(n:Nat)(h:Hd):Prop:=∀o∈h,xj n o
theorem ORep.clo(r:ORep K ι H a o):xj ι.length o:=by
 cases o with
 |lst xs=>obtain ⟨vs,_,r⟩:=r;exact r.clo
 |dK kvs=>obtain ⟨us,_,_,r⟩:=r;exact r.clo
 |dT kvs=>obtain ⟨us,_,_,r⟩:=r;exact r.clo
 |ins _ _=>obtain ⟨_,_,us,_,_,_,r⟩:=r;exact r.clo
theorem ORep.cut(r:ORep K ι H a o)(c:xj n o):ORep K (ι.take n) H a o:=by
 cases o with
 |lst xs=>obtain ⟨vs,h,r⟩:=r;exact ⟨vs,h,r.cut c⟩
 |dK kvs=>obtain ⟨us,h,e,r⟩:=r;exact ⟨us,h,e,r.cut c⟩
 |dT kvs=>obtain ⟨us,h,e,r⟩:=r;exact ⟨us,h,e,r.cut c⟩
 |ins _ _=>obtain ⟨C,dx,us,h,hn,e,r⟩:=r;exact ⟨C,dx,us,h,hn,e,r.cut c⟩
theorem HRep.clo(r:HRep K ι H h):av0 h.length h:=λo ho=>by
 obtain ⟨i,hi⟩:=c6 ho;obtain ⟨a,_,q⟩:=r.addr hi;rw [<-r.len];exact q.clo
theorem HRep.cut(r:HRep K ι H (h++g))(c:av0 h.length h):HRep K (ι.take h.length) H h:=by
 refine ⟨r.nd.sublist (gN _ _),?_,λi a o e1 e2=>?_⟩
 ·have:=r.len
  rw [ar] at this;rw [aV];omega
 ·have hi:i<h.length:=(av.mp e2).1;rw [fm,aC hi] at e1;exact (r.obj i a o e1 (by rw [aP hi];exact e2)).cut (c o (bD e2))
def X0:XD:=λ_ _ _ _=>False
abbrev SF:=List D->Hd->R D
def m5(K:PySem.W.Frag)(n:Nat)(F:SF):Sp:=λvs H Q _=>vs.length=n/\∃ι ds h,Reps K ι H vs ds/\HRep K ι H h/\out K X0 (vh K) ι H (F ds h) Q
def a3z(n:Nat)(ds:List D):Sd:=ds.map some++List.replicate (n-ds.length) none
def km(b:SS)(n:Nat)(ds:List D)(h:Hd):R D:=match b (a3z n ds) h with
 |.rt d h1=>.ok d h1
 |.nx _ h1=>.ok .non h1
 |.ex c h1=>.ex c h1
 |_=>.no
def Rf(n:Nat)(r' r:R D):Prop:=match r with
 |.no=>True
 |.ok d h1=>∃g,r'=.ok d (h1++g)/\(g=[]\/(n<=h1.length/\clo h1.length d/\av0 h1.length h1))
 |.ex c h1=>∃g,r'=.ex c (h1++g)/\(g=[]\/(n<=h1.length/\av0 h1.length h1))
theorem Rf.same(h:r'=r):Rf n r' r:=by
 subst h
 cases r' with
 |ok d h1=>exact ⟨[],by simp,.inl rfl⟩
 |ex c h1=>exact ⟨[],by simp,.inl rfl⟩
 |no=>exact True.intro
theorem a8j(r:Reps K ι H vs ds):SRep K ι H (start N vs) (a3z N.length ds):=by
 refine a6n ?_ ?_
 ·clear N
  induction r using Reps.rec (motive_1:=λ_ _ _=>True) with
  |nil=>exact a9l
  |cons r rs _ ih=>exact zg r ih
  |_=>trivial
 ·rw [r.len];exact ⟨by simp,λi d e=>by rw [e9] at e;split at e<;>cases e⟩
theorem aoj(g:Gr ι H ι' H')(hn:ι.length<=n):Gr ι H (ι'.take n) H':=by
 obtain ⟨m,rfl,hm⟩:=g.pre;exact ⟨⟨m.take (n-ι.length),by rw [List.take_append,bP hn],λa ha=>hm a (List.mem_of_mem_take ha)⟩,g.tup,g.frz,g.oth,g.kp⟩
section
variable{P:Program}{w:World}{K:PySem.W.Frag}{mg:Str->Option Value}{base:Heap}
theorem av1(Fu:Fun K x qual st f fd)(S:FnScope N ps (dh st))
  (hb:∀(cdv:Value) (A:Around) (outer:List Env) (s:Shared) (H:Hp) (E:XK),Room k (A.deeper (PyProof.Rows.envOfC qual (dh st) s.heap.objs.size f cdv))->MSs (agu CX0 P w K mg base N qual (dh st) f cdv A outer s H E).nox X0 (uh st) b)
  (hF:∀ds h,ds.length=ps.length->clos h.length ds->av0 h.length h->Rf h.length (km b N.length ds h) (F ds h)):FnOk P w K mg base CX0 (k+1) f fd ps (m5 K ps.length F):=by
 refine Fu.ok S (λvs H Q E h=>h.1) λcdv A outer s H vs Q E hr h=>⟨_,hb cdv A outer s H E hr,?_⟩;obtain ⟨hl,ι,ds,h,r,hr',o⟩:=h;refine ⟨ι,a3z N.length ds,h,a8j r,hr',?_⟩;have q:=hF ds h (by rw [<-r.len];exact hl) (by rw [<-hr'.len];exact r.clo) hr'.clo
 unfold km at q
 cases hFd:F ds h with
 |no=>rw [hFd] at o;exact o.elim
 |ex c h1 =>
  rw [hFd] at q o;obtain ⟨g,e,cl⟩:=q;have fin:∀ι' H',Gr ι H ι' H'->HRep K ι' H' (h1++g)->X0 c ι' H' (h1++g):=λι' H' g1 hr1=>by
   rcases cl with rfl|⟨hn,c2⟩
   ·rw [b9] at hr1;exact o ι' H' g1 hr1
   ·exact o (ι'.take h1.length) H' (aoj g1 (by rw [hr'.len];exact hn)) (hr1.cut c2)
  cases hbd:b (a3z N.length ds) h with
  |ex c' h' =>
   rw [hbd] at e
   injection e with e1 e2
   subst e1 e2;exact fin
  |_=>rw [hbd] at e;cases e
 |ok d h1 =>
  rw [hFd] at q o;obtain ⟨g,e,cl⟩:=q;have fin:∀ι' H' v,Gr ι H ι' H'->Rep K ι' H' v d->HRep K ι' H' (h1++g)->Q v H':=λι' H' v g1 r1 hr1=>by
   rcases cl with rfl|⟨hn,c1,c2⟩
   ·rw [b9] at hr1;exact o ι' H' v g1 r1 hr1
   ·exact o (ι'.take h1.length) H' v (aoj g1 (by rw [hr'.len];exact hn)) (r1.cut c1) (hr1.cut c2)
  cases hbd:b (a3z N.length ds) h with
  |rt d' h' =>
   rw [hbd] at e
   injection e with e1 e2
   subst e1 e2;exact fin
  |nx τ' h' =>
   rw [hbd] at e
   injection e with e1 e2
   subst e1 e2;exact λι' H' σ' g1 S1 hr1=>fin ι' H' .non g1 .non hr1
  |_=>rw [hbd] at e;cases e
end
section
variable{K:PySem.W.Frag}{E:XD}{ι:List Addr}{H:Hp}{h:Hd}{Q:VK}
theorem ans(o:out K E (vh K) ι H (.ok d h) Q)(r:Rep K ι H v d)(hr:HRep K ι H h):Q v H:=o ι H v (.refl _ _) r hr
theorem HRep.lst(hr:HRep K ι H h){i:Nat}{a:Addr}{xs:List D}(e:ι[i]? = some a)(hi:h[i]? = some (.lst xs)):∃vs,H a=some (.lst vs)/\Reps K ι H vs xs:=hr.obj i a _ e hi
end
def b1w:D->D->Hd->R D
 |.int i,.int j,h=>.ok (.int (i+j)) h
 |.str x,.str y,h=>if x.length+y.length<=LINE then .ok (.str (x++y)) h else .no
 |.tup xs,.tup ys,h=>if xs≠[]/\xs.length+ys.length<=LINE then .ok (.tup (xs++ys)) h else .no
 |.ref i,.ref j,h=>match h[i]?,h[j]? with
  |some (.lst xs),some (.lst ys)=>if xs.length+ys.length<=LINE then .ok (.ref h.length) (h++[.lst (xs++ys)]) else .no
  |_,_=>.no
 |_,_,_=>.no
def ach:D->D->Hd->R D
 |.int i,.int j,h=>.ok (.int (i-j)) h
 |_,_,_=>.no
open Classical in
noncomputable def av2:D->D->Hd->R D
 |.int i,.int j,h=>if CMul i j then .ok (.int (i*j)) h else .no
 |.ref i,.int k,h=>match h[i]? with
  |some (.lst xs)=>if (-(2^63)<=k/\k<2^63)/\xs.length*k.toNat<=LINE then .ok (.ref h.length) (h++[.lst (List.replicate k.toNat xs).flatten]) else .no
  |_=>.no
 |_,_,_=>.no
def a5x:D->D->Hd->R D
 |.int i,.int j,h=>if 0<j then .ok (.int (i%j)) h else .no
 |_,_,_=>.no
def a8a:D->D->Hd->R D
 |.int i,.int j,h=>if 0<j/\j<1073741824 then .ok (.int (i / j)) h else .no
 |_,_,_=>.no
def a8k:D->D->Hd->R D
 |.int i,.int j,h=>if 0<=j/\j<=1000000/\i.natAbs<2^64 then .ok (.int (i^j.toNat)) h else .no
 |_,_,_=>.no
section
variable{X:Cx}{K:PySem.W.Frag}
theorem ad0:a1w K ach (rI0 λi j=>.int (i-j)):=by
 intro E ι H h x y dx dy Q rx ry hr o
 cases rx with
 |int i =>
  cases ry with
  |int j=>exact ⟨i,j,rfl,rfl,ans o (.int _) hr⟩
  |_=>exact o.elim
 |_=>exact o.elim
theorem aqh:a1w K a5x (rI (λ_ j=>0<j) λi j=>.int (i%j)):=by
 intro E ι H h x y dx dy Q rx ry hr o
 cases rx with
 |int i =>
  cases ry with
  |int j =>
   by_cases hc:0<j
   ·simp only [a5x,aC hc] at o;exact ⟨i,j,rfl,rfl,hc,ans o (.int _) hr⟩
   ·simp only [a5x,aQ hc] at o;exact o.elim
  |_=>exact o.elim
 |_=>exact o.elim
theorem ai5:a1w K a8a (rI ayw λi j=>.int (i / j)):=by
 intro E ι H h x y dx dy Q rx ry hr o
 cases rx with
 |int i =>
  cases ry with
  |int j =>
   by_cases hc:0<j/\j<1073741824
   ·simp only [a8a,aC hc] at o;exact ⟨i,j,rfl,rfl,hc,ans o (.int _) hr⟩
   ·simp only [a8a,aQ hc] at o;exact o.elim
  |_=>exact o.elim
 |_=>exact o.elim
theorem aqi:a1w K a8k (rI b0a λi j=>.int (i^j.toNat)):=by
 intro E ι H h x y dx dy Q rx ry hr o
 cases rx with
 |int i =>
  cases ry with
  |int j =>
   by_cases hc:0<=j/\j<=1000000/\i.natAbs<2^64
   ·simp only [a8k,aC hc] at o;exact ⟨i,j,rfl,rfl,hc,ans o (.int _) hr⟩
   ·simp only [a8k,aQ hc] at o;exact o.elim
  |_=>exact o.elim
 |_=>exact o.elim
theorem ai6:a1w K av2 (λx y H Q=>rI CMul (λi j=>.int (i*j)) x y H Q\/auj x y H Q):=by
 intro E ι H h x y dx dy Q rx ry hr o
 cases rx with
 |int i =>
  cases ry with
  |int j =>
   by_cases hc:CMul i j
   ·simp only [av2,aC hc] at o;exact .inl ⟨i,j,rfl,rfl,hc,ans o (.int _) hr⟩
   ·simp only [av2,aQ hc] at o;exact o.elim
  |_=>exact o.elim
 |@ref a i ha =>
  cases ry with
  |int k =>
   simp only [av2] at o
   split at o
   ·rename_i xs hx;obtain ⟨vs,h3,h4⟩:=hr.lst ha hx
    split at o
    ·rename_i hc;exact .inr ⟨a,k,vs,rfl,rfl,h3,hc.1.1,hc.1.2,ll (by rw [h4.len];exact hc.2),zc (h4.flat _) hr o⟩
    ·exact o.elim
   ·exact o.elim
  |_=>exact o.elim
 |_=>exact o.elim
variable{E:XD}{a b e:Expr}{es:List Expr}{fa fb:SE}{ka:SA}{pos:Pos}
theorem ai7(ha:ME X E a fa)(hb:ME X E b fb):ME X E (.BinOp a .Sub b pos) (s2 ach fa fb):=acx au4 ad0 ha hb
theorem a8l(ha:ME X E a fa)(hb:ME X E b fb):ME X E (.BinOp a .Mod b pos) (s2 a5x fa fb):=acx au5 aqh ha hb
theorem ai8(ha:ME X E a fa)(hb:ME X E b fb):ME X E (.BinOp a .FloorDiv b pos) (s2 a8a fa fb):=acx apv ai5 ha hb
theorem ai9(ha:ME X E a fa)(hb:ME X E b fb):ME X E (.BinOp a .Pow b pos) (s2 a8k fa fb):=acx au6 aqi ha hb
def av3:D->Hd->R D
 |.int i,h=>.ok (.int (-i)) h
 |_,_=>.no
def gLt:D->D->Hd->R D
 |.int i,.int j,h=>.ok (.bl (decide (i<j))) h
 |.str i,.str j,h=>.ok (.bl (decide (i.cps.toList<j.cps.toList))) h
 |_,_,_=>.no
def gLe:D->D->Hd->R D
 |.int i,.int j,h=>.ok (.bl (decide (i<=j))) h
 |.str i,.str j,h=>.ok (.bl (!decide (j.cps.toList<i.cps.toList))) h
 |_,_,_=>.no
def gGt:D->D->Hd->R D
 |.int i,.int j,h=>.ok (.bl (decide (j<i))) h
 |_,_,_=>.no
def gGe:D->D->Hd->R D
 |.int i,.int j,h=>.ok (.bl (decide (j<=i))) h
 |_,_,_=>.no
theorem a3b:a1w K gLt (λx y H Q=>rI0 (λi j=>.bl (decide (i<j))) x y H Q\/∃i j,x=.str i/\y=.str j/\Q (.bl (decide (i.cps.toList<j.cps.toList))) H):=by
 intro E ι H h x y dx dy Q rx ry hr o
 cases rx with
 |int i =>
  cases ry with
  |int j=>exact .inl ⟨i,j,rfl,rfl,ans o (.bl _) hr⟩
  |_=>exact o.elim
 |str i =>
  cases ry with
  |str j=>exact .inr ⟨i,j,rfl,rfl,ans o (.bl _) hr⟩
  |_=>exact o.elim
 |_=>exact o.elim
theorem ab8:a1w K gLe (λx y H Q=>rI0 (λi j=>.bl (decide (i<=j))) x y H Q\/∃i j,x=.str i/\y=.str j/\Q (.bl (!decide (j.cps.toList<i.cps.toList))) H):=by
 intro E ι H h x y dx dy Q rx ry hr o
 cases rx with
 |int i =>
  cases ry with
  |int j=>exact .inl ⟨i,j,rfl,rfl,ans o (.bl _) hr⟩
  |_=>exact o.elim
 |str i =>
  cases ry with
  |str j=>exact .inr ⟨i,j,rfl,rfl,ans o (.bl _) hr⟩
  |_=>exact o.elim
 |_=>exact o.elim
theorem aef:a1w K gGt (rI0 λi j=>.bl (decide (j<i))):=by
 intro E ι H h x y dx dy Q rx ry hr o
 cases rx with
 |int i =>
  cases ry with
  |int j=>exact ⟨i,j,rfl,rfl,ans o (.bl _) hr⟩
  |_=>exact o.elim
 |_=>exact o.elim
theorem aia:a1w K gGe (rI0 λi j=>.bl (decide (j<=i))):=by
 intro E ι H h x y dx dy Q rx ry hr o
 cases rx with
 |int i =>
  cases ry with
  |int j=>exact ⟨i,j,rfl,rfl,ans o (.bl _) hr⟩
  |_=>exact o.elim
 |_=>exact o.elim
def ab9:D->Bool
 |.non=>true
 |_=>false
theorem aib{i:Int}(r:Rep K ι H x (.int i)):x=.int i:=by cases r;rfl
def gIs(x y:D)(h:Hd):R D:=match y with
 |.non=>.ok (.bl (ab9 x)) h
 |.bl j=>(match x with|.bl i=>.ok (.bl (i == j)) h|_=>.no)
 |_=>.no
def aok(x y:D)(h:Hd):R D:=match y with
 |.non=>.ok (.bl (!ab9 x)) h
 |.bl j=>(match x with|.bl i=>.ok (.bl (i != j)) h|_=>.no)
 |_=>.no
def a1o:D->Bool
 |.non=>true|.bl _=>true|.int _=>true|.str _=>true
 |_=>false
def fvD:D->Option V
 |.non=>some .non|.bl b=>some (.bl b)|.int i=>some (.int i)|.str x=>some (.str x)
 |_=>none
theorem alm{d:D}(r:Rep K ι H x d)(f:a1o d=true):fvD d=some x:=by
 cases r<;>first|rfl|(cases f;done)
theorem fvs{d e:D}{P:D->V->D->V->Prop}(h:∀d x e y,fvD d=some x->fvD e=some y->P d x e y)(r:Rep K ι H x d)(q:Rep K ι H y e)(f:a1o d=true)(g:a1o e=true):P d x e y:=h d x e y (alm r f) (alm q g)
def eqF:D->D->Bool
 |.non,.non=>true
 |.bl i,.bl j=>i == j
 |.int i,.int j=>i == j
 |.str i,.str j=>i == j
 |.int i,.bl j=>i == (if j then 1 else 0)
 |.bl i,.int j=>(if i then 1 else 0) == j
 |_,_=>false
end
section
variable{X:Cx}{K:PySem.W.Frag}{E:XD}{a b e o:Expr}{es:List Expr}{fa fb:SE}{ka:SA}{pos:Pos}
def a1p(d:D)(h:Hd):Option (List D):=match d with
 |.tup xs=>some xs
 |.rol xs=>some xs
 |.ref i=>match h[i]? with|some (.lst xs)=>some xs|_=>none
 |_=>none
def gIx(x y:D)(h:Hd):R D:=match y with
 |.int i=>(match x with
  |.str z=>if z.length<=LINE then (match atI z.cps.toList i with|some c=>.ok (.str ⟨#[c]⟩) h|none=>.no) else .no
  |x=>match a1p x h with
   |some xs=>(match atI xs i with|some d=>.ok d h|none=>.no)
   |none=>.no)
 |_=>.no
theorem aeg(r:Reps K ι H vs xs)(e:atI xs i=some d):∃v,atI vs i=some v/\Rep K ι H v d:=by
 unfold atI at e ⊢;rw [r.len]
 cases hx:ixN xs.length i with
 |none=>rw [hx] at e;cases e
 |some j=>rw [hx] at e;exact r.get e
theorem av4:a1w K gIx (rIx K):=by
 intro E ι H h x y dx dy Q rx ry hr o
 cases ry with
 |int i =>
  have go:∀{p:Addr} {vs:List V} {xs:List D},Reps K ι H vs xs->out K E (vh K) ι H (match atI xs i with|some d=>.ok d h|none=>.no) Q->∃v,atI vs i=some v/\Q v H:=λ{p vs xs} r o=>by
   cases he:atI xs i with
   |none=>rw [he] at o;exact o.elim
   |some d =>
    rw [he] at o;obtain ⟨v,h1,h2⟩:=aeg r he;exact ⟨v,h1,ans o h2 hr⟩
  cases rx with
  |str z =>
   by_cases hc:z.length<=LINE
   ·simp only [gIx,aC hc] at o
    cases he:atI z.cps.toList i with
    |none=>rw [he] at o;exact o.elim
    |some c=>rw [he] at o;exact .inr (.inr ⟨z,i,c,rfl,rfl,ll hc,he,ans o (.str _) hr⟩)
   ·simp only [gIx,aQ hc] at o;exact o.elim
  |@tup p vs xs hp r =>
   simp only [gIx,a1p] at o;obtain ⟨v,h1,h2⟩:=go (p:=p) r o;exact .inr (.inl ⟨p,vs,i,v,rfl,rfl,SqT.of hp,h1,h2⟩)
  |@rol p vs xs hp r =>
   simp only [gIx,a1p] at o;obtain ⟨v,h1,h2⟩:=go (p:=p) r o;exact .inl ⟨p,vs,i,v,rfl,rfl,hp.l,h1,h2⟩
  |@ref p j hp =>
   obtain ⟨ob,e1,e2⟩:=hr.at hp
   cases ob with
   |lst xs =>
    simp only [gIx,a1p,e1] at o;obtain ⟨vs,h3,h4⟩:=e2;obtain ⟨v,h1,h2⟩:=go (p:=p) h4 o;exact .inl ⟨p,vs,i,v,rfl,rfl,SqL.of h3,h1,h2⟩
   |dK _=>simp only [gIx,a1p,e1] at o;exact o.elim
   |dT _=>simp only [gIx,a1p,e1] at o;exact o.elim
   |ins _ _=>simp only [gIx,a1p,e1] at o;exact o.elim
  |_=>exact o.elim
 |_=>exact o.elim
theorem a5j(ha:ME X E a fa)(hb:ME X E b fb)(hp:a9e b):ME X E (.Subscript a b pos) (s2 gIx fa fb):=az8 auf av4 ha hb hp
abbrev SO:=Sd->Hd->R (Option Int)
abbrev MO(X:Cx)(E:XD)(e:Option Expr)(f:SO):Prop:=PO X e (lift X.K E b1v f)
def oN:SO:=λ_ h=>.ok none h
def oS(f:SE):SO:=λτ h=>(f τ h).bind λd h1=>match d with|.int i=>.ok (some i) h1|_=>.no
theorem PO.weak{e:Option Expr}{t t':St->Hp->(Option Int->Hp->Prop)->Prop}(h:PO X e t)(i:∀σ H Q,t' σ H Q->t σ H Q):PO X e t':=λpins s σ H Q I q=>h pins s σ H Q I (i _ _ _ q)
theorem a5k:MO X E none oN:=PO.weak aq5 λσ H Q ⟨ι,τ,h,S,Rh,o⟩=>o ι H none (.refl _ _) rfl Rh
theorem a5l(he:ME X E e fa):MO X E (some e) (oS fa):=by
 refine PO.weak (aq6 he) ?_
 rintro σ H Q ⟨ι,τ,h,S,Rh,o⟩
 refine ⟨ι,τ,h,S,Rh,g8 o λd h1 ι1 H1 v g1 r1 hr1 o1=>?_⟩
 cases r1 with
 |int i=>exact ⟨i,rfl,o1 ι1 H1 _ (.refl _ _) rfl hr1⟩
 |_=>exact o1.elim
def whole(n:Nat)(lo hi:Option Int):Prop:=HT.sIx n 0 lo=0/\HT.sIx n n hi=n
instance (n:Nat) (lo hi:Option Int):Decidable (whole n lo hi):=by unfold whole;exact inferInstance
def gSl(d:D)(lo hi:Option Int)(h:Hd):R D:=match d with
 |.str z=>if z.length<=LINE then .ok (.str ⟨(a75 z.cps.toList lo hi).toArray⟩) h else .no
 |.tup xs=>if ¬ whole xs.length lo hi then .ok (.tup (a75 xs lo hi)) h else .no
 |.rol xs=>.ok (.ref h.length) (h++[.lst (a75 xs lo hi)])
 |.scr xs=>.ok (.ref h.length) (h++[.lst (a75 xs lo hi)])
 |.ref i=>match h[i]? with|some (.lst xs)=>.ok (.ref h.length) (h++[.lst (a75 xs lo hi)])|_=>.no
 |_=>.no
theorem a4a(r:Reps K ι H vs xs)(lo hi:Option Int):Reps K ι H (ao7 vs lo hi) (a75 xs lo hi):=by
 unfold ao7 a75;rw [r.len];exact (r.drop _).take _
theorem aeh(rx:Rep K ι H x d)(hr:HRep K ι H h)(o:out K E (vh K) ι H (gSl d lo hi h) Q):az5 x lo hi H Q\/az1 K x lo hi H Q\/az3 K x lo hi H Q:=by
 cases rx with
 |str z =>
  by_cases hc:z.length<=LINE
  ·simp only [gSl,aC hc] at o;exact .inl ⟨z,rfl,ll hc,ans o (.str _) hr⟩
  ·simp only [gSl,aQ hc] at o;exact o.elim
 |@tup p vs xs hp r =>
  by_cases hc:¬ whole xs.length lo hi
  ·simp only [gSl,aC hc] at o;exact .inr (.inl ⟨p,vs,rfl,SqT.of hp,by rw [r.len];exact hc,a0z (a4a r lo hi) hr o⟩)
  ·simp only [gSl,aQ hc] at o;exact o.elim
 |@rol p vs xs hp r=>exact .inr (.inr ⟨p,vs,rfl,hp.l,zc (a4a r lo hi) hr o⟩)
 |@scr p vs xs hp r=>exact .inr (.inr ⟨p,vs,rfl,hp.l,zc (a4a r lo hi) hr o⟩)
 |@ref p j hp =>
  obtain ⟨ob,e1,e2⟩:=hr.at hp
  cases ob with
  |lst xs =>
   simp only [gSl,e1] at o;obtain ⟨vs,h3,h4⟩:=e2;exact .inr (.inr ⟨p,vs,rfl,SqL.of h3,zc (a4a h4 lo hi) hr o⟩)
  |dK _=>simp only [gSl,e1] at o;exact o.elim
  |dT _=>simp only [gSl,e1] at o;exact o.elim
  |ins _ _=>simp only [gSl,e1] at o;exact o.elim
 |_=>exact o.elim
theorem aic(r:Rep K ι H x d)(f:a1o d=true):a3k x=true:=by cases r<;>first|rfl|cases f
theorem av5(r:Rep K ι H x d)(q:Rep K ι H y c):a1o d=true->a1o c=true->eqV x y=eqF d c:=λf g=>by
 refine fvs (P:=λd x c y=>eqV x y=eqF d c) (λd x e y h h'=>?_) r q f g
 cases d<;>first|(cases h;done)|(cases h;cases e<;>first|(cases h';done)|(cases h';rfl))
def inD(x:D)(xs:List D):Bool:=xs.any λy=>eqF y x
theorem aln(r:Reps K ι H vs xs)(f:xs.all a1o=true):vs.all a3k=true:=by
 induction r using Reps.rec (motive_1:=λ_ _ _=>True) with
 |nil=>rfl
 |cons r rs _ ih =>
  rw [dH,aZ] at f ⊢;exact ⟨aic r f.1,ih f.2⟩
 |_=>trivial
theorem av6(rx:Rep K ι H x d)(fx:a1o d=true)(r:Reps K ι H vs xs)(f:xs.all a1o=true):inV x vs=inD d xs:=by
 unfold inV inD
 induction r using Reps.rec (motive_1:=λ_ _ _=>True) with
 |nil=>rfl
 |cons r rs _ ih =>
  rw [dH,aZ] at f;rw [gU,gU,ih f.2,av5 r rx f.1 fx]
 |_=>trivial
def gIn(neg:Bool)(x y:D)(h:Hd):R D:=match y with
 |.str T=>(match x with
  |.str z=>(match z.cps.toList with|[c]=>.ok (.bl (if neg then !decide (c∈T.cps.toList) else decide (c∈T.cps.toList))) h|_=>.no)
  |_=>.no)
 |y=>match a1p y h with
  |some xs=>if a1o x=true/\xs.all a1o=true then .ok (.bl (if neg then !inD x xs else inD x xs)) h else .no
  |none=>.no
theorem one_sign{z:Str}(h:z.cps.toList=[c]):z=⟨#[c]⟩:=by
 obtain ⟨cps⟩:=z
 congr
 exact Array.ext' (by simpa using h)
theorem av7(neg:Bool){r1:R2}(h1:∀c T H (Q:VK),Q (.bl (if neg then !decide (c∈T.cps.toList) else decide (c∈T.cps.toList))) H->r1 (.str ⟨#[c]⟩) (.str T) H Q):a1w K (gIn neg) (λx y H Q=>r1 x y H Q\/rIn K neg x y H Q):=by
 intro E ι H h x y dx dy Q rx ry hr o
 have go:∀{p:Addr} {vs:List V} {xs:List D},(SqL K H p vs\/SqT K H p vs)->Reps K ι H vs xs->out K E (vh K) ι H (if a1o dx=true/\xs.all a1o=true then .ok (.bl (if neg then !inD dx xs else inD dx xs)) h else .no) Q->rIn K neg x (.ref p) H Q:=λ{p vs xs} sq r o=>by
  split at o
  ·rename_i hc;exact ⟨p,vs,rfl,sq,aic rx hc.1,aln r hc.2,by rw [av6 rx hc.1 r hc.2];exact ans o (.bl _) hr⟩
  ·exact o.elim
 cases ry with
 |str T =>
  cases rx with
  |str z =>
   simp only [gIn] at o
   split at o
   ·rename_i c hz;rw [one_sign hz];exact .inl (h1 c T H Q (ans o (.bl _) hr))
   ·exact o.elim
  |_=>exact o.elim
 |@tup p vs xs hp r=>simp only [gIn,a1p] at o;exact .inr (go (.inr (SqT.of hp)) r o)
 |@rol p vs xs hp r=>simp only [gIn,a1p] at o;exact .inr (go (.inl hp.l) r o)
 |@ref p j hp =>
  obtain ⟨ob,e1,e2⟩:=hr.at hp
  cases ob with
  |lst xs =>
   simp only [gIn,a1p,e1] at o;obtain ⟨vs,h3,h4⟩:=e2;exact .inr (go (.inl (SqL.of h3)) h4 o)
  |dK _=>simp only [gIn,a1p,e1] at o;exact o.elim
  |dT _=>simp only [gIn,a1p,e1] at o;exact o.elim
  |ins _ _=>simp only [gIn,a1p,e1] at o;exact o.elim
 |_=>exact o.elim
theorem aid:a1w K (gIn false) (λx y H Q=>(∃c T,x=.str ⟨#[c]⟩/\y=.str T/\Q (.bl (decide (c∈T.cps.toList))) H)\/rIn K false x y H Q):=av7 false λc T H Q q=>⟨c,T,rfl,rfl,q⟩
def a2p:List D->Hd->R D
 |[.str z],h=>if z.length<=LINE then .ok (.int z.length) h else .no
 |[x],h=>(match a1p x h with|some xs=>.ok (.int xs.length) h|none=>.no)
 |_,_=>.no
theorem aqj:akr K a2p (λxs H Q=>(∃p ys,xs=[.ref p]/\(SqL K H p ys\/SqT K H p ys)/\Q (.int ys.length) H)\/∃z,xs=[.str z]/\z.length<=sizeLine/\Q (.int z.length) H):=by
 intro E ι H h xs ds Q r hr o
 cases r with
 |nil=>exact o.elim
 |cons r rs =>
  cases rs with
  |cons _ _=>exact (show False by cases r<;>exact o).elim
  |nil =>
   cases r with
   |str z =>
    by_cases hc:z.length<=LINE
    ·simp only [a2p,aC hc] at o;exact .inr ⟨z,rfl,ll hc,ans o (.int _) hr⟩
    ·simp only [a2p,aQ hc] at o;exact o.elim
   |@tup p vs xs hp r=>simp only [a2p,a1p] at o;exact .inl ⟨p,vs,rfl,.inr (SqT.of hp),by rw [r.len];exact ans o (.int _) hr⟩
   |@rol p vs xs hp r=>simp only [a2p,a1p] at o;exact .inl ⟨p,vs,rfl,.inl hp.l,by rw [r.len];exact ans o (.int _) hr⟩
   |@ref p j hp =>
    obtain ⟨ob,e1,e2⟩:=hr.at hp
    cases ob with
    |lst xs =>
     simp only [a2p,a1p,e1] at o;obtain ⟨vs,h3,h4⟩:=e2;exact .inl ⟨p,vs,rfl,.inl (SqL.of h3),by rw [h4.len];exact ans o (.int _) hr⟩
    |dK _=>simp only [a2p,a1p,e1] at o;exact o.elim
    |dT _=>simp only [a2p,a1p,e1] at o;exact o.elim
    |ins _ _=>simp only [a2p,a1p,e1] at o;exact o.elim
   |_=>exact o.elim
def ay5:List D->Hd->R D
 |[.int i],h=>.ok (.int (if i<0 then -i else i)) h
 |_,_=>.no
theorem aqk:akr K ay5 (λxs H Q=>∃i,xs=[.int i]/\Q (.int (if i<0 then -i else i)) H):=by
 intro E ι H h xs ds Q r hr o
 unfold ay5 at o
 split at o
 ·cases r with|cons r rs=>cases r;cases rs;exact ⟨_,rfl,ans o (.int _) hr⟩
 ·exact o.elim
def aba:List D->Hd->R D
 |[.int i,.int j],h=>.ok (.int (if j > i then j else i)) h
 |_,_=>.no
def alo:List D->Hd->R D
 |[.int i,.int j],h=>.ok (.int (if j<i then j else i)) h
 |_,_=>.no
theorem alp:akr K aba (λxs H Q=>∃i j,xs=[.int i,.int j]/\Q (.int (if j > i then j else i)) H):=by
 intro E ι H h xs ds Q r hr o
 unfold aba at o
 split at o
 ·cases r with|cons r rs=>cases rs with|cons q rs=>cases r;cases q;cases rs;exact ⟨_,_,rfl,ans o (.int _) hr⟩
 ·exact o.elim
def aql:List D->Hd->R D
 |[.int i],h=>.ok (.int i) h
 |[.bl k],h=>.ok (.int (if k then 1 else 0)) h
 |_,_=>.no
theorem aqm:akr K aql (λxs H Q=>(∃i,xs=[.int i]/\Q (.int i) H)\/∃k,xs=[.bl k]/\Q (.int (if k then 1 else 0)) H):=by
 intro E ι H h xs ds Q r hr o
 unfold aql at o
 split at o
 ·cases r with|cons r rs=>cases r;cases rs;exact .inl ⟨_,rfl,ans o (.int _) hr⟩
 ·cases r with|cons r rs=>cases r;cases rs;exact .inr ⟨_,rfl,ans o (.int _) hr⟩
 ·exact o.elim
def tyD(d:D)(h:Hd):Option String:=match d with
 |.non=>some "NoneType" |.bl _=>some "bool" |.int _=>some "int" |.str _=>some "str" |.tup _=>some "tuple" |.rol _=>some "list"
 |.ref i=>(match h[i]? with|some (.lst _)=>some "list" |some (.dK _)=>some "dict" |_=>none)
 |_=>none
def alq(t T:String):Option Bool :=
 if t∈["NoneType","bool","int","str","tuple","list","dict"]/\T∈["bool","int","str","tuple","list","dict"] then some (t == T || (t == "bool" && T == "int")) else none
theorem aie{t T:String}{b:Bool}(e:alq t T=some b):PySem.W.kitOne K (.type t) (.type T)=some b:=by
 unfold alq at e
 split at e
 ·rename_i h;obtain ⟨h1,h2⟩:=h;simp only [aD,bg,eh] at h1 h2
  rcases h1 with rfl|rfl|rfl|rfl|rfl|rfl|rfl<;>rcases h2 with rfl|rfl|rfl|rfl|rfl|rfl<;>(cases e;rfl)
 ·cases e
def aqn:List D->Hd->R D
 |[x,.ty T],h=>(match tyD x h with|some t=>(match alq t T with|some b=>.ok (.bl b) h|none=>.no)|none=>.no)
 |_,_=>.no
theorem av8(r:Rep K ι H x d)(hr:HRep K ι H h)(e:tyD d h=some t):TyOf K H x (.type t):=by
 cases r with
 |non=>cases e;exact .non
 |bl b=>cases e;exact .bl b
 |int b=>cases e;exact .int b
 |str b=>cases e;exact .str b
 |ty _=>cases e
 |tup hp r=>cases e;exact .tup hp
 |rol hp r=>cases e;obtain ⟨o,hp⟩:=hp;exact .frz hp
 |scr _ _=>cases e
 |rod _ _ _=>cases e
 |rdT _ _ _=>cases e
 |exc _ _ _=>cases e
 |ins _ _ _ _=>cases e
 |ref hp =>
  obtain ⟨ob,e1,e2⟩:=hr.at hp
  cases ob with
  |lst xs=>simp only [tyD,e1] at e;cases e;obtain ⟨vs,h3,h4⟩:=e2;exact .lst h3
  |dK _=>simp only [tyD,e1] at e;cases e;obtain ⟨vs,h3,h4⟩:=e2;exact .dK h3
  |dT _=>simp only [tyD,e1] at e;cases e
  |ins _ _=>simp only [tyD,e1] at e;cases e
theorem aqo:akr K aqn (λxs H Q=>∃x T t b,xs=[x,.ty T]/\TyOf K H x t/\PySem.W.kitOne K t (.type T)=some b/\Q (.bl b) H):=by
 intro E ι H h xs ds Q r hr o
 unfold aqn at o
 split at o
 ·rename_i d T
  cases r with
  |cons r rs =>
   cases rs with
   |cons q rs =>
    cases q;cases rs
    cases ht:tyD d h with
    |none=>rw [ht] at o;exact o.elim
    |some t =>
     rw [ht] at o
     cases hb:alq t T with
     |none=>simp only [hb] at o;exact o.elim
     |some b =>
      simp only [hb] at o;exact ⟨_,T,.type t,b,rfl,av8 r hr ht,aie hb,ans o (.bl _) hr⟩
 ·exact o.elim
end
section
variable{X:Cx}{K:PySem.W.Frag}{E:XD}{a b e o:Expr}{es:List Expr}{fa fb fo:SE}{ka:SA}{pos apos cpos:Pos}{name:Str}{idn:String}
def aza(K:PySem.W.Frag)(g:D->List D->Hd->R D)(r:V->List V->Hp->VK->Prop):Prop:=∀(E:XD) ι H h x dx xs ds Q,Rep K ι H x dx->Reps K ι H xs ds->HRep K ι H h->out K E (vh K) ι H (g dx ds h) Q->r x xs H Q
def isL(d:D)(h:Hd):Bool:=match d with|.ref i=>(match h[i]? with|some (.lst _)=>true|_=>false)|.rol _=>true|_=>false
def sML(g:D->List D->Hd->R D)(f:SE)(k:SA):SE:=λτ h=>(f τ h).bind λd h1=>if isL d h1=true then (k τ h1).bind λds h2=>g d ds h2 else .no
theorem av9(r:Rep K ι H x d)(hr:HRep K ι H h)(e:isL d h=true):tyV K "list" x H:=by
 cases r with
 |rol hp _=>exact .inl ⟨rfl,_,hp.l⟩
 |ref hp =>
  obtain ⟨ob,e1,e2⟩:=hr.at hp
  cases ob with
  |lst xs=>obtain ⟨vs,h3,_⟩:=e2;exact .inl ⟨rfl,_,SqL.of h3⟩
  |dK _=>simp [isL,e1] at e
  |dT _=>simp [isL,e1] at e
  |ins _ _=>simp [isL,e1] at e
 |_=>cases e
theorem abb(slot:Slot "list" name idn)(hty:typeOf (.builtin idn)=pure (.type "method_descriptor"))(hm:MtR X idn r)(hs:aza X.K g r)(ho:ME X E o fo)(ha:MA X E (e::es) ka)
  (hbase:attributeBase o name X.env (eval o X.env)=eval o X.env:=by rfl)
  (hfew:((backTo cpos (starEach (e::es) X.env)).all (λx => !x.1) && (backToKw cpos (keywordEach [] X.env)).all (λx=>x.1.isSome)
   && decide ((e::es).length+([]:List Keyword).length+(if ([]:List Keyword).isEmpty then 0 else 1)<30))=true:=by rfl)
  (hline:(apos.endLine == cpos.line)=true:=by rfl) (hst:starEach (e::es) X.env=(false,eval e X.env)::starEach es X.env:=by rfl) (hplain:(backTo cpos (starEach es X.env)).any (·.1)=false:=by rfl) :
  ME X E (.Call (.Attribute o name apos) (e::es) [] cpos) (sML g fo ka):=by
 refine PE.weak (az4 PySem.F.plainAttrs_list slot hty hm ho ha hbase hfew hline hst hplain) ?_
 rintro σ H Q ⟨ι,τ,h,S,Rh,o⟩
 refine ⟨ι,τ,h,S,Rh,g8 o λd h1 ι1 H1 v g1 r1 hr1 o1=>?_⟩
 by_cases hc:isL d h1=true
 ·rw [aC hc] at o1;refine ⟨av9 r1 hr1 hc,ι1,τ,h1,S.mono g1,hr1,g8 o1 λds h2 ι2 H2 vs g2 r2 hr2 o2=>?_⟩;exact hs E ι2 H2 h2 v d vs ds Q (r1.mono g2) r2 hr2 o2
 ·rw [aQ hc] at o1;exact o1.elim
def agv:D->List D->Hd->R D
 |.ref i,[y],h=>(match h[i]? with|some (.lst xs)=>if xs.length<LINE then .ok .non (h.set i (.lst (xs++[y]))) else .no|_=>.no)
 |_,_,_=>.no
theorem a9m:aza K agv ahq:=by
 intro E ι H h x dx xs ds Q rx r hr o
 unfold agv at o
 split at o
 ·rename_i i y
  cases rx with
  |@ref p _ hp =>
   cases r with
   |cons r1 rs =>
    cases rs
    split at o
    ·rename_i xs hx;obtain ⟨vs,h3,h4⟩:=hr.lst hp hx
     split at o
     ·rename_i hc;exact ⟨p,vs,_,rfl,rfl,h3,by rw [h4.len,az6];exact hc,a9k (h4.snoc r1) hr hp .non o⟩
     ·exact o.elim
    ·exact o.elim
 ·exact o.elim
def aqp:List D->Option (List Str)
 |[]=>some []
 |.str z::r=>(aqp r).map (z::·)
 |_::_=>none
theorem alr:∀{vs:List V} {xs:List D} {zs:List Str},Reps K ι H vs xs->aqp xs=some zs->vs=zs.map V.str
 |_,_,_,.nil,e=>by cases e;rfl
 |_,_,zs,.cons (d:=d) r rs,e=>by
  cases r with
  |str z =>
   simp only [aqp,aN] at e;obtain ⟨ws,h1,rfl⟩:=e;rw [alr rs h1];rfl
  |_=>cases e
def ava:List D->Hd->R D
 |[.str z],h=>if z.length<=LINE then .ok (.ref h.length) (h++[.lst (a1z z)]) else .no
 |[x],h=>(match a1p x h with|some xs=>.ok (.ref h.length) (h++[.lst xs])|none=>.no)
 |_,_=>.no
theorem a8m(z:Str):Reps K ι H (a1l z) (a1z z):=by
 unfold a1l a1z
 induction z.cps.toList with
 |nil=>exact .nil
 |cons c cs ih=>exact .cons (.str _) ih
def qy:List D->Hd->R D
 |[.str z],h=>if z.length<=LINE then .ok (.tup (a1z z)) h else .no
 |[x],h=>(match a1p x h with|some xs=>.ok (.tup xs) h|none=>.no)
 |_,_=>.no
theorem vm:akr K qy (λxs H Q=>(∃p ys,xs=[.ref p]/\((SqL K H p ys/\∀l,H l=none->Q (.ref l) (upd H l (.tup ys)))\/(SqT K H p ys/\Q (.ref p) H)))\/∃z,xs=[.str z]/\z.length<=sizeLine/\∀l,H l=none->Q (.ref l) (upd H l (.tup (a1l z)))):=by
 intro E ι H h xs ds Q r hr o
 cases r with
 |nil=>exact o.elim
 |cons r rs =>
  cases rs with
  |cons _ _=>exact (show False by cases r<;>exact o).elim
  |nil =>
   cases r with
   |str z =>
    by_cases hc:z.length<=LINE
    ·simp only [qy,aC hc] at o;exact .inr ⟨z,rfl,ll hc,a0z (a8m z) hr o⟩
    ·simp only [qy,aQ hc] at o;exact o.elim
   |@tup p vs xs hp r=>simp only [qy,a1p] at o;exact .inl ⟨p,vs,rfl,.inr ⟨SqT.of hp,ans o (.tup hp r) hr⟩⟩
   |@rol p vs xs hp r=>simp only [qy,a1p] at o;exact .inl ⟨p,vs,rfl,.inl ⟨hp.l,a0z r hr o⟩⟩
   |@ref p j hp =>
    obtain ⟨ob,e1,e2⟩:=hr.at hp
    cases ob with
    |lst xs =>
     simp only [qy,a1p,e1] at o;obtain ⟨vs,h3,h4⟩:=e2;exact .inl ⟨p,vs,rfl,.inl ⟨SqL.of h3,a0z h4 hr o⟩⟩
    |dK _=>simp only [qy,a1p,e1] at o;exact o.elim
    |dT _=>simp only [qy,a1p,e1] at o;exact o.elim
    |ins _ _=>simp only [qy,a1p,e1] at o;exact o.elim
   |_=>exact o.elim
def a5m:List D->Option (List Int)
 |[]=>some []
 |.int z::r=>(a5m r).map (z::·)
 |_::_=>none
theorem a2q:∀{vs:List V} {xs:List D} {zs:List Int},Reps K ι H vs xs->a5m xs=some zs->vs=zs.map V.int
 |_,_,_,.nil,e=>by cases e;rfl
 |_,_,zs,.cons (d:=d) r rs,e=>by
  cases r with
  |int z =>
   simp only [a5m,aN] at e;obtain ⟨ws,h1,rfl⟩:=e;rw [a2q rs h1];rfl
  |_=>cases e
def aif:List D->Hd->R D
 |[.ref i],h=>(match h[i]? with|some (.lst xs)=>(match a5m xs with|some bs=>.ok (.int bs.sum) h|none=>.no)|_=>.no)
 |[.rol xs],h=>(match a5m xs with|some bs=>.ok (.int bs.sum) h|none=>.no)
 |_,_=>.no
theorem ad1:akr K aif (λxs H Q=>∃(p:Addr) (ns:List Int),xs=[.ref p]/\SqL K H p (ns.map V.int)/\Q (.int ns.sum) H):=by
 intro E ι H h xs ds Q r hr o
 unfold aif at o
 split at o
 ·cases r with
  |cons r rs =>
   cases rs
   cases r with
   |@ref p _ hp =>
    split at o
    ·rename_i xs hx;obtain ⟨vs,h3,h4⟩:=hr.lst hp hx
     split at o
     ·rename_i bs hb;exact ⟨p,bs,rfl,SqL.of (by rw [h3,a2q h4 hb]),ans o (.int _) hr⟩
     ·exact o.elim
    ·exact o.elim
 ·cases r with
  |cons r rs =>
   cases rs
   cases r with
   |@rol p vs xs hp r =>
    split at o
    ·rename_i bs hb;exact ⟨p,bs,rfl,by rw [<-a2q r hb];exact hp.l,ans o (.int _) hr⟩
    ·exact o.elim
 ·exact o.elim
end
end MI
theorem L2.Room.u(r:L2.Room k A):A.units+64<PySem.cLine:=r.units
namespace MI
open L2
mutual
def eqD:D->D->Bool
 |.non,.non=>true
 |.bl a,.bl b=>a == b
 |.bl a,.int b=>(if a then 1 else 0) == b
 |.int a,.bl b=>a == (if b then 1 else 0)
 |.int a,.int b=>a == b
 |.str a,.str b=>a == b
 |.tup xs,.tup ys=>abd xs ys
 |_,_=>false
def abd:List D->List D->Bool
 |[],[]=>true
 |x::xs,y::ys=>eqD x y && abd xs ys
 |_,_=>false
end
def pur:Nat->D->Bool
 |_,.non=>true
 |_,.bl _=>true
 |_,.int _=>true
 |_,.str _=>true
 |n+1,.tup xs=>xs.all (pur n)
 |_,_=>false
theorem aig:∀{m:Nat} {d:D},n<=m->pur n d=true->pur m d=true:=by
 induction n with
 |zero=>intro m d _ h;cases d<;>first|(cases m<;>rfl)|(cases h;done)
 |succ n ih =>
  intro m d hm h
  cases m with
  |zero=>omega
  |succ m =>
   cases d with
   |tup xs =>
    simp only [pur,bE] at h ⊢;exact λx hx=>ih (by omega) (h x hx)
   |_=>first|rfl|(cases h;done)
def pairE(xs ys:List D)(j:Nat):Bool:=match xs[j]?,ys[j]? with|some x,some y=>eqD x y|_,_=>false
theorem a4b:∀xs ys:List D,((List.range (min xs.length ys.length)).all (pairE xs ys) && xs.length == ys.length)=abd xs ys
 |[],[]=>by simp [abd]
 |[],_::_=>by simp [abd]
 |_::_,[]=>by simp [abd]
 |x::xs,y::ys=>by
  have ih:=a4b xs ys;rw [show min (x::xs).length (y::ys).length=min xs.length ys.length+1 by simp only [aF];omega,List.range_succ_eq_map]
  rw [dH,List.all_map];have e:(pairE (x::xs) (y::ys) ∘ Nat.succ)=pairE xs ys:=by funext j;simp [pairE]
  rw [e];simp only [abd];rw [<-ih];have e2:((x::xs).length == (y::ys).length)=(xs.length == ys.length):=by simp
  rw [e2,Bool.and_assoc];rfl
section
variable{K:PySem.W.Frag}{ι:List Addr}{H:Hp}
theorem a9n{xs:List D}(r:Rep K ι H v (.tup xs)):∃a vs,v=.ref a/\H a=some (.tup vs)/\Reps K ι H vs xs:=by cases r with|@tup a vs _ h rs=>exact ⟨a,vs,rfl,h,rs⟩
theorem aol(r:Rep K ι H v d)(q:Rep K ι H v e)(f:a1o d=true)(g:a1o e=true):eqD d e=true:=by
 have h:=alm r f;have h':=alm q g
 cases d<;>first|(cases h;done)|(cases h;cases e<;>first|(cases h';done)|(cases h';simp [eqD]))
theorem a0o(r:Rep K ι H v d)(p:pur n d=true):(∃xs,d=.tup xs)\/(a3k v=true/\a1o d=true):=by
 cases r<;>first|exact .inr ⟨rfl,rfl⟩|exact .inl ⟨_,rfl⟩|(cases n<;>cases p)
theorem a9o(r:Rep K ι H x d)(q:Rep K ι H y e)(f:a1o d=true)(g:a1o e=true):eqV x y=eqD d e:=by
 refine fvs (P:=λd x c y=>eqV x y=eqD d c) (λd x e y h h'=>?_) r q f g
 cases d<;>first|(cases h;done)|(cases h;cases e<;>first|(cases h';done)|(cases h';first|rfl|(simp [eqV,eqD];done)))
theorem als:∀(n:Nat) {v:V} {d e:D},Rep K ι H v d->Rep K ι H v e->pur n d=true->pur n e=true->eqD d e=true:=by
 intro n
 induction n with
 |zero =>
  intro v d e r q p1 p2
  rcases a0o r p1 with ⟨xs,rfl⟩|⟨f1,g1⟩
  ·cases p1
  rcases a0o q p2 with ⟨xs,rfl⟩|⟨f2,g2⟩
  ·cases p2
  exact aol r q g1 g2
 |succ n ih =>
  intro v d e r q p1 p2
  rcases a0o r p1 with ⟨xs,rfl⟩|⟨f1,g1⟩
  ·rcases a0o q p2 with ⟨ys,rfl⟩|⟨f2,g2⟩
   ·obtain ⟨a,vs,rfl,h,rs⟩:=a9n r;obtain ⟨b,us,z,h',qs⟩:=a9n q;cases z
    rw [h] at h';cases h'
    simp only [eqD];simp only [pur,bE] at p1 p2
    clear h r q
    induction rs using Reps.rec (motive_1:=λ_ _ _=>True) generalizing ys with
    |nil=>cases qs;rfl
    |cons r rs _ ih2 =>
     cases qs with
     |cons q qs =>
      simp only [abd,aZ];exact ⟨ih r q (p1 _ (aR ..)) (p2 _ (aR ..)),ih2 _ qs (λx hx=>p1 x (aL _ hx)) (λx hx=>p2 x (aL _ hx))⟩
    |_=>trivial
   ·obtain ⟨a,vs,rfl,h,rs⟩:=a9n r;cases f2
  ·rcases a0o q p2 with ⟨ys,rfl⟩|⟨f2,g2⟩
   ·obtain ⟨a,vs,rfl,h,rs⟩:=a9n q;cases f1
   ·exact aol r q g1 g2
open SeqAt in
theorem aom{s:Shared}(hok:HOk P w H s.heap):∀(n:Nat) (A:Around) {x y:V} {u v:Value} {d e:D},Rep K ι H x d->Rep K ι H y e->RelV x u->RelV y v->pur n d=true->pur n e=true->A.units+n<cLine->EqAt A s u v (eqD d e):=by
 intro n
 induction n with
 |zero =>
  intro A x y u v d e r q rx ry p1 p2 hu
  rcases a0o r p1 with ⟨xs,rfl⟩|⟨f1,f2⟩
  ·cases p1
  ·rcases a0o q p2 with ⟨xs,rfl⟩|⟨g1,g2⟩
   ·cases p2
   ·rw [<-a9o r q f2 g2];exact ahp rx ry f1 g1
 |succ n ih =>
  intro A x y u v d e r q rx ry p1 p2 hu
  rcases a0o r p1 with ⟨xs,rfl⟩|⟨f1,f2⟩
  ·cases r with
   |@tup a vs _ ha rs =>
    cases rx
    obtain ⟨_,its,r1,t1⟩:=(Rd.of ha).ok hok
    rcases a0o q p2 with ⟨ys,rfl⟩|⟨g1,g2⟩
    ·cases q with
     |@tup b us _ hb qs =>
      cases ry
      obtain ⟨_,its2,r2,t2⟩:=(Rd.of hb).ok hok
      by_cases hab:a=b
      ·subst hab;rw [als (n+1) (.tup ha rs) (.tup hb qs) p1 p2];exact EqAt.same _
      ·have l1:its.toArray.size=xs.length:=by rw [aA,<-r1.length,rs.len]
       have l2:its2.toArray.size=ys.length:=by rw [aA,<-r2.length,qs.len]
       have:=RcAt.tuples (A:=A) (s:=s) (e:=pairE xs ys) t1 t2 (by omega) (λj h1 h2=>by
        have j1:j<xs.length:=by omega
        have j2:j<ys.length:=by omega
        obtain ⟨v1,e1,q1⟩:=rs.get (ah j1);obtain ⟨v2,e2,q2⟩:=qs.get (ah j2);obtain ⟨u1,e3,q3⟩:=r1.get e1;obtain ⟨u2,e4,q4⟩:=r2.get e2;have f1:its.toArray[j]=u1:=by simpa using (av.mp e3).2
        have f2:its2.toArray[j]=u2:=by simpa using (av.mp e4).2
        have pe:pairE xs ys j=eqD xs[j] ys[j]:=by simp [pairE,ah j1,ah j2]
        rw [f1,f2,pe];simp only [pur,bE] at p1 p2;exact ih A.in1 q1 q2 q3 q4 (p1 _ (dG j1)) (p2 _ (dG j2)) (by rw [hU];omega))
       rw [l1,l2,a4b] at this;exact EqAt.of_refs hab this
    ·have e0:eqD (.tup xs) e=false:=by cases e<;>first|rfl|(cases g2;done)
     rw [e0]
     cases y with
     |non=>cases ry;exact EqAt.tuple_none t1 (by omega)
     |bl b=>cases ry;exact EqAt.tuple_bool b t1 (by omega)
     |int b=>obtain ⟨t,rfl⟩:=ry;exact EqAt.tuple_int b t t1 (by omega)
     |str b=>obtain ⟨t,rfl⟩:=ry;exact EqAt.tuple_str b t t1 (by omega)
     |_=>cases g1
  ·rcases a0o q p2 with ⟨ys,rfl⟩|⟨g1,g2⟩
   ·cases q with
    |@tup b us _ hb qs =>
     cases ry
     obtain ⟨_,its2,r2,t2⟩:=(Rd.of hb).ok hok;have e0:eqD d (.tup ys)=false:=by cases d<;>first|rfl|(cases f2;done)
     rw [e0]
     cases x with
     |non=>cases rx;exact EqAt.none_tuple t2 (by omega)
     |bl b=>cases rx;exact EqAt.bool_tuple b t2 (by omega)
     |int b=>obtain ⟨t,rfl⟩:=rx;exact EqAt.int_tuple b t t2 (by omega)
     |str b=>obtain ⟨t,rfl⟩:=rx;exact EqAt.str_tuple b t t2 (by omega)
     |_=>cases f1
   ·rw [<-a9o r q f2 g2];exact ahp rx ry f1 g1
open SeqAt in
theorem avb(ry:RelV y u)(rx:RelV x v)(fy:a3k y=true)(fx:a3k x=true):RcAt A s u v (eqV y x):=by
 cases y with
 |non =>
  cases ry
  cases x with
  |non=>cases rx;exact RcAt.none_none
  |bl b=>cases rx;exact RcAt.none_bool b
  |int b=>obtain ⟨t,rfl⟩:=rx;exact RcAt.none_int b t
  |str b=>obtain ⟨t,rfl⟩:=rx;exact RcAt.none_str b t
  |_=>cases fx
 |bl a =>
  cases ry
  cases x with
  |non=>cases rx;exact RcAt.bool_none a
  |bl b=>cases rx;exact RcAt.bool_bool a b
  |int b=>obtain ⟨t,rfl⟩:=rx;exact RcAt.bool_int a b t
  |str b=>obtain ⟨t,rfl⟩:=rx;exact RcAt.bool_str a b t
  |_=>cases fx
 |int a =>
  obtain ⟨t',rfl⟩:=ry
  cases x with
  |non=>cases rx;exact RcAt.int_none a t'
  |bl b=>cases rx;exact RcAt.int_bool a t' b
  |int b=>obtain ⟨t,rfl⟩:=rx;exact RcAt.int_int a t' b t
  |str b=>obtain ⟨t,rfl⟩:=rx;exact RcAt.int_str a t' b t
  |_=>cases fx
 |str a =>
  obtain ⟨t',rfl⟩:=ry
  cases x with
  |non=>cases rx;exact RcAt.str_none a t'
  |bl b=>cases rx;exact RcAt.str_bool a t' b
  |int b=>obtain ⟨t,rfl⟩:=rx;exact RcAt.str_int a t' b t
  |str b=>obtain ⟨t,rfl⟩:=rx;exact RcAt.str_str a t' b t
  |_=>cases fx
 |_=>cases fy
open SeqAt in
theorem alu(ry:RelV y u)(rx:RelV x v)(fy:a3k y=true)(fx:a3k x=true):RcNeAt A s u v (!eqV y x):=by
 cases y with
 |non =>
  cases ry
  cases x with
  |non=>cases rx;exact RcNeAt.none_none
  |bl b=>cases rx;exact RcNeAt.none_bool b
  |int b=>obtain ⟨t,rfl⟩:=rx;exact RcNeAt.none_int b t
  |str b=>obtain ⟨t,rfl⟩:=rx;exact RcNeAt.none_str b t
  |_=>cases fx
 |bl a =>
  cases ry
  cases x with
  |non=>cases rx;exact RcNeAt.bool_none a
  |bl b=>cases rx;exact RcNeAt.bool_bool a b
  |int b=>obtain ⟨t,rfl⟩:=rx;exact RcNeAt.bool_int a b t
  |str b=>obtain ⟨t,rfl⟩:=rx;exact RcNeAt.bool_str a b t
  |_=>cases fx
 |int a =>
  obtain ⟨t',rfl⟩:=ry
  cases x with
  |non=>cases rx;exact RcNeAt.int_none a t'
  |bl b=>cases rx;exact RcNeAt.int_bool a t' b
  |int b=>obtain ⟨t,rfl⟩:=rx;exact RcNeAt.int_int a t' b t
  |str b=>obtain ⟨t,rfl⟩:=rx;exact RcNeAt.int_str a t' b t
  |_=>cases fx
 |str a =>
  obtain ⟨t',rfl⟩:=ry
  cases x with
  |non=>cases rx;exact RcNeAt.str_none a t'
  |bl b=>cases rx;exact RcNeAt.str_bool a t' b
  |int b=>obtain ⟨t,rfl⟩:=rx;exact RcNeAt.str_int a t' b t
  |str b=>obtain ⟨t,rfl⟩:=rx;exact RcNeAt.str_str a t' b t
  |_=>cases fx
 |_=>cases fy
open SeqAt in
theorem tops{s:Shared}{A:Around}(hok:HOk P w H s.heap)(r:Rep K ι H x d)(q:Rep K ι H y e)(rx:RelV x u)(ry:RelV y v)(p1:pur 60 d=true)(p2:pur 60 e=true)(hu:A.units+64<cLine) :
  RcAt A s u v (eqD d e)/\RcNeAt A s u v (!eqD d e):=by
 rcases a0o r p1 with ⟨xs,rfl⟩|⟨f1,f2⟩
 ·cases r with
  |@tup a vs _ ha rs =>
   cases rx
   obtain ⟨_,its,r1,t1⟩:=(Rd.of ha).ok hok
   rcases a0o q p2 with ⟨ys,rfl⟩|⟨g1,g2⟩
   ·cases q with
    |@tup b us _ hb qs =>
     cases ry
     obtain ⟨_,its2,r2,t2⟩:=(Rd.of hb).ok hok;have l1:its.toArray.size=xs.length:=by rw [aA,<-r1.length,rs.len]
     have l2:its2.toArray.size=ys.length:=by rw [aA,<-r2.length,qs.len]
     have step:∀j (h1:j<its.toArray.size) (h2:j<its2.toArray.size),EqAt A.in1 s its.toArray[j] its2.toArray[j] (pairE xs ys j):=λj h1 h2=>by
      have j1:j<xs.length:=by omega
      have j2:j<ys.length:=by omega
      obtain ⟨v1,e1,q1⟩:=rs.get (ah j1);obtain ⟨v2,e2,q2⟩:=qs.get (ah j2);obtain ⟨u1,e3,q3⟩:=r1.get e1;obtain ⟨u2,e4,q4⟩:=r2.get e2;have f1:its.toArray[j]=u1:=by simpa using (av.mp e3).2
      have f2:its2.toArray[j]=u2:=by simpa using (av.mp e4).2
      have pe:pairE xs ys j=eqD xs[j] ys[j]:=by simp [pairE,ah j1,ah j2]
      rw [f1,f2,pe];simp only [pur,bE] at p1 p2;exact aom hok 59 A.in1 q1 q2 q3 q4 (p1 _ (dG j1)) (p2 _ (dG j2)) (by rw [hU];omega)
     have c1:=RcAt.tuples (A:=A) (s:=s) (e:=pairE xs ys) t1 t2 (by omega) step
     have c2:=RcNeAt.tuples (A:=A) (s:=s) (e:=pairE xs ys) t1 t2 (by omega) step
     rw [l1,l2,a4b] at c1 c2;exact ⟨c1,c2⟩
   ·have e0:eqD (.tup xs) e=false:=by cases e<;>first|rfl|(cases g2;done)
    rw [e0]
    cases y with
    |non=>cases ry;exact ⟨RcAt.tuple_none t1 (by omega),RcNeAt.tuple_none t1 (by omega)⟩
    |bl b=>cases ry;exact ⟨RcAt.tuple_bool b t1 (by omega),RcNeAt.tuple_bool b t1 (by omega)⟩
    |int b=>obtain ⟨t,rfl⟩:=ry;exact ⟨RcAt.tuple_int b t t1 (by omega),RcNeAt.tuple_int b t t1 (by omega)⟩
    |str b=>obtain ⟨t,rfl⟩:=ry;exact ⟨RcAt.tuple_str b t t1 (by omega),RcNeAt.tuple_str b t t1 (by omega)⟩
    |_=>cases g1
 ·rcases a0o q p2 with ⟨ys,rfl⟩|⟨g1,g2⟩
  ·cases q with
   |@tup b us _ hb qs =>
    cases ry
    obtain ⟨_,its2,r2,t2⟩:=(Rd.of hb).ok hok;have e0:eqD d (.tup ys)=false:=by cases d<;>first|rfl|(cases f2;done)
    rw [e0]
    cases x with
    |non=>cases rx;exact ⟨RcAt.none_tuple t2 (by omega),RcNeAt.none_tuple t2 (by omega)⟩
    |bl b=>cases rx;exact ⟨RcAt.bool_tuple b t2 (by omega),RcNeAt.bool_tuple b t2 (by omega)⟩
    |int b=>obtain ⟨t,rfl⟩:=rx;exact ⟨RcAt.int_tuple b t t2 (by omega),RcNeAt.int_tuple b t t2 (by omega)⟩
    |str b=>obtain ⟨t,rfl⟩:=rx;exact ⟨RcAt.str_tuple b t t2 (by omega),RcNeAt.str_tuple b t t2 (by omega)⟩
    |_=>cases f1
  ·rw [<-a9o r q f2 g2];exact ⟨avb rx ry f1 g1,alu rx ry f1 g1⟩
def b0f(K:PySem.W.Frag):R2:=λx y H Q=>∃ι d e,Rep K ι H x d/\Rep K ι H y e/\pur 60 d=true/\pur 60 e=true/\Q (.bl (eqD d e)) H
def b0g(K:PySem.W.Frag):R2:=λx y H Q=>∃ι d e,Rep K ι H x d/\Rep K ι H y e/\pur 60 d=true/\pur 60 e=true/\Q (.bl (!eqD d e)) H
theorem a7g{X:Cx}(hu:X.A.units+64<cLine):OpR X (compareOp .Eq) (b0f X.K):=by
 intro pins s σ H x y v u Q I rx ry h
 obtain ⟨ι,d,e,r,q,p1,p2,hq⟩:=h;exact (tops (A:=X.A) I.hok r q rx ry p1 p2 hu).1 X.prog X.w X.xe _ ⟨.bl _,H,I,rfl,hq⟩
theorem aih{X:Cx}(hu:X.A.units+64<cLine):OpR X (compareOp .NotEq) (b0g X.K):=by
 intro pins s σ H x y v u Q I rx ry h
 obtain ⟨ι,d,e,r,q,p1,p2,hq⟩:=h;exact (tops (A:=X.A) I.hok r q rx ry p1 p2 hu).2 X.prog X.w X.xe _ ⟨.bl _,H,I,rfl,hq⟩
def hEq(x y:D)(h:Hd):R D:=if pur 60 x=true/\pur 60 y=true then .ok (.bl (eqD x y)) h else .no
def hNe(x y:D)(h:Hd):R D:=if pur 60 x=true/\pur 60 y=true then .ok (.bl (!eqD x y)) h else .no
theorem a3m:a1w K hEq (b0f K):=by
 intro E ι H h x y dx dy Q rx ry hr o
 unfold hEq at o
 split at o
 ·rename_i hc;exact ⟨ι,dx,dy,rx,ry,hc.1,hc.2,ans o (.bl _) hr⟩
 ·exact o.elim
theorem ad2:a1w K hNe (b0g K):=by
 intro E ι H h x y dx dy Q rx ry hr o
 unfold hNe at o
 split at o
 ·rename_i hc;exact ⟨ι,dx,dy,rx,ry,hc.1,hc.2,ans o (.bl _) hr⟩
 ·exact o.elim
end
section
variable{X:Cx}{E:XD}{K:PySem.W.Frag}
def aqq:SE:=λ_ h=>.ok (.ref h.length) (h++[.dK []])
def a0j:D->D->Hd->R D
 |.int i,.int j,h=>.ok (.int (i+j)) h
 |.str x,.str y,h=>if x.length+y.length<=LINE then .ok (.str (x++y)) h else .no
 |_,_,_=>.no
theorem a07:a1w K a0j (λx y H Q=>rI0 (λi j=>.int (i+j)) x y H Q\/∃i j,x=.str i/\y=.str j/\i.length+j.length<=sizeLine/\Q (.str (i++j)) H):=by
 intro E ι H h x y dx dy Q rx ry hr o
 cases rx with
 |int i =>
  cases ry with
  |int j=>exact .inl ⟨i,j,rfl,rfl,ans o (.int _) hr⟩
  |_=>exact o.elim
 |str i =>
  cases ry with
  |str j =>
   by_cases hc:i.length+j.length<=LINE
   ·simp only [a0j,aC hc] at o;exact .inr ⟨i,j,rfl,rfl,ll hc,ans o (.str _) hr⟩
   ·simp only [a0j,aQ hc] at o;exact o.elim
  |_=>exact o.elim
 |_=>exact o.elim
theorem avc:bootBuiltins "max" = some (.builtin "max"):=by first|exact PySem.boot_max|exact PyProof.Rows.boot_max
theorem aqr:bootBuiltins "bool" = some (.type "bool"):=by first|exact PySem.boot_bool|exact PyProof.Rows.boot_bool
theorem aii:bootBuiltins "sum" = some (.builtin "sum"):=by first|exact PySem.boot_sum|exact PyProof.Rows.boot_sum
theorem aei(h1:MG X E e g)(h2:MGs X E es ks)(hs:(assignEach (e::es) X.env).map (·.2)=assign e X.env::(assignEach es X.env).map (·.2):=by rfl):MGs X E (e::es) (a5g g ks) :=
 PGs.weak (a9a h1 h2 hs) λvs σ H Q q=>alj q
end
end MI
namespace ZP
open PySem.Builtin PySem.Builtin.SmallTypes
section
variable{prog:Program}{w:World}{A:Around}{E:Value->Shared->Prop}{s:Shared}
theorem aqs{α:Type}{Q:α->Shared->Prop}(hh:A.handled=none)(q:∀h' e,(∀b o,s.heap.get? b=some o->h'.get? b=some o)->(∃o,h'.get? e=some o/\o.cls=.type "StopIteration")->E (.ref e) {s with heap:=h' }) :
  wpAny (model prog w) A (stopIteration:Sem α) Q E s:=by
 have none_first:firstArgMember (.type "StopIteration") []=pure Value.none:=by first|rfl|(simp only [firstArgMember];rfl)
 rw [stopIteration]
 apply ae
 rw [newExc,newTuple]
 apply ae
 apply bY _ (by size_fits)
 rw [none_first,pure_bind]
 apply bY _ (by size_fits)
 apply wpAny_raiseNew_none hh
 exact q _ _ (λb o z=>ai _ (ai _ z)) ⟨_,aK _ rfl,rfl⟩
theorem alv(hi:s.heap.IsTupleIter it t i)(ht:s.heap.IsTuple t items)(hx:items[i]? = some x)
  (q:∀h',h'.IsTupleIter it t (i+1)->Heap.SameBut it s.heap h'->Q x {s with heap:=h' }):wpAny (model prog w) A (nextOf (.ref it)) Q E s:=by
 have ty:=hi.typeIs;obtain ⟨o,e1,e2,e3⟩:=id hi;obtain ⟨p,f1,f2,n,f3⟩:=ht;rw [nextOf]
 apply ae
 apply cC (name:=Str.ofString "__next__") ty dE
 apply cm dE ty fY _ (fS _)
 change wpAny (model prog w) A.in1 (field (.ref it) 0>>=_) _ _ _
 apply ae;apply fE e1 e3 (x:=.ref t) rfl
 change wpAny (model prog w) A.in1 (field (.ref it) 1>>=_) _ _ _
 apply ae;apply fE e1 e3 (x:=.int i 0) rfl
 change wpAny (model prog w) A.in1 (seqItems? (.ref t)>>=_) _ _ _
 apply ae;apply wpAny_seqItems f1 f3
 dsimp only;rw [dA,hx]
 apply ae
 obtain ⟨c,dd,dt,sl⟩:=o;simp only at e2 e3;subst e2 e3
 apply wpAny_setField e1 rfl (eM 1)
 apply aw
 exact ⟨x,rfl,aw (q _ ⟨_,cY _ e1 rfl,rfl,rfl⟩ (cO ..))⟩
theorem aqt{it t:Addr}{i:Nat}{items:Array Value}{Q:Value->Shared->Prop}(hh:A.handled=none)(hi:s.heap.IsTupleIter it t i)(ht:s.heap.IsTuple t items)(hx:items[i]? = none)
  (q:∀h' e,Heap.ExtBut it s.heap h'->(∃o,h'.get? e=some o/\o.cls=.type "StopIteration")->E (.ref e) {s with heap:=h' }):wpAny (model prog w) A (nextOf (.ref it)) Q E s:=by
 have ty:=hi.typeIs;obtain ⟨o,e1,e2,e3⟩:=id hi;obtain ⟨p,f1,f2,n,f3⟩:=ht;rw [nextOf]
 apply ae
 apply cC (name:=Str.ofString "__next__") ty dE
 apply cm dE ty fY _ (fS _)
 change wpAny (model prog w) A.in1 (field (.ref it) 0>>=_) _ _ _
 apply ae;apply fE e1 e3 (x:=.ref t) rfl
 change wpAny (model prog w) A.in1 (field (.ref it) 1>>=_) _ _ _
 apply ae;apply fE e1 e3 (x:=.int i 0) rfl
 change wpAny (model prog w) A.in1 (seqItems? (.ref t)>>=_) _ _ _
 apply ae;apply wpAny_seqItems f1 f3
 dsimp only;rw [dA,hx];dsimp only;obtain ⟨c,dd,dt,sl⟩:=o;simp only at e2 e3;subst e2 e3
 apply ae;apply eV
 apply ae;apply wpAny_setField e1 rfl (eF 1)
 apply aqs (show A.in1.handled=none from hh)
 exact λh' e k z=>q h' e (λb o nb eb=>k b o ((cO ..).extBut b o nb eb)) z
theorem aij{A:Around}(hh:A.handled=none)(it t:Addr)(ne:t≠it)(items:Array Value):Draws prog w A it [it,t] items.size (λi v=>items[i]? = some v) (λi h=>h.IsTupleIter it t i/\h.IsTuple t items) where
 live:=λ_ _ st=>let ⟨o,e,_⟩:=st.1; ⟨o,e⟩
 frame:=λ_ _ _ st k=>⟨let ⟨o,e,r⟩:=st.1; ⟨o,k it (by simp) o e,r⟩,let ⟨o,e,r⟩:=st.2; ⟨o,k t (by simp) o e,r⟩⟩
 item:=λi s Q E hi st q=>alv st.1 st.2 (bO hi) λh' a b=>q _ h' s.toks (bO hi) ⟨a,st.2.extBut b.extBut ne⟩ b
 done:=λs Q E st q=>aqt hh st.1 st.2 (by simp) q
end
end ZP
namespace ZP
open PySem.Builtin PySem.Builtin.SmallTypes L2
inductive Srk where
 |tup (a:Addr)|lst (a:Addr)|str (x:Str)
def Srk.v:Srk->V
 |.tup a=>.ref a
 |.lst a=>.ref a
 |.str x=>.str x
def its(H:Hp):Srk->Option (List V)
 |.tup a=>match H a with|some (.tup vs)=>some vs|_=>none
 |.lst a=>match H a with|some (.lst vs)=>some vs|some (.frz _ (.lst vs))=>some vs|_=>none
 |.str x=>some (a1l x)
def own(it:Addr)(t:Tok):Srk->Nat->Heap->Prop
 |.tup a,i,h=>h.IsTupleIter it a i
 |.lst a,i,h=>h.IsListIter it a i
 |.str x,i,h=>h.IsStrIter it (strIterType x) x t i
def iob(t:Tok):Srk->Obj
 |.tup a=>{cls:=.type "tuple_iterator",data:=.fields #[.ref a,.int 0 0]}
 |.lst a=>{cls:=.type "list_iterator",data:=.fields #[.ref a,.int 0 0]}
 |.str x=>{cls:=.type (strIterType x),data:=.fields #[.str x t,.int 0 0]}
def val(t:Tok):Srk->Value
 |.tup a=>.ref a
 |.lst a=>.ref a
 |.str x=>.str x t
def cont(h:Heap):Srk->List Value->Prop
 |.tup a,us=>h.IsTuple a us.toArray
 |.lst a,us=>h.IsList a us.toArray
 |.str x,us=>True
theorem b1x{h:Heap}(e:h.get? it=some (iob t k)):own it t k 0 h:=by
 cases k with
 |tup a=>exact ⟨_,e,rfl,rfl⟩
 |lst a=>exact ⟨_,e,rfl,rfl⟩
 |str x=>exact ⟨_,e,rfl,rfl⟩
theorem aik(o:own it t k i h):∃ob,h.get? it=some ob/\∀v,ob.data≠.cell v:=by
 cases k with
 |tup a=>obtain ⟨ob,e,_,d⟩:=o;exact ⟨ob,e,λv z=>by rw [d] at z;cases z⟩
 |lst a=>obtain ⟨ob,e,_,d⟩:=o;exact ⟨ob,e,λv z=>by rw [d] at z;cases z⟩
 |str x=>obtain ⟨ob,e,_,d⟩:=o;exact ⟨ob,e,λv z=>by rw [d] at z;cases z⟩
theorem aej{h':Heap}(o:own it t k i h)(kk:∀ob,h.get? it=some ob->h'.get? it=some ob):own it t k i h':=by
 cases k with
 |tup a=>obtain ⟨ob,e,r⟩:=o;exact ⟨ob,kk _ e,r⟩
 |lst a=>obtain ⟨ob,e,r⟩:=o;exact ⟨ob,kk _ e,r⟩
 |str x=>obtain ⟨ob,e,r⟩:=o;exact ⟨ob,kk _ e,r⟩
section
variable{P:Program}{w:World}{H:Hp}{s:Shared}
theorem ad3(I:Inv X pins σ H s)(e:its H k=some xs):∃us,cont s.heap k us/\((∀x,k≠.str x)->Vals xs us):=by
 cases k with
 |tup a =>
  cases q:H a with
  |none=>simp [its,q] at e
  |some o =>
   cases o with
   |tup vs =>
    simp [its,q] at e;subst e
    obtain ⟨us,r,t,_⟩:=I.tuple (SqT.of q);exact ⟨us,t,λ_=>r⟩
   |_=>simp [its,q] at e
 |lst a =>
  cases q:H a with
  |none=>simp [its,q] at e
  |some o =>
   cases o with
   |lst vs =>
    simp [its,q] at e;subst e
    obtain ⟨us,r,t,_⟩:=I.list (SqL.of q);exact ⟨us,t.isList,λ_=>r⟩
   |frz ob u =>
    cases u with
    |lst vs =>
     simp [its,q] at e;subst e
     obtain ⟨us,r,t,_⟩:=I.list (.inl (.inr ⟨_,q⟩));exact ⟨us,t.isList,λ_=>r⟩
    |_=>simp [its,q] at e
   |_=>simp [its,q] at e
 |str x=>exact ⟨[],True.intro,λn=>absurd rfl (n x)⟩
theorem ail(I:Inv X pins σ H s)(e:its H k=some xs)(hn:H it=none) :
  ∃(cs:List Addr) (P1:Nat->Value->Prop) (S1:Nat->Heap->Prop),(∀A:Around,A.handled=none->Draws X.prog X.w A it (it::cs) xs.length P1 S1)/\(∀i,own it t k i s.heap->S1 i s.heap)/\(∀i h,S1 i h->own it t k i h)/\(∀c∈cs,H c≠none) /\
   ∀i v,P1 i v->∃x,xs[i]? = some x/\RelV x v:=by
 cases k with
 |tup a =>
  obtain ⟨us,c,r⟩:=ad3 I e;have r:=r (by intro x z;cases z)
  have ha:H a≠none:=λz=>by simp [its,z] at e
  have l:us.toArray.size=xs.length:=by rw [aA,r.length]
  refine ⟨[a],λi v=>us.toArray[i]? = some v,λi h=>h.IsTupleIter it a i/\h.IsTuple a us.toArray,λA hA=>?_,λi o=>⟨o,c⟩,λi h z=>z.1,λc hc=>by rw [aB.mp hc];exact ha,λi v z=>?_⟩
  ·have:=aij (prog:=X.prog) (w:=X.w) hA it a (λy=>ha (y ▸ hn)) us.toArray
   rw [l] at this;exact this
  ·have z':us[i]? = some v:=by simpa using z
   have hi:i<xs.length:=by rw [r.length];exact (av.mp z').1
   obtain ⟨u,e1,e2⟩:=r.get (ah hi);rw [z'] at e1;cases e1
   exact ⟨_,ah hi,e2⟩
 |lst a =>
  obtain ⟨us,c,r⟩:=ad3 I e;have r:=r (by intro x z;cases z)
  have ha:H a≠none:=λz=>by simp [its,z] at e
  have l:us.toArray.size=xs.length:=by rw [aA,r.length]
  refine ⟨[a],λi v=>us.toArray[i]? = some v,λi h=>h.IsListIter it a i/\h.IsList a us.toArray,λA hA=>?_,λi o=>⟨o,c⟩,λi h z=>z.1,λc hc=>by rw [aB.mp hc];exact ha,λi v z=>?_⟩
  ·have:=Draws.list (prog:=X.prog) (w:=X.w) hA it a (λy=>ha (y ▸ hn)) us.toArray
   rw [l] at this;exact this
  ·have z':us[i]? = some v:=by simpa using z
   have hi:i<xs.length:=by rw [r.length];exact (av.mp z').1
   obtain ⟨u,e1,e2⟩:=r.get (ah hi);rw [z'] at e1;cases e1
   exact ⟨_,ah hi,e2⟩
 |str x =>
  cases e
  have l:(a1l x).length=x.cps.size:=by simp [a1l]
  refine ⟨[],λi v=>∃c u,x.cps[i]? = some c/\v=.str ⟨#[c]⟩ u,λi h=>h.IsStrIter it (strIterType x) x t i,λA hA=>?_,λi o=>o,λi h z=>z,λc hc=>(by cases hc),λi v z=>?_⟩
  ·rw [l]
   cases ha:x.cps.all (· < 128)
   ·have:=Draws.strWide (prog:=X.prog) (w:=X.w) hA it x t
    simpa [strIterType,ha] using this
   ·have:=Draws.strAscii (prog:=X.prog) (w:=X.w) hA it x t
    simpa [strIterType,ha] using this
  ·obtain ⟨c,u,e1,rfl⟩:=z;exact ⟨.str ⟨#[c]⟩,by simp [a1l,e1],⟨_,rfl⟩⟩
end
theorem aim{X:Cx}{pins:List (Addr×Obj)}{σ:St}{H:Hp}{s:Shared}{h':Heap}{t':Nat}{ch:List Addr}(I:Inv X pins σ H s)(hf:∀b∈ch,FpOk X pins H b)(k:∀b o,b∉ch->s.heap.get? b=some o->h'.get? b=some o) :
  Inv X pins σ H {s with heap:=h',toks:=t' }:=by
 have nit:∀b u,H b=some u->b∉ch:=λb u e z=>by rw [(hf b z).1] at e;cases e
 refine I.step (g':=s.gens) (d':=s.drawn) (ch:=ch) (λb hb=>?_) (λb o _ _ hc e _=>k b o hc e) (λb o _ _ hc e _=>⟨o.slots,k b o hc e⟩) (λ_ _ _ _ n=>n) (λb o hc e=>⟨o,k b o hc e⟩) (λ_ _ e=>e) (λ_ _ _ e=>e)
  (λb ps e=>⟨#[],by rw [e];simp⟩) (λm hm=>?_) (λb u e=>?_) I.bare
 ·obtain ⟨_,f1,_,f3,f4,f5⟩:=hf b hb;exact ⟨f3,f1,f4,f5⟩
 ·obtain ⟨o,es,ep,ho,r⟩:=hm;exact ⟨o,es,ep,k _ o (λz=>(hf _ z).2.1 rfl) ho,r⟩
 ·refine (I.hok b u e).stay (λc v hc q=>k c v ?_ q) (λ_ q=>q) λ_ _ q=>q
  rcases hc with z|z
  ·rw [z];exact nit b u e
  ·exact nit c _ z
theorem a9p{s:Shared}(c:cont s.heap k us)(q:Q (.ref s.heap.objs.size) {s with heap:=s.heap.push (iob t k)}) :
  wpAny (model prog w) A (pyIter (val t k)) Q E s:=by
 cases k with
 |tup a=>exact gy c q
 |lst a=>exact gK c q
 |str x=>exact wpAny_pyIter_strU q
section
variable{X:Cx}{elts:List Expr}{x1:Nat}{tpos:Pos}
theorem avd{k:Srk}(r:RelV k.v u):∃t,u=val t k:=by
 cases k with
 |tup a=>cases r;exact ⟨0,rfl⟩
 |lst a=>cases r;exact ⟨0,rfl⟩
 |str x=>obtain ⟨t,rfl⟩:=r;exact ⟨t,rfl⟩
end
end ZP
namespace MI
open L2 ZP
def srcOf(d:D)(h:Hd):Option (List D×(Hd->Prop)):=match d with
 |.tup xs=>some (xs,λ_=>True)
 |.rol xs=>some (xs,λ_=>True)
 |.str x=>some (a1z x,λ_=>True)
 |.ref i=>(match h[i]? with|some (.lst xs)=>some (xs,λh=>h[i]? = some (.lst xs))|_=>none)
 |_=>none
def azb(x y:D)(h:Hd):R Itm:=match srcOf x h,srcOf y h with
 |some (xs,c1),some (ys,c2)=>.ok ⟨(xs.zip ys).map λp=>.tup [p.1,p.2],λh=>c1 h/\c2 h⟩ h
 |_,_=>.no
def b0h(f g:SE):SI:=λτ h=>(f τ h).bind λx h1=>(g τ h1).bind λy h2=>azb x y h2
theorem ave(r:Rep K ι H v d)(hr:HRep K ι H h)(e:srcOf d h=some (xs,ck)) :
  ∃k:Srk,v=k.v/\ck h/\∀ι' H' h',Gr ι H ι' H'->HRep K ι' H' h'->ck h'->∃vs,its H' k=some vs/\Reps K ι' H' vs xs:=by
 cases r with
 |@tup a vs ys ha rs =>
  cases e
  exact ⟨.tup a,rfl,True.intro,λι' H' h' g _ _=>⟨vs,by simp [its,g.tup _ _ ha],rs.mono g⟩⟩
 |@rol a vs ys ha rs =>
  cases e
  refine ⟨.lst a,rfl,True.intro,λι' H' h' g _ _=>⟨vs,?_,rs.mono g⟩⟩;obtain ⟨o,q⟩:=ha.mono g;simp [its,q]
 |str x =>
  cases e
  exact ⟨.str x,rfl,True.intro,λι' H' h' g _ _=>⟨_,rfl,a8m x⟩⟩
 |@ref a i ha =>
  obtain ⟨ob,e1,e2⟩:=hr.at ha
  cases ob with
  |lst zs =>
   simp only [srcOf,e1] at e;cases e
   refine ⟨.lst a,rfl,e1,λι' H' h' g hr' c=>?_⟩;obtain ⟨us,q1,q2⟩:=hr'.obj i a _ (g.at ha) c;exact ⟨us,by simp [its,q1],q2⟩
  |dK _=>simp only [srcOf,e1] at e;cases e
  |dT _=>simp only [srcOf,e1] at e;cases e
  |ins _ _=>simp only [srcOf,e1] at e;cases e
 |_=>cases e
end MI
namespace MI
open L2
section
variable{P:Program}{w:World}{K:PySem.W.Frag}{mg:Str->Option Value}{base:Heap}
theorem a8b:FnOk P w K mg base CX0 k f fd ps (m5 K ps.length λ_ _=>.no) :=
 ⟨λvs H Q E h=>h.1,λA outer s H args us vs Q E hr he hb hv hs=>by obtain ⟨_,ι,ds,h,_,_,o⟩:=hs;exact o.elim⟩
end
def FrzOf(L:List Addr)(H H2:Hp):Prop:=∀a,(a∉L->H2 a=H a)/\(a∈L->∃o u,H a=some u/\H2 a=some (.frz o u))
def abe(H:Hp)(L:List Addr):Prop:=∀a∈L,(∃xs,H a=some (.lst xs))\/(∃kvs,H a=some (.dK kvs))\/(∃kvs,H a=some (.dT kvs))\/∃C dx fs,H a=some (.ins C dx fs)
def still:HO->Prop
 |.lst _=>False|.dK _=>False|.dT _=>False|.ins _ _ _=>False
 |_=>True
theorem FrzOf.still(f:FrzOf L H H2)(ab:abe H L)(e:H a=some u)(st:MI.still u):H2 a=some u:=by
 rw [(f a).1 λz=>?_]
 ·exact e
 ·rcases ab a z with ⟨_,q⟩|⟨_,q⟩|⟨_,q⟩|⟨_,_,_,q⟩<;>(rw [e] at q;cases q;exact st)
theorem Inv.frz{X:Cx}{pins:List (Addr×Obj)}{σ:St}{H:Hp}{s:Shared}{L:List Addr}(I:Inv X pins σ H s)(ab:abe H L):∃H2,FrzOf L H H2/\Inv X pins σ H2 s:=by
 have obj:∀a∈L,∀u,H a=some u->∃o,s.heap.get? a=some o:=λa ha u e=>by
  rcases ab a ha with ⟨_,q⟩|⟨_,q⟩|⟨_,q⟩|⟨_,_,_,q⟩
  ·obtain ⟨_,_,_,_,z⟩:=I.hok a _ q;exact ⟨_,z⟩
  ·obtain ⟨_,_,_,_,z⟩:=I.hok a _ q;obtain ⟨o,_,_,z,_⟩:=z;exact ⟨o,z⟩
  ·obtain ⟨_,_,_,_,o,_,_,z,_⟩:=I.hok a _ q;exact ⟨o,z⟩
  ·obtain ⟨_,_,_,z,_⟩:=I.hok a _ q;exact ⟨_,z⟩
 let H2:Hp:=λa=>if a∈L then (match s.heap.get? a,H a with|some o,some u=>some (.frz o u)|_,w=>w) else H a
 have f:FrzOf L H H2:=λa=>⟨λh=>by simp [H2,h],λh=>by
  obtain ⟨u,e⟩:∃u,H a=some u:=by
   rcases ab a h with ⟨_,q⟩|⟨_,q⟩|⟨_,q⟩|⟨_,_,_,q⟩<;>exact ⟨_,q⟩
  obtain ⟨o,eo⟩:=obj a h u e;exact ⟨o,u,e,by simp [H2,h,e,eo]⟩⟩
 refine ⟨H2,f,?_⟩;have mv:∀a u,ObjOk X.prog X.w H s.heap a u->ObjOk X.prog X.w H2 s.heap a u:=λa u x=>x.stay (λb v _ q=>q) (λc q=>f.still ab q True.intro) λc xs q=>f.still ab q True.intro;have ok:HOk X.prog X.w H2 s.heap:=λa u e=>by
  by_cases hl:a∈L
  ·obtain ⟨u0,e0⟩:∃u,H a=some u:=by
    rcases ab a hl with ⟨_,q⟩|⟨_,q⟩|⟨_,q⟩|⟨_,_,_,q⟩<;>exact ⟨_,q⟩
   obtain ⟨o,eo⟩:=obj a hl u0 e0;have e':H2 a=some (.frz o u0):=by simp [H2,hl,e0,eo]
   rw [e'] at e;cases e
   exact ⟨eo,mv a u0 (I.hok a u0 e0)⟩
  ·rw [(f a).1 hl] at e;exact mv a u (I.hok a u e)
 have fn:∀b,H b=none->H2 b=none:=λb n=>by
  rw [(f b).1 λz=>?_]
  ·exact n
  ·rcases ab b z with ⟨_,q⟩|⟨_,q⟩|⟨_,q⟩|⟨_,_,_,q⟩<;>(rw [n] at q;cases q)
 have un:Un X.fs [] H H2 s.heap s.heap:=⟨λb o q _ _ _=>q,λb o q _ _ _=>⟨o.slots,q⟩,λb o _ n _=>fn b n,λb o q _=>⟨o,q⟩,λb xs q=>f.still ab q True.intro,λb o u q=>f.still ab q True.intro,λb ps q=>⟨#[],by rw [f.still ab q True.intro];simp⟩⟩
 exact I.un (t':=s.toks) un ok
theorem abf(h:PE X e t):PE X e (λσ H Q=>t σ H λv H1=>∃L,abe H1 L/\∀H2,FrzOf L H1 H2->Q v H2):=λpins s σ H Q I q =>
 thn (h pins s σ H _ I q) λu s' ⟨v,H1,I1,r,L,ab,k⟩=>let ⟨H2,f,I2⟩:=Inv.frz I1 ab; ⟨v,H2,I2,r,k H2 f⟩
def a0x{α β:Type}(f:α->Option β):List α->Option (List β)
 |[]=>some []
 |x::xs=>match f x,a0x f xs with|some y,some ys=>some (y::ys)|_,_=>none
open Classical in
noncomputable def a1q(n:Nat)(h:Hd):Nat->D->Option D
 |0,_=>none
 |k+1,d=>if clo n d then some d else match d with
  |.tup xs=>(a0x (a1q n h k) xs).map .tup
  |.rol xs=>(a0x (a1q n h k) xs).map .rol
  |.scr xs=>(a0x (a1q n h k) xs).map .scr
  |.rod ks xs=>(a0x (a1q n h k) xs).map (.rod ks)
  |.rdT ks xs=>(a0x (a1q n h k) xs).map (.rdT ks)
  |.ins c ks xs=>(a0x (a1q n h k) xs).map (.ins c ks)
  |.ref i=>match h[i]? with
   |some (.lst xs)=>(a0x (a1q n h k) xs).map .rol
   |some (.dK kvs)=>(a0x (a1q n h k) (kvs.map (·.2))).map (.rod (kvs.map (·.1)))
   |some (.dT kvs)=>(a0x (a1q n h k) (kvs.map (·.2))).map (.rdT (kvs.map (·.1)))
   |some (.ins c kvs)=>(a0x (a1q n h k) (kvs.map (·.2))).map (.ins c (kvs.map (·.1)))
   |none=>none
  |_=>none
open Classical in
noncomputable def avf(n:Nat)(h:Hd)(k:Nat)(o:O):Option O:=if xj n o then some o else match o with
 |.lst xs=>(a0x (a1q n h k) xs).map .lst
 |.dK kvs=>(a0x (a1q n h k) (kvs.map (·.2))).map λys=>.dK ((kvs.map (·.1)).zip ys)
 |.dT kvs=>(a0x (a1q n h k) (kvs.map (·.2))).map λys=>.dT ((kvs.map (·.1)).zip ys)
 |.ins c kvs=>(a0x (a1q n h k) (kvs.map (·.2))).map λys=>.ins c ((kvs.map (·.1)).zip ys)
abbrev FU:Nat:=20
noncomputable def a8n(n:Nat):R D->R D
 |.ok d h1=>match a1q n h1 FU d,a0x (avf n h1 FU) (h1.take n) with|some d',some g=>.ok d' g|_,_=>.no
 |_=>.no
open Classical in
noncomputable def ata(n:Nat):R D->R D
 | .ok (.ref i) h1=>(match h1[i]? with
   |some o=>if n<=i/\xj n o/\∀u∈h1.take n,xj n u then .ok (.ref n) (h1.take n++[o]) else .no
   |none=>.no)
 |_=>.no
section
variable{K:PySem.W.Frag}{ι ι':List Addr}{H H' H2:Hp}{h1:Hd}{n:Nat}{L:List Addr}
theorem aek(f:FrzOf L H' H2)(ab:abe H' L)(κ:List Addr):Gw κ H' κ H2:=⟨⟨[],by simp⟩,λa vs e=>f.still ab e True.intro,λa o u e=>f.still ab e True.intro⟩
theorem n8(ih:∀{v d d'},Rep K ι H v d->f d=some d'->Rep K κ H2 v d'):∀{vs:List V} {ds ds':List D},Reps K ι H vs ds->a0x f ds=some ds'->Reps K κ H2 vs ds'
 |_,_,_,.nil,e=>by cases e;exact .nil
 |_,x::xs,_,.cons r rs,e=>by
  unfold a0x at e
  split at e
  ·rename_i y ys h1 h2;cases e
   exact .cons (ih r h1) (n8 ih rs h2)
  ·cases e
theorem a7h(hr:HRep K ι' H' h1)(hL:∀(i:Nat) a,ι'[i]? = some a->n<=i->a∈L)(f:FrzOf L H' H2)(ab:abe H' L):∀(k:Nat) {v:V} {d d':D},Rep K ι' H' v d->a1q n h1 k d=some d'->Rep K (ι'.take n) H2 v d':=by
 intro k
 induction k with
 |zero=>intro v d d' r e;cases e
 |succ k ih =>
  intro v d d' r e
  unfold a1q at e
  split at e
  ·rename_i c;cases e
   exact (r.cut c).monoW (aek f ab _)
  ·rename_i c
   cases r with
   |tup h rs =>
    simp only [aN] at e;obtain ⟨ys,e1,rfl⟩:=e;exact .tup (f.still ab h True.intro) (n8 (λr e=>ih r e) rs e1)
   |rol h rs =>
    simp only [aN] at e;obtain ⟨ys,e1,rfl⟩:=e;exact .rol (h.monoW (aek f ab ι')) (n8 (λr e=>ih r e) rs e1)
   |scr h rs =>
    simp only [aN] at e;obtain ⟨ys,e1,rfl⟩:=e;exact .scr (h.monoW (aek f ab ι')) (n8 (λr e=>ih r e) rs e1)
   |rod h ek rs =>
    simp only [aN] at e;obtain ⟨ys,e1,rfl⟩:=e;exact .rod (f.still ab h True.intro) ek (n8 (λr e=>ih r e) rs e1)
   |rdT h ek rs =>
    simp only [aN] at e;obtain ⟨ys,e1,rfl⟩:=e;exact .rdT (f.still ab h True.intro) ek (n8 (λr e=>ih r e) rs e1)
   |@ref a i ha =>
    have hi:n<=i:=by
     simp only [clo] at c;omega
    obtain ⟨o,u,e1,e2⟩:=(f a).2 (hL i a ha hi);obtain ⟨ob,h3,h4⟩:=hr.at ha;simp only [h3] at e
    cases ob with
    |lst xs =>
     simp only [aN] at e;obtain ⟨ys,e3,rfl⟩:=e;obtain ⟨vs,h5,h6⟩:=h4;rw [e1] at h5;cases h5
     exact .rol ⟨o,e2⟩ (n8 (λr e=>ih r e) h6 e3)
    |dK kvs =>
     simp only [aN] at e;obtain ⟨ys,e3,rfl⟩:=e;obtain ⟨us,h5,h6,h7⟩:=h4;rw [e1] at h5;cases h5
     exact .rod e2 h6 (n8 (λr e=>ih r e) h7 e3)
    |dT kvs =>
     simp only [aN] at e;obtain ⟨ys,e3,rfl⟩:=e;obtain ⟨us,h5,h6,h7⟩:=h4;rw [e1] at h5;cases h5
     exact .rdT e2 h6 (n8 (λr e=>ih r e) h7 e3)
    |ins c kvs =>
     simp only [aN] at e;obtain ⟨ys,e3,rfl⟩:=e;obtain ⟨C,dx,us,h5,hn,h6,h7⟩:=h4;rw [e1] at h5;cases h5
     exact .ins e2 hn h6 (n8 (λr e=>ih r e) h7 e3)
   |non=>simp only [clo,dU] at c
   |exc _ _ _=>simp only [clo,dU] at c
   |ins h hn ek rs =>
    simp only [aN] at e;obtain ⟨ys,e1,rfl⟩:=e;exact .ins (f.still ab h True.intro) hn ek (n8 (λr e=>ih r e) rs e1)
   |bl b=>simp only [clo,dU] at c
   |int b=>simp only [clo,dU] at c
   |str b=>simp only [clo,dU] at c
   |ty b=>simp only [clo,dU] at c
theorem a6o{κ:Type}{H:Hp}{us:List (κ×V)}{ks:List κ}{ys:List D}(e:us.map (·.1)=ks)(r:Reps K ι H (us.map (·.2)) ys):KRep K ι H us (ks.zip ys):=by
 have l:ks.length=ys.length:=by rw [<-e,ax,<-r.len,ax]
 refine ⟨?_,?_⟩
 ·rw [List.map_fst_zip (by omega)];exact e
 ·rw [List.map_snd_zip (by omega)];exact r
theorem aqu(hr:HRep K ι' H' h1)(hL:∀(i:Nat) a,ι'[i]? = some a->n<=i->a∈L)(f:FrzOf L H' H2)(ab:abe H' L){k:Nat}(na:a∉L)(r:ORep K ι' H' a o)(e:avf n h1 k o=some o'):ORep K (ι'.take n) H2 a o':=by
 have same:H2 a=H' a:=(f a).1 na;unfold avf at e
 split at e
 ·rename_i c;cases e
  exact (r.cut c).monoW (aek f ab _) same
 ·cases o with
  |lst xs =>
   simp only [aN] at e;obtain ⟨ys,e1,rfl⟩:=e;obtain ⟨vs,h3,h4⟩:=r;exact ⟨vs,by rw [same];exact h3,n8 (λr e=>a7h hr hL f ab k r e) h4 e1⟩
  |dK kvs =>
   simp only [aN] at e;obtain ⟨ys,e1,rfl⟩:=e;obtain ⟨us,h3,h4,h5⟩:=r;exact ⟨us,by rw [same];exact h3,a6o h4 (n8 (λr e=>a7h hr hL f ab k r e) h5 e1)⟩
  |dT kvs =>
   simp only [aN] at e;obtain ⟨ys,e1,rfl⟩:=e;obtain ⟨us,h3,h4,h5⟩:=r;exact ⟨us,by rw [same];exact h3,a6o h4 (n8 (λr e=>a7h hr hL f ab k r e) h5 e1)⟩
  |ins c kvs =>
   simp only [aN] at e;obtain ⟨ys,e1,rfl⟩:=e;obtain ⟨C,dx,us,h3,hn,h4,h5⟩:=r;exact ⟨C,dx,us,by rw [same];exact h3,hn,a6o h4 (n8 (λr e=>a7h hr hL f ab k r e) h5 e1)⟩
theorem a2r{α β:Type}{f:α->Option β}:∀{xs:List α} {ys:List β},a0x f xs=some ys->xs.length=ys.length/\∀(i:Nat) y,ys[i]? = some y->∃x,xs[i]? = some x/\f x=some y
 |[],_,e=>by cases e;exact ⟨rfl,λi y e=>by simp at e⟩
 |x::xs,ys,e=>by
  unfold a0x at e
  split at e
  ·rename_i y ys h1 h2;cases e
   obtain ⟨l,g⟩:=a2r h2;refine ⟨by simp [l],λi z e=>?_⟩
   cases i with
   |zero=>simp at e;subst e;exact ⟨x,rfl,h1⟩
   |succ i=>simpa using g i z (by simpa using e)
  ·cases e
theorem ain(hr:HRep K ι' H' h1)(M:List Addr)(hM:∀a∈M,a∈ι'):abe H' M:=λa ha=>by
 obtain ⟨i,hi⟩:=c6 (hM a ha);obtain ⟨o,_,q⟩:=hr.at hi
 cases o with
 |lst xs=>obtain ⟨vs,h,_⟩:=q;exact .inl ⟨_,h⟩
 |dK xs=>obtain ⟨vs,h,_⟩:=q;exact .inr (.inl ⟨_,h⟩)
 |dT xs=>obtain ⟨vs,h,_⟩:=q;exact .inr (.inr (.inl ⟨_,h⟩))
 |ins _ _=>obtain ⟨C,dx,vs,h,_⟩:=q;exact .inr (.inr (.inr ⟨_,_,_,h⟩))
theorem a7i{α:Type}{l:List α}(nd:l.Nodup){i j:Nat}{a:α}(h1:l[i]? = some a)(h2:l[j]? = some a):i=j:=by
 obtain ⟨l1,e1⟩:=av.mp h1;obtain ⟨l2,e2⟩:=av.mp h2
 rcases Nat.lt_trichotomy i j with l|l|l
 ·exact absurd (e1.trans e2.symm) (cf.mp nd i j l1 l2 l)
 ·exact l
 ·exact absurd (e2.trans e1.symm) (cf.mp nd j i l2 l1 l)
theorem avh(g:Gr ι H ι' H')(f:FrzOf L H' H2)(ab:abe H' L)(hL:∀a∈L,H a=none)(hm:∀a∈m,H a=none):Gr ι H (ι++m) H2:=by
 refine ⟨⟨m,rfl,hm⟩,λa vs e=>f.still ab (g.tup a vs e) True.intro,λa o u e=>f.still ab (g.frz a o u e) True.intro,λa u e hn=>?_,λa u e=>?_⟩
 ·rw [(f a).1 λz=>by rw [hL a z] at e;cases e]
  exact g.oth a u e hn
 ·obtain ⟨u',e'⟩:=g.kp a u e;rw [(f a).1 λz=>by rw [hL a z] at e;cases e]
  exact ⟨u',e'⟩
theorem aio{d d':D}{v:V}{g':Hd}(g:Gr ι H ι' H')(rb:Rep K ι' H' v d)(hr:HRep K ι' H' h1)(e:a8n ι.length (.ok d h1)=.ok d' g') :
  ∃L,abe H' L/\∀H2,FrzOf L H' H2->Gr ι H ι H2/\Rep K ι H2 v d'/\HRep K ι H2 g':=by
 obtain ⟨m,rfl,hm⟩:=g.pre;have tk:(ι++m).take ι.length=ι:=by simp
 have ab:abe H' m:=ain hr m λa ha=>aJ _ ha;have hL:∀(i:Nat) a,(ι++m)[i]? = some a->ι.length<=i->a∈m:=λi a e hi=>by
  rw [aH hi] at e;exact bD e
 refine ⟨m,ab,λH2 f=>?_⟩;unfold a8n at e;simp only at e
 split at e
 ·rename_i dd gg e1 e2;cases e
  refine ⟨by simpa using avh g f ab hm (m:=[]) (by simp),by have:=a7h hr hL f ab FU rb e1;rwa [tk] at this,?_⟩
  obtain ⟨l,gt⟩:=a2r e2;have hl:=hr.len;have ln:ι.length<=h1.length:=by rw [<-hl];simp
  refine ⟨(bZ.mp hr.nd).1,by rw [<-l,aV];omega,λi a o q1 q2=>?_⟩
  obtain ⟨x,hx,fx⟩:=gt i o q2;have hi:i<ι.length:=(av.mp q1).1;rw [fm,aC hi] at hx;have q3:(ι++m)[i]? = some a:=by rw [aP hi];exact q1
  have na:a∉m:=λz=>(bZ.mp hr.nd).2.2 a (bD q1) a z rfl;have:=aqu hr hL f ab na (hr.obj i a x q3 hx) fx
  rwa [tk] at this
 ·cases e
theorem alw(g:Gr ι H ι' H')(rb:Rep K ι' H' v d)(hr:HRep K ι' H' h1)(e:ata ι.length (.ok d h1)=.ok d' g') :
  ∃b,H b=none/\Gr ι H (ι++[b]) H'/\Rep K (ι++[b]) H' v d'/\HRep K (ι++[b]) H' g':=by
 obtain ⟨m,rfl,hm⟩:=g.pre;have tk:(ι++m).take ι.length=ι:=by simp
 have up:∀b,Gw ι H' (ι++[b]) H':=λb=>⟨⟨[b],rfl⟩,λ_ _ h=>h,λ_ _ _ h=>h⟩
 cases rb with
 |@ref b i hb =>
  unfold ata at e;simp only at e
  split at e
  ·rename_i ob ho
   split at e
   ·rename_i hc;obtain ⟨hi,c1,c2⟩:=hc;cases e
    have hb':=hb;rw [aH hi] at hb';have bm:b∈m:=bD hb';obtain ⟨nd1,nd2,nd3⟩:=bZ.mp hr.nd;have hl:=hr.len;have ln:ι.length<=h1.length:=by rw [<-hl];simp
    have lt:(h1.take ι.length).length=ι.length:=by rw [aV];omega
    refine ⟨b,hm b bm,⟨⟨[b],rfl,by simpa using hm b bm⟩,g.tup,g.frz,g.oth,g.kp⟩,.ref (by simp),?_⟩
    refine ⟨bZ.mpr ⟨nd1,by simp,λa ha c hc z=>nd3 a ha c (by rw [aB.mp hc];exact bm) z⟩,by simp [lt],λj a o q1 q2=>?_⟩
    by_cases hj:j<ι.length
    ·rw [aP hj] at q1;rw [aP (by omega)] at q2
     have q2':=q2;rw [fm,aC hj] at q2';have:=(hr.obj j a o (by rw [aP hj];exact q1) q2').cut (c2 o (bD q2))
     rw [tk] at this;exact this.monoW (up b) rfl
    ·have hj2:j<(ι++[b]).length:=(av.mp q1).1;have:j=ι.length:=by simp at hj2;omega
     subst this;rw [aH (ay _)] at q1;rw [aH (by omega),lt] at q2
     simp at q1 q2
     subst q1 q2;have:=(hr.obj i b ob hb ho).cut c1;rw [tk] at this;exact this.monoW (up b) rfl
   ·cases e
  ·cases e
 |_=>cases e
end
noncomputable def sZ(f:SE):SE:=λτ h=>a8n h.length (f τ h)
abbrev b1y(Q:VK):VK:=λv H1=>∃L,abe H1 L/\∀H2,FrzOf L H1 H2->Q v H2
theorem ay6(q:lift K E (vh K) (sZ fa) σ H Q):lift K E (vh K) fa σ H (b1y Q):=by
 obtain ⟨ι,τ,h,S,Rh,o⟩:=q;refine ⟨ι,τ,h,S,Rh,?_⟩;unfold sZ at o;rw [<-Rh.len] at o
 cases hf:fa τ h with
 |ok d h1 =>
  rw [hf] at o
  intro ι' H' v g r hr
  cases hz:a8n ι.length (.ok d h1) with
  |ok d' g' =>
   rw [hz] at o;obtain ⟨L,ab,k⟩:=aio g r hr hz;refine ⟨L,ab,λH2 f=>?_⟩;obtain ⟨k1,k2,k3⟩:=k H2 f;exact o ι H2 v k1 k2 k3
  |ex c hx=>unfold a8n at hz;simp only at hz;split at hz<;>cases hz
  |no=>rw [hz] at o;exact o.elim
 |ex c h1=>rw [hf] at o;exact o.elim
 |no=>rw [hf] at o;exact o.elim
theorem ym(ha:ME X E e fa):ME X E e (sZ fa):=PE.weak (abf ha) λσ H Q q=>ay6 q
def refOf:D->Option Nat
 |.ref i=>some i
 |_=>none
def a1a(ds:List D):List Nat:=ds.filterMap refOf
def a0k:Nat->List D->List D
 |_,[]=>[]
 |k,d::ds=>match d with
  |.ref _=>.ref k::a0k (k+1) ds
  |d=>d::a0k k ds
def vg:Hd->List Nat->List O->Hd
 |h,i::is,o::os=>vg (h.set i o) is os
 |h,_,_=>h
def isRef(d:D):Prop:=∃i,d=.ref i
open Classical in
noncomputable def aon(m:Bool)(F:SF)(ds:List D)(h:Hd):R D:=match a0x (λi=>h[i]?) (a1a ds) with
 |none=>.no
 | some os=>if (a1a ds).Nodup/\(∀d∈ds,clo 0 d\/isRef d)/\(∀o∈os,xj 0 o) then
   (match (if m then ata os.length (F (a0k 0 ds) os) else a8n os.length (F (a0k 0 ds) os)) with
   | .ok d h1=>if ∀o∈h1,xj 0 o then
     (if m then .ok (.ref h.length) (vg h (a1a ds) h1++h1.drop os.length)
      else if clo 0 d then .ok d (vg h (a1a ds) h1) else .no) else .no
   |_=>.no)
  else .no
noncomputable def je(m:Bool)(n:Nat)(F:SF):SF:=λds h=>if ds.length=n then aon m F ds h else .no
section
variable{K:PySem.W.Frag}{ι ι':List Addr}{H H' H2:Hp}{h h1:Hd}{n:Nat}
theorem aoo(κ:List Addr):Gw [] H κ H:=⟨⟨κ,rfl⟩,λ_ _ h=>h,λ_ _ _ h=>h⟩
theorem Rep.any(r:Rep K ι H v d)(c:MI.clo 0 d)(κ:List Addr):Rep K κ H v d:=by
 have:=r.cut c
 rw [gI] at this;exact this.monoW (aoo κ)
theorem ORep.any(r:ORep K ι H a o)(c:xj 0 o)(κ:List Addr):ORep K κ H a o:=by
 have:=r.cut c
 rw [gI] at this;exact this.monoW (aoo κ) rfl
theorem abg{α:Type}(l:List α):∀{is:List Nat},(∀i∈is,i<l.length)->∃ys,a0x (λi=>l[i]?) is=some ys
 |[],_=>⟨[],rfl⟩
 |i::is,hi=>by
  obtain ⟨ys,e⟩:=abg l (is:=is) λj hj=>hi j (aL _ hj);have:=hi i aR;exact ⟨l[i]::ys,by unfold a0x;rw [e,ah this]⟩
theorem a5n:∀{ds:List D} {vs:List V} {pre κ:List Addr},Reps K ι H vs ds->(∀d∈ds,clo 0 d\/isRef d)->a0x (λi=>ι[i]?) (a1a ds)=some κ->Reps K (pre++κ) H vs (a0k pre.length ds)
 |[],_,_,_,.nil,_,_=>.nil
 |d::ds,_,pre,κ,.cons r rs,hc,e=>by
  have hc':∀d∈ds,clo 0 d\/isRef d:=λx hx=>hc x (aL _ hx)
  by_cases hd:isRef d
  ·obtain ⟨i,rfl⟩:=hd;have e':a0x (λi=>ι[i]?) (i::a1a ds)=some κ:=e;unfold a0x at e'
   split at e'
   ·rename_i a κ' h1 h2
    cases e'
    cases r with
    |ref ha =>
     rw [ha] at h1;cases h1
     have:=a5n (pre:=pre++[a]) rs hc' h2
     simp only [cL,fL,ar,aG] at this;refine .cons (.ref ?_) this;rw [aH (ay _)];simp
   ·cases e'
  ·have c:=(hc d aR).resolve_right hd;have e1:a1a (d::ds)=a1a ds:=by
    unfold a1a
    cases d<;>first|rfl|exact absurd ⟨_,rfl⟩ hd
   have e2:a0k pre.length (d::ds)=d::a0k pre.length ds:=by
    cases d<;>first|rfl|exact absurd ⟨_,rfl⟩ hd
   rw [e1] at e;rw [e2];exact .cons (r.any c _) (a5n rs hc' e)
theorem a0p:∀{is:List Nat} {os:List O} {h:Hd},(vg h is os).length=h.length
 |[],_,_=>by simp [vg]
 |_::_,[],_=>by simp [vg]
 |i::is,o::os,h=>by rw [vg,a0p,hZ]
theorem a5o:∀{is:List Nat} {os:List O} {h:Hd},i∉is->(vg h is os)[i]? = h[i]?
 |[],_,_,_=>by simp [vg]
 |_::_,[],_,_=>by simp [vg]
 |j::is,o::os,h,n=>by
  rw [vg,a5o λz=>n (aL _ z),cI λz=>n (by rw [z];exact aR)]
theorem abh:∀{is:List Nat} {os:List O} {h:Hd} {j:Nat},is.Nodup->is[j]? = some i->os[j]? = some o->i<h.length->(vg h is os)[i]? = some o
 |[],_,_,_,_,e,_,_=>by simp at e
 |_::_,[],_,_,_,_,e,_=>by simp at e
 |k::is,o'::os,h,j,nd,e1,e2,hl=>by
  cases j with
  |zero =>
   simp at e1 e2
   subst e1 e2;rw [vg,a5o (dR.mp nd).1,cb hl]
  |succ j =>
   rw [vg];exact abh (j:=j) (dR.mp nd).2 (by simpa using e1) (by simpa using e2) (by simpa using hl)
theorem abi{α:Type}{l:List α}(nl:l.Nodup){is:List Nat}{ys:List α}(e:a0x (λi=>l[i]?) is=some ys)(ni:is.Nodup):ys.Nodup:=by
 obtain ⟨le,g⟩:=a2r e;refine cf.mpr λi j hi hj lt z=>?_;obtain ⟨x,h1,h2⟩:=g i _ (ah hi);obtain ⟨y,h3,h4⟩:=g j _ (ah hj);rw [<-z] at h4;have:=a7i nl h2 h4;subst this;have:=a7i ni h1 h3;omega
theorem ael{is:List Nat}{κ m:List Addr}{g:Hd}(hr:HRep K ι H h)(e1:a0x (λi=>ι[i]?) is=some κ)(nd:is.Nodup)(gr:Gr κ H (κ++m) H2)(hg:HRep K (κ++m) H2 g)(cg:∀o∈g,xj 0 o)(hm:m.length<=1) :
  Gr ι H (ι++m) H2/\HRep K (ι++m) H2 (vg h is g++g.drop κ.length):=by
 obtain ⟨l1,g1⟩:=a2r e1;have mn:∀a∈m,H a=none:=by
  obtain ⟨m',e,hm'⟩:=gr.pre;rw [List.append_cancel_left e];exact hm'
 have sub:∀a∈κ,a∈ι:=λa ha=>by
  obtain ⟨j,hj⟩:=c6 ha;obtain ⟨i,_,q⟩:=g1 j a hj;exact bD q
 have some_of:∀a∈ι,∃u,H a=some u:=λa ha=>by
  obtain ⟨i,hi⟩:=c6 ha;obtain ⟨o,_,q⟩:=hr.at hi;obtain ⟨u,q,_⟩:=q.some;exact ⟨u,q⟩
 have G:Gr ι H (ι++m) H2:=⟨⟨m,rfl,mn⟩,gr.tup,gr.frz,λa u e n=>gr.oth a u e λz=>n (sub a z),gr.kp⟩;have lg:=hg.len;rw [ar] at lg;refine ⟨G,?_,?_,λj a o q1 q2=>?_⟩
 ·refine bZ.mpr ⟨hr.nd,(bZ.mp hg.nd).2.1,λa ha b hb z=>?_⟩;obtain ⟨u,q⟩:=some_of a ha;rw [z,mn b hb] at q;cases q
 ·rw [ar,ar,a0p,aW,hr.len];omega
 ·by_cases hj:j<ι.length
  ·rw [aP hj] at q1;rw [aP (by rw [a0p,<-hr.len];exact hj)] at q2
   by_cases hp:j∈is
   ·obtain ⟨k,hk⟩:=c6 hp;have hkl:k<κ.length:=by rw [<-l1];exact (av.mp hk).1
    obtain ⟨i,h3,h4⟩:=g1 k _ (ah hkl);rw [hk] at h3;cases h3
    rw [q1] at h4;have hkg:k<g.length:=by omega
    have e5:=abh (h:=h) nd hk (ah hkg) (by rw [<-hr.len];exact hj)
    rw [e5] at q2;cases q2
    have ea:(κ++m)[k]? = some a:=by rw [aP hkl,ah hkl];exact h4.symm
    exact (hg.obj k a _ ea (ah hkg)).any (cg _ (dG hkg)) _
   ·rw [a5o hp] at q2;have r:=hr.obj j a o q1 q2;obtain ⟨u,hu,_⟩:=r.some;have na:a∉κ:=λz=>by
     obtain ⟨k,hk⟩:=c6 z;obtain ⟨i,h3,h4⟩:=g1 k a hk;have:=a7i hr.nd q1 h4;subst this;exact hp (bD h3)
    exact r.mono G (by rw [hu];exact gr.oth a u hu na)
  ·have q1':=q1;rw [aH (by omega)] at q1
   rw [aH (by rw [a0p,<-hr.len];omega),a0p,<-hr.len,List.getElem?_drop] at q2
   have ea:(κ++m)[κ.length+(j-ι.length)]? = some a:=by rw [aH (by omega)];simpa using q1
   exact (hg.obj _ a o ea q2).any (cg o (bD q2)) _
theorem a9q{m:Bool}{F:SF}{vs:List V}{ds:List D}{Q:VK}(r:Reps K ι H vs ds)(hr:HRep K ι H h)(o:out K X0 (vh K) ι H (je m n F ds h) Q)(E:XK) :
  m5 K n F vs H (λv H1=>∃L,abe H1 L/\∀H2,FrzOf L H1 H2->Q v H2) E:=by
 unfold je at o
 split at o
 ·rename_i hl;refine ⟨by rw [r.len];exact hl,?_⟩
  unfold aon at o
  split at o
  ·exact o.elim
  ·rename_i os hos
   split at o
   ·rename_i hc;obtain ⟨nd,hd,hcl⟩:=hc;obtain ⟨l0,g0⟩:=a2r hos;obtain ⟨κ,e1⟩:=abg ι (is:=a1a ds) λi hi=>by
     obtain ⟨j,hj⟩:=c6 hi;have hjl:j<os.length:=by rw [<-l0];exact (av.mp hj).1
     obtain ⟨x,h3,h4⟩:=g0 j _ (ah hjl);rw [hj] at h3;cases h3
     rw [hr.len];exact (av.mp h4).1
    obtain ⟨l1,g1⟩:=a2r e1;have lk:κ.length=os.length:=by omega
    have R0:Reps K κ H vs (a0k 0 ds):=by simpa using a5n (pre:=[]) r hd e1
    have H0:HRep K κ H os:=by
     refine ⟨abi hr.nd e1 nd,lk,λj a ob q1 q2=>?_⟩;obtain ⟨i,h3,h4⟩:=g1 j a q1;obtain ⟨i',h5,h6⟩:=g0 j ob q2;rw [h3] at h5;cases h5
     exact (hr.obj i a ob h4 h6).any (hcl ob (bD q2)) _
    refine ⟨κ,a0k 0 ds,os,R0,H0,?_⟩
    cases hF:F (a0k 0 ds) os with
    |no=>rw [hF] at o;cases m<;>exact o.elim
    |ex c hx=>rw [hF] at o;cases m<;>exact o.elim
    |ok d h1 =>
     rw [hF] at o
     intro ι' H' v g rb hr1
     rw [<-lk] at o
     cases m with
     |false =>
      simp only [bT,eN] at o
      cases hz:a8n κ.length (.ok d h1) with
      |ok d' g' =>
       rw [hz] at o;simp only at o;obtain ⟨L,ab,k⟩:=aio g rb hr1 hz;refine ⟨L,ab,λH2 f=>?_⟩;obtain ⟨k1,k2,k3⟩:=k H2 f
       split at o
       ·rename_i cg
        split at o
        ·rename_i cd;have q:=ael (m:=[]) hr e1 nd (by simpa using k1) (by simpa using k3) cg (by simp)
         have lg:=k3.len;have dr:g'.drop κ.length=[]:=bQ (by omega)
         rw [dr,b9,b9] at q;exact o ι H2 v q.1 (k2.any cd _) q.2
        ·exact o.elim
       ·exact o.elim
      |ex c hx=>rw [hz] at o;exact o.elim
      |no=>rw [hz] at o;exact o.elim
     |true =>
      simp only [dS] at o
      cases hz:ata κ.length (.ok d h1) with
      |ok d' g' =>
       rw [hz] at o;simp only at o;obtain ⟨b,hb,k1,k2,k3⟩:=alw g rb hr1 hz;refine ⟨[],λa ha=>(by simp at ha),λH2 f=>?_⟩
       have e2:H2=H':=by funext a;exact (f a).1 (by simp)
       subst e2
       split at o
       ·rename_i cg;have q:=ael (m:=[b]) hr e1 nd k1 k3 cg (by simp)
        refine o (ι++[b]) H2 v q.1 ?_ q.2;have hd':d'=.ref κ.length:=by
         unfold ata at hz
         split at hz
         ·rename_i i h2 hh
          injection hh with z1 z2
          split at hz
          ·split at hz
           ·injection hz with z3 z4;exact z3.symm
           ·cases hz
          ·cases hz
         ·cases hz
        subst hd'
        cases k2 with
        |ref hk =>
         rw [aH (ay _)] at hk;simp at hk;subst hk;exact .ref (by rw [<-hr.len];simp)
       ·exact o.elim
      |ex c hx=>rw [hz] at o;exact o.elim
      |no=>rw [hz] at o;exact o.elim
   ·exact o.elim
 ·exact o.elim
end
theorem aem(m:Bool){X:Cx}(G:Dn X.prog X.w X.K X.mg X.base k x ps (m5 X.K n F) f fd)(hr:Room k X.A)(hg:Gl X x)(ha:MA X X0 (e::es) ka)
  (hdb:(x == ("__debug__" : Str))=false:=by decide) (he:starEach (e::es) X.env=(false,eval e X.env)::starEach es X.env:=by rfl) (hpl:(backTo pos (starEach es X.env)).any (·.1)=false:=by rfl):ME X X0 (.Call (.Name x p) (e::es) [] pos) (sA (je m n F) ka):=by
 refine PE.weak (abf (aco G.ok hr hg G.m G.kp G.b .nil ale ha hdb he hpl)) ?_
 rintro σ H Q ⟨ι,τ,h,S,Rh,o⟩
 refine ⟨ι,τ,h,S,Rh,g8 o λds h1 ι1 H1 vs g1 r1 hr1 o1=>?_⟩;rw [b9];exact a9q r1 hr1 o1 _
theorem aip(m:Bool){X:Cx}(G:Dn X.prog X.w X.K X.mg X.base k x ps (m5 X.K n F) f fd)(hr:Room k X.A)(hg:Gl X x)(hdb:(x == ("__debug__" : Str))=false:=by decide) :
  ME X X0 (.Call (.Name x p) [] [] pos) (sA (je m n F) dq):=by
 refine PE.weak (abf (al9 G.ok hr hg G.m G.kp G.b .nil ale hdb)) ?_
 rintro σ H Q ⟨ι,τ,h,S,Rh,o⟩
 exact a9q (vs:=[]) .nil Rh o E0
def agw:SS:=λ_ _=>.no
section
variable{X:Cx}{E:XD}
theorem azc:MS X E st agw:=λ_ _ _ _ _ _ ⟨_,_,_,_,_,o⟩=>o.elim
theorem a8o:MSs X E st agw:=λ_ _ _ _ _ _ ⟨_,_,_,_,_,o⟩=>o.elim
end
theorem aiq(h:PS X st t):PS X st (λD σ H=>t {D with nx:=λσ' H1=>∃L,abe H1 L/\∀H2,FrzOf L H1 H2->D.nx σ' H2} σ H):=λpins s σ H D I q =>
 thn (h pins s σ H _ I q) λf s' k=>by
  cases f with
  |next =>
   obtain ⟨σ',H1,I1,L,ab,k⟩:=k;obtain ⟨H2,f,I2⟩:=Inv.frz I1 ab;exact ⟨σ',H2,I2,k H2 f⟩
  |brk=>exact k
  |cont=>exact k
  |ret u=>exact k
theorem ais(q:a9i K E (nu i f) N σ H):lift K E (vh K) f σ H (λv H1=>N.nx (σ.set i (some v)) H1):=by
 obtain ⟨ι,τ,h,S,Rh,o⟩:=q;exact ⟨ι,τ,h,S,Rh,v7 o λd h1 ι1 H1 v g1 r1 hr1 o1=>o1 ι1 H1 _ (.refl _ _) ((S.mono g1).set r1 i) hr1⟩
theorem aqv(ht:aku K n g t)(q:lift K E (vh K) (a5i fi t fe ix) σ H Q):aht (lift K E (aoe K) fi) (qu n ix) g (lift K E (vh K) fe) σ H Q:=by
 obtain ⟨ι,τ,h,Sr,Rh,o⟩:=q;refine ⟨ι,τ,h,Sr,Rh,g8 o λit h1 ι1 H1 J g1 r1 hr1 o1=>?_⟩
 by_cases hl:it.xs.length<=LINE
 ·rw [aC hl] at o1;exact aee r1 ht (a3y (Sr.mono g1) ix) hr1 hl o1
 ·rw [aQ hl] at o1;exact o1.elim
theorem alx(ht:aku K n g t)(q:lift K E (vh K) (ut fi t fc fe ix) σ H Q):a5b (lift K E (aoe K) fi) (qu n ix) g (lift K E acv fc) (lift K E (vh K) fe) σ H Q:=by
 obtain ⟨ι,τ,h,Sr,Rh,o⟩:=q;refine ⟨ι,τ,h,Sr,Rh,g8 o λit h1 ι1 H1 J g1 r1 hr1 o1=>?_⟩
 by_cases hl:it.xs.length<=LINE
 ·rw [aC hl] at o1;exact ab7 r1 ht (a3y (Sr.mono g1) ix) hr1 hl o1
 ·rw [aQ hl] at o1;exact o1.elim
section
variable{X:Cx}{E:XD}{elt tg iter cnd:Expr}{scope:Scope}{pos spos pos':Pos}{cl:List (Str×Addr)}{ts fr:List Str}{ix:List Nat}{fi:SI}{g:TG}{t:D->Option Sd}{fe:SE}{fc:ST}{i:Nat}{x:Str}
theorem aly(hN:X.N.Nodup)(hi':X.N[i]? = some x)(hx:Loc X.env.scope x)(hc:X.calm=true)(S:CSc X scope cl ts fr ix)(hi:MI X E tg iter fi)(hg:∀C fp s H,PG (cxC X (ts++fr) scope cl C fp s H) tg g)(ht:aku X.K ts.length g t)(he:∀C fp s H,ME (cxC X (ts++fr) scope cl C fp s H) E elt fe)
  (hs:∀x,foldedSetIterable iter X.env x=pure x:=by intro _;rfl) (hsw:swapsWith (.ListComp elt [⟨tg,iter,[],0⟩] scope pos) (some (.Name x pos')) spos.line X.env=pure true:=by rfl) (hf:X.fn x=true\/X.env.scope.names.lookup x=some .local:=by first|exact .inl rfl|exact .inr rfl|assumption) :
  MS X E (.Assign [.Name x pos'] (.ListComp elt [⟨tg,iter,[],0⟩] scope pos) spos) (nu i (sZ (a5i fi t fe ix))) :=
 PS.weak (aiq (alg (te:=lift X.K E (vh X.K) fe) hN hi' hx hc S hi hg he hs hsw hf)) λN σ H q=>aqv ht (ay6 (ais q))
theorem alz(hN:X.N.Nodup)(hi':X.N[i]? = some x)(hx:Loc X.env.scope x)(hc:X.calm=true)(S:CSc X scope cl ts fr ix)(hi:MI X E tg iter fi)(hg:∀C fp s H,PG (cxC X (ts++fr) scope cl C fp s H) tg g)(ht:aku X.K ts.length g t)(he:∀C fp s H,ME (cxC X (ts++fr) scope cl C fp s H) E elt fe)
  (hq:∀C fp s H,MT (cxC X (ts++fr) scope cl C fp s H) E cnd fc)
  (hs:∀x,foldedSetIterable iter X.env x=pure x:=by intro _;rfl) (hsw:swapsWith (.ListComp elt [⟨tg,iter,[cnd],0⟩] scope pos) (some (.Name x pos')) spos.line X.env=pure true:=by rfl) (hf:X.fn x=true\/X.env.scope.names.lookup x=some .local:=by first|exact .inl rfl|exact .inr rfl|assumption) :
  MS X E (.Assign [.Name x pos'] (.ListComp elt [⟨tg,iter,[cnd],0⟩] scope pos) spos) (nu i (sZ (ut fi t fc fe ix))) :=
 PS.weak (aiq (afz (te:=lift X.K E (vh X.K) fe) (tc:=lift X.K E acv fc) hN hi' hx hc S hi hg he hq hs hsw hf)) λN σ H q=>alx ht (ay6 (ais q))
end
theorem a0q(Fu:Fun K x qual st f fd)(S:FnScope N ps (dh st))
  (hb:∀(cdv:Value) (A:Around) (outer:List Env) (s:Shared) (H:Hp) (E:XK),Room k (A.deeper (PyProof.Rows.envOfC qual (dh st) s.heap.objs.size f cdv))->MSs (agu CX0 P w K mg base N qual (dh st) f cdv A outer s H E).nox X0 (uh st) b) :
  FnOk P w K mg base CX0 (k+1) f fd ps (m5 K ps.length (km b N.length)):=av1 Fu S hb λds h _ _ _=>Rf.same rfl
end MI
namespace MI
open L2 HT
theorem ag1{s:Shared}(ht:PyProof.Rows.IsTup s.heap t items)(hs:s.heap.IsSliceOf sl vl vu .none)(pl:IsPart vl lo)(pu:IsPart vu hi)
  (hw:HT.sIx items.size 0 lo=0/\HT.sIx items.size items.size hi=items.size) (h:Q (.ref t) s):wpAny (model prog w) A (getItem (.ref t) (.ref sl)) Q E s:=by
 obtain ⟨os,f1,f2,f3⟩:=id hs;have ty:s.TypeIs (.ref sl) "slice":=⟨os,f1,f2⟩;have tt:s.TypeIs (.ref t) "tuple":=ht.typeIs;rw [getItem]
 try apply bW
 first|(apply ae;apply aw)|skip
 apply ae;apply wpAny_sequenceKey tt (by decide)
 apply ae
 apply cC (name:=Str.ofString "__getitem__") tt bK
 apply cm bK tt PyProof.Rows.entry_tuple_getitem _ (PyProof.Rows.args_tuple_getitem _ _)
 change wpAny (model prog w) A.in1 (Builtin.Tuple.tupleItemsOf (.ref t)>>=_) _ _ s
 apply ae;apply PyProof.Rows.tupleItemsOf_ ht
 apply ae;apply fJ ty
 rw [aC (by decide)]
 apply ae;apply HT.a1k hs pl pu
 rw [hw.1,hw.2];dsimp only;rw [aC (by simp)]
 apply ae
 rw [Builtin.Tuple.tupleIsExact]
 apply ae;apply fJ tt
 apply aw
 rw [aC (by decide)]
 apply ae;apply eV
 apply aw
 exact ⟨_,rfl,aw h⟩
def b0i(K:PySem.W.Frag):V->Option Int->Option Int->Hp->VK->Prop:=λx lo hi H Q=>∃a xs,x=.ref a/\SqT K H a xs/\whole xs.length lo hi/\Q (.ref a) H
theorem am0:SlR X (b0i X.K):=by
 intro pins s σ H x v vl vu lo hi sl Q I rx hs pl pu h
 obtain ⟨a,xs,rfl,hx,hw,q⟩:=h;cases rx
 obtain ⟨its,r,ht,hz⟩:=I.tuple hx;have hlen:its.toArray.size=xs.length:=by rw [aA];exact r.length.symm
 exact ⟨"tuple",_,bK.lookup,ht.typeIs,ag1 ht hs pl pu (by rw [hlen];exact hw) ⟨.ref a,H,I,rfl,q⟩⟩
def ad4(d:D)(lo hi:Option Int)(h:Hd):R D:=match d with
 |.tup xs=>if whole xs.length lo hi then .ok (.tup xs) h else .ok (.tup (a75 xs lo hi)) h
 |d=>gSl d lo hi h
def a8p(f:SE)(l u:SO):SE:=λτ h=>(f τ h).bind λd h1=>(l τ h1).bind λlo h2=>(u τ h2).bind λhi h3=>ad4 d lo hi h3
theorem aqw(rx:Rep K ι H x d)(hr:HRep K ι H h)(o:out K E (vh K) ι H (ad4 d lo hi h) Q):(az5 x lo hi H Q\/az1 K x lo hi H Q\/az3 K x lo hi H Q)\/b0i K x lo hi H Q:=by
 cases rx with
 |@tup p vs xs hp r =>
  by_cases hc:whole xs.length lo hi
  ·simp only [ad4,aC hc] at o;exact .inr ⟨p,vs,rfl,SqT.of hp,by rw [r.len];exact hc,ans o (.tup hp r) hr⟩
  ·simp only [ad4,aQ hc] at o;exact .inl (.inr (.inl ⟨p,vs,rfl,SqT.of hp,by rw [r.len];exact hc,a0z (a4a r lo hi) hr o⟩))
 |non=>exact o.elim
 |bl _=>exact o.elim
 |int _=>exact o.elim
 |ty _=>exact o.elim
 |str z=>exact .inl (aeh (.str z) hr o)
 |rol a b=>exact .inl (aeh (.rol a b) hr o)
 |scr a b=>exact .inl (aeh (.scr a b) hr o)
 |rod a b c=>exact o.elim
 |rdT a b c=>exact o.elim
 |exc a b c=>exact o.elim
 |ins _ _ _ _=>exact o.elim
 |ref a=>exact .inl (aeh (.ref a) hr o)
theorem a0r(he:ME X E e fa)(hl:MO X E lo l)(hu:MO X E hi u):ME X E (.Subscript e (.Slice lo hi none p2) pos) (a8p fa l u):=by
 refine PE.weak (alc ((aun.or (auc.or aq9)).or am0) he hl hu) ?_
 rintro σ H Q ⟨ι,τ,h,S,Rh,o⟩
 refine ⟨ι,τ,h,S,Rh,g8 o λd h1 ι1 H1 v g1 r1 hr1 o1=>?_⟩;refine ⟨ι1,τ,h1,S.mono g1,hr1,g8 o1 λlo h2 ι2 H2 lv g2 r2 hr2 o2=>?_⟩;refine ⟨ι2,τ,h2,(S.mono g1).mono g2,hr2,g8 o2 λhi h3 ι3 H3 hv g3 r3 hr3 o3=>?_⟩
 cases r2;cases r3
 exact aqw ((r1.mono g2).mono g3) hr3 o3
end MI
namespace TPM
open PySem.W L2 HT MI
theorem yo:fillsNumberSlot (.type "tuple") "mul" = pure false :=
 fillsNumberSlot_seq (id := "tuple.__mul__") (r:=some (.builtin "tuple.__rmul__")) eQ.lookup (by decide +kernel) F.slot_tuple_rmul.lookup (by decide +kernel)
theorem ait(t:Addr)(items:Array Value)(n:Nat)(dd:Option Addr)(sl:Array (Option Value))(x:Int)(u:Tok)(h0:items.isEmpty=false)(h2:2<=x)(h3:x<2^63)(hz:items.size*x.toNat<=sizeLine) :
  Meets (Builtin.«tuple.__mul__» ⟨[.ref t,.int x u],[]⟩) (λ_ R s=>s.heap.get? t=some {cls:=.type "tuple",dict:=dd,data:=.seq items n,slots:=sl}/\R (.ok (.ret (.ref s.heap.objs.size))) {s with heap:=s.heap.push {cls:=.type "tuple",data:=.seq (List.foldl (λx1 x2=>x1++x2) #[] (List.replicate x.toNat items))} }) :=
 .of_wp λprog w A R s h=>by
  obtain ⟨hp,g,d,tk,os⟩:=s;obtain ⟨hl,h⟩:=h;have c1:¬ (decide (x < -2^63) || decide (x≥2^63))=true:=by
   rw [bL,cP,cP];omega
  have c2:¬ (items.isEmpty || x == 1)=true:=by
   rw [h0,ia];simp;omega
  have c3:¬ (decide (x<=0) || items.isEmpty)=true:=by
   rw [h0,bS,cP];omega
  have ex:((items.size:Nat):Int)*x=((items.size*x.toNat:Nat):Int):=by
   rw [i5,Int.toNat_of_nonneg (by omega)]
  have sl':(sizeLine:Nat)<=(2^63-1) / 8:=by decide
  have c4:¬ (items.size:Int)*x > (2^63-1) / 8:=by rw [ex];omega
  have c5:¬ Builtin.Tuple.tupleTooMany ((items.size:Int)*x)=true:=by
   rw [ex];simp only [Builtin.Tuple.tupleTooMany,cP];omega
  wp_walk
  rw [aQ c1]
  wp_walk
  rw [aQ c2]
  wp_walk
  rw [aQ c3]
  wp_walk
  rw [aQ c4]
  wp_walk
  rw [aQ c5]
  wp_walk
  have fs:¬ (List.foldl (λx1 x2=>x1++x2) #[] (List.replicate x.toNat items)).size > sizeLine:=by
   have:=foldl_rep items.toList x.toNat []
   rw [dC,Array.toArray_toList] at this;rw [show (#[]:Array Value)=([]:List Value).toArray from rfl,this,aA,len_rep,aT,eU]
   omega
  rw [aQ fs]
  wp_walk
  exact ⟨_,rfl,h⟩
theorem a2b(a:Int)(t:Tok)(l:Addr)(items:Array Value)(n:Nat)(dd:Option Addr)(sl:Array (Option Value)) :
  Meets (Builtin.«int.__rmul__» ⟨[.int a t,.ref l],[]⟩) (λ_ R s=>s.heap.get? l=some {cls:=.type "tuple",dict:=dd,data:=.seq items n,slots:=sl}/\R (.ok (.ret Value.notImplemented)) s):=by
 refine .of_wp λprog w A R s h=>?_;obtain ⟨hp,g,d,tk,os⟩:=s;obtain ⟨hl,h⟩:=h
 wp_walk
 exact ⟨_,rfl,h⟩
theorem a7j:seqRepeat? (.type "tuple")=pure (some (.builtin "tuple.__mul__")):=by
 unfold seqRepeat?;rw [seqSlot_of (T := "tuple") (name := "__mul__") (id := "tuple.__mul__") eQ.lookup (by decide +kernel),seqSlot_of (T := "tuple") (name := "__rmul__") (id := "tuple.__rmul__") F.slot_tuple_rmul.lookup (by decide +kernel)]
 rfl
def am1(K:PySem.W.Frag):R2:=λx y H Q=>∃a k xs,x=.ref a/\y=.int k/\SqT K H a xs/\xs≠[]/\2<=k/\k<2^63/\xs.length*k.toNat<=sizeLine/\∀p,H p=none->Q (.ref p) (upd H p (.tup (List.replicate k.toNat xs).flatten))
theorem aqx:OpR X (binaryOp .Mult) (am1 X.K):=by
 intro pins s σ H x y v u Q I rx ry h
 obtain ⟨a,k,xs,rfl,rfl,ha,hx,h1,h2,hz,q⟩:=h;cases rx
 obtain ⟨t,rfl⟩:=ry;obtain ⟨its,r1,p1,_⟩:=I.tuple ha;obtain ⟨⟨cls,dd,data,sl⟩,ho,hc,n,hd⟩:=id p1;simp only at hc hd;subst hc hd;have he:its.toArray.isEmpty=false:=by
  cases its with
  |nil=>exact (hx (r1.nil_iff.mp rfl)).elim
  |cons _ _=>rfl
 have hz2:its.toArray.size*k.toNat<=sizeLine:=by rw [aA,<-r1.length];exact hz
 have hnew:List.foldl (λx1 x2=>x1++x2) #[] (List.replicate k.toNat its.toArray)=(List.replicate k.toNat its).flatten.toArray:=by
  have:=foldl_rep its k.toNat []
  rw [dC] at this;exact this
 refine cR (T := "tuple") (U := "int") (by decide) ⟨_,ho,rfl⟩ (λs'=>eC s' k t) yo fh cD a7j eO.lookup
  (cN cD (eC s k t) eP (eI _ _) (a2b k t a its.toArray n dd sl)
   ⟨ho,rfl,⟨_,ho,rfl⟩,cN eQ ⟨_,ho,rfl⟩ gQ (gB _ _) (ait a its.toArray n dd sl k t he h1 h2 hz2) ⟨ho,?_⟩⟩)
 rw [hnew];refine ⟨.ref s.heap.objs.size,_,I.laid (t':=s.toks) (o:=.tup (List.replicate k.toNat xs).flatten) (λb ob q=>ai _ q) (ay _) ?_,rfl,q _ (I.hok.fresh (ay _))⟩;exact ⟨by rw [len_rep,eU];exact hz,_,r1.rep k.toNat,PyProof.Rows.IsTup.new _ _⟩
end TPM
namespace MI
open L2 TPM
open Classical in
noncomputable def aiu(x y:D)(h:Hd):R D:=match x,y with
 |.tup xs,.int k=>if (xs≠[]/\2<=k/\k<2^63)/\xs.length*k.toNat<=LINE then .ok (.tup (List.replicate k.toNat xs).flatten) h else .no
 |x,y=>av2 x y h
theorem a9r:a1w K aiu (λx y H Q=>(rI CMul (λi j=>.int (i*j)) x y H Q\/auj x y H Q)\/am1 K x y H Q):=by
 intro E ι H h x y dx dy Q rx ry hr o
 cases rx with
 |@tup a vs xs ha rs =>
  cases ry with
  |int k =>
   simp only [aiu] at o
   split at o
   ·rename_i hc;refine .inr ⟨a,k,vs,rfl,rfl,SqT.of ha,λz=>?_,hc.1.2.1,hc.1.2.2,ll (by rw [rs.len];exact hc.2),a0z (rs.flat _) hr o⟩
    subst z;cases rs
    exact hc.1.1 rfl
   ·exact o.elim
  |_=>exact o.elim
 |int i=>exact .inl (ai6 _ _ _ _ _ _ _ _ _ (.int i) ry hr o)
 |ref e=>exact .inl (ai6 _ _ _ _ _ _ _ _ _ (.ref e) ry hr o)
 |_=>exact o.elim
end MI
namespace L2
open PyProof.Rows
theorem am2:b09 X (ay2 X.K):=by
 intro pins s σ H o i ov iv Q I ro ri h
 obtain ⟨p,xs,k,z,rfl,rfl,hq,he,q⟩:=h;cases ro
 obtain ⟨t,rfl⟩:=ri;obtain ⟨its,r,pl,hz⟩:=I.list hq;obtain ⟨j,h1,h2,h3,h4,h5⟩:=a9d he;obtain ⟨w,ew,rw'⟩:=r.get h2;have len:=r.length;have l63:=a5v;have done:EP X pins σ Q w s:=⟨z,H,I,rw',q⟩
 by_cases neg:k<0
 ·have ej:(k+(its.toArray.size:Int)).toNat=j:=by
   rw [hX neg h4] at h1;rw [aA,<-len];exact bH h1
  exact wpAny_getItem_list_neg pl.isList neg (by rw [aA];omega) (by omega) (by rw [ej];simpa using ew) done
 ·have ej:k.toNat=j:=by
   rw [i8 (by omega) h5] at h1
   exact bH h1
  exact wpAny_getItem_list pl.isList (by omega) (by omega) (by rw [ej];simpa using ew) done
end L2
namespace MI
open L2
def akv(x y:D)(h:Hd):R D:=match x,y with
 |.ref p,.int i=>(match h[p]? with|some (.lst xs)=>(match atI xs i with|some d=>.ok d h|none=>.no)|_=>.no)
 |_,_=>.no
theorem aqy:a1w K akv (ay2 K):=by
 intro E ι H h x y dx dy Q rx ry hr o
 cases rx with
 |@ref p i hp =>
  cases ry with
  |int k =>
   simp only [akv] at o
   split at o
   ·rename_i xs hx;obtain ⟨vs,h3,h4⟩:=hr.lst hp hx
    split at o
    ·rename_i d he;obtain ⟨v,h1,h2⟩:=aeg h4 he;exact ⟨p,vs,k,v,rfl,rfl,SqL.of h3,h1,ans o h2 hr⟩
    ·exact o.elim
   ·exact o.elim
  |_=>exact o.elim
 |_=>exact o.elim
def a2c(g:D->D->Hd->R D)(fo fi fe:SE):SS:=λτ h=>(fo τ h).fl λo h1=>(fi τ h1).fl λi h2=>(akv o i h2).fl λx h3=>(fe τ h3).fl λy h4=>(g x y h4).fl λz h5=>match put o i z h5 with|some h6=>.nx τ h6|none=>.no
section
variable{X:Cx}{E:XD}{e o i:Expr}{fa fb fc:SE}{pos:Pos}
theorem a9s(ho:ME X E o fa)(hi:ME X E i fb)(he:ME X E e fc)(hp:OpR X (inplaceOp op) r)(hs:a1w X.K gg r)
  (ha:∀ov iv new,augStore i ov iv new=(do holding [new,ov,iv] (setItem ov iv new);release [new,ov,iv] [];pure .next):=by intros;rfl):MS X E (.AugAssign (.Subscript o i tpos) op e pos) (a2c gg fa fb fc):=by
 refine PS.weak (apu ho hi am2 he hp set_list ha) ?_
 rintro N σ H ⟨ι,τ,h,S,Rh,oo⟩
 refine ⟨ι,τ,h,S,Rh,v7 oo λd h1 ι1 H1 v g1 r1 hr1 o1=>?_⟩;refine ⟨ι1,τ,h1,S.mono g1,hr1,v7 o1 λd2 h2 ι2 H2 u g2 r2 hr2 o2=>?_⟩;refine aqy E ι2 H2 h2 v u d d2 _ (r1.mono g2) r2 hr2 (v7 o2 λd3 h3 ι3 H3 w g3 r3 hr3 o3=>?_);have S3:=((S.mono g1).mono g2).mono g3;refine ⟨ι3,τ,h3,S3,hr3,v7 o3 λd4 h4 ι4 H4 y g4 r4 hr4 o4=>?_⟩;refine hs E ι4 H4 h4 w y d3 d4 _ (r3.mono g4) r4 hr4 (v7 o4 λd5 h5 ι5 H5 z g5 r5 hr5 o5=>?_)
 cases hq:put d d2 d5 h5 with
 |none=>rw [hq] at o5;exact o5.elim
 |some h6 =>
  rw [hq] at o5;exact ai1 ((((r1.mono g2).mono g3).mono g4).mono g5) (((r2.mono g3).mono g4).mono g5) r5 hr5 hq λH' g6 hr6=>o5 ι5 H' σ g6 (((S3.mono g4).mono g5).mono g6) hr6
end
end MI
namespace TPM
open PySem.W L2 HT MI
theorem ag2(t b:Addr)(items2:Array Value)(n n2:Nat)(dd dd2:Option Addr)(sl sl2:Array (Option Value)) :
  Meets (Builtin.«tuple.__add__» ⟨[.ref t,.ref b],[]⟩) (λ_ R s=>s.heap.get? t=some {cls:=.type "tuple",dict:=dd,data:=.seq #[] n,slots:=sl}/\s.heap.get? b=some {cls:=.type "tuple",dict:=dd2,data:=.seq items2 n2,slots:=sl2}/\R (.ok (.ret (.ref b))) s):=by
 refine .of_wp λprog w A R s h=>?_;obtain ⟨hp,g,d,tk,os⟩:=s;obtain ⟨hl,hb,h⟩:=h
 wp_walk
 refine ei sub_tuple_self ?_
 wp_walk
 exact ⟨_,rfl,h⟩
def avi(K:PySem.W.Frag):R2:=λx y H Q=>∃a b ys,x=.ref a/\y=.ref b/\SqT K H a []/\SqT K H b ys/\Q (.ref b) H
theorem aqz:OpR X (binaryOp .Add) (avi X.K):=by
 intro pins s σ H x y v u Q I rx ry h
 obtain ⟨a,b,ys,rfl,rfl,ha,hb,q⟩:=h;cases rx
 cases ry
 obtain ⟨its,r1,p1,_⟩:=I.tuple ha;obtain ⟨its2,r2,p2,_⟩:=I.tuple hb;cases r1
 obtain ⟨⟨cls,dd,data,sl⟩,ho,hc,n,hd⟩:=id p1;obtain ⟨⟨cls2,dd2,data2,sl2⟩,ho2,hc2,n2,hd2⟩:=id p2;simp only at hc hd hc2 hd2;subst hc hd hc2 hd2;exact concat_meets ⟨_,ho,rfl⟩ ⟨_,ho2,rfl⟩ hG seq_tuple_add F.slot_tuple_add F.entry_tuple_add (F.args_tuple_add_2 _ _) (ag2 a b its2.toArray n n2 dd dd2 sl sl2) ⟨ho,ho2,⟨.ref b,H,I,rfl,q⟩⟩
end TPM
namespace MI
open L2 TPM
end MI
namespace TPM
open PySem.W L2 HT MI PyProof.Rows
end TPM
namespace MI
open L2 TPM
end MI
namespace L2
open PyProof.Rows
section
variable{X:Cx}
theorem Inv.lstR(I:Inv X pins σ H s)(hH:Rd H l (.lst xs)):xs.length<=sizeLine/\∃(its:List Value) (n:Nat),Vals xs its/\xs.length=its.length/\s.heap.get? l=some {cls:=.type "list",data:=.seq its.toArray n}:=by
 obtain ⟨z,its,n,r,e⟩:=hH.ok I.hok;exact ⟨z,its,n,r,r.length,e⟩
def avj:R2:=λx y H Q=>∃l b xs zs,x=.ref l/\y=.ref b/\Rd H l (.lst xs)/\Rd H b (.lst zs)/\xs.length+zs.length<=sizeLine/\∀p,H p=none->Q (.ref p) (upd H p (.lst (xs++zs)))
theorem ar0:OpR X (binaryOp .Add) avj:=λpins s σ H x y v u Q I rx ry ⟨l,b,xs,zs,ex,ey,h1,h2,hz,q⟩=>by
 subst ex ey;cases rx
 cases ry
 obtain ⟨_,as,_,va,la,ea⟩:=I.lstR h1;obtain ⟨_,bs,_,vb,lb,eb⟩:=I.lstR h2;have app:as.toArray++bs.toArray=(as++bs).toArray:=by simp
 refine PySem.P.add_list ea eb ?_ (by simp;omega)
 rw [app];exact ⟨.ref _,_,I.lnew (t':=s.toks) (va.append vb) (by simpa using hz),rfl,q _ I.fresh⟩
def avk:V->List V->Hp->VK->Prop:=λx vs H Q=>∃l b xs zs,x=.ref l/\vs=[.ref b]/\H l=some (.lst xs)/\Rd H b (.lst zs)/\xs.length+zs.length<=sizeLine/\Q .non (upd H l (.lst (xs++zs)))
theorem a2s:MtM X "list.extend" avk:=λpins s σ H x vs v us Q I rx rv ⟨l,b,xs,zs,ex,ev,h1,h2,hz,q⟩=>by
 subst ex ev;cases rx
 obtain ⟨u,rfl,ru⟩:=rv.one;cases ru
 obtain ⟨_,as,n,va,la,ea⟩:=I.lstM h1;obtain ⟨_,bs,m,vb,lb,eb⟩:=I.lstR h2;have few:as.toArray.size+bs.toArray.size<=sizeLine:=by simp;omega
 have long:¬ (!as.toArray.isEmpty && Builtin.List.listTooLong (as.toArray.size+bs.toArray.size))=true:=by rw [a3v few,eD];exact aM
 exact cN F.slot_list_extend ⟨_,ea,rfl⟩ F.entry_list_extend (F.args_list_extend_2 _ _) (AutoSeq1.list_extend_list_list_0 l as.toArray n b bs.toArray m long (by simp;omega) (by omega))
  ⟨ea,eb,.non,_,I.lset (its':=as++bs) h1 ea (by simp) (va.append vb) (by simpa using hz),rfl,q⟩
def avl:R2:=λx y H Q=>∃l k xs,x=.ref l/\y=.int k/\Rd H l (.lst xs) /\ -(2^63)<=k/\k<2^63/\xs.length*k.toNat<=sizeLine/\∀p,H p=none->Q (.ref p) (upd H p (.lst (List.replicate k.toNat xs).flatten))
theorem ar3(its:List Value)(k:Nat):List.foldl (λx1 x2=>x1++x2) #[] (List.replicate (if its.toArray.isEmpty=true then 0 else k) its.toArray)=(List.replicate k its).flatten.toArray:=by
 have g:∀m:Nat,List.foldl (λx1 x2=>x1++x2) #[] (List.replicate m its.toArray)=(List.replicate m its).flatten.toArray:=λm=>by simpa using foldl_rep its m []
 cases its with
 |nil=>simp
 |cons a r=>rw [aQ (by simp),g]
theorem ar4:OpR X (binaryOp .Mult) avl:=λpins s σ H x y v u Q I rx ry ⟨l,k,xs,ex,ey,h1,k1,k2,hz,q⟩=>by
 subst ex ey;cases rx
 obtain ⟨t,rfl⟩:=ry;obtain ⟨_,as,n,va,la,ea⟩:=I.lstR h1;have few:as.toArray.size*k.toNat<=sizeLine:=by rw [aA,<-la];exact hz
 have top:(sizeLine:Nat)<=(2^63-1) / 8:=by decide
 refine cR (T := "list") (U := "int") (by decide) ⟨_,ea,rfl⟩ (λs'=>eC s' k t) noFill_list_mul fh cD repeat_list eO.lookup
  (cN cD (eC s k t) eP (eI _ _) (int___rmul___int_list k t l as.toArray n)
   ⟨ea,rfl,⟨_,ea,rfl⟩,cN F.slot_list_mul ⟨_,ea,rfl⟩ F.entry_list_mul (F.args_list_mul_2 _ _)
    (fk l as.toArray n k t (by rw [fitsIndex_both k1 k2];exact aM) (by omega) (by rw [a3v few];exact aM)) ⟨ea,?_⟩⟩)
 rw [ar3];exact ⟨.ref _,_,I.lnew (t':=s.toks) (va.rep k.toNat) (by rw [len_rep,eU];exact hz),rfl,q _ I.fresh⟩
end
end L2
namespace MI
open L2 TPM
def yt(d:D)(h:Hd):Option (List D):=match d with
 |.rol xs=>some xs
 |.ref i=>(match h[i]? with|some (.lst xs)=>some xs|_=>none)
 |_=>none
section
variable{K:PySem.W.Frag}{ι:List Addr}{H:Hp}{h:Hd}
theorem a1b(r:Rep K ι H x d)(hr:HRep K ι H h)(e:yt d h=some xs):∃a vs,x=.ref a/\Rd H a (.lst vs)/\Reps K ι H vs xs:=by
 cases r with
 |@rol a vs ys hp rs=>cases e;exact ⟨a,vs,rfl,.inr hp,rs⟩
 |@ref a i hp =>
  obtain ⟨ob,e1,e2⟩:=hr.at hp;simp only [yt,e1] at e
  cases ob with
  |lst ys=>cases e;obtain ⟨vs,h3,h4⟩:=e2;exact ⟨a,vs,rfl,.inl h3,h4⟩
  |_=>cases e
 |_=>cases e
def iu:D->D->Hd->R D
 |.int i,.int j,h=>.ok (.int (i+j)) h
 |.str x,.str y,h=>if x.length+y.length<=LINE then .ok (.str (x++y)) h else .no
 |.tup [],.tup ys,h=>.ok (.tup ys) h
 |.tup (x::xs),.tup ys,h=>if (x::xs).length+ys.length<=LINE then .ok (.tup (x::xs++ys)) h else .no
 |x,y,h=>match yt x h,yt y h with
  |some xs,some ys=>if xs.length+ys.length<=LINE then .ok (.ref h.length) (h++[.lst (xs++ys)]) else .no
  |_,_=>.no
theorem aiv(e1:yt x h=some xs)(e2:yt y h=some ys):iu x y h=if xs.length+ys.length<=LINE then .ok (.ref h.length) (h++[.lst (xs++ys)]) else .no:=by
 cases x<;>first|(cases e1;done)|(cases y<;>first|(cases e2;done)|(simp only [iu,e1,e2]))
theorem ar5(x y:D)(h:Hd):(∃i j,x=.int i/\y=.int j)\/(∃i j,x=.str i/\y=.str j)\/(∃xs ys,x=.tup xs/\y=.tup ys)\/(∃xs ys,yt x h=some xs/\yt y h=some ys)\/iu x y h=.no:=by
 cases e1:yt x h with
 |some xs =>
  cases e2:yt y h with
  |some ys=>exact .inr (.inr (.inr (.inl ⟨xs,ys,rfl,rfl⟩)))
  |none =>
   refine .inr (.inr (.inr (.inr ?_)))
   cases x<;>first|(cases e1;done)|(simp only [iu,e1,e2])
 |none =>
  cases x with
  |int i=>cases y<;>first|exact .inl ⟨_,_,rfl,rfl⟩|exact .inr (.inr (.inr (.inr rfl)))
  |str i=>cases y<;>first|exact .inr (.inl ⟨_,_,rfl,rfl⟩)|exact .inr (.inr (.inr (.inr rfl)))
  |tup i=>cases y<;>first|exact .inr (.inr (.inl ⟨_,_,rfl,rfl⟩))|(cases i<;>exact .inr (.inr (.inr (.inr rfl))))
  |_=>refine .inr (.inr (.inr (.inr ?_)));simp only [iu,e1]
theorem am3:a1w K iu (λx y H Q=>(rI0 (λi j=>.int (i+j)) x y H Q\/(∃i j,x=.str i/\y=.str j/\i.length+j.length<=sizeLine/\Q (.str (i++j)) H)\/aud K x y H Q\/avj x y H Q)\/avi K x y H Q):=by
 intro E ι H h x y dx dy Q rx ry hr o
 rcases ar5 dx dy h with ⟨i,j,rfl,rfl⟩|⟨i,j,rfl,rfl⟩|⟨xs,ys,rfl,rfl⟩|⟨xs,ys,e1,e2⟩|e
 ·cases rx;cases ry
  exact .inl (.inl ⟨i,j,rfl,rfl,ans o (.int _) hr⟩)
 ·cases rx;cases ry
  simp only [iu] at o
  split at o
  ·rename_i hc;exact .inl (.inr (.inl ⟨i,j,rfl,rfl,ll hc,ans o (.str _) hr⟩))
  ·exact o.elim
 ·cases rx with
  |@tup a vs _ ha r1 =>
  cases ry with
  |@tup b us _ hb r2 =>
  cases xs with
  |nil=>cases r1;exact .inr ⟨a,b,us,rfl,rfl,SqT.of ha,SqT.of hb,ans o (.tup hb r2) hr⟩
  |cons z xs =>
   simp only [iu] at o
   split at o
   ·rename_i hc;refine .inl (.inr (.inr (.inl ⟨a,b,vs,us,rfl,rfl,SqT.of ha,SqT.of hb,λz=>(by subst z;cases r1),ll (by rw [r1.len,r2.len];exact hc),λz=>?_,λ_=>?_⟩)))
    ·subst z;cases r2
     rw [b9] at o;exact ans o (.tup ha r1) hr
    ·exact a0z (r1.app r2) hr o
   ·exact o.elim
 ·rw [aiv e1 e2] at o;obtain ⟨a,vs,rfl,h1,h2⟩:=a1b rx hr e1;obtain ⟨b,us,rfl,h3,h4⟩:=a1b ry hr e2
  split at o
  ·rename_i hc;exact .inl (.inr (.inr (.inr ⟨a,b,vs,us,rfl,rfl,h1,h3,ll (by rw [h2.len,h4.len];exact hc),zc (h2.app h4) hr o⟩)))
  ·exact o.elim
 ·rw [e] at o;exact o.elim
theorem j7(ha:ME X E a fa)(hb:ME X E b fb):ME X E (.BinOp a .Add b pos) (s2 iu fa fb) :=
 acx (OpR.or (au3.or (afo.or (aq7.or ar0))) aqz) am3 ha hb
open Classical in
noncomputable def yp(x y:D)(h:Hd):R D:=match y with
 |.int k=>(match x with
  |.int i=>if CMul i k then .ok (.int (i*k)) h else .no
  |_=>match yt x h with
   |some xs=>if (-(2^63)<=k/\k<2^63)/\xs.length*k.toNat<=LINE then .ok (.ref h.length) (h++[.lst (List.replicate k.toNat xs).flatten]) else .no
   |none=>.no)
 |_=>.no
theorem am4:a1w K yp (λx y H Q=>rI CMul (λi j=>.int (i*j)) x y H Q\/avl x y H Q):=by
 intro E ι H h x y dx dy Q rx ry hr o
 cases dy with
 |int k =>
  obtain rfl:=aib ry
  cases hx:yt dx h with
  |some xs =>
   obtain ⟨a,vs,rfl,h1,h2⟩:=a1b rx hr hx;have o':out K E (vh K) ι H (if (-(2^63)<=k/\k<2^63)/\xs.length*k.toNat<=LINE then .ok (.ref h.length) (h++[.lst (List.replicate k.toNat xs).flatten]) else .no) Q:=by
    cases dx<;>first|(cases hx;done)|(simp only [yp,hx] at o;exact o)
   split at o'
   ·rename_i hc;exact .inr ⟨a,k,vs,rfl,rfl,h1,hc.1.1,hc.1.2,ll (by rw [h2.len];exact hc.2),zc (h2.flat _) hr o'⟩
   ·exact o'.elim
  |none =>
   cases dx with
   |int i =>
    obtain rfl:=aib rx
    by_cases hc:CMul i k
    ·simp only [yp,aC hc] at o;exact .inl ⟨i,k,rfl,rfl,hc,ans o (.int _) hr⟩
    ·simp only [yp,aQ hc] at o;exact o.elim
   |_=>simp only [yp,hx] at o;exact o.elim
 |_=>exact o.elim
theorem a3n(ha:ME X E a fa)(hb:ME X E b fb):ME X E (.BinOp a .Mult b pos) (s2 yp fa fb):=acx (ao3.or ar4) am4 ha hb
def a7k:D->List D->Hd->R D
 |.ref i,[.tup ys],h=>(match h[i]? with|some (.lst xs)=>if xs.length+ys.length<=LINE then .ok .non (h.set i (.lst (xs++ys))) else .no|_=>.no)
 |.ref i,[y],h=>(match h[i]?,yt y h with|some (.lst xs),some ys=>if xs.length+ys.length<=LINE then .ok .non (h.set i (.lst (xs++ys))) else .no|_,_=>.no)
 |_,_,_=>.no
theorem a6p:aza K a7k (λx vs H Q=>avk x vs H Q\/aeb K x vs H Q):=by
 intro E ι H h x dx xs ds Q rx r hr o
 unfold a7k at o
 split at o
 ·rename_i i ys
  cases rx with
  |@ref p _ hp =>
   cases r with
   |cons r1 rs =>
    cases rs
    cases r1 with
    |@tup b us zs hb rb =>
     split at o
     ·rename_i xs hx;obtain ⟨vs,h3,h4⟩:=hr.lst hp hx
      split at o
      ·rename_i hc;exact .inr ⟨p,b,vs,us,rfl,rfl,h3,SqT.of hb,ll (by rw [h4.len,rb.len];exact hc),a9k (h4.app rb) hr hp .non o⟩
      ·exact o.elim
     ·exact o.elim
 ·rename_i i y _
  cases rx with
  |@ref p _ hp =>
   cases r with
   |cons r1 rs =>
    cases rs
    split at o
    ·rename_i xs ys hx hy;obtain ⟨vs,h3,h4⟩:=hr.lst hp hx;obtain ⟨b,us,rfl,h5,h6⟩:=a1b r1 hr hy
     split at o
     ·rename_i hc;exact .inl ⟨p,b,vs,us,rfl,rfl,h3,h5,ll (by rw [h4.len,h6.len];exact hc),a9k (h4.app h6) hr hp .non o⟩
     ·exact o.elim
    ·exact o.elim
 ·exact o.elim
end
end MI
namespace MI
open L2
def aiw(d:D)(h:Hd):Option (List Int):=match d with
 |.ref i=>(match h[i]? with|some (.lst xs)=>a5m xs|_=>none)
 |.rol xs=>a5m xs
 |_=>none
theorem aix(r:Rep K ι H v d)(hr:HRep K ι H h)(e:aiw d h=some ns):∃p,v=.ref p/\SqL K H p (ns.map V.int):=by
 unfold aiw at e
 split at e
 ·cases r with
  |@ref p _ hp =>
   split at e
   ·rename_i xs hx;obtain ⟨vs,h3,h4⟩:=hr.lst hp hx;exact ⟨p,rfl,SqL.of (by rw [h3,a2q h4 e])⟩
   ·cases e
 ·cases r with
  |@rol p vs xs hp r=>exact ⟨p,rfl,by rw [<-a2q r e];exact hp.l⟩
 ·cases e
end MI
namespace L2
open PyProof.Rows
end L2
namespace MI
open L2
end MI
namespace L2
open PyProof.Rows
def ixI(n:Int):List Int->Option Nat
 |[]=>none
 |a::l=>if a=n then some 0 else (ixI n l).map (·+1)
end L2
namespace MI
open L2
def b0j:D->Option Key
 |.int i=>some (.inl i)
 |.str x=>some (.inr x)
 |_=>none
def b1z:D->Option (List Key)
 |.tup xs=>a0x b0j xs
 |_=>none
def putD{κ:Type}[DecidableEq κ](kvs:List (κ×D))(k:κ)(d:D):List (κ×D):=if (kvs.any λkv=>decide (kv.1=k))=true then kvs.map λkv=>if kv.1=k then (kv.1,d) else kv else kvs++[(k,d)]
section
variable{K:PySem.W.Frag}{ι:List Addr}{H:Hp}{h:Hd}
variable{X:Cx}{E:XD}{a b e o i:Expr}{fa fb fc:SE}{pos:Pos}
def b21(o k v:D)(h:Hd):Option Hd:=match o with
 |.ref i=>(match h[i]? with
  |some (.dK kvs)=>(match b0j k with|some kk=>if kvs.length<LINE then some (h.set i (.dK (putD kvs kk v))) else none|none=>none)
  |some (.dT kvs)=>(match b1z k with|some kk=>if kvs.length<LINE then some (h.set i (.dT (putD kvs kk v))) else none|none=>none)
  |_=>none)
 |_=>none
def am5(fe fo fi:SE):SS:=λτ h=>(fe τ h).fl λv h1=>(fo τ h1).fl λo h2=>(fi τ h2).fl λk h3=>match b21 o k v h3 with|some h4=>.nx τ h4|none=>.no
end
end MI
namespace ZP
open PySem.Builtin PySem.Builtin.SmallTypes L2
def a5y(it:Addr):Obj:={cls:=.type "enumerate",data:=.fields #[.none,.bool false,.ref it,rawInt 0,.none,.none]}
theorem aiy(t:Tok)(k:Srk)(us:List Value):Meets (Builtin.«enumerate.__new__» ⟨[.type "enumerate",val t k],[]⟩)
  (λ_ R s=>cont s.heap k us/\R (.ok (.ret (.ref (s.heap.objs.size+1)))) {s with heap:=(s.heap.push (iob t k)).push (a5y s.heap.objs.size)}) :=
 .of_wp λprog w A R s h=>by
  obtain ⟨hp,g,d,tk,os⟩:=s;obtain ⟨c,h⟩:=h;have sub:=sub_enumerate;have c':cont (Shared.heap ⟨hp,g,d,tk,os⟩) k us:=c;have fin:R (.ok (.ret (.ref (hp.push (iob t k)).objs.size))) {heap:=(hp.push (iob t k)).push (a5y hp.objs.size),gens:=g,drawn:=d,toks:=tk,os:=os}:=by simpa [dN] using h
  wp_walk
  refine wpAny_stack_any λst=>aw ?_
  split
  ·rename_i cl _ _ _ _ _
   cases (cl == Value.type "enumerate")
   ·wp_walk using a9p (t:=t) c'
    exact ⟨_,rfl,fin⟩
   ·wp_walk using a9p (t:=t) c'
    exact ⟨_,rfl,fin⟩
  ·wp_walk using a9p (t:=t) c'
   exact ⟨_,rfl,fin⟩
def ItE(k:Srk):It where
 go:=λi H=>∃xs x,its H k=some xs/\xs[i]? = some x
 yld:=λi H v H'=>∃xs x p,its H k=some xs/\xs[i]? = some x/\H p=none/\v=.ref p/\H'=upd H p (.tup [.int i,x])
 stop:=λi H=>∃xs,its H k=some xs/\i=xs.length
def tnE(e it:Addr)(t:Tok)(k:Srk)(i:Nat)(h:Heap):Prop:=(∃old,IsEnum h e it i old)/\own it t k i h
theorem aiz(ne:e≠it):Turn P w K (.Tuple elts x1 pos) (ItE k) [e,it] e (tnE e it t k) where
 mem:=by simp
 obj:=λi h st b hb=>by
  obtain ⟨⟨old,h1⟩,h4⟩:=st;simp only [aD,bg,eh] at hb
  rcases hb with rfl|rfl
  ·exact ⟨_,h1,λv z=>(by cases z)⟩
  ·exact aik h4
 keep:=λi h h' st kk=>by
  obtain ⟨⟨old,h1⟩,h4⟩:=st;exact ⟨⟨old,kk e (by simp) _ h1⟩,aej h4 λob q=>kk it (by simp) ob q⟩
 item:=by
  intro X hP hw hK hc i pins s σ H E I hf st hg
  subst hP hw hK;obtain ⟨xs,x,e1,g1⟩:=hg;obtain ⟨⟨old,h1⟩,h4⟩:=st;have n:∀c∈[e,it],H c=none:=λc hc=>(hf c hc).1;obtain ⟨cs,P1,S1,D1,a1,b1,c1,d1⟩:=ail I (t:=t) e1 (n it (by simp))
  have hd:=I.ok.hd hc;have ef:e∉it::cs:=by
   intro z
   rcases aD.mp z with z|z
   ·exact ne z
   ·exact c1 e z (n e (by simp))
  refine wpAny_pyNext_enum_itemD (D1 X.A.in1 hd) h1 (a1 i h4) (av.mp g1).1 ne ef λu h' tk pu eo s1' pr sz kp=>?_;obtain ⟨x',q1,r1⟩:=d1 i u pu;rw [g1] at q1;cases q1
  refine ⟨_,rfl,wpAny_letOwnedTupleGo_enum eo λh2' z2' sb=>?_⟩;have hp:H s.heap.objs.size=none:=I.hok.fresh (ay _);have lt:∀c∈[e,it],c<s.heap.objs.size:=λc hc=>by
   simp only [aD,bg,eh] at hc
   rcases hc with rfl|rfl
   ·exact aI h1
   ·obtain ⟨_,q,_⟩:=aik h4;exact aI q
  have nT:∀c∈[e,it],c≠s.heap.objs.size:=λc hc=>aX (lt c hc);have all:∀c o,c∉[e,it]->s.heap.get? c=some o->h2'.get? c=some o:=λc o nc q=>by
   simp only [aD,bg,eh,not_or] at nc;exact (sb.2 c nc.1).trans (kp c o nc.1 nc.2 q)
  have I0:Inv X pins σ (upd H s.heap.objs.size (.tup [.int i,x])) {s with heap:=s.heap.push {cls:=.type "tuple",data:=.seq #[.int i tk,u]} } :=
   I.laid (t':=s.toks) (o:=.tup [.int i,x]) (λb o q=>ai _ q) (ay _) ⟨by show 2<=sizeLine;decide,[.int i tk,u],.cons ⟨tk,rfl⟩ (.cons r1 .nil),⟨_,aK _ rfl,rfl,_,rfl⟩⟩
  have I1:Inv X pins σ (upd H s.heap.objs.size (.tup [.int i,x])) {s with heap:=h2',toks:=tk+1}:=by
   refine aim (s:={s with heap:=s.heap.push {cls:=.type "tuple",data:=.seq #[.int i tk,u]} }) (ch:=[e,it]) I0 (λb hb=>?_) λc o nc q=>?_
   ·obtain ⟨f0,f1⟩:=hf b hb;exact ⟨by rw [jh (nT b hb)];exact f0,f1⟩
   ·rcases Heap.get?_push_cases q with ⟨rfl,rfl⟩|q
    ·exact (sb.2 _ (nT e (by simp)).symm).trans pr
    ·exact all c o nc q
  refine ⟨.ref s.heap.objs.size,_,I1,rfl,⟨xs,x,_,e1,g1,hp,rfl,rfl⟩,⟨⟨u,by simpa using z2'⟩,aej (b1 _ _ s1') λob q=>(sb.2 _ ne.symm).trans q⟩,λb hb=>?_⟩
  rw [jh (nT b hb)];exact n b hb
 done:=by
  intro X hP hw hK hc i pins s σ H E I hf st hg
  subst hP hw hK;obtain ⟨xs,e1,rfl⟩:=hg;obtain ⟨⟨old,h1⟩,h4⟩:=st;have n:∀c∈[e,it],H c=none:=λc hc=>(hf c hc).1;obtain ⟨cs,P1,S1,D1,a1,b1,c1,d1⟩:=ail I (t:=t) e1 (n it (by simp))
  have hd:=I.ok.hd hc;refine wpAny_pyNext_enum_endD (D1 X.A.in1 hd) h1 (a1 _ h4) λh' ex=>⟨rfl,aim (t':=s.toks) I hf λc o nc q=>?_⟩;simp only [aD,bg,eh,not_or] at nc;exact ex c o nc.2 q
 self:=λ_ _ _ _ _ st h=>by
  obtain ⟨⟨old,h1⟩,_⟩:=st;exact wpAny_pyIter_enum h1 h
section
variable{X:Cx}{elts:List Expr}{x1:Nat}{tpos:Pos}
def azd(ta:TA):TI:=λσ H R=>ta σ H λvs H1=>∃k xs,vs=[Srk.v k]/\its H1 k=some xs/\R (ItE k) H1
theorem ar6(hg:Gl X "enumerate")(hm:X.mg "enumerate" = none)(ha:PA X [e1] ta)
  (h1:starEach [e1] X.env=[(false,eval e1 X.env)]:=by rfl):PI X (.Tuple elts x1 tpos) (.Call (.Name "enumerate" p) [e1] [] pos) (azd ta):=by
 intro pins s σ H R I h
 refine cZ (a5u I hg hm PyProof.Rows.boot_enumerate ?_ (by decide) (by decide))
 refine bU (thn (ha pos pins s σ H _ I h) λus s1 ⟨vs,H1,I1,r1,q1⟩=>?_) (by rw [h1];rfl) (by rfl)
 obtain ⟨k,xs,rfl,e1,q⟩:=q1;obtain ⟨v1,rfl,rv1⟩:=vals1 r1;obtain ⟨t,rfl⟩:=avd rv1;obtain ⟨us1,c1,_⟩:=ad3 I1 e1;refine callType_new F.called_enumerate (by decide) (F.typeCall_enumerate_1 _) (F.newCall_enumerate_1 _) (λobj=>F.args_object_init_2 obj _) F.entry_enumerate_new (aiy t k us1) ⟨c1,?_⟩
 have at0:((s1.heap.push (iob t k)).push (a5y s1.heap.objs.size)).get? s1.heap.objs.size=some (iob t k):=ai _ (aK _ (by cases k<;>rfl))
 have at1:IsEnum ((s1.heap.push (iob t k)).push (a5y s1.heap.objs.size)) (s1.heap.objs.size+1) s1.heap.objs.size 0 .none:=by
  have:=aK (o:=a5y s1.heap.objs.size) (s1.heap.push (iob t k)) rfl
  rw [dN] at this;exact this
 have keepA:∀b o,s1.heap.get? b=some o->((s1.heap.push (iob t k)).push (a5y s1.heap.objs.size)).get? b=some o:=λb o q=>ai _ (ai _ q);have I2:Inv X pins σ H1 {s1 with heap:=(s1.heap.push (iob t k)).push (a5y s1.heap.objs.size)}:=I1.kept (t':=s1.toks) keepA
 refine ⟨⟨_,at1,rfl⟩,?_⟩;refine wpAny_pyIter_enum (s:={s1 with heap:=(s1.heap.push (iob t k)).push (a5y s1.heap.objs.size)}) at1 ?_
 refine ⟨s1.heap.objs.size+1,[s1.heap.objs.size+1,s1.heap.objs.size],tnE _ _ t k,ItE k,H1,rfl,I2,aiz (by intro z;have z:(_:Nat)=_:=z;omega),⟨⟨.none,at1⟩,b1x at0⟩,λb hb=>?_,q⟩
 have:s1.heap.objs.size<=b:=by
  simp only [aD,bg,eh] at hb
  rcases hb with rfl|rfl
  ·exact i7 _
  ·exact ay _
 exact I1.fpOk this (I1.hok.fresh this)
end
end ZP
namespace MI
open L2 ZP
def am6(x:D)(h:Hd):R Itm:=match srcOf x h with
 |some (xs,c)=>.ok ⟨((List.range xs.length).zip xs).map λp=>.tup [.int (p.1:Nat),p.2],c⟩ h
 |none=>.no
def ad5(f:SE):SI:=λτ h=>(f τ h).bind am6
theorem ar7(hg:Gl X "enumerate")(hm:X.mg "enumerate" = none)(ha:ME X E e1 f)
  (h1:starEach [e1] X.env=[(false,eval e1 X.env)]:=by rfl):MI X E (.Tuple elts x1 tpos) (.Call (.Name "enumerate" p) [e1] [] pos) (ad5 f):=by
 rintro pins s σ H Rr I ⟨ι,τ,h,S,Rh,o⟩
 refine ar6 hg hm (yj ha a6z (by rw [h1];rfl)) h1 pins s σ H Rr I ?_
 refine ⟨ι,τ,h,S,Rh,g8 o λd h1 ι1 H1 v g1 r1 hr1 o1=>?_⟩;unfold am6 at o1
 split at o1
 ·rename_i xs c q1;obtain ⟨k,rfl,kc,kf⟩:=ave r1 hr1 q1;obtain ⟨vs,w1,w2⟩:=kf ι1 H1 h1 (.refl _ _) hr1 kc;refine ⟨k,vs,rfl,w1,o1 ι1 H1 _ (.refl _ _) ?_ hr1⟩
  intro ι3 H3 h3 g3 hr3 c3
  obtain ⟨us,a1,a2⟩:=kf ι3 H3 h3 g3 hr3 c3;refine ⟨λi d ed=>?_,us,a1,?_⟩
  ·simp only [bX,aN] at ed;obtain ⟨⟨j,y⟩,ez,rfl⟩:=ed;obtain ⟨ex,ey⟩:=gH.mp ez;have hj:j=i:=by
    obtain ⟨_,q⟩:=av.mp ex;simpa using q.symm
   subst hj;obtain ⟨v2,b3,b4⟩:=a2.get ey;refine ⟨⟨us,v2,a1,b3⟩,λx H' yl=>?_⟩;obtain ⟨xs',x',p,c1,c3,c5,rfl,rfl⟩:=yl;rw [a1] at c1;cases c1
   rw [b3] at c3;cases c3
   exact ⟨a0n c5 _,.tup ou (.cons (.int _) (.cons (b4.mono (a0n c5 _)) .nil)),hr3.aside c5 _⟩
  ·rw [ax,List.length_zip,bF,a2.len];omega
 ·exact o1.elim
end MI
namespace L2
open PyProof.Rows
end L2
namespace MI
open L2
end MI
namespace L2
open PyProof.Rows
def Itd(lo:Int)(n:Nat):It:=⟨λi _=>i<n,λi H x H'=>H'=H/\x=.int (lo-i),λi _=>n<=i⟩
theorem aj0{P:Program}{w:World}{K:PySem.W.Frag}{tg:Expr}(it:Addr)(lo:Int)(n:Nat):Turn P w K tg (Itd lo n) [it] it (λi h=>IsRangeIter h it (lo-(i:Nat)) ((n:Int)-(i:Nat)) (-1)) where
 mem:=by simp
 obj:=λi h st b hb=>by
  cases aB.mp hb
  exact ⟨_,st,λv z=>nomatch (show Data.fields _=Data.cell v from z)⟩
 keep:=λi h h' st k=>k it (by simp) _ st
 item:=by
  intro X hP hw hK hc i pins s σ H E I hf st hg
  subst hP hw hK;obtain ⟨f0,f1,f2,f3,f4,f5⟩:=hf it (by simp)
  have hg:i<n:=hg;refine wpAny_pyNext_range_item st (by omega) λh' st' sb=>?_
  have I1:Inv X pins σ H {s with heap:=h',toks:=s.toks+1}:=I.turned (λb o hb e=>sb.extBut b o hb e) f0 f1 f3 f4 f5
  have e1:lo-(i:Nat) + -1=lo-((i+1:Nat):Int):=by omega
  have e2:(n:Int)-(i:Nat)-1=(n:Int)-((i+1:Nat):Int):=by omega
  have st2:IsRangeIter h' it (lo-((i+1:Nat):Int)) ((n:Int)-((i+1:Nat):Int)) (-1):=by rw [<-e1,<-e2];exact st'
  exact ⟨_,rfl,ah6 (s:={s with heap:=h',toks:=s.toks+1}) (n := "range_iterator") st' rfl rfl (by decide) ⟨.int (lo-i),H,I1,⟨_,rfl⟩,⟨rfl,rfl⟩,st2,λb hb=>(hf b hb).1⟩⟩
 done:=by
  intro X hP hw hK hc i pins s σ H E I hf st hg
  subst hP hw hK;obtain ⟨f0,f1,f2,f3,f4,f5⟩:=hf it (by simp)
  exact wpAny_pyNext_range_end (I.ok.hd hc) st (by have:n<=i:=hg;omega) λh' eb=>⟨rfl,I.turned (t':=s.toks) (λb o hb e=>eb b o hb e) f0 f1 f3 f4 f5⟩
 self:=λ_ _ _ _ _ st h=>fA st h
end L2
namespace MI
open L2
def am7(lo:Int)(n:Nat):List D:=(List.range n).map λi=>D.int (lo-(i:Nat))
def avm(ds:List D)(h:Hd):R Itm:=match ds with
 |[.int i,.int j,.int k]=>if k = -1/\B62 i/\B62 j then .ok ⟨am7 i (i-j).toNat,λ_=>True⟩ h else .no
 |_=>.no
theorem avn(lo:Int)(n:Nat):alk K ι0 H0 (Itd lo n) ⟨am7 lo n,λ_=>True⟩:=by
 intro ι H h g hr _
 refine ⟨λi d ed=>?_,by show n<=(am7 lo n).length;simp [am7]⟩
 simp only [am7,bX,aN] at ed;obtain ⟨j,ej,rfl⟩:=ed;obtain ⟨hj,e⟩:=av.mp ej;simp at e hj;subst e;refine ⟨hj,λy H' q=>?_⟩;obtain ⟨rfl,rfl⟩:=q;exact ⟨.refl _ _,.int _,hr⟩
theorem fu{α β:Type}(a:α)(h:Hd)(k:α->Hd->R β):(R.ok a h).bind k=k a h:=rfl
theorem a4c{α:Type}(a:α)(h:Hd)(k:α->Hd->Fl):(R.ok a h).fl k=k a h:=rfl
def thn(r:Fl)(g:SS):Fl:=match r with|.nx τ h=>g τ h|r=>r
theorem vo(f g:SS)(τ:Sd)(h:Hd):iz f g τ h=thn (f τ h) g:=by unfold iz thn;cases f τ h<;>rfl
theorem a8q(τ:Sd)(h:Hd)(g:SS):thn (.nx τ h) g=g τ h:=rfl
theorem aen(d:D)(h:Hd)(g:SS):thn (.rt d h) g=.rt d h:=rfl
def toR(r:Fl):R D:=match r with|.rt d h1=>.ok d h1|.nx _ h1=>.ok .non h1|.ex c h1=>.ex c h1|_=>.no
theorem iy(b:SS)(n:Nat)(ds:List D)(h:Hd):km b n ds h=toR (b (a3z n ds) h):=by unfold km toR;cases b (a3z n ds) h<;>rfl
theorem abj(d:D)(h:Hd):toR (.rt d h)=.ok d h:=rfl
theorem aeo(τ:Sd)(h:Hd):toR (.nx τ h)=.ok .non h:=rfl
theorem jr:∀{xs:List D},clos n xs↔∀x∈xs,clo n x
 |[]=>by simp [clos]
 |x::xs=>by simp [clos,jr (xs:=xs)]
theorem du(i:Int):clo n (.int i):=by simp [clo]
theorem gj(i:Str):clo n (.str i):=by simp [clo]
theorem kj(i:Bool):clo n (.bl i):=by simp [clo]
theorem v4:clo n .non:=by simp [clo]
theorem gq:clos n []:=by simp [clos]
theorem bx(a:clo n x)(b:clos n xs):clos n (x::xs):=by simp only [clos];exact ⟨a,b⟩
theorem gk(h:clos n xs):clo n (.tup xs):=by simpa [clo] using h
theorem lq(h:clos n xs):clo n (.rol xs):=by simpa [clo] using h
theorem gf{α:Type}{n:Nat}{f:α->D}{l:List α}(h:∀a∈l,clo n (f a)):clos n (l.map f):=by
 rw [jr]
 intro x hx
 obtain ⟨a,ha,rfl⟩:=c8.mp hx;exact h a ha
mutual
theorem aop(hm:n<=m):∀{d:D},clo n d->clo m d
 |.non,_=>by simp [clo]
 |.bl _,_=>by simp [clo]
 |.int _,_=>by simp [clo]
 |.str _,_=>by simp [clo]
 |.ty _,_=>by simp [clo]
 |.tup xs,h=>by simp only [clo] at h ⊢;exact xm hm h
 |.rol xs,h=>by simp only [clo] at h ⊢;exact xm hm h
 |.scr xs,h=>by simp only [clo] at h ⊢;exact xm hm h
 |.rod _ xs,h=>by simp only [clo] at h ⊢;exact xm hm h
 |.rdT _ xs,h=>by simp only [clo] at h ⊢;exact xm hm h
 |.exc _,_=>by simp [clo]
 |.ins _ _ xs,h=>by simp only [clo] at h ⊢;exact xm hm h
 |.ref i,h=>by simp only [clo] at h ⊢;omega
theorem xm(hm:n<=m):∀{xs:List D},clos n xs->clos m xs
 |[],_=>by simp [clos]
 |x::xs,h=>by simp only [clos] at h ⊢;exact ⟨aop hm h.1,xm hm h.2⟩
end
theorem a3o(hm:n<=m)(h:xj n o):xj m o:=by
 cases o with
 |lst xs=>exact xm hm h
 |dK kvs=>exact xm hm h
 |dT kvs=>exact xm hm h
 |ins _ _=>exact xm hm h
theorem a9t{α:Type}{f:α->Option α}:∀{xs:List α},(∀x∈xs,f x=some x)->a0x f xs=some xs
 |[],_=>rfl
 |x::xs,h=>by
  unfold a0x;rw [h x aR,a9t λy hy=>h y (aL _ hy)]
theorem a6q(c:clo n d):a1q n h (k+1) d=some d:=by unfold a1q;rw [aC c]
theorem am8(c:xj n o):avf n h k o=some o:=by unfold avf;rw [aC c]
theorem a4d{n k i:Nat}{h:Hd}{xs:List D}(hi:n<=i)(e:h[i]? = some (.lst xs))(c:clos n xs):a1q n h (k+2) (.ref i)=some (.rol xs):=by
 unfold a1q;rw [aQ (by simp only [clo];omega)]
 simp only [e];rw [a9t λx hx=>a6q (jr.mp c x hx)];rfl
theorem a3p{n:Nat}{d d':D}{h1:Hd}(e:a1q n h1 FU d=some d')(c:∀o∈h1.take n,xj n o):a8n n (.ok d h1)=.ok d' (h1.take n):=by
 unfold a8n;simp only [e];rw [a9t λo ho=>am8 (c o ho)]
theorem jb{h1:Hd}(e:clo n d)(c:∀o∈h1.take n,xj n o):a8n n (.ok d h1)=.ok d (h1.take n):=a3p (a6q e) c
theorem a6r(hi:n<=i)(e:h1[i]? = some (.lst xs))(cx:clos n xs)(c:∀o∈h1.take n,xj n o):a8n n (.ok (.ref i) h1)=.ok (.rol xs) (h1.take n):=a3p (a4d hi e cx) c
theorem am9(e:f τ h=.ok (.ref h.length) (h++[.lst xs]))(cx:clos h.length xs)(c:∀o∈h,xj h.length o):sZ f τ h=.ok (.rol xs) h:=by
 unfold sZ;rw [e,a6r (ay _) (by simp) cx (by simpa using c)]
 simp
def Pu(F:SF)(n:Nat)(ds:List D)(d:D):Prop:=∀h,je false n F ds h=.ok d h
def Dr(F:SF)(n:Nat)(ds:List D)(o:O)(d:D)(o':O):Prop:=∀p h,h[p]? = some o->je false n F (.ref p::ds) h=.ok d (h.set p o')
theorem a4e:∀{ds:List D},(∀d∈ds,clo 0 d)->a1a ds=[]/\a0k 0 ds=ds/\∀k,a0k k ds=ds
 |[],_=>⟨rfl,rfl,λ_=>rfl⟩
 |d::ds,h=>by
  obtain ⟨a,b,c⟩:=a4e (ds:=ds) λx hx=>h x (aL _ hx);have hd:=h d aR;have nr:refOf d=none:=by cases d<;>first|rfl|(simp only [clo] at hd;omega)
  refine ⟨?_,?_,λk=>?_⟩
  ·simpa [a1a,nr] using a
  ·cases d<;>first|(simp only [clo] at hd;omega)|(simp only [a0k,b])
  ·cases d<;>first|(simp only [clo] at hd;omega)|(simp only [a0k,c])
theorem Pu.of{ds:List D}(hn:ds.length=n)(cd:∀x∈ds,clo 0 x)(e:F ds []=r)(z:a8n 0 r=.ok d [])(c:clo 0 d):Pu F n ds d:=λh=>by
 obtain ⟨p1,p2,_⟩:=a4e cd;unfold je;rw [aC hn];unfold aon;rw [p1];simp only [a0x,bC,bT,eN];rw [aC ⟨fG,λx hx=>.inl (cd x hx),λo ho=>by simp at ho⟩,p2,e,z]
 simp [c,vg]
theorem Dr.of{ds:List D}(hn:ds.length+1=n)(cd:∀x∈ds,clo 0 x)(co:xj 0 o)(e:F (.ref 0::ds) [o]=r)(z:a8n 1 r=.ok d [o'])(c:clo 0 d)(co':xj 0 o'):Dr F n ds o d o':=λp h hp=>by
 obtain ⟨p1,_,p3⟩:=a4e cd;have e1:a1a (.ref p::ds)=[p]:=by
  have:a1a (.ref p::ds)=p::a1a ds:=rfl
  rw [this,p1]
 have e2:a0k 0 (.ref p::ds)=.ref 0::ds:=by
  have:a0k 0 (.ref p::ds)=.ref 0::a0k 1 ds:=rfl
  rw [this,p3]
 unfold je;rw [aC (by simpa using hn)]
 unfold aon;rw [e1];simp only [a0x,hp,aG,bT,eN];have all:∀x∈(D.ref p::ds),clo 0 x\/isRef x:=λx hx=>by
  rcases aD.mp hx with rfl|hx
  ·exact .inr ⟨p,rfl⟩
  ·exact .inl (cd x hx)
 rw [aC ⟨by simp,all,λu hu=>by rw [aB.mp hu];exact co⟩,e2,e,z]
 simp [c,co',vg]
theorem avo{ds:List D}(hn:ds.length=n)(cd:∀x∈ds,clo 0 x)(e:F ds []=.ok (.ref i) h1)(ho:h1[i]? = some o)(co:xj 0 o)(h:Hd):je true n F ds h=.ok (.ref h.length) (h++[o]):=by
 obtain ⟨p1,p2,_⟩:=a4e cd;unfold je;rw [aC hn];unfold aon;rw [p1];simp only [a0x,bC,dS];rw [aC ⟨fG,λx hx=>.inl (cd x hx),λo ho=>by simp at ho⟩,p2,e]
 unfold ata;simp only [ho];rw [aC ⟨aU _,co,by simp⟩]
 simp [co,vg]
theorem a1c(g:SG)(b:SS)(τ:Sd)(h:Hd):forL (λ_=>True) g b [] τ h=.nx τ h:=by rw [forL,aC True.intro]
def trn(r:Fl)(k:Sd->Hd->Fl):Fl:=match r with|.nx τ h=>k τ h|.ct τ h=>k τ h|.bk τ h=>.nx τ h|r=>r
theorem xu(g:SG)(b:SS)(x:D)(xs:List D)(τ τ1:Sd)(h h1:Hd)(e:g x τ h=.nx τ1 h1):forL (λ_=>True) g b (x::xs) τ h=trn (b τ1 h1) (forL (λ_=>True) g b xs):=by
 rw [forL,aC True.intro,e];dsimp only;unfold trn
 cases b τ1 h1<;>rfl
theorem aep(τ:Sd)(h:Hd)(k:Sd->Hd->Fl):trn (.nx τ h) k=k τ h:=rfl
theorem avp(d:D)(h:Hd)(k:Sd->Hd->Fl):trn (.rt d h) k=.rt d h:=rfl
theorem aeq{g:SG}{b:SS}{α:Type}(f:α->D)(I:List α->Sd->Hd->Prop)(Rt:D->Hd->Prop):∀(xs pre:List α) (τ:Sd) (h:Hd),
  (∀pre' x post τ h,pre++xs=pre'++x::post->I pre' τ h->∃τ1 h1,g (f x) τ h=.nx τ1 h1/\((∃τ2 h2,b τ1 h1=.nx τ2 h2/\I (pre'++[x]) τ2 h2)\/∃d h2,b τ1 h1=.rt d h2/\Rt d h2))->I pre τ h->
  (∃τ' h',forL (λ_=>True) g b (xs.map f) τ h=.nx τ' h'/\I (pre++xs) τ' h')\/∃d h',forL (λ_=>True) g b (xs.map f) τ h=.rt d h'/\Rt d h'
 |[],pre,τ,h,_,i0=>.inl ⟨τ,h,a1c ..,by simpa using i0⟩
 |x::xs,pre,τ,h,st,i0=>by
  obtain ⟨τ1,h1,e1,q⟩:=st pre x xs τ h rfl i0;rw [bp,xu _ _ _ _ _ _ _ _ e1]
  rcases q with ⟨τ2,h2,e2,i2⟩|⟨d,h2,e2,r⟩
  ·rw [e2,aep];have:=aeq f I Rt xs (pre++[x]) τ2 h2 (λpre' y post τ h e=>st pre' y post τ h (by simpa using e)) i2
   simpa using this
  ·rw [e2,avp];exact .inr ⟨d,h2,rfl,r⟩
theorem a08{g:SG}{b:SS}{α:Type}(f:α->D)(I:List α->Sd->Hd->Prop)(xs:List α)(τ:Sd)(h:Hd)
  (st:∀pre x post τ h,xs=pre++x::post->I pre τ h->∃τ1 h1,g (f x) τ h=.nx τ1 h1/\∃τ2 h2,b τ1 h1=.nx τ2 h2/\I (pre++[x]) τ2 h2) (i0:I [] τ h) :
  ∃τ' h',forL (λ_=>True) g b (xs.map f) τ h=.nx τ' h'/\I xs τ' h':=by
 rcases aeq f I (λ_ _=>False) xs [] τ h (λpre' x post τ h e i=>let ⟨τ1,h1,a,b⟩:=st pre' x post τ h e i; ⟨τ1,h1,a,.inl b⟩) i0 with ⟨τ',h',a,b⟩|⟨_,_,_,z⟩
 ·exact ⟨τ',h',a,b⟩
 ·exact z.elim
theorem abk{f:D->Hd->R D}{α:Type}(g F:α->D){h:Hd}:∀{xs:List α},(∀x∈xs,f (g x) h=.ok (F x) h)->mapR (λ_=>True) f (xs.map g) h=.ok (xs.map F) h
 |[],_=>by rw [dZ,mapR,aC True.intro];rfl
 |x::xs,st=>by
  rw [bp,mapR,aC True.intro,st x aR];show (mapR _ f (xs.map g) h).bind _=_;rw [abk g F λy hy=>st y (aL _ hy)];rfl
theorem abl{f:D->Hd->R (Option D)}{α:Type}(g:α->D)(F:α->Option D){h:Hd}:∀{xs:List α},(∀x∈xs,f (g x) h=.ok (F x) h)->akt (λ_=>True) f (xs.map g) h=.ok (xs.filterMap F) h
 |[],_=>by rw [dZ,akt,aC True.intro];rfl
 |x::xs,st=>by
  rw [bp,akt,aC True.intro,st x aR];show (akt _ f (xs.map g) h).bind _=_;rw [abl g F λy hy=>st y (aL _ hy)];show R.ok ((F x).toList++xs.filterMap F) h=_
  cases e:F x<;>simp [cA,e]
structure KD (P:Program) (w:World) (K:PySem.W.Frag) (a:Addr) (kvs:List (Str×Str)):Prop where
 sys:(a == sysModules)=false
 ex:∃(o:Obj) (vs:List (Key×Value)),K.lookup a=some o/\KV (kvs.map λp=>((.inr p.1:Key),V.str p.2)) vs/\∀h:Heap,h.get? a=some o->h.DictOf (a6v P w) a vs
section
variable{X:Cx}{E:XD}{e:Expr}{fa:SE}{pos p:Pos}{a:Addr}{kvs:List (Str×Str)}{x:Str}
theorem KD.at(kd:KD X.prog X.w X.K a kvs)(I:Inv X pins σ H s):∃vs,KV (kvs.map λp=>((.inr p.1:Key),V.str p.2)) vs/\s.heap.DictOf (a6v X.prog X.w) a vs:=by
 obtain ⟨o,vs,l,r,d⟩:=kd.ex;exact ⟨vs,r,d _ (I.bk _ _ (I.mod.kin _ _ l))⟩
end
mutual
def toPy:D->Option PyData
 |.non=>some .none
 |.bl b=>some (.bool b)
 |.int i=>some (.int i)
 |.str x=>some (.str x)
 |.tup xs=>(ar8 xs).map .tuple
 |.rol xs=>(ar8 xs).map .list
 |.rod [] []=>some (.dict [])
 |_=>none
def ar8:List D->Option (List PyData)
 |[]=>some []
 |x::xs=>match toPy x,ar8 xs with|some p,some ps=>some (p::ps)|_,_=>none
end
mutual
def noL:D->Bool
 |.rol _=>false
 |.tup xs=>b0k xs
 |_=>true
def b0k:List D->Bool
 |[]=>true
 |x::xs=>noL x && b0k xs
end
open Classical in
theorem u6:CallR X (.builtin "isinstance") (λxs H Q=>∃a o us T b,xs=[.ref a,.ty T]/\H a=some (.frz o (.dK us))/\PySem.W.kitOne X.K (.type "dict") (.type T)=some b/\Q (.bl b) H):=by
 intro pins s σ H xs us Q I r h
 obtain ⟨a,o,kv,T,b,rfl,ea,e,q⟩:=h;obtain ⟨u,w',rfl,rx,rt⟩:=vals2 r;cases rt
 obtain rfl:u=Value.ref a:=rx
 obtain ⟨_,_,_,vs,_,p⟩:=(show ObjOk X.prog X.w H s.heap a (.frz o (.dK kv)) from I.hok a _ ea)
 obtain ⟨o',es,ep,h1,h2,_⟩:=p;exact bN gL I.kIn ⟨o',h1,h2.1⟩ e (λz=>nomatch z) λtk=>⟨.bl b,H,I.tok tk,rfl,q⟩
def a2d:List D->Hd->R D
 |[.rod ks xs,.ty T],h=>(match alq "dict" T with|some b=>.ok (.bl b) h|none=>.no)
 |ds,h=>aqn ds h
theorem a1d:akr K a2d (λxs H Q=>(∃x T t b,xs=[x,.ty T]/\TyOf K H x t/\PySem.W.kitOne K t (.type T)=some b/\Q (.bl b) H)\/∃a o us T b,xs=[.ref a,.ty T]/\H a=some (.frz o (.dK us))/\PySem.W.kitOne K (.type "dict") (.type T)=some b/\Q (.bl b) H):=by
 intro E ι H h xs ds Q r hr o
 unfold a2d at o
 split at o
 ·split at o
  ·rename_i b hb
   cases r with
   |cons r1 rs =>
    cases rs with
    |cons r2 rs2 =>
     cases rs2
     cases r2
     cases r1 with
     |rod hp ek rr=>exact .inr ⟨_,_,_,_,b,rfl,hp,aie hb,ans o (.bl _) hr⟩
  ·exact o.elim
 ·exact .inl (aqo E ι H h xs _ Q r hr o)
end MI
namespace TPM
open PySem.W L2 HT MI PyProof.Rows
end TPM
namespace MI
open L2 TPM
end MI
namespace SRC
open L2 MI
noncomputable def zj:SE :=
 (s2 iu (s2 yp (sC (.int 2)) (sA ay5 (ak (sV 0) dq))) (sA aql (ak (s2 gLt (sV 0) (sC (.int 0))) dq)))
noncomputable def a09:SS :=
 (iz (nu 1 (sZ (a5i (sIt (sZ (a8p (sV 0) oN (oS (sC (.int 63)))))) t1 zj [])))
 (oh (sA uw (ak (sV 1) (ak (sC (.int 0)) (ak (sC (.int 0)) (ak (sC (.int 0)) (ak (s2 a5x (sA aif (ak (sV 1) dq)) (sC (.int 2147483647))) dq))))))))
noncomputable def a2t:SS :=
 (iz (a2c a0j (sV 0) (sC (.int 3)) (sC (.int 1)))
 (iz (sIf (a7a (sT (s2 hEq (s2 gIx (sV 0) (sC (.int 2))) (sC (.int 0)))) (sT (s2 gLt (s2 gIx (sV 0) (sC (.int 1))) (sA a2p (ak (s2 gIx (sV 0) (sC (.int 0))) dq)))))
 (iz (nu 2 (s2 gIx (s2 gIx (sV 0) (sC (.int 0))) (s2 gIx (sV 0) (sC (.int 1)))))
 (iz (a2c a0j (sV 0) (sC (.int 1)) (sC (.int 1)))
 (sIf (sT (s2 gGe (sV 2) (s2 a8k (sC (.int 10)) (sC (.int 18)))))
 (ag0 (sV 2) (sV 0) (sC (.int 2)))
 (ag0 (s2 a5x (s2 iu (s2 yp (s2 gIx (sV 0) (sC (.int 4))) (sC (.int 31))) (sV 2)) (sC (.int 2147483647))) (sV 0) (sC (.int 4))))))
 sNx)
 (iz (sIf (sT (s2 gGt (s2 gIx (sV 0) (sC (.int 2))) (sC (.int 0))))
 (iz (nu 3 (s2 a5x (s2 gIx (sV 0) (sC (.int 2))) (sV 1)))
 (iz (a2c a8a (sV 0) (sC (.int 2)) (sV 1))
 (oh (sV 3))))
 sNx)
 (iz (nu 3 (s2 a5x (s2 a8k (s2 iu (s2 iu (s2 gIx (sV 0) (sC (.int 4))) (sC (.int 1))) (s2 yp (s2 gIx (sV 0) (sC (.int 3))) (sC (.int 7919)))) (sC (.int 3))) (sC (.int 2147483647))))
 (oh (s2 a5x (s2 a8a (s2 a5x (s2 a8k (s2 iu (s2 yp (sV 3) (sC (.int 48271))) (s2 gIx (sV 0) (sC (.int 3)))) (sC (.int 2))) (sC (.int 2147483629))) (sC (.int 64))) (sV 1)))))))
noncomputable def zm:SS :=
 (iz (nu 0 (sC (.str " !\"#$&'()*+,-./0123456789:;<=>?@ABCDEFGHIJKLMNOPQRSTUVWXYZ[\\]^_`")))
 (oh (s2 iu (sV 0) (sC (.str "abcdefghijklmnopqrstuvwxyz{|}~\n")))))
noncomputable def zp(cz:SF)(lr:SF):SS :=
 (iz (nu 4 (sA (je false 2 cz) (ak (sV 0) (ak (sA a2p (ak (sV 1) dq)) dq))))
 (iz (ab5 2 a0j (s2 gIx (sV 1) (sV 4)))
 (nu 1 (s2 iu (a8p (sV 1) oN (oS (sV 4))) (a8p (sV 1) (oS (s2 iu (sV 4) (sC (.int 1)))) oN)))))
noncomputable def a0a(cz:SF)(lr:SF):SS :=
 (iz (nu 1 (sA (je false 0 lr) dq))
 (iz (nu 2 (sC (.str "")))
 (iz (a6m (sRg a6i (ak (s2 iu (sC (.int 1)) (sA (je false 2 cz) (ak (sV 0) (ak (sC (.int 6)) dq)))) dq)) (kN 3) (zp cz lr))
 (oh (sV 2)))))
end SRC
namespace L2
open PyProof.Rows
end L2
namespace MI
open L2
end MI
namespace PN
open L2 MI
end PN
namespace L2
open PySem.W PyProof.Rows
structure Air (stack:List Env) (H:Hp) (h0 B:Heap) (a C:Addr) (t:Value) (h:Heap):Prop where
 fly:Heap.FlyingW B stack a (.ref C) t h
 bk:∀b o,h.get? b=some o->b∉frs stack->(H b≠none\/∃o0,h0.get? b=some o0)->B.get? b=some o
def CXE(P:Program)(w:World):CXT:=λouter H s E e s' =>
 ∃a C t B H',e=.ref a/\s'.os=s.os/\AllBare s'.gens/\Un (frs outer) [] H H' s.heap s'.heap/\HOk P w H' s'.heap/\Air outer H' s.heap B a C t s'.heap/\E (.ref C) none H'
section
variable{P:Program}{w:World}{H H':Hp}{h h':Heap}
theorem HOk.is(x:HOk P w H h)(e:H a=some o):∃ob,h.get? a=some ob:=by
 have:=x a o e
 cases o with
 |lst xs=>obtain ⟨_,_,_,_,e⟩:=this;exact ⟨_,e⟩
 |tup xs=>obtain ⟨_,_,_,ob,e,_⟩:=this;exact ⟨_,e⟩
 |dK kvs=>obtain ⟨_,_,_,_,o,_,_,e,_⟩:=this;exact ⟨_,e⟩
 |dT kvs=>obtain ⟨_,_,_,_,o,_,_,e,_⟩:=this;exact ⟨_,e⟩
 |set S n=>obtain ⟨o,_,_,_,e,_⟩:=this;exact ⟨_,e⟩
 |ins C dx fs=>obtain ⟨_,_,_,e,_⟩:=this;exact ⟨_,e⟩
 |own y=>exact this
 |xd fs=>obtain ⟨_,⟨_,_,_,e,_⟩,_⟩:=this;exact ⟨_,e⟩
 |rng lo hi=>obtain ⟨_,_,_,e⟩:=this;exact ⟨_,e⟩
 |frz ob u=>exact ⟨_,this.1⟩
 |tbl ps=>exact ⟨_,this⟩
 |met f y=>exact ⟨_,this⟩
 |ext φ=>exact this.2.1
theorem HOk.track(x:HOk P w H h)(k:∀b u,H b≠none->h.get? b=some u->h'.get? b=some u):HOk P w H h':=λa o e =>
 (x a o e).stay (λb u hb q=>k b u (by
  rcases hb with rfl|hb
  ·rw [e];simp
  ·rw [hb];simp) q) (λ_ q=>q) λ_ _ q=>q
end
section
variable{P:Program}{w:World}{K:PySem.W.Frag}{mg:Str->Option Value}{base:Heap}{N:List Str}{qual:Str}{scope:Scope}{f:Addr}{cd:Value}{A:Around}{outer:List Env}{s0:Shared}{H0:Hp}{E:XK}{pins:List (Addr×Obj)}{σ:St}{H:Hp}{s:Shared}
abbrev cxE(P:Program)(w:World)(K:PySem.W.Frag)(mg:Str->Option Value)(base:Heap)(N:List Str)(qual:Str)(scope:Scope)(f:Addr)(cd:Value)(A:Around)(outer:List Env)(s:Shared)(H:Hp)(E:XK):Cx:=agu (CXE P w) P w K mg base N qual scope f cd A outer s H E
theorem ama{B:Heap}{h2:Heap}(I:Inv (cxE P w K mg base N qual scope f cd A outer s0 H0 E) pins σ H {s with heap:=h1})(hB:∀b o,h1.get? b=some o->b∉frs (envOfC qual scope s0.heap.objs.size f cd::outer)->(H b≠none\/∃o0,s0.heap.get? b=some o0)->B.get? b=some o)
  (sl:∀b o,h1.get? b=some o->b∈frs outer->∃sl,h2.get? b=some {o with slots:=sl}) (fly:Heap.FlyingW B outer a (.ref C) t h2) (e:E (.ref C) none H):CXE P w outer H0 s0 E (.ref a) {s with heap:=h2}:=by
 have lo:∀b,b∈frs (envOfC qual scope s0.heap.objs.size f cd::outer)->b=s0.heap.objs.size\/b∈frs outer:=λb hb=>by
  unfold frs at hb ⊢;rw [cA] at hb
  rcases aD.mp hb with rfl|hb
  ·exact .inl rfl
  ·exact .inr hb
 have stk:∀b,b∈frs (envOfC qual scope s0.heap.objs.size f cd::outer)->H b=none:=λb hb=>I.stkFree b hb;have old:∀b o,s0.heap.get? b=some o->b∉frs outer->b∉frs (envOfC qual scope s0.heap.objs.size f cd::outer):=λb o q n z=>by
  rcases lo b z with rfl|z
  ·exact absurd (aI q) (bR _)
  ·exact n z
 have tr:∀b u,H b≠none->h1.get? b=some u->h2.get? b=some u:=λb u hn q=>fly.1 _ _ (hB b u q (λz=>hn (stk b z)) (.inl hn));have ba:=I.base;refine ⟨a,C,t,B,H,rfl,I.os,I.bare,⟨?_,?_,ba.free,?_,ba.tups,ba.frzs,ba.tbls⟩,I.hok.track tr,⟨fly,?_⟩,e⟩
 ·intro b o q n hf hx
  exact fly.1 _ _ (hB b o (ba.keep b o q n hf hx) (old b o q hf) (.inr ⟨o,q⟩))
 ·intro b o q n hf hx
  obtain ⟨s1,q1⟩:=ba.slot b o q n hf hx;obtain ⟨s2,q2⟩:=sl b _ q1 hf;exact ⟨s2,q2⟩
 ·intro b o q hx
  obtain ⟨o1,q1⟩:=ba.there b o q hx
  by_cases hf:b∈frs outer
  ·obtain ⟨s2,q2⟩:=sl b _ q1 hf;exact ⟨_,q2⟩
  ·exact ⟨_,fly.1 _ _ (hB b o1 q1 (old b o q hf) (.inr ⟨o,q⟩))⟩
 ·intro b o q nf c
  have hh:b∉frs (envOfC qual scope s0.heap.objs.size f cd::outer):=λz=>by
   rcases c with c|⟨o0,c⟩
   ·exact c (stk b z)
   ·exact old b o0 c nf z
  obtain ⟨o1,q1⟩:∃o1,h1.get? b=some o1:=by
   rcases c with c|⟨o0,c⟩
   ·cases e1:H b with
    |none=>exact absurd e1 c
    |some u=>exact I.hok.is e1
   ·exact ba.there b o0 c (by intro z;cases z)
  have q2:=hB b o1 q1 hh c;have q3:=fly.1 _ _ q2;rw [q3] at q;cases q
  exact q2
theorem a7l(I:Inv X pins σ H s)(hb:b∈frs X.stack)(q:s.heap.get? b=some o):∀vs,o.data≠.fields vs:=by
 obtain ⟨_,o1,q1,d⟩:=I.stack.mem hb;rw [q] at q1;cases q1
 exact d
theorem aze(I:Inv (cxE P w K mg base N qual scope f cd A outer s0 H0 E) pins σ H s)(mk:Heap.MadeExcOf s.heap h' a (.ref C) args)(e:E (.ref C) none H):(cxE P w K mg base N qual scope f cd A outer s0 H0 E).xe (.ref a) {s with heap:=h' }:=by
 have hin:∀b,b∈frs outer->b∈frs (envOfC qual scope s0.heap.objs.size f cd::outer):=λb hb=>by
  unfold frs at hb ⊢;rw [cA];exact aL _ hb
 have st:=I.stack;refine wpAny_leaves_madeW (base:=hideAll s.heap (frs (envOfC qual scope s0.heap.objs.size f cd::outer))) (h:=s.heap) I.ok.frames (L:=s0.heap.objs.size) rfl (λb o q=>of_hideAll _ q) (funFrames_hide st λenv he b hb=>eZ.mpr ⟨env,he,hb⟩) mk λh2 t fl tu bt up=>?_;exact ama (h1:=s.heap) I (λb o q nf _=>hideAll_get _ q nf) (λb o q hb=>up b o (mk.keeps b o q) (a7l I (hin b hb) q)) fl e
end
structure XCls (K:PySem.W.Frag) (C:Addr):Prop where
 obj:∃(nm q:Str) (N:Addr) (bs bm:List Value) (hdct:Bool) (sn:List Str) (sub:List Value) (ab:Bool) (col:Option Bool) (dd:Option Addr) (k0 k1 k2 k3 k5:Option Value),
  K.lookup C=some (excClassObj nm q C N bs bm hdct sn sub ab col dd k0 k1 k2 k3 k5 "ValueError.__new__")/\nsOkIn K N=true/\nsIn K N "__init__" = some none/\tailIn K [.type "ValueError",.type "Exception",.type "BaseException",.type "object"] bm=true
def avq(t:TA)(Ex:Hp->Prop):TS:=λ_ σ H=>t σ H λvs H1=>vs.length<=sizeLine/\Ex H1
section
variable{X:Cx}{C:Addr}{x:Str}{np cpos pos:Pos}{e:Expr}{es:List Expr}{t:TA}{Ex:Hp->Prop}
theorem amb(hC:XCls X.K C)(hg:Gl X x)(hm:X.mg x=some (.ref C))(hc:X.calm=true)(ha:PA X (e::es) t)
  (lk:∀(pins:List (Addr×Obj)) (σ:St) (H:Hp) (s:Shared) (h':Heap) (a:Addr) (args:List Value),Inv X pins σ H s->Heap.MadeExcOf s.heap h' a (.ref C) args->Ex H->X.xe (.ref a) {s with heap:=h' })
  (hdb:(x == ("__debug__" : Str))=false:=by decide) (he:starEach (e::es) X.env=(false,eval e X.env)::starEach es X.env:=by rfl) (hpl:(backTo cpos (starEach es X.env)).any (·.1)=false:=by rfl) :
  PS X (.Raise (some (.Call (.Name x np) (e::es) [] cpos)) none pos) (avq t Ex):=by
 intro pins s σ H D I h
 obtain ⟨nm,q,N,bs,bm,hdct,sn,sub,ab,col,dd,k0,k1,k2,k3,k5,lo,ok,ni,ti⟩:=hC.obj;refine wpAny_Raise_call_subT (C:=C) (nm:=nm) (q:=q) (N:=N) (bs:=bs) (bm:=bm) (hdct:=hdct) (sn:=sn) (sub:=sub) (ab:=ab) (col:=col) (dd:=dd) (k0:=k0) (k1:=k1) (k2:=k2) (k3:=k3) (k5:=k5)
  gc (mN:=X.base.nsMap N) ((tail_of_in I.kIn ti).hasType gc.hasBase) (I.ok.hd hc) (by rw [he];show (false || (backTo cpos (starEach es X.env)).any (·.1))=false;rw [hpl];rfl) (nsMap_none_of_in I.ok.mod.kin ok ni) (a3j I hg hm ⟨rfl,?_⟩ hdb)
 have h2:=ha cpos pins s σ H _ I h;rw [he] at h2 ⊢;refine Calls.evalArgs_plain (thn h2 λus s1 ⟨vs,H1,I1,r,z,ex⟩=>?_);exact ⟨rfl,by rw [<-r.length];exact z,I1.kIn _ _ lo,.keeps (.of_isNs (isNs_of_in I1.ok.mod.kin ok)) I1.bk,tail_of_in I1.kIn ti,λh' a mk=>lk pins σ H1 s1 h' a us I1 mk ex⟩
end
end L2
namespace L2
open PySem.W PyProof.Rows Builtin Builtin.ObjectAttr Builtin.Getset_descriptor
section
variable{prog:Program}{w:World}{A:Around}{E:Value->Shared->Prop}{s:Shared}{K:Frag}{x D:Addr}{ox:Obj}{odo:Option Obj}
structure XKit (K:Frag) (D:Addr):Prop where
 ga:findIn K (.ref D) "__getattribute__" = some (some (.builtin "BaseException.__getattribute__"))
 gn:findIn K (.ref D) "__getattr__" = some none
 cl:(clsIn K D).isSome=true
 ca:findIn K (.ref D) "__class__" = some (some (.builtin "object.__class__"))
 sp:specialIn K (.builtin "object.__class__") "__get__" = some (some (.builtin "getset_descriptor.__get__"))
 tk:takesIn K (.builtin "object.__class__")=some true
 ob:mroIn K D (.type "object")=some true
 be:subIn K (.ref D) (.type "BaseException")=some true
 kc:kitCls K (.ref D) (.ref D)=some true
abbrev ExAt(x D:Addr)(h:Heap):Prop:=∃o,h.get? x=some o/\o.cls=.ref D
theorem ExAt.ty(I:ExAt x D h):Looks M h (typeOf (.ref x)) (.ref D):=by
 obtain ⟨o,q,c⟩:=I;exact c ▸ (Looks.ld q).andThen .now
theorem ar9(Z:XKit K D)(X:K.In s.heap)(I:ExAt x D s.heap)(h:R (.ok (.ret (.ref D))) s):codeAny (model prog w) A (.call (.builtin "getset_descriptor.__get__") ⟨[.builtin "object.__class__",.ref x,tp],[]⟩) R s:=by
 obtain ⟨hh,g,d,t,os⟩:=s;have T0:=ExAt.ty (M:=model prog w) I;have T1:=looks_mroIn (M:=model prog w) X Z.ob;refine fP KF.slot_gs.plain KF.entry_gs (KF.slot_gs.check _ _ _ _ _ _ _ _ KF.type_class (KF.args_gs _ _ _) ?_);unfold Builtin.«getset_descriptor.__get__» descrGet;rw [dga_obj];refine ae (aw ?_);unfold descrGetter descrCheckInstance descrNameAndClass isInstance;simp only [KF.owner_class]
 repeat lk
 refine ⟨Code.quiet_builtin _ (by decide +kernel),dD KF.entry_class ?_⟩;unfold Builtin.«object.__class__» shownTypeOf
 repeat lk
 exact h
theorem amc(Z:XKit K D)(X:K.In h):Looks M h (Builtin.ObjectAttr.find (.ref x) (.ref D) "__class__") (.bind (.builtin "getset_descriptor.__get__") (.builtin "object.__class__")):=by
 refine (looks_findIn X Z.ca).andThen (Looks.andThen (a:=some (.builtin "getset_descriptor.__get__")) (looks_specialIn X Z.sp) (Looks.andThen (a:=some (.builtin "getset_descriptor.__get__",.builtin "object.__class__")) ?_ (Looks.tag .now)));exact (looks_takesIn X Z.tk).andThen .now
theorem aj1(Z:XKit K D)(X:K.In s.heap)(I:ExAt x D s.heap)(h:Q (some (.ref D)) {s with toks:=s.toks+1}):wpAny (model prog w) A (getAttr? (.ref x) "__class__") Q E s:=by
 obtain ⟨hh,g,d,t,os⟩:=s;have T0:=ExAt.ty (M:=model prog w) I;have T1:=looks_findIn (M:=model prog w) X Z.ga;have T2:=looks_findIn (M:=model prog w) X Z.gn;have T3:=amc (M:=model prog w) (x:=x) Z X;have T4:Looks (model prog w) hh (isInstance (.ref x) (.type "BaseException")) true:=T0.andThen (looks_subIn X Z.be);have f3:=fZ.ga.bind (.ref x);have nb:(Value.builtin "BaseException.__getattribute__" == Value.builtin "object.__getattribute__")=false:=by decide +kernel
 have nh:(onTheHeap (Value.ref D) && Value.builtin "BaseException.__getattribute__" == Value.builtin "object.__getattribute__")=false:=by rw [nb];rfl
 unfold getAttr? getAttrBy? getAttrBy;refine ae (wpAny_mkText (ae (gX (bW (ae (T0.at (ae (T1.at ?_))))))));dsimp only;rw [nh,aQ aM];unfold getAttrByItsOwn;show wpAny _ _ (typeLookup (.ref D) "__getattr__">>=λbefore=>_) _ _ _;refine ae (T2.at (ae (gX (bW ?_))));show wpAny _ _ (boundAndCalled _ _ _) _ _ _;unfold boundAndCalled;rw [f3];refine ae (aw (i6 (fP fZ.ga.plain PySem.F.entry_bexc_ga ?_)))
 have k1:builtinKind "BaseException.__getattribute__" = some .slot:=by decide +kernel
 have k2:splitId "BaseException.__getattribute__" = some ("BaseException","__getattribute__"):=by decide +kernel
 have k3:=PySem.F.args_bexc_ga (.ref x) (.str "__class__" t);simp only [checkBuiltinCall,k1,k2];show wpAny _ _ (isInstance (.ref x) (.type "BaseException")>>=λb=>_) _ _ _;refine ae (T4.at ?_);rw [aQ (by decide)]
 refine aY (Q:=λ_ s'=>s'=⟨hh,g,d,t+1,os⟩) (E:=λ_ _=>False) ?_ (λu s' e=>?_) (λ_ _ z=>z.elim)
 ·repeat (any_goals (first|assumption|rfl|wp_step))
 ·subst e;unfold Builtin.«object.__getattribute__»
  repeat (first|with_reducible refine T0.at ?_|with_reducible refine T3.at ?_|wp_step)
  exact ar9 (s:=⟨hh,g,d,t+1,os⟩) Z X I (aw (handed_on rfl (aw h)))
theorem XKit.at(Z:XKit K D):∃c o cd sl,K.lookup D=some ⟨c,o,.cls cd,sl⟩:=by
 have:=Z.cl
 unfold clsIn at this
 split at this
 ·exact ⟨_,_,_,_, ‹_›⟩
 ·cases this
theorem XKit.no(Z:XKit K D){its:List Value}(X:K.In h)(q:h.get? tp=some ⟨.type "tuple",dd,.seq its.toArray n,sl⟩):(Value.ref D == .ref tp)=false :=
 bM.mpr λe=>by
  obtain ⟨_,_,_,_,lo⟩:=Z.at;rw [Value.ref.inj e] at lo;have:=X _ _ lo;rw [q] at this;cases this
theorem aer(Z:XKit K D):KitX K (.ref x) (.ref D) (ExAt x D) :=
 ⟨λ_ _ _ I=>ExAt.ty I,λ_ _ X _=>(kit_cls X Z.kc).2.1,λ_ _ _ _ _ _ X q=>Z.no X q,λX I q=>aj1 Z X I q⟩
end
end L2
namespace L2
open PySem.W PyProof.Rows
section
variable{X:Cx}{pins:List (Addr×Obj)}{σ:St}{H H1 H':Hp}{s s1 s':Shared}
theorem a9u(I:Inv X pins σ H s)(hN:X.N.Nodup)(hi:X.N[i]? = some n)(hk:X.env.scope.names.lookup n=some .local)
  (h:∀s',Inv X pins (σ.set i none) H s'->Q () s'):wpAny M A (do bindName X.env n .none;unbindBehindTheSuite X.env n pos) Q E s:=by
 obtain ⟨m,hn,hl⟩:=id I.loc;have hcls:(X.env.scope.kind == .class || (X.env.scope.kind == .module && X.env.locals != X.env.globals))=false:=by rw [I.ok.kind];rfl
 have cne:=I.cne;obtain ⟨oL,_,_,hoL,_⟩:=id hn;refine wpAny_nameGoes_keeps hk hn hcls λh' v hn' hs=>h _ ?_;have far:∀b o,X.s₀.heap.get? b=some o->b≠X.env.locals:=λb o e=>aX (aO (aI e) I.ok.above);refine ⟨I.ok,I.os,I.bare,⟨λb o e n hb hx=>(hs.2 b (far b o e)).trans (I.base.keep b o e n hb hx),λb o e n hb hx=>?_,I.base.free,λb o e hx=>?_,I.base.tups,I.base.frzs,I.base.tbls⟩,⟨_,hn',λj y v' e1 e2 e3=>?_⟩,λy c e=>?_,I.free,I.freeC,λp hp=>?_,I.hok.track λb u hb q=>?_,by simpa using I.len⟩
 ·obtain ⟨sl,q⟩:=I.base.slot b o e n hb hx;exact ⟨sl,(hs.2 b (far b o e)).trans q⟩
 ·obtain ⟨o1,q⟩:=I.base.there b o e hx;exact ⟨o1,(hs.2 b (far b o e)).trans q⟩
 ·have ji:j≠i:=λz=>by
   subst z;rw [List.getElem?_set] at e2;simp at e2
  rw [cI (eX ji)] at e2;obtain ⟨u',r',q⟩:=hl j y v' e1 e2 e3;refine ⟨u',r',?_⟩
  rcases q with ⟨k,e⟩|⟨k,c,e,z⟩
  ·refine .inl ⟨k,?_⟩;have:y≠n:=λe=>ji (a99 hN e1 (e ▸ hi));simp [this,e]
  ·exact .inr ⟨k,c,e,z.sameBut hs (cne y c e)⟩
 ·obtain ⟨w',z⟩:=I.cell y c e;exact ⟨w',z.sameBut hs (cne y c e)⟩
 ·obtain ⟨e,n,ne,nf,d⟩:=I.pin p hp;exact ⟨(hs.2 p.1 ne).trans e,n,ne,nf,d⟩
 ·refine (hs.2 b λz=>?_).trans q;subst z;exact hb I.free
theorem aoq(I1:Inv X pins σ H1 s1)(os:s'.os=s1.os)(bare:AllBare s'.gens)(un:Un (frs X.stack) [] H1 H' s1.heap s'.heap)(hok:HOk X.prog X.w H' s'.heap)(air:Air X.stack H' s1.heap B a C t s'.heap)
  (st:B.StaysIn h5) (up:s'.heap.UpToSlots h5) (tk:Nat):Inv X pins σ H' {s' with heap:=h5,toks:=tk}:=by
 have I2:Inv X pins σ H' s':=I1.call' os un hok bare (by intro b z;cases z)
 refine I1.call' (s':={s' with heap:=h5,toks:=tk}) os ⟨λb o q n hf hx=>?_,λb o q n hf hx=>?_,un.free,λb o q hx=>?_,un.tups,un.frzs,un.tbls⟩ (hok.track λb u hn q=>?_) bare (by intro b z;cases z)
 ·exact st _ _ (air.bk b o (un.keep b o q n hf hx) hf (.inr ⟨o,q⟩))
 ·obtain ⟨s2,q2⟩:=un.slot b o q n hf hx;obtain ⟨s3,q3⟩:=up b _ q2 (a7l I2 hf q2);exact ⟨s3,q3⟩
 ·obtain ⟨o1,q1⟩:=un.there b o q hx
  by_cases hf:b∈frs X.stack
  ·obtain ⟨s3,q3⟩:=up b _ q1 (a7l I2 hf q1);exact ⟨_,q3⟩
  ·exact ⟨_,st _ _ (air.bk b o1 q1 hf (.inr ⟨o,q⟩))⟩
 ·exact st _ _ (air.bk b u q (λz=>hn (I2.stkFree b z)) (.inl hn))
abbrev Cx.inEx(X:Cx)(a:Addr):Cx:={X with A:=X.A.mark (some (.ref a)),calm:=false,xe:=λ_ _=>False}
theorem Cx.Ok.inEx(ok:X.Ok)(a:Addr):(X.inEx a).Ok:=⟨ok.mod,ok.kind,ok.glob,ok.blt,ok.above,ok.inj,ok.has,ok.cab,λz=>(Bool.noConfusion (show false=true from z)),ok.frames,ok.stk,ok.exf,ok.bs,ok.bsz,ok.noex,ok.exfs,ok.funs,ok.frf⟩
theorem Inv.inEx(I:Inv X pins σ H s)(a:Addr):Inv (X.inEx a) pins σ H s:=⟨I.ok.inEx a,I.os,I.bare,I.base,I.loc,I.cell,I.free,I.freeC,I.pin,I.hok,I.len⟩
theorem Inv.outEx(ok:X.Ok)(I:Inv (X.inEx a) pins σ H s):Inv X pins σ H s:=⟨ok,I.os,I.bare,I.base,I.loc,I.cell,I.free,I.freeC,I.pin,I.hok,I.len⟩
def exO(a:Addr):HO:=.ext λh=>∃o,h.get? a=some o
theorem Inv.exc(I:Inv X pins σ H s)(I1:Inv X pins σ H1 s1)(he:s.heap.get? a=some oe)(ha:H a=none)(na:s1.heap.get? a=none):Inv X pins σ (upd H a (.frz oe (exO a))) s:=by
 have old:∀b o,s1.heap.get? b=some o->b≠a:=λb o q z=>by subst z;rw [na] at q;cases q
 have sm:∀b o,s1.heap.get? b=some o->upd H a (.frz oe (exO a)) b=H b:=λb o q=>jh (old b o q);have kp:∀b u,H b=some u->upd H a (.frz oe (exO a)) b=some u:=λb u q=>by
  rw [jh]
  ·exact q
  ·intro z;subst z;rw [ha] at q;cases q
 have ba:=I.base;refine ⟨I.ok,I.os,I.bare,⟨ba.keep,ba.slot,λb o q n hx=>?_,ba.there,λb xs q=>kp _ _ (ba.tups b xs q),λb o u q=>kp _ _ (ba.frzs b o u q),λb ps q=>?_⟩,I.loc,I.cell,?_,λy c e=>?_,λp hp=>?_,λb u q=>?_,I.len⟩
 ·obtain ⟨o1,q1⟩:=I1.base.there b o q hx;rw [sm b o1 q1];exact ba.free b o q n hx
 ·obtain ⟨more,q1⟩:=ba.tbls b ps q;exact ⟨more,kp _ _ q1⟩
 ·obtain ⟨_,⟨o,_,_,q,_⟩,_⟩:=I1.loc;rw [sm _ _ q];exact I.free
 ·obtain ⟨v,o,q,_⟩:=I1.cell y c e;rw [sm _ _ q];exact I.freeC y c e
 ·obtain ⟨e,n,ne,nf,d⟩:=I.pin p hp;exact ⟨e,by rw [sm _ _ (I1.pin p hp).1];exact n,ne,nf,d⟩
 ·by_cases hb:b=a
  ·subst hb;rw [ou] at q;cases q
   exact ⟨he,⟨oe,he⟩,⟨oe,he⟩,λh1 h2 ⟨o,q⟩ k=>⟨o,k o q⟩⟩
  ·rw [jh hb] at q;exact (I.hok b u q).stay (λ_ _ _ z=>z) (λc z=>kp _ _ z) λc xs z=>kp _ _ z
end
def XP(X:Cx)(pins:List (Addr×Obj))(σ:St)(E:XK)(e:Value)(s':Shared):Prop:=∃s1 H1,Inv X pins σ H1 s1/\CXE X.prog X.w X.stack H1 s1 E e s'
structure Hnd (X:Cx) (R:Addr) (x n:Str) (i:Nat):Prop where
 hg:Gl X x
 hm:X.mg x=some (.ref R)
 nd:X.N.Nodup
 hi:X.N[i]? = some n
 lo:X.env.scope.names.lookup n=some .local
 st:X.stack=X.env::X.outer/\X.env.frame=some X.env.locals
 db:(x == ("__debug__" : Str))=false
section
variable{X:Cx}{pins:List (Addr×Obj)}{σ:St}{s s':Shared}
def azf(D:Ends)(i:Nat):Ends:={nx:=λσ H=>D.nx (σ.set i none) H,rt:=D.rt,bk:=λσ H=>D.bk (σ.set i none) H,ct:=λσ H=>D.ct (σ.set i none) H}
theorem amd(N:Hnd X R x n i)(hs:∀a,PSs (X.inEx a) (b0::suite) ts)
  (mt:∀C H,E (.ref C) none H->exmOne X.K (.ref C) (.ref R)=some true/\∀a oe,oe.cls=.ref C->H a=none->ts (azf D i) (σ.set i (some (.ref a))) (upd H a (.frz oe (exO a))))
  (h:XP X pins σ E e s') :
  wpAny (model X.prog X.w) X.A (noteFrame e X.env) (λ_ s2=>wpAny (model X.prog X.w) X.A (setFlight e none) (λ_ s3=>wpAny (model X.prog X.w) X.A (handleBy e X.env [.ExceptHandler (some (.Name x np)) (some n) (b0::suite) pos]) (SP X pins D) X.xe s3) X.xe s2) X.xe s':=by
 obtain ⟨s1,H1,I1,a,C,t,B,H',rfl,os,bare,un,hok,air,e⟩:=h;obtain ⟨mt1,mt2⟩:=mt C H' e;have ok:=I1.ok;have fr:X.A.frames=some (X.env::X.outer):=by rw [<-N.st.1];exact ok.frames
 have fl:=air.fly;rw [N.st.1] at fl;have na:s1.heap.get? a=none:=by
  cases q:s1.heap.get? a with
  |none=>rfl
  |some o =>
   obtain ⟨oe,vs,he,_,hd,_⟩:=fl.first
   have I2:Inv X pins σ H' s':=I1.call' os un hok bare (by intro b z;cases z)
   have nf:a∉frs X.stack:=λz=>a7l I2 z he _ hd;have:=air.bk a oe he nf (.inr ⟨o,q⟩);rw [fl.2.1] at this;cases this
 have ha:H' a=none:=by
  cases q:H' a with
  |none=>rfl
  |some u =>
   obtain ⟨oe,vs,he,_,hd,_⟩:=fl.first
   have I2:Inv X pins σ H' s':=I1.call' os un hok bare (by intro b z;cases z)
   have nf:a∉frs X.stack:=λz=>a7l I2 z he _ hd;have:=air.bk a oe he nf (.inl (by rw [q];simp))
   rw [fl.2.1] at this;cases this
 refine wpAny_looks_onW fr N.st.2 fl λh4 held4 up4=>?_;refine wpAny_landsW held4 λh5 fl5 up5=>?_;have I5:=aoq I1 os bare un hok air fl5.1 (up4.trans up5) s'.toks;obtain ⟨ob,hob,hobc⟩:=fl5.there;have I5m:=I5.inEx a;refine wpAny_handleBy_cons (codeAny_handlers_test (a3j I5m N.hg N.hm ?_ N.db)) (by intro q;cases q)
 have LT:Looks (model X.prog X.w) h5 (typeOf (.ref a)) (.ref C):=hobc ▸ (Looks.ld hob).andThen .now;refine (exm_one I5.kIn LT mt1).here ?_;refine codeAny_handlers_suite_as ?_;refine lands_againW fl5 λh6 fl6 up6=>?_;have I6:=aoq I1 os bare un hok air fl6.1 ((up4.trans up5).trans up6) s'.toks;obtain ⟨oe,vs,he,hec,hed,_⟩:=fl6.first
 have I7:=(I6.exc I1 he ha na).inEx a;refine a6k (X:=X.inEx a) I7 N.nd N.hi (.inl N.lo) (v:=.ref a) rfl (λs8 I8=>?_) (.inr N.lo);refine aY (hs a pins s8 _ _ (azf D i) I8 (mt2 a oe hec ha)) (λf s9 q=>?_) λ_ _ z=>z.elim;show wpAny (model X.prog X.w) X.A (do bindName X.env n .none;unbindBehindTheSuite X.env n pos) (λ_ s3=>SP X pins D f s3) X.xe s9
 cases f with
 |next =>
  obtain ⟨σ',H9,I9,q⟩:=q;exact a9u (I9.outEx ok) N.nd N.hi N.lo λs10 I10=>⟨_,H9,I10,q⟩
 |brk =>
  obtain ⟨σ',H9,I9,q⟩:=q;exact a9u (I9.outEx ok) N.nd N.hi N.lo λs10 I10=>⟨_,H9,I10,q⟩
 |cont =>
  obtain ⟨σ',H9,I9,q⟩:=q;exact a9u (I9.outEx ok) N.nd N.hi N.lo λs10 I10=>⟨_,H9,I10,q⟩
 |ret u =>
  obtain ⟨v,σ',H9,I9,r,q⟩:=q;exact a9u (I9.outEx ok) N.nd N.hi N.lo λs10 I10=>⟨v,_,H9,I10,r,q⟩
def PEx(X:Cx)(e:Expr)(t:St->Hp->VK->XK->Prop):Prop :=
 ∀(pins:List (Addr×Obj)) (s:Shared) (σ:St) (H:Hp) (Q:VK) (E:XK),Inv X pins σ H s->t σ H Q E->wpAny (model X.prog X.w) X.A (eval e X.env) (EP X pins σ Q) (XP X pins σ E) s
def PSx(X:Cx)(st:List Stmt)(t:Ends->XK->St->Hp->Prop):Prop :=
 ∀(pins:List (Addr×Obj)) (s:Shared) (σ:St) (H:Hp) (D:Ends) (E:XK),Inv X pins σ H s->t D E σ H->wpAny (model X.prog X.w) X.A (execs st X.env) (SP X pins D) (XP X pins σ E) s
variable{e:Expr}{es:List Expr}{pos:Pos}
theorem aj2{st:Stmt}{D:Ends}{W:Value->Shared->Prop}(h:wpAny (model X.prog X.w) X.A (exec st X.env) (SP X pins D) W s):wpAny (model X.prog X.w) X.A (execs [st] X.env) (SP X pins D) W s:=by
 refine gZ (thn h λf s1 q=>?_)
 cases f with
 |next=>exact eY q
 |ret v=>exact q
 |brk=>exact q
 |cont=>exact q
theorem ame{t:St->Hp->VK->XK->Prop}(he:PEx X e t)(hs:swapsWith e none pos.line X.env=pure false:=by rfl):PSx X [.Expr e pos] (λD E σ H=>t σ H (λ_ H1=>D.nx σ H1) E):=by
 intro pins s σ H D E I h
 exact aj2 (wpAny_Expr_any (thn (he pins s σ H _ E I h) λv s1 ⟨x,H1,I1,r1,q1⟩=>⟨σ,H1,I1,q1⟩) I.quiet hs)
theorem avr(N:Hnd X R x n i)(hb:PSx X body t)(hs:∀a,PSs (X.inEx a) (b0::suite) ts) :
  PS X (.Try body [.ExceptHandler (some (.Name x np)) (some n) (b0::suite) hp] [] [] pos) (λD σ H=>t D (λcls d H'=>∃C,cls=.ref C/\exmOne X.K (.ref C) (.ref R)=some true/\∀a oe,oe.cls=.ref C->H' a=none->ts (azf D i) (σ.set i (some (.ref a))) (upd H' a (.frz oe (exO a)))) σ H):=by
 intro pins s σ H D I h
 refine wpAny_Try_except (aY (hb pins s σ H D _ I h) (λf s1 q=>?_) λe s1 q=>amd N hs (λC H' z=>?_) q)
 ·cases f with
  |next=>exact eY q
  |ret v=>exact q
  |brk=>exact q
  |cont=>exact q
 ·obtain ⟨C',z,m1,m2⟩:=z;cases z
  exact ⟨m1,m2⟩
theorem amf(F:FnOk X.prog X.w X.K X.mg X.base (CXE X.prog X.w) k f fd ps sp)(hr:Room k X.A)(hg:Gl X x)(hm:X.mg x=some (.ref f))(hk:PySem.W.keepIn X.K (.ref f)=true)(hb:Binds X.K fd ps [])
  (ha:PA X.nox (e::es) t) (hdb:(x == ("__debug__" : Str))=false:=by decide) (he:starEach (e::es) X.env=(false,eval e X.env)::starEach es X.env:=by rfl) (hpl:(backTo pos (starEach es X.env)).any (·.1)=false:=by rfl) :
  PEx X (.Call (.Name x p) (e::es) [] pos) (λσ H Q E=>t σ H λvs H1=>sp vs H1 Q E):=by
 intro pins s σ H Q E I h
 refine cZ (a3j I hg hm ?_ hdb);refine gz (h₀:=X.base) I.ok.mod.kin hk (aY (ha pos pins s σ H _ (I.wish _) h) (λus s1 ⟨vs,H1,I1,r,q⟩=>⟨I1.unwish.kIn,?_⟩) λ_ _ z=>z.elim) he hpl;have I1:=I1.unwish;have hl:us.length=ps.length:=by rw [<-r.length];exact F.len _ _ _ _ q
 have bd:=hb s1 us I1.kIn (by rw [b9];exact hl)
 rw [b9] at bd;refine i6 (eE (F.run X.A X.stack s1 H1 ⟨us,[]⟩ us vs Q E hr I1.env0 bd r q) λr s' hq=>?_)
 cases r with
 |error e=>exact ⟨s1,H1,I1,hq⟩
 |ok fl =>
  cases fl with
  |ret u=>exact I1.after hq
  |next=>exact False.elim hq
  |brk=>exact False.elim hq
  |cont=>exact False.elim hq
end
end L2
namespace MI
open L2
def aor(mg:Str->Option Value)(E:XK):XD:=λc _ H' _=>∃C,mg c=some (.ref C)/\E (.ref C) none H'
def spX(K:PySem.W.Frag)(mg:Str->Option Value)(n:Nat)(F:SF):Sp:=λvs H Q E=>vs.length=n/\∃ι ds h,Reps K ι H vs ds/\HRep K ι H h/\out K (aor mg E) (vh K) ι H (F ds h) Q
structure DnX (P:Program) (w:World) (K:PySem.W.Frag) (mg:Str->Option Value) (base:Heap) (k:Nat) (x:Str) (ps:List Str) (sp:Sp) (f:Addr) (fd:FuncData):Prop where
 ok:FnOk P w K mg base (CXE P w) k f fd ps sp
 m:mg x=some (.ref f)
 kp:PySem.W.keepIn K (.ref f)=true
 b:Binds K fd ps []
theorem ara(Fu:Fun K x qual st f fd)(S:FnScope N ps (dh st))
  (hb:∀(cdv:Value) (A:Around) (outer:List Env) (s:Shared) (H:Hp) (E:XK),Room k (A.deeper (PyProof.Rows.envOfC qual (dh st) s.heap.objs.size f cdv))->MSs (cxE P w K mg base N qual (dh st) f cdv A outer s H E) (aor mg E) (uh st) b) :
  FnOk P w K mg base (CXE P w) (k+1) f fd ps (spX K mg ps.length (km b N.length)):=by
 obtain ⟨oc,od,kV,doc,pm,an,cdv,ct,osl,rfl,lk,hcd⟩:=Fu.ex;refine aub lk hcd S (λvs H Q E h=>h.1) λA outer s H vs Q E hr h=>⟨_,hb cdv A outer s H E hr,?_⟩;obtain ⟨hl,ι,ds,h,r,hr',o⟩:=h;refine ⟨ι,a3z N.length ds,h,a8j r,hr',?_⟩;unfold km at o
 cases hbd:b (a3z N.length ds) h with
 |rt d h1=>rw [hbd] at o;exact o
 |nx τ h1=>rw [hbd] at o;exact λι' H' σ' g1 S1 hr1=>o ι' H' .non g1 .non hr1
 |ex c h1=>rw [hbd] at o;exact o
 |bk τ h1=>rw [hbd] at o;exact o.elim
 |ct τ h1=>rw [hbd] at o;exact o.elim
 |no=>rw [hbd] at o;exact o.elim
section
variable{K:PySem.W.Frag}{ι:List Addr}{H:Hp}{h:Hd}{n:Nat}
noncomputable def a7m(n:Nat)(F:SF):SF:=λds h=>open Classical in if ∀d∈ds,clo 0 d then (match F ds [] with|.ex c _=>if ds.length=n then .ex c h else .no|_=>je false n F ds h) else .no
theorem noex:je m n F ds h≠.ex c h1:=by
 unfold je
 split
 ·unfold aon
  intro e
  repeat (first|(split at e)|cases e)
 ·intro e;cases e
theorem aes(ne:∀c h1,r≠.ex c h1)(o:out K E (vh K) ι H r Q):out K E' (vh K) ι H r Q:=by
 cases r with
 |ok a h=>exact o
 |ex c h=>exact absurd rfl (ne c h)
 |no=>exact o
theorem HRep.stays(hr:HRep K ι H h)(k:∀a u,H a=some u->H' a=some u):Gr ι H ι H'/\HRep K ι H' h:=by
 have G:Gr ι H ι H':=⟨⟨[],by simp,by simp⟩,λa vs q=>k _ _ q,λa o u q=>k _ _ q,λa u q _=>k _ _ q,λa u q=>⟨u,k _ _ q⟩⟩
 refine ⟨G,hr.nd,hr.len,λi a o e1 e2=>?_⟩;have r:=hr.obj i a o e1 e2;obtain ⟨u,hu,_⟩:=r.some;exact r.mono G (by rw [hu];exact k a u hu)
theorem abm:∀{ds:List D},(∀d∈ds,clo 0 d)->clos 0 ds
 |[],_=>by simp [clos]
 |d::ds,h=>by simp only [clos];exact ⟨h d aR,abm λx hx=>h x (aL _ hx)⟩
theorem aet(r:Reps K ι H vs ds)(hr:HRep K ι H h)(o:out K E2 (vh K) ι H (a7m n F ds h) Q)(hE:∀c H' ,Gr ι H ι H'->HRep K ι H' h->E2 c ι H' h->aor mg E c ι H' h) :
  spX K mg n F vs H (λv H1=>∃L,abe H1 L/\∀H2,FrzOf L H1 H2->Q v H2) E:=by
 unfold a7m at o
 split at o
 ·rename_i hc;have ok:out K E2 (vh K) ι H (je false n F ds h) Q->spX K mg n F vs H (λv H1=>∃L,abe H1 L/\∀H2,FrzOf L H1 H2->Q v H2) E:=λo=>by
   obtain ⟨l,ι0,ds0,h0,r0,hr0,o0⟩:=a9q r hr (aes (E':=X0) (λc h1=>noex) o) E;refine ⟨l,ι0,ds0,h0,r0,hr0,?_⟩
   cases e:F ds0 h0 with
   |ok a h1=>rw [e] at o0;exact o0
   |ex c h1=>rw [e] at o0;exact λι' H' g hr=>(o0 ι' H' g hr).elim
   |no=>rw [e] at o0;exact o0
  split at o
  ·rename_i c hx e
   split at o
   ·rename_i hl;have R0:Reps K [] H vs ds:=by
     have:=r.cut (abm hc)
     rwa [gI] at this
    refine ⟨by rw [r.len];exact hl,[],ds,[],R0,⟨fG,rfl,λi a o e1=>by simp at e1⟩,?_⟩
    rw [e]
    intro ι' H' g _
    obtain ⟨G,hr'⟩:=hr.stays λa u q=>g.oth a u q (by simp)
    exact hE c H' G hr' (o ι H' G hr')
   ·exact o.elim
  ·exact ok o
 ·exact o.elim
end
theorem a9v(m:Bool){X:Cx}(G:Dn X.prog X.w X.K X.mg X.base k x ps (m5 X.K n F) f fd)(hr:Room k X.A)(hg:Gl X x)(ha:MA X E (e::es) ka)
  (hdb:(x == ("__debug__" : Str))=false:=by decide) (he:starEach (e::es) X.env=(false,eval e X.env)::starEach es X.env:=by rfl) (hpl:(backTo pos (starEach es X.env)).any (·.1)=false:=by rfl):ME X E (.Call (.Name x p) (e::es) [] pos) (sA (je m n F) ka):=by
 refine PE.weak (abf (aco G.ok hr hg G.m G.kp G.b .nil ale ha hdb he hpl)) ?_
 rintro σ H Q ⟨ι,τ,h,S,Rh,o⟩
 refine ⟨ι,τ,h,S,Rh,g8 o λds h1 ι1 H1 vs g1 r1 hr1 o1=>?_⟩;rw [b9];exact a9q r1 hr1 (aes (λc h1=>noex) o1) _
theorem aj3{X:Cx}(G:DnX X.prog X.w X.K X.mg X.base k x ps (spX X.K X.mg n F) f fd)(hr:Room k X.A)(hg:Gl X x)(ha:MA X X0 (e::es) ka)
  (hdb:(x == ("__debug__" : Str))=false:=by decide) (he:starEach (e::es) X.env=(false,eval e X.env)::starEach es X.env:=by rfl) (hpl:(backTo pos (starEach es X.env)).any (·.1)=false:=by rfl):ME X X0 (.Call (.Name x p) (e::es) [] pos) (sA (a7m n F) ka):=by
 have ps0:a70 (CXE X.prog X.w) X E0:=by
  rintro pins σ H s e s' I ⟨a,C,t,B,H',rfl,os,bare,un,hok,air,z⟩
  exact z.elim
 refine PE.weak (abf (aco G.ok hr hg G.m G.kp G.b .nil ps0 ha hdb he hpl)) ?_
 rintro σ H Q ⟨ι,τ,h,S,Rh,o⟩
 refine ⟨ι,τ,h,S,Rh,g8 o λds h1 ι1 H1 vs g1 r1 hr1 o1=>?_⟩;rw [b9];exact aet r1 hr1 o1 λc H' _ _ z=>z.elim
section
variable{P:Program}{w:World}{K:PySem.W.Frag}{mg:Str->Option Value}{base:Heap}{N:List Str}{qual:Str}{scope:Scope}{fa:Addr}{cd:Value}{A:Around}{outer:List Env}{s0:Shared}{H0:Hp}{E:XK}
def aos(c:Str)(ka:SA):SS:=λτ h=>(ka τ h).fl λds h1=>if ds.length<=LINE then .ex c h1 else .no
theorem amg(hC:XCls K C)(hg:Gl (cxE P w K mg base N qual scope fa cd A outer s0 H0 E) x)(hm:mg x=some (.ref C))(ha:MA (cxE P w K mg base N qual scope fa cd A outer s0 H0 E) (aor mg E) (e::es) ka)
  (hdb:(x == ("__debug__" : Str))=false:=by decide) (he:starEach (e::es) (cxE P w K mg base N qual scope fa cd A outer s0 H0 E).env=(false,eval e (cxE P w K mg base N qual scope fa cd A outer s0 H0 E).env)::starEach es (cxE P w K mg base N qual scope fa cd A outer s0 H0 E).env:=by rfl) (hpl:(backTo cpos (starEach es (cxE P w K mg base N qual scope fa cd A outer s0 H0 E).env)).any (·.1)=false:=by rfl) :
  MS (cxE P w K mg base N qual scope fa cd A outer s0 H0 E) (aor mg E) (.Raise (some (.Call (.Name x np) (e::es) [] cpos)) none pos) (aos x ka):=by
 refine PS.weak (amb (X:=cxE P w K mg base N qual scope fa cd A outer s0 H0 E) (Ex:=λH=>E (.ref C) none H) hC hg hm rfl ha (λpins σ H s h' a args I mk z=>aze I mk z) hdb he hpl) ?_
 rintro D σ H ⟨ι,τ,h,S,Rh,o⟩
 refine ⟨ι,τ,h,S,Rh,v7 o λds h1 ι1 H1 vs g1 r1 hr1 o1=>?_⟩
 split at o1
 ·rename_i hl;obtain ⟨C',e1,z⟩:=o1 ι1 H1 (.refl _ _) hr1;rw [hm] at e1;cases e1
  exact ⟨by rw [r1.len];exact acs hl,z⟩
 ·exact o1.elim
end
def noX{α:Type}:R α->R α
 |.ex _ _=>.no
 |r=>r
def qA{α:Type}(ka:Sd->Hd->R α):Sd->Hd->R α:=λτ h=>noX (ka τ h)
abbrev MEx(X:Cx)(e:Expr)(f:SE):Prop:=PEx X e λσ H Q E=>lift X.K (aor X.mg E) (vh X.K) f σ H Q
abbrev MSx(X:Cx)(st:List Stmt)(f:SS):Prop:=PSx X st λD E σ H=>a9i X.K (aor X.mg E) f D σ H
section
variable{X:Cx}
theorem arb(h:PEx X e t):PEx X e (λσ H Q E=>t σ H (λv H1=>∃L,abe H1 L/\∀H2,FrzOf L H1 H2->Q v H2) E):=λpins s σ H Q E I q =>
 L2.thn (h pins s σ H _ E I q) λu s' ⟨v,H1,I1,r,L,ab,k⟩=>let ⟨H2,f,I2⟩:=Inv.frz I1 ab; ⟨v,H2,I2,r,k H2 f⟩
theorem arc(G:DnX X.prog X.w X.K X.mg X.base k x ps (spX X.K X.mg n F) f fd)(hr:Room k X.A)(hg:Gl X x)(ha:MA X.nox X0 (e::es) ka)
  (hdb:(x == ("__debug__" : Str))=false:=by decide) (he:starEach (e::es) X.env=(false,eval e X.env)::starEach es X.env:=by rfl) (hpl:(backTo pos (starEach es X.env)).any (·.1)=false:=by rfl):MEx X (.Call (.Name x p) (e::es) [] pos) (sA (a7m n F) (qA ka)):=by
 intro pins s σ H Q E I ⟨ι,τ,h,S,Rh,o⟩
 refine arb (amf G.ok hr hg G.m G.kp G.b ha hdb he hpl) pins s σ H Q E I ⟨ι,τ,h,S,Rh,?_⟩;have o2:=g8 o (P:=λvs H1=>spX X.K X.mg n F vs H1 (λv H1=>∃L,abe H1 L/\∀H2,FrzOf L H1 H2->Q v H2) E) λds h1 ι1 H1 vs g1 r1 hr1 o1=>aet r1 hr1 o1 λc H' _ _ z=>z;unfold qA at o2
 cases e1:ka τ h with
 |ok a h1=>rw [e1] at o2;exact o2
 |ex c h1=>rw [e1] at o2;exact o2.elim
 |no=>rw [e1] at o2;exact o2
theorem ard{pos:Pos}(he:MEx X e f)(hs:swapsWith e none pos.line X.env=pure false:=by rfl):MSx X [.Expr e pos] (yr f):=λpins s σ H D E I ⟨ι,τ,h,S,Rh,o⟩ =>
 ame he hs pins s σ H D E I ⟨ι,τ,h,S,Rh,v7 o λd h1 ι1 H1 v g1 r1 hr1 o1=>o1 ι1 H1 _ (.refl _ _) (S.mono g1) hr1⟩
def avs(i:Nat)(cs:Str->Bool)(fb fs:SS):SS:=λτ h=>match fb τ h with
 | .ex c h1=>if cs c=true then (match fs (τ.set i (some (.exc c))) h1 with
   |.nx τ' h'=>.nx (τ'.set i none) h'|.rt d h'=>.rt d h'|.bk τ' h'=>.bk (τ'.set i none) h'|.ct τ' h'=>.ct (τ'.set i none) h'|_=>.no) else .no
 |r=>r
theorem SRep.off(S:SRep K ι H σ τ)(i:Nat):SRep K ι H (σ.set i none) (τ.set i none):=by
 refine ⟨by simp [S.len],λj d e=>?_⟩
 by_cases hj:i=j
 ·subst hj;rw [List.getElem?_set] at e;simp at e
 ·rw [cI hj] at e ⊢;exact S.val j d e
theorem avt{R:Addr}{x n:Str}{i:Nat}{np hp pos:Pos}{body:List Stmt}{b0:Stmt}{suite:List Stmt}{cs:Str->Bool}{fb fs:SS}(N:Hnd X R x n i)
  (hcs:∀c,cs c=true->∃C,X.mg c=some (.ref C)/\PySem.W.nsIn X.K mainGlobals c=some (some (.ref C))/\PySem.W.exmOne X.K (.ref C) (.ref R)=some true)
  (hb:MSx X body fb) (hs:∀a,MSs (X.inEx a) X0 (b0::suite) fs):MS X X0 (.Try body [.ExceptHandler (some (.Name x np)) (some n) (b0::suite) hp] [] [] pos) (avs i cs fb fs):=by
 refine PS.weak (avr (ts:=a9i X.K X0 fs) N hb hs) λD σ H ⟨ι,τ,h,S,Rh,o⟩=>⟨ι,τ,h,S,Rh,?_⟩;unfold avs at o
 cases e:fb τ h with
 |nx τ' h'=>rw [e] at o;exact o
 |rt d h'=>rw [e] at o;exact o
 |bk τ' h'=>rw [e] at o;exact o
 |ct τ' h'=>rw [e] at o;exact o
 |no=>rw [e] at o;exact o
 |ex c h1 =>
  rw [e] at o;dsimp only at o
  split at o
  ·rename_i hc;obtain ⟨C,m,ns,ex⟩:=hcs c hc
   intro ι' H' g hr
   refine ⟨C,m,C,rfl,ex,λa oe hoe ha=>?_⟩;have G:=g.trans (a0n (ι:=ι') ha (.frz oe (L2.exO a)));refine ⟨ι',τ.set i (some (.exc c)),h1,(S.mono G).set (.exc (o:=oe) (C:=C) ou hoe ns) i,hr.aside ha _,?_⟩;have o1:=xr o G
   cases e2:fs (τ.set i (some (.exc c))) h1 with
   |nx τ' h'=>rw [e2] at o1;exact λι2 H2 σ' g2 S2 hr2=>o1 ι2 H2 _ g2 (S2.off i) hr2
   |bk τ' h'=>rw [e2] at o1;exact λι2 H2 σ' g2 S2 hr2=>o1 ι2 H2 _ g2 (S2.off i) hr2
   |ct τ' h'=>rw [e2] at o1;exact λι2 H2 σ' g2 S2 hr2=>o1 ι2 H2 _ g2 (S2.off i) hr2
   |rt d h'=>rw [e2] at o1;exact o1
   |ex c' h'=>rw [e2] at o1;exact o1.elim
   |no=>rw [e2] at o1;exact o1.elim
  ·exact o.elim
end
section
variable{X:Cx}
def vc(v:V)(cv:Value):Prop:=(∃C,v=.ref C/\cv=.ref C)\/∃T,v=.ty T/\cv=.type T
theorem vc.eq(h:vc v cv)(r:RelV v u):u=cv:=by
 rcases h with ⟨C,rfl,rfl⟩|⟨T,rfl,rfl⟩
 ·exact r
 ·cases r;rfl
theorem avu(I:L2.Inv X pins σ H s)(e:H a=some (.frz o (exO a)))(c:o.cls=.ref C):ExAt a C s.heap:=⟨o,(show ObjOk X.prog X.w H s.heap a (.frz o (exO a)) from I.hok a _ e).1,c⟩
theorem amh:CallR X (.builtin "isinstance") (λxs H Q=>∃a o C v cv b,xs=[.ref a,v]/\vc v cv/\H a=some (.frz o (exO a))/\o.cls=.ref C/\XKit X.K C/\PySem.W.kitOne X.K (.ref C) cv=some b/\Q (.bl b) H):=by
 intro pins s σ H xs us Q I r h
 obtain ⟨a,o,C,v,cv,b,rfl,hv,ea,hc,Z,e,q⟩:=h;obtain ⟨u,w',rfl,rx,rt⟩:=vals2 r;obtain rfl:u=Value.ref a:=rx;obtain rfl:=hv.eq rt;exact bN (aer Z) I.kIn (avu I ea hc) e (λz=>nomatch z) λtk=>⟨.bl b,H,I.tok tk,rfl,q⟩
theorem abn:∀{cs:List Addr} {us:List Value},Vals (cs.map V.ref) us->us=cs.map Value.ref
 |[],_,r=>by cases r;rfl
 |c::cs,us,r=>by
  cases r with
  |cons r rs =>
   rw [bp,<-abn rs]
   congr 1
theorem aj4:CallR X (.builtin "isinstance") (λxs H Q=>∃a o C tp,∃cs:List Addr,∃b,xs=[.ref a,.ref tp]/\H tp=some (.tup (cs.map V.ref))/\H a=some (.frz o (exO a))/\o.cls=.ref C/\XKit X.K C/\PySem.W.kitAny X.K (.ref C) (cs.map Value.ref)=some b/\Q (.bl b) H):=by
 intro pins s σ H xs us Q I r h
 obtain ⟨a,o,C,tp,cs,b,rfl,et,ea,hc,Z,e,q⟩:=h;obtain ⟨u,w',rfl,rx,rt⟩:=vals2 r;obtain rfl:u=Value.ref a:=rx;obtain rfl:w'=Value.ref tp:=rt;obtain ⟨_,its,vr,o',h1,h2,h3⟩:=(show ObjOk X.prog X.w H s.heap tp (.tup (cs.map V.ref)) from I.hok tp _ et)
 obtain rfl:=abn vr
 obtain ⟨n,h3⟩:=h3;have htp:s.heap.get? tp=some ⟨.type "tuple",o'.dict,.seq (cs.map Value.ref).toArray n,o'.slots⟩:=by
  rw [h1];obtain ⟨c,dd,dt,sl⟩:=o';simp only at h2 h3;rw [h2,h3]
 exact PySem.W.kia_tup (aer Z) I.kIn (avu I ea hc) htp e (λz=>nomatch z) λtk=>⟨.bl b,H,I.tok tk,rfl,q⟩
def agx(i:Nat)(f:Str->Option Bool):SE:=λτ h=>match τ[i]? with
 |some (some (.exc c))=>(match f c with|some b=>.ok (.bl b) h|none=>.no)
 |_=>.no
variable{E:XD}
theorem aot(S:SRep K ι H σ τ)(o:out K E (vh K) ι H (agx i f τ h) Q) :
  ∃a ob C c b,σ[i]? = some (some (.ref a))/\H a=some (.frz ob (exO a))/\ob.cls=.ref C/\PySem.W.nsIn K mainGlobals c=some (some (.ref C))/\f c=some b/\out K E (vh K) ι H (.ok (.bl b) h) Q:=by
 unfold agx at o
 split at o
 ·rename_i c e;obtain ⟨v,e1,r⟩:=S.val i _ e
  cases r with
  |exc q hc hn =>
   split at o
   ·rename_i b hb;exact ⟨_,_,_,c,b,e1,q,hc,hn,hb,o⟩
   ·exact o.elim
 ·exact o.elim
theorem aou(hg:Gl X "isinstance")(hm:X.mg "isinstance" = none)(hb:bootBuiltins "isinstance" = some (.builtin "isinstance"))(hN:X.N[i]? = some n)(hv:Vis X.env.scope n)(hc:PE X (.Name x px) (tC v))(hvc:vc v cv)
  (hf:∀c b C,f c=some b->PySem.W.nsIn X.K mainGlobals c=some (some (.ref C))->XKit X.K C/\PySem.W.kitOne X.K (.ref C) cv=some b)
  (hd:(n == ("__debug__" : Str))=false:=by decide) (hcd:(n == ("__classdict__" : Str))=false:=by decide):ME X E (.Call (.Name "isinstance" p0) [.Name n pn,.Name x px] [] pos) (agx i f):=by
 refine PE.weak (a6l amh hg hm hb (yj (ah3 hN hv hd hcd) (yj hc a6z))) ?_
 rintro σ H Q ⟨ι,τ,h,S,Rh,o⟩
 obtain ⟨a,ob,C,c,b,e1,q,oc,ns,fb,o1⟩:=aot S o;obtain ⟨Z,ki⟩:=hf c b C fb ns;exact ⟨_,e1,a,ob,C,v,cv,b,rfl,hvc,q,oc,Z,ki,o1 ι H _ (.refl _ _) (.bl b) Rh⟩
theorem arf{cs:List Addr}(hg:Gl X "isinstance")(hm:X.mg "isinstance" = none)(hb:bootBuiltins "isinstance" = some (.builtin "isinstance"))(hN:X.N[i]? = some n)(hv:Vis X.env.scope n)(hc:PA X es t)(ht:∀σ H (Q:List V->Hp->Prop),Q (cs.map V.ref) H->t σ H Q)(hl:cs.length<=sizeLine)
  (hf:∀c b C,f c=some b->PySem.W.nsIn X.K mainGlobals c=some (some (.ref C))->XKit X.K C/\PySem.W.kitAny X.K (.ref C) (cs.map Value.ref)=some b)
  (hd:(n == ("__debug__" : Str))=false:=by decide) (hcd:(n == ("__classdict__" : Str))=false:=by decide):ME X E (.Call (.Name "isinstance" p0) [.Name n pn,.Tuple es k px] [] pos) (agx i f):=by
 refine PE.weak (a6l aj4 hg hm hb (yj (ah3 hN hv hd hcd) (yj (ao5 hc) a6z))) ?_
 rintro σ H Q ⟨ι,τ,h,S,Rh,o⟩
 obtain ⟨a,ob,C,c,b,e1,q,oc,ns,fb,o1⟩:=aot S o;obtain ⟨Z,ki⟩:=hf c b C fb ns;refine ⟨_,e1,ht _ _ _ ⟨by rw [ax];exact hl,λp hp=>?_⟩⟩
 have G:=a0n (ι:=ι) hp (.tup (cs.map V.ref));exact ⟨a,ob,C,p,cs,b,rfl,ou,G.frz _ _ _ q,oc,Z,ki,o1 ι _ _ G (.bl b) (Rh.aside hp _)⟩
end
end MI
namespace EVX
open L2 MI
end EVX
namespace MI
open L2
end MI
namespace EVX
open L2 MI
end EVX
namespace ZP
open PySem.Builtin PySem.Builtin.SmallTypes L2
end ZP
namespace MI
open L2 ZP
end MI
namespace AT
open L2
theorem ami{α:Type}(x0:α)(xs:List α):atI (x0::xs) 0=some x0:=xg (j:=0) rfl
theorem amj{α:Type}(x0 x1:α)(xs:List α):atI (x0::x1::xs) 1=some x1:=xg (j:=1) rfl
theorem amk{α:Type}(x0 x1 x2:α)(xs:List α):atI (x0::x1::x2::xs) 2=some x2:=xg (j:=2) rfl
theorem aml{α:Type}(x0 x1 x2 x3:α)(xs:List α):atI (x0::x1::x2::x3::xs) 3=some x3:=xg (j:=3) rfl
theorem amm{α:Type}(x0 x1 x2 x3 x4:α)(xs:List α):atI (x0::x1::x2::x3::x4::xs) 4=some x4:=xg (j:=4) rfl
theorem amn{α:Type}(x0 x1 x2 x3 x4 x5:α)(xs:List α):atI (x0::x1::x2::x3::x4::x5::xs) 5=some x5:=xg (j:=5) rfl
theorem amo{α:Type}(x0 x1 x2 x3 x4 x5 x6:α)(xs:List α):atI (x0::x1::x2::x3::x4::x5::x6::xs) 6=some x6:=xg (j:=6) rfl
theorem amq{α:Type}(x0 x1 x2 x3 x4 x5 x6 x7:α)(xs:List α):atI (x0::x1::x2::x3::x4::x5::x6::x7::xs) 7=some x7:=xg (j:=7) rfl
theorem x10:ixN 1 0=some 0:=rfl
theorem x20:ixN 2 0=some 0:=rfl
theorem x21:ixN 2 1=some 1:=rfl
theorem x30:ixN 3 0=some 0:=rfl
theorem x31:ixN 3 1=some 1:=rfl
theorem x32:ixN 3 2=some 2:=rfl
theorem x40:ixN 4 0=some 0:=rfl
theorem x41:ixN 4 1=some 1:=rfl
theorem x42:ixN 4 2=some 2:=rfl
theorem x43:ixN 4 3=some 3:=rfl
theorem x50:ixN 5 0=some 0:=rfl
theorem x51:ixN 5 1=some 1:=rfl
theorem x52:ixN 5 2=some 2:=rfl
theorem x53:ixN 5 3=some 3:=rfl
theorem x54:ixN 5 4=some 4:=rfl
theorem x60:ixN 6 0=some 0:=rfl
theorem x61:ixN 6 1=some 1:=rfl
theorem x62:ixN 6 2=some 2:=rfl
theorem x63:ixN 6 3=some 3:=rfl
theorem x64:ixN 6 4=some 4:=rfl
theorem x65:ixN 6 5=some 5:=rfl
theorem x70:ixN 7 0=some 0:=rfl
theorem x71:ixN 7 1=some 1:=rfl
theorem x72:ixN 7 2=some 2:=rfl
theorem x73:ixN 7 3=some 3:=rfl
theorem x74:ixN 7 4=some 4:=rfl
theorem x75:ixN 7 5=some 5:=rfl
theorem x76:ixN 7 6=some 6:=rfl
def b0l(x:Int):Int:=if x<0 then -x else x
theorem aj5(x:Int)(h:MI.Hd):MI.ay5 [.int x] h=.ok (.int (b0l x)) h:=rfl
theorem p18(h:MI.Hd):MI.a8k (.int 10) (.int 18) h=.ok (.int 1000000000000000000) h:=by rw [MI.a8k,aC (by decide)];rfl
theorem avv{i:Int}(c:0<=j/\j<=1000000/\i.natAbs<2^64):MI.a8k (.int i) (.int j) h=.ok (.int (i^j.toNat)) h:=by rw [MI.a8k,aC c]
end AT
namespace MI
open L2 SeqAt
def azg(neg:Bool)(K:PySem.W.Frag):R2:=λx y H Q=>∃(ι:List Addr) (p q:Addr) (vs us:List V) (xs ys:List D),x=.ref p/\y=.ref q/\Rd H p (.lst vs)/\Rd H q (.lst us)/\Reps K ι H vs xs/\Reps K ι H us ys/\xs.all (pur 59)=true/\ys.all (pur 59)=true/\Q (.bl (if neg then !abd xs ys else abd xs ys)) H
theorem aeu(I:Inv X pins σ H s)(hu:X.A.units+64<cLine)(h1:Rd H p (.lst vs))(h2:Rd H q (.lst us))(rs:Reps X.K ι H vs xs)(qs:Reps X.K ι H us ys)(p1:xs.all (pur 59)=true)(p2:ys.all (pur 59)=true) :
  RcAt X.A s (.ref p) (.ref q) (abd xs ys)/\RcNeAt X.A s (.ref p) (.ref q) (!abd xs ys):=by
 obtain ⟨its,r1,pl1,z1⟩:=I.list (.inl h1);obtain ⟨its2,r2,pl2,z2⟩:=I.list (.inl h2);have l1:its.toArray.size=xs.length:=by rw [aA,<-r1.length,rs.len]
 have l2:its2.toArray.size=ys.length:=by rw [aA,<-r2.length,qs.len]
 by_cases hl:xs.length=ys.length
 ·have step:∀j (h1:j<its.toArray.size) (h2:j<its2.toArray.size),EqAt X.A.in1 s its.toArray[j] its2.toArray[j] (pairE xs ys j):=λj h1 h2=>by
   have j1:j<xs.length:=by omega
   have j2:j<ys.length:=by omega
   obtain ⟨v1,e1,q1⟩:=rs.get (ah j1);obtain ⟨v2,e2,q2⟩:=qs.get (ah j2);obtain ⟨u1,e3,q3⟩:=r1.get e1;obtain ⟨u2,e4,q4⟩:=r2.get e2;have f1:its.toArray[j]=u1:=by simpa using (av.mp e3).2
   have f2:its2.toArray[j]=u2:=by simpa using (av.mp e4).2
   have pe:pairE xs ys j=eqD xs[j] ys[j]:=by simp [pairE,ah j1,ah j2]
   rw [f1,f2,pe];rw [bE] at p1 p2;exact aom I.hok 59 X.A.in1 q1 q2 q3 q4 (p1 _ (dG j1)) (p2 _ (dG j2)) (by rw [hU];omega)
  have c1:=RcAt.lists (A:=X.A) (s:=s) (e:=pairE xs ys) pl1.isList pl2.isList (by omega) (by omega) step
  have c2:=RcNeAt.lists (A:=X.A) (s:=s) (e:=pairE xs ys) pl1.isList pl2.isList (by omega) (by omega) step
  have ea:=a4b xs ys;rw [hl,Nat.min_self,eR,fT,<-hl] at ea;rw [l1,ea] at c1 c2;exact ⟨c1,c2⟩
 ·have ne:(its.toArray.size != its2.toArray.size)=true:=by rw [l1,l2];simpa using hl
  have ea:=a4b xs ys;rw [bM.mpr hl,eD] at ea;rw [<-ea];exact ⟨RcAt.lists_lengths pl1.isList pl2.isList ne (by omega),RcNeAt.lists_lengths pl1.isList pl2.isList ne (by omega)⟩
theorem aev{X:Cx}(hu:X.A.units+64<cLine):OpR X (compareOp .Eq) (azg false X.K):=by
 intro pins s σ H x y v u Q I rx ry h
 obtain ⟨ι,p,q,vs,us,xs,ys,rfl,rfl,h1,h2,r1,r2,p1,p2,hq⟩:=h
 cases rx;cases ry
 exact (aeu I hu h1 h2 r1 r2 p1 p2).1 X.prog X.w X.xe _ ⟨.bl _,H,I,rfl,hq⟩
theorem avw{X:Cx}(hu:X.A.units+64<cLine):OpR X (compareOp .NotEq) (azg true X.K):=by
 intro pins s σ H x y v u Q I rx ry h
 obtain ⟨ι,p,q,vs,us,xs,ys,rfl,rfl,h1,h2,r1,r2,p1,p2,hq⟩:=h
 cases rx;cases ry
 exact (aeu I hu h1 h2 r1 r2 p1 p2).2 X.prog X.w X.xe _ ⟨.bl _,H,I,rfl,hq⟩
def ag3(neg:Bool)(x y:D)(h:Hd):R D:=match yt x h,yt y h with
 |some xs,some ys=>if xs.all (pur 59)=true/\ys.all (pur 59)=true then .ok (.bl (if neg then !abd xs ys else abd xs ys)) h else .no
 |_,_=>.no
theorem a7n(neg:Bool):a1w K (ag3 neg) (azg neg K):=by
 intro E ι H h x y dx dy Q rx ry hr o
 unfold ag3 at o
 split at o
 ·rename_i xs ys e1 e2
  split at o
  ·rename_i hc;obtain ⟨a,vs,rfl,h1,r1⟩:=a1b rx hr e1;obtain ⟨b,us,rfl,h2,r2⟩:=a1b ry hr e2;exact ⟨ι,a,b,vs,us,xs,ys,rfl,rfl,h1,h2,r1,r2,hc.1,hc.2,ans o (.bl _) hr⟩
  ·exact o.elim
 ·exact o.elim
end MI
namespace L2
end L2
namespace MI
open L2
end MI
namespace TPM
open PySem.W L2 HT MI
theorem ag4(t:Addr)(items:Array Value)(n:Nat)(dd:Option Addr)(sl:Array (Option Value))(u:Tok) :
  Meets (Builtin.«tuple.__mul__» ⟨[.ref t,.int 1 u],[]⟩) (λ_ R s=>s.heap.get? t=some {cls:=.type "tuple",dict:=dd,data:=.seq items n,slots:=sl}/\R (.ok (.ret (.ref t))) s) :=
 .of_wp λprog w A R s h=>by
  obtain ⟨hp,g,d,tk,os⟩:=s;obtain ⟨hl,h⟩:=h
  wp_walk
  exact ⟨_,rfl,h⟩
def arh(K:PySem.W.Frag):R2:=λx y H Q=>∃a xs,x=.ref a/\y=.int 1/\SqT K H a xs/\Q (.ref a) H
theorem ari:OpR X (binaryOp .Mult) (arh X.K):=by
 intro pins s σ H x y v u Q I rx ry h
 obtain ⟨a,xs,rfl,rfl,ha,q⟩:=h;cases rx
 obtain ⟨t,rfl⟩:=ry;obtain ⟨its,r1,p1,_⟩:=I.tuple ha;obtain ⟨⟨cls,dd,data,sl⟩,ho,hc,n,hd⟩:=id p1;simp only at hc hd;subst hc hd;exact cR (T := "tuple") (U := "int") (by decide) ⟨_,ho,rfl⟩ (λs'=>eC s' 1 t) yo fh cD a7j eO.lookup
  (cN cD (eC s 1 t) eP (eI _ _) (a2b 1 t a its.toArray n dd sl)
   ⟨ho,rfl,⟨_,ho,rfl⟩,cN eQ ⟨_,ho,rfl⟩ gQ (gB _ _) (ag4 a its.toArray n dd sl t) ⟨ho,.ref a,H,I,rfl,q⟩⟩)
end TPM
namespace MI
open L2 TPM
noncomputable def ag5(x y:D)(h:Hd):R D:=match x,y with
 |.tup xs,.int k=>if k=1 then .ok (.tup xs) h else aiu (.tup xs) (.int k) h
 |x,y=>aiu x y h
theorem a9w:a1w K ag5 (λx y H Q=>((rI CMul (λi j=>.int (i*j)) x y H Q\/auj x y H Q)\/am1 K x y H Q)\/arh K x y H Q):=by
 intro E ι H h x y dx dy Q rx ry hr o
 cases rx with
 |@tup a vs xs ha rs =>
  cases ry with
  |int k =>
   simp only [ag5] at o
   split at o
   ·rename_i hc;subst hc;exact .inr ⟨a,vs,rfl,rfl,SqT.of ha,ans o (.tup ha rs) hr⟩
   ·exact .inl (a9r _ _ _ _ _ _ _ _ _ (.tup ha rs) (.int k) hr o)
  |_=>exact o.elim
 |int i=>exact .inl (a9r _ _ _ _ _ _ _ _ _ (.int i) ry hr o)
 |ref e=>exact .inl (a9r _ _ _ _ _ _ _ _ _ (.ref e) ry hr o)
 |_=>exact o.elim
theorem b26(ne:xs≠[])(k1:1<=k)(k2:k<=1000)(xl:xs.length<=1000):ag5 (.tup xs) (.int (k:Nat)) h=.ok (.tup (List.replicate k xs).flatten) h:=by
 unfold ag5;dsimp only
 by_cases e:(k:Int)=1
 ·rw [aC e];have:k=1:=by omega
  subst this;simp
 ·rw [aQ e];unfold aiu;dsimp only;have hl:xs.length*(k:Int).toNat<=LINE:=by
   rw [dA];have:xs.length*k<=1000*1000:=cU xl k2;show xs.length*k<=16777216;omega
  exact (aC ⟨⟨ne,by omega,by omega⟩,hl⟩).trans (by rw [dA])
end MI
namespace SHD
open L2 MI
end SHD
namespace SETA
open PySem.SetTable
def agy(xs:Array Nat):Prop:=∀i j (hi:i<xs.size) (hj:j<xs.size),i<j->xs[i]<xs[j]
theorem arj(xs:Array Nat)(ri:agy xs)(j:Nat):∀(fuel lo hi:Nat),hi-lo<=fuel->lo<=hi->hi<=xs.size->(∀i (h:i<xs.size),i<lo->xs[i]<j)->(∀i (h:i<xs.size),hi<=i->j<=xs[i])->
  lo<=below.go xs j fuel lo hi/\below.go xs j fuel lo hi<=hi/\(∀i (h:i<xs.size),i<below.go xs j fuel lo hi->xs[i]<j)/\∀i (h:i<xs.size),below.go xs j fuel lo hi<=i->j<=xs[i]:=by
 intro fuel
 induction fuel with
 |zero =>
  intro lo hi h1 h2 h3 a b
  have:lo=hi:=by omega
  subst this;exact ⟨ay _,ay _,a,b⟩
 |succ fuel ih =>
  intro lo hi h1 h2 h3 a b
  unfold below.go
  split
  ·rename_i c;have hm:(lo+hi) / 2<xs.size:=by omega
   have e:xs.getD ((lo+hi) / 2) j=xs[(lo+hi) / 2]:=by simp [Array.getD,hm]
   dsimp only;rw [e]
   split
   ·rename_i q;have r:=ih ((lo+hi) / 2+1) hi (by omega) (by omega) h3 (λi h z=>by
     by_cases y:i=(lo+hi) / 2
     ·subst y;exact q
     ·exact Nat.lt_trans (ri i _ h hm (by omega)) q) b
    exact ⟨by omega,r.2.1,r.2.2⟩
   ·rename_i q;have r:=ih lo ((lo+hi) / 2) (by omega) (by omega) (by omega) a (λi h z=>by
     by_cases y:i=(lo+hi) / 2
     ·subst y;omega
     ·have:=ri _ i hm h (by omega);omega)
    exact ⟨r.1,by omega,r.2.2⟩
  ·have:lo=hi:=by omega
   subst this;exact ⟨ay _,ay _,a,b⟩
theorem a0s(ri:agy xs)(j:Nat):below xs j<=xs.size/\(∀i (h:i<xs.size),i<below xs j->xs[i]<j)/\∀i (h:i<xs.size),below xs j<=i->j<=xs[i]:=by
 have:=arj xs ri j xs.size 0 xs.size (by omega) (by omega) (ay _) (λi _ z=>absurd z (g7 i)) λi h z=>absurd h (by omega)
 exact ⟨this.2.1,this.2.2⟩
theorem below_at(ri:agy xs)(hk:k<xs.size):below xs xs[k]=k:=by
 obtain ⟨h1,h2,h3⟩:=a0s ri xs[k]
 apply dO
 intro z
 rcases gA z with c|c
 ·have:=h3 (below xs xs[k]) (by omega) (ay _)
  have:=ri (below xs xs[k]) k (by omega) hk c
  omega
 ·have:=h2 k hk c
  omega
theorem ag6(ri:agy xs)(hk:k<xs.size):below xs (xs[k]+1)=k+1:=by
 obtain ⟨h1,h2,h3⟩:=a0s ri (xs[k]+1)
 apply dO
 intro z
 rcases gA z with c|c
 ·have:=h3 k hk (by omega)
  omega
 ·have:=h2 (k+1) (by omega) c
  have:=ri k (k+1) hk (by omega) (by omega)
  omega
theorem ark(ri:agy xs):below xs 0=0:=by
 obtain ⟨h1,h2,h3⟩:=a0s ri 0
 apply dO
 intro z
 have:=h2 0 (by omega) (by omega)
 omega
structure Gd (t:SetTable):Prop where
 ri:agy t.place
 dm:t.dummies = #[]
theorem ag7:agy #[]:=λi j hi=>absurd hi (by simp)
theorem amr(f m:Nat)(l:Bool):Gd (.fresh f m l):=⟨ag7,rfl⟩
theorem ag8(n:Nat):agy (Array.range n):=λi j hi hj h=>by simpa using h
theorem a7o{l:List Nat}(h:l.Pairwise (· < ·)):agy l.toArray:=λi j hi hj c=>by
 have:=cf.mp h i j (by simpa using hi) (by simpa using hj) c
 simpa using this
theorem abo(h:agy xs):xs.toList.Pairwise (· < ·):=cf.mpr λi j hi hj c=>by
 have:=h i j (by simpa using hi) (by simpa using hj) c
 simpa using this
theorem a8r(t:SetTable)(n:Nat):Gd (t.standIn n):=⟨ag8 n,rfl⟩
theorem abp(g:Gd t)(n:Nat):Gd (t.orStandIn n):=by
 unfold SetTable.orStandIn
 split
 ·exact g
 ·exact a8r t n
theorem a7p(j:Nat):has #[] j=false:=by simp [has]
theorem ag9(g:Gd t)(h:t.slot j=.empty):∀k (hk:k<t.place.size),t.place[k]≠j:=λk hk e=>by
 subst e;unfold SetTable.slot at h;simp only [below_at g.ri hk] at h;rw [aC (by simp [hk])] at h
 cases h
theorem ams(g:Gd t):∀(fuel:Nat) (p:Probe) (j:Nat) (d:Option Nat),p.dummy=none->SetTable.probe.go t ha h fuel p=some (.empty j d)->t.slot j=.empty/\d=none:=by
 intro fuel
 induction fuel with
 |zero=>intro p j d _ z;simp [SetTable.probe.go] at z
 |succ fuel ih =>
  intro p j d hp z
  unfold SetTable.probe.go at z
  cases e:t.slot p.j with
  |empty =>
   rw [e] at z;simp only [gR,Met.empty.injEq] at z;obtain ⟨rfl,rfl⟩:=z;exact ⟨e,hp⟩
  |dummy =>
   exfalso
   unfold SetTable.slot at e;rw [g.dm,a7p] at e;dsimp only at e
   split at e<;>simp at e
  |live i =>
   rw [e] at z;dsimp only at z
   split at z
   ·cases z
   ·refine ih _ j d ?_ z;unfold SetTable.advance
    split
    ·exact hp
    ·exact hp
theorem a7q(g:Gd t)(e:t.freeSlot h=some (j,b)):(∀k (hk:k<t.place.size),t.place[k]≠j)/\b=false:=by
 unfold SetTable.freeSlot at e
 split at e
 ·rename_i j' d q;obtain ⟨h1,h2⟩:=ams g _ _ _ _ rfl q;subst h2;simp only [hJ,Option.isSome_none,gR,ib] at e;obtain ⟨rfl,rfl⟩:=e;exact ⟨ag9 g h1,rfl⟩
 ·cases e
theorem ad6(ri:agy xs)(h:∀k (hk:k<xs.size),xs[k]≠j):agy (SetTable.insertAt xs (below xs j) j):=by
 obtain ⟨h1,h2,h3⟩:=a0s ri j;have e:(SetTable.insertAt xs (below xs j) j)=(xs.toList.take (below xs j)++j::xs.toList.drop (below xs j)).toArray:=by
  exact Array.ext' ((SetTable.toList_insertAt _ _ _).trans (by simp))
 rw [e];refine a7o ?_;have rl:=abo ri;rw [List.pairwise_append];refine ⟨rl.sublist (gN _ _),gC.mpr ⟨λa ha=>?_,rl.sublist (List.drop_sublist _ _)⟩,λa ha b hb=>?_⟩
 ·obtain ⟨i,hi,rfl⟩:=eJ.mp ha;rw [List.getElem_drop];rw [aW,aT] at hi;have h4:=h3 (below xs j+i) (by omega) (by omega)
  have h5:=h (below xs j+i) (by omega)
  rw [fQ];omega
 ·obtain ⟨i,hi,rfl⟩:=eJ.mp ha;rw [List.getElem_take];rw [aV,aT] at hi;have h4:=h2 i (by omega) (by omega)
  rw [fQ]
  rcases aD.mp hb with rfl|hb
  ·exact h4
  ·obtain ⟨k,hk,rfl⟩:=eJ.mp hb;rw [List.getElem_drop];rw [aW,aT] at hk;have h6:=h3 (below xs j+k) (by omega) (by omega)
   rw [fQ];omega
theorem aov(g:Gd t)(h:∀k (hk:k<t.place.size),t.place[k]≠j):Gd (t.put j).1:=by
 refine ⟨ad6 g.ri h,?_⟩;show (if has t.dummies j=true then _ else t.dummies) = #[]
 rw [g.dm,a7p];rfl
theorem aj6(g:Gd t)(es:Array (Int×Value))(h:Int)(x:Value):Gd (layNew t es h x).2.1/\(layNew t es h x).2.2.1=false:=by
 unfold layNew
 split
 ·rename_i slot wd e;obtain ⟨h1,h2⟩:=a7q g e;exact ⟨abp (aov g h1) _,h2⟩
 ·exact ⟨a8r _ _,rfl⟩
theorem aj7{mask f m:Nat}{t:SetTable}(e:SetTable.laid mask f m l p hs=some (t,o)):Gd t/\t.led=l:=by
 unfold SetTable.laid at e
 cases q:layClean mask hs with
 |none=>rw [q] at e;cases e
 |some owner =>
  rw [q] at e;simp only [Option.bind_eq_bind,Option.bind_some,Option.pure_def,gR,ib] at e;obtain ⟨rfl,rfl⟩:=e;refine ⟨⟨a7o ?_,rfl⟩,rfl⟩;have:∀l:List Nat,l.Pairwise (· < ·)->((l.filterMap λj=>(owner.getD j none).map (j, ·)).map (·.1)).Pairwise (· < ·):=λl hl=>by
   have sub:((l.filterMap λj=>(owner.getD j none).map (j, ·)).map (·.1)).Sublist l:=by
    clear hl
    induction l with
    |nil=>exact .slnil
    |cons a l ih =>
     cases q:owner.getD a none with
     |none =>
      rw [List.filterMap_cons_none (by rw [q];rfl)]
      exact .cons _ ih
     |some b =>
      rw [List.filterMap_cons_some (b:=(a,b)) (by rw [q];rfl),bp]
      exact .cons₂ _ ih
   exact hl.sublist sub
  exact this _ fB
theorem a9x(t:SetTable)(n:Nat):(t.orStandIn n).led=t.led:=by
 unfold SetTable.orStandIn
 split<;>rfl
theorem aga(t:SetTable)(es:Array (Int×Value))(h:Int)(x:Value):(layNew t es h x).2.1.led=t.led:=by
 unfold layNew
 split
 ·exact a9x _ _
 ·rfl
theorem aj8(t:SetTable)(es:Array (Int×Value))(n:Nat):(relayAll t es n).2.1.led=t.led:=by
 unfold relayAll
 split
 ·rename_i t' o e;dsimp only
  split
  ·exact (aj7 e).2
  ·rfl
 ·rfl
end SETA
namespace SETH
def it:Nat->Nat->Nat
 |0,x=>x
 |n+1,x=>it n (5*x+1)
theorem aj9(m:Nat):∀(n x:Nat),it (n+m) x=it m (it n x)
 |0,x=>by rw [gD];rfl
 |n+1,x=>by rw [show n+1+m=(n+m)+1 by omega];exact aj9 m n _
theorem aow:∀k:Nat,∃c,∀x,it (2^k) x=(4*(2^k*(2*c+1))+1)*x+2^k*(2*c+1)
 |0=>⟨0,λx=>by show 5*x+1=_;omega⟩
 |k+1=>by
  obtain ⟨c,h⟩:=aow k;refine ⟨2*c*(2^k*(2*c+1))+c+2^k*(2*c+1),λx=>?_⟩;have e:2^(k+1)=2^k+2^k:=by rw [Nat.pow_succ];omega
  rw [e,aj9,h,h]
  generalize 2^k=P
  grind
theorem full:∀(k x y:Nat),∃n,n<2^k/\it n x%2^k=y%2^k
 |0,x,y=>⟨0,by decide,by rw [Nat.pow_zero,Nat.mod_one,Nat.mod_one]⟩
 |k+1,x,y=>by
  obtain ⟨n,hn,e⟩:=full k x y;obtain ⟨c,h⟩:=aow k;have hp:0<2^k:=Nat.pow_pos (by decide)
  rw [Nat.pow_succ]
  by_cases q:it n x / 2^k%2=y / 2^k%2
  ·exact ⟨n,by omega,by rw [i9,i9,e,q]⟩
  ·refine ⟨n+2^k,by omega,?_⟩
   rw [aj9,h]
   generalize 2^k=P at *
   generalize it n x=z at *
   have:(4*(P*(2*c+1))+1)*z+P*(2*c+1)=(z+P)+P*2*(2*(2*c+1)*z+c):=by grind
   rw [this,Nat.add_mul_mod_self_left,i9,i9,Nat.add_mod_right,e,Nat.add_div_right _ hp]
   congr 2
   omega
def im(M:Nat):Nat->Nat->Nat
 |0,x=>x
 |n+1,x=>im M n ((x*5+1)%M)
theorem avx(M:Nat):∀(n x:Nat),im M n x%M=it n x%M
 |0,x=>rfl
 |n+1,x=>by
  show im M n _%M=it n _%M;rw [avx M n];have:∀n a b,a%M=b%M->it n a%M=it n b%M:=by
   intro n
   induction n with
   |zero=>exact λa b h=>h
   |succ n ih=>exact λa b h=>ih _ _ (by rw [Nat.add_mod,Nat.mul_mod,h,<-Nat.mul_mod,<-Nat.add_mod])
  exact this n _ _ (by rw [Nat.mod_mod,eU])
theorem avy(hM:0<M):∀(n x:Nat),x<M->im M n x<M
 |0,x,h=>h
 |n+1,x,h=>avy hM n _ (fF _ hM)
theorem arl(hx:x<2^k)(hy:y<2^k):∃n,n<2^k/\im (2^k) n x=y:=by
 obtain ⟨n,hn,e⟩:=full k x y;refine ⟨n,hn,?_⟩;rw [<-avx,Nat.mod_eq_of_lt hy,Nat.mod_eq_of_lt (avy (by omega) n x hx)] at e
 exact e
open PySem.SetTable
def ls(mask:Nat):Nat->Nat×Nat->Nat×Nat
 |0,x=>x
 |n+1,x=>ls mask n (leap mask x.1 x.2)
theorem aox(mask m:Nat):∀(n:Nat) (x:Nat×Nat),ls mask (n+m) x=ls mask m (ls mask n x)
 |0,x=>by rw [gD];rfl
 |n+1,x=>by rw [show n+1+m=(n+m)+1 by omega];exact aox mask m n _
theorem a8s(mask:Nat):∀(n:Nat) (x:Nat×Nat),(ls mask n x).2=x.2 / 32^n
 |0,x=>by rw [Nat.pow_zero,Nat.div_one];rfl
 |n+1,x=>by
  show (ls mask n _).2=_;rw [a8s mask n,Nat.pow_succ,eU,<-Nat.div_div_eq_div_mul];rfl
theorem avz(mask:Nat):∀(n:Nat) (x:Nat×Nat),x.1<=mask->(ls mask n x).1<=mask
 |0,x,h=>h
 |n+1,x,h=>avz mask n _ (dB (fF _ (eF _)))
theorem aw0(mask:Nat):∀(n i:Nat),ls mask n (i,0)=(im (mask+1) n i,0)
 |0,i=>rfl
 |n+1,i=>by
  show ls mask n (leap mask i 0)=(im (mask+1) n _,0);rw [<-aw0 mask n];rfl
theorem hit{mask k i p y:Nat}(hk:mask+1=2^k)(hi:i<=mask)(hp:p<2^64)(hy:y<=mask):∃m,m<mask+14/\(ls mask m (i,p)).1=y:=by
 have e:ls mask 13 (i,p)=((ls mask 13 (i,p)).1,0):=by
  refine Prod.ext rfl ?_;rw [a8s];show p / 32^13=0;exact Nat.div_eq_of_lt (by omega)
 have h13:=avz mask 13 (i,p) hi;obtain ⟨n,hn,en⟩:=arl (k:=k) (x:=(ls mask 13 (i,p)).1) (y:=y) (by omega) (by omega)
 refine ⟨13+n,by omega,?_⟩
 rw [aox,e,aw0];show im (mask+1) n _=y;rw [hk];exact en
end SETH
namespace SETH
open PySem.SetTable SETA
theorem a7r(mask i:Nat):i<=runEnd mask i:=by unfold runEnd;split<;>omega
theorem a7s{mask i:Nat}(h:i<=mask):runEnd mask i<=mask:=by unfold runEnd;split<;>omega
theorem aew(mask i:Nat):runEnd mask i-i<=9:=by unfold runEnd;split<;>omega
theorem abq{mask:Nat}{owner:Array (Option Nat)}:∀(fuel i p m:Nat),m<fuel->i<=mask->owner.getD (ls mask m (i,p)).1 (some 0)=none->∃j,layClean.free mask owner fuel i p=some j/\j<=mask/\owner.getD j (some 0)=none
 |0,i,p,m,h,_,_=>absurd h (g7 _)
 |fuel+1,i,p,m,h,hi,e=>by
  unfold layClean.free;have ge:=a7r mask i;have le:=a7s hi
  split
  ·rename_i k hk;refine ⟨_,rfl,?_,?_⟩
   ·have:=List.mem_of_find?_eq_some hk
    rw [dM] at this;omega
   ·have:=List.find?_some hk
    exact gJ.mp this
  ·rename_i hk
   cases m with
   |zero =>
    have:=List.find?_eq_none.mp hk 0 (dM.mpr (by omega))
    exact absurd (gJ.mpr e) this
   |succ m=>exact abq fuel _ _ m (by omega) (dB (fF _ (eF _))) e
theorem a5z{t:SetTable}{p:Probe}(h:p.more > 0):t.advance p={p with j:=p.j+1,more:=p.more-1}:=by unfold advance;rw [aC h]
theorem a65{t:SetTable}{p:Probe}(h:p.more=0):t.advance p={p with j:=(leap t.mask p.i p.perturb).1,more:=runEnd t.mask (leap t.mask p.i p.perturb).1-(leap t.mask p.i p.perturb).1,i:=(leap t.mask p.i p.perturb).1,perturb:=(leap t.mask p.i p.perturb).2}:=by unfold advance;rw [aQ (by omega)]
theorem ad7{t:SetTable}:∀(fuel m:Nat) (p:Probe),p.more+10*m+1<fuel->t.slot (ls t.mask (m+1) (p.i,p.perturb)).1=.empty->∃j d,probe.go t (λ_=>h+1) h fuel p=some (.empty j d)
 |0,m,p,hf,_=>absurd hf (g7 _)
 |fuel+1,m,p,hf,e=>by
  have ne:(h+1 == h)=false:=by simpa using (by omega:h+1≠h)
  have next:∀d,∃j d',probe.go t (λ_=>h+1) h fuel (t.advance {p with dummy:=d})=some (.empty j d'):=λd=>by
   by_cases hm:p.more > 0
   ·rw [a5z (by exact hm)]
    exact ad7 fuel m _ (by show p.more-1+10*m+1<fuel;omega) e
   ·rw [a65 (by show p.more=0;omega)]
    cases m with
    |zero =>
     cases fuel with
     |zero=>omega
     |succ fuel =>
      have e:t.slot (leap t.mask p.i p.perturb).1=.empty:=e;unfold probe.go;simp only [e];exact ⟨_,_,rfl⟩
    |succ m =>
     have:=aew t.mask (leap t.mask p.i p.perturb).1
     exact ad7 fuel m _ (by show runEnd t.mask (leap t.mask p.i p.perturb).1-(leap t.mask p.i p.perturb).1+10*m+1<fuel;omega) e
  unfold probe.go
  split
  ·exact ⟨_,_,rfl⟩
  ·exact next _
  ·rw [ne];exact next p.dummy
theorem aja{t:SetTable}(hd:t.dummies = #[])(hy:∀k (hk:k<t.place.size),t.place[k]≠y):t.slot y=.empty:=by
 unfold slot;dsimp only;rw [aQ,hd,a7p]
 ·rfl
 ·intro c
  have c:t.place[below t.place y]? = some y:=by simpa using c
  obtain ⟨hk,e⟩:=gi.mp c;exact hy _ hk e
theorem a9y{t:SetTable}(hk:t.mask+1=2^k)(hd:t.dummies = #[])(hy:y<=t.mask)(fr:∀k (hk:k<t.place.size),t.place[k]≠y)(h:Int):∃r,t.freeSlot h=some r:=by
 have sl:=aja hd fr;have hi:bits h%(t.mask+1)<=t.mask:=dB (fF _ (eF _));have hb:bits h<2^64:=by unfold bits;omega
 obtain ⟨m,hm,e⟩:=hit hk hi hb hy;have r9:=aew t.mask (bits h%(t.mask+1));have:∃j d,t.probe (λ_=>h+1) h (t.probeStart h)=some (.empty j d):=by
  unfold probe turns
  cases m with
  |zero =>
   have e:bits h%(t.mask+1)=y:=e;rw [show 10*(t.mask+15)=(10*(t.mask+15)-1)+1 by omega]
   unfold probe.go probeStart;simp only [e,sl];exact ⟨_,_,rfl⟩
  |succ m=>exact ad7 _ m _ (by show runEnd t.mask (bits h%(t.mask+1))-bits h%(t.mask+1)+10*m+1<_;omega) (by rw [<-e] at sl;exact sl)
 obtain ⟨j,d,x⟩:=this;unfold freeSlot;rw [x];exact ⟨_,rfl⟩
theorem ajb:∀l:List (Option Nat),(l.filterMap id).length<l.length->∃i,∃h:i<l.length,l[i]=none
 |[],h=>absurd h (bR _)
 |none::l,_=>⟨0,eF _,rfl⟩
 |some x::l,h=>by
  obtain ⟨i,hi,e⟩:=ajb l (by simpa using h)
  exact ⟨i+1,Nat.succ_lt_succ hi,e⟩
theorem aex(k:Nat):∀(l:List (Option Nat)) (i:Nat) (h:i<l.length),l[i]=none->((l.set i (some k)).filterMap id).Perm (k::l.filterMap id)
 |x::l,0,_,e=>by
  have e:x=none:=e;subst e;simp
 |x::l,i+1,h,e=>by
  have ih:=aex k l i (Nat.lt_of_succ_lt_succ h) e
  cases x with
  |none=>simpa using ih
  |some x =>
   simp only [List.set_cons_succ,cA,id];exact (ih.cons x).trans (List.Perm.swap ..)
structure Own (mask n:Nat) (o:Array (Option Nat)):Prop where
 size:o.size=mask+1
 all:(o.toList.filterMap id).Perm (List.range n)
theorem azh(mask:Nat):Own mask 0 (Array.replicate (mask+1) none) where
 size:=by simp
 all:=by simp
theorem Own.free{mask n:Nat}{o:Array (Option Nat)}(w:Own mask n o)(hn:n<=mask):∃y,y<=mask/\o.getD y (some 0)=none:=by
 have:=w.all.length_eq
 rw [bF] at this;obtain ⟨i,hi,e⟩:=ajb o.toList (by rw [this,aT,w.size];omega)
 have hs:i<o.size:=by simpa using hi
 refine ⟨i,by have:=w.size;omega,?_⟩
 simp only [Array.getD,hs,dif_pos];simpa using e
theorem Own.put{mask n j:Nat}{o:Array (Option Nat)}(w:Own mask n o)(hj:j<=mask)(e:o.getD j (some 0)=none):Own mask (n+1) (o.setIfInBounds j (some n)) where
 size:=by rw [Array.size_setIfInBounds];exact w.size
 all:=by
  have hs:j<o.size:=by have:=w.size;omega
  have e:o.toList[j]'(by simpa using hs)=none:=by
   simp only [Array.getD,hs,dif_pos] at e;simpa using e
  rw [Array.toList_setIfInBounds,List.range_succ];exact (aex n _ _ _ e).trans ((w.all.cons n).trans (List.perm_append_singleton n _).symm)
theorem aey{mask k:Nat}(hk:mask+1=2^k)
  (hF:∀o n h j,layClean.free mask o (turns mask) (bits h%(mask+1)) (bits h)=some j->F (some (o,n)) h=some (o.setIfInBounds j (some n),n+1)) :
  ∀(hs:List Int) (o:Array (Option Nat)) (n:Nat),Own mask n o->n+hs.length<=mask+1->∃o',hs.foldl F (some (o,n))=some (o',n+hs.length)/\Own mask (n+hs.length) o'
 |[],o,n,w,_=>⟨o,rfl,w⟩
 |h::hs,o,n,w,le=>by
  rw [aF] at le ⊢;obtain ⟨y,hy,e⟩:=w.free (by omega)
  have hi:bits h%(mask+1)<=mask:=dB (fF _ (eF _));obtain ⟨m,hm,em⟩:=hit hk hi (p:=bits h) (by unfold bits;omega) hy
  obtain ⟨j,ej,hj,fj⟩:=abq (turns mask) (bits h%(mask+1)) (bits h) m (by unfold turns;omega) hi (by rw [em];exact e)
  obtain ⟨o',eo,wo⟩:=aey hk hF hs _ (n+1) (w.put hj fj) (by omega)
  refine ⟨o',?_,by rw [show n+(hs.length+1)=n+1+hs.length by omega];exact wo⟩
  rw [fW,hF o n h j ej,eo,show n+(hs.length+1)=n+1+hs.length by omega]
theorem amt{mask k:Nat}(hk:mask+1=2^k)(hs:Array Int)(le:hs.size<=mask+1)
  (hF:∀o n h j,layClean.free mask o (turns mask) (bits h%(mask+1)) (bits h)=some j->F (some (o,n)) h=some (o.setIfInBounds j (some n),n+1)) :
  ∃o,(hs.toList.foldl F (some (Array.replicate (mask+1) none,0))).map (·.1)=some o/\Own mask hs.size o:=by
 obtain ⟨o,e,w⟩:=aey hk hF hs.toList _ 0 (azh mask) (by simpa using le)
 rw [e];exact ⟨o,rfl,by simpa using w⟩
theorem agb{mask k:Nat}(hk:mask+1=2^k)(hs:Array Int)(le:hs.size<=mask+1):∃o,layClean mask hs=some o/\Own mask hs.size o:=by
 unfold layClean;rw [<-Array.foldl_toList];refine amt hk hs le λo n h j ej=>?_;simp only [Option.bind_eq_bind,Option.bind_some,ej];rfl
theorem amu{mask n:Nat}{o:Array (Option Nat)}(w:Own mask n o):((List.range (mask+1)).filterMap λj=>(o.getD j none).map (j, ·)).map (·.2)=o.toList.filterMap id:=by
 have e:o.toList=(List.range (mask+1)).map λj=>o.getD j none:=by
  refine List.ext_getElem (by simp [w.size]) λi h1 h2=>?_
  have hs:i<o.size:=by simpa using h1
  simp [Array.getD,hs]
 rw [e,List.filterMap_map,List.map_filterMap]
 congr 1
 funext j
 show _=o.getD j none
 cases o.getD j none<;>rfl
theorem ajc{mask k f m:Nat}(hk:mask+1=2^k)(hs:Array Int)(le:hs.size<=mask+1):∃t o,laid mask f m l p hs=some (t,o)/\t.mask=mask/\t.dummies = #[]/\t.plain=p/\t.place.size=hs.size/\(∀i (h:i<t.place.size),t.place[i]<=mask)/\o.toList.Perm (List.range hs.size):=by
 obtain ⟨o,e,w⟩:=agb hk hs le;unfold laid;rw [e];have ls:=amu w;have len:((List.range (mask+1)).filterMap λj=>(o.getD j none).map (j, ·)).length=hs.size:=by
  have:=w.all.length_eq
  rw [<-ls,ax,bF] at this;exact this
 refine ⟨_,_,rfl,rfl,rfl,rfl,by simpa using len,λi hi=>?_,?_⟩
 ·have hm:=gS hi;simp only [List.mem_toArray,c8,eZ,dM] at hm;obtain ⟨⟨a,b⟩,⟨j,hj,x⟩,y⟩:=hm
  cases g:o.getD j none with
  |none=>rw [g] at x;cases x
  |some z =>
   rw [g] at x;cases x
   exact dB (y ▸ hj)
 ·show List.Perm (List.map _ _) _;exact (ls ▸ w.all)
theorem aez(n:Nat):∀(fuel a:Nat),n<2^(a+fuel)->∃b,a<=b/\sizeAbove.go n fuel (2^a)=2^b/\n<2^b
 |0,a,h=>⟨a,ay _,rfl,h⟩
 |fuel+1,a,h=>by
  unfold sizeAbove.go
  split
  ·obtain ⟨b,h1,h2,h3⟩:=aez n fuel (a+1) (by rw [show a+1+fuel=a+(fuel+1) by omega];exact h)
   exact ⟨b,by omega,h2,h3⟩
  ·exact ⟨a,ay _,rfl,by omega⟩
theorem above(h:n<2^67):∃b,3<=b/\sizeAbove n=2^b/\n<2^b:=aez n 64 3 h
theorem gap:∀(l:List Nat) (a:Nat),l.Pairwise (· < ·)->(∀x∈l,a<=x)->∃y,a<=y/\y<=a+l.length/\y∉l
 |[],a,_,_=>⟨a,ay _,ay _,bg⟩
 |x::l,a,p,g=>by
  obtain ⟨p1,p2⟩:=gC.mp p;have gx:=g x (aR ..);rw [aF]
  by_cases e:x=a
  ·obtain ⟨y,h1,h2,h3⟩:=gap l (a+1) p2 λz hz=>by have:=p1 z hz;omega
   exact ⟨y,by omega,by omega,λc=>(aD.mp c).elim (λc=>by omega) h3⟩
  ·exact ⟨a,ay _,by omega,λc=>(aD.mp c).elim (λc=>e c.symm) λc=>by have:=p1 a c;omega⟩
structure Gs (t:SetTable):Prop where
 gd:Gd t
 pow:∃k,t.mask+1=2^k
 big:7<=t.mask
 le:∀i (h:i<t.place.size),t.place[i]<=t.mask
 plain:t.plain=true
theorem amv(f m:Nat)(l:Bool):Gs (.fresh f m l):=⟨amr f m l,⟨3,rfl⟩,ay _,λi h=>absurd h (g7 _),rfl⟩
theorem a9z(g:Gd t):t.fill=t.place.size:=by unfold fill;rw [g.dm];rfl
theorem a8t{t:SetTable}{p:Probe}(h:p.j+p.more<=t.mask):(t.advance p).j+(t.advance p).more<=t.mask:=by
 by_cases hm:p.more > 0
 ·rw [a5z hm];show p.j+1+(p.more-1)<=_;omega
 ·rw [a65 (by omega)]
  have h1:(leap t.mask p.i p.perturb).1<=t.mask:=dB (fF _ (eF _));have h2:=a7s h1;have h3:=a7r t.mask (leap t.mask p.i p.perturb).1;show (leap t.mask p.i p.perturb).1+(runEnd t.mask (leap t.mask p.i p.perturb).1-(leap t.mask p.i p.perturb).1)<=_;omega
theorem arn{t:SetTable}:∀(fuel:Nat) (p:Probe) (j:Nat) (d:Option Nat),p.j+p.more<=t.mask->probe.go t ha h fuel p=some (.empty j d)->j<=t.mask
 |0,p,j,d,_,e=>by cases e
 |fuel+1,p,j,d,hp,e=>by
  unfold probe.go at e
  split at e
  ·cases e
   omega
  ·exact arn fuel _ j d (a8t (p:={p with dummy:=some p.j}) hp) e
  ·split at e
   ·cases e
   ·exact arn fuel _ j d (a8t hp) e
theorem aro{t:SetTable}(e:t.freeSlot h=some (j,b))(hb:b=false):j<=t.mask:=by
 unfold freeSlot at e
 split at e
 ·rename_i j' d x;have:=arn _ _ j' d (by
   have h1:bits h%(t.mask+1)<=t.mask:=dB (fF _ (eF _));have h2:=a7s h1;have h3:=a7r t.mask (bits h%(t.mask+1));show bits h%(t.mask+1)+(runEnd t.mask (bits h%(t.mask+1))-bits h%(t.mask+1))<=t.mask;omega) x
  cases d with
  |none=>cases e;exact this
  |some d=>cases e;cases hb
 ·cases e
theorem aoy{xs:Array Nat}(h:z∈xs.extract a b):z∈xs:=by
 obtain ⟨i,hi,e⟩:=fM.mp h;rw [Array.getElem_extract] at e;exact e ▸ gS _
theorem a7t{α:Type}(xs:Array α)(p:Nat)(x:α)(hp:p<=xs.size):(insertAt xs p x).size=xs.size+1:=by
 simp [insertAt]
 omega
theorem ajd(g:Gs t)(es:Array (Int×Value))(hs:t.place.size=es.size)(rest:t.fill*5<t.mask*3)(h:Int)(x:Value) :
  Gs (layNew t es h x).2.1/\(layNew t es h x).2.2.2=false/\(layNew t es h x).2.1.fits (layNew t es h x).1.size=true/\(layNew t es h x).2.1.mask=t.mask/\(layNew t es h x).2.1.place.size=es.size+1:=by
 have big:=g.big;have fl:=a9z g.gd;obtain ⟨k,hk⟩:=g.pow;obtain ⟨y,_,hy,ny⟩:=gap t.place.toList 0 (abo g.gd.ri) λ_ _=>aU _;rw [aT] at hy;obtain ⟨⟨j,b⟩,e⟩:=a9y hk g.gd.dm (y:=y) (by omega) (λi hi c=>ny (by rw [<-c];simp)) h
 obtain ⟨f1,f2⟩:=a7q g.gd e;have hj:=aro e f2;have bl:=(a0s g.gd.ri j).1;have sz1:(t.put j).1.place.size=es.size+1:=by
  show (insertAt t.place _ j).size=_;rw [a7t _ _ _ bl,hs]
 have sz2:(insertAt es (t.put j).2 (h,x)).size=es.size+1:=a7t _ _ _ (by show below t.place j<=_;omega)
 have gp:=aov g.gd f1;have ft:(t.put j).1.fits (insertAt es (t.put j).2 (h,x)).size=true:=by
  unfold fits;rw [a9z gp,sz1,sz2];have:es.size+1<=(t.put j).1.mask:=by show _<=t.mask;omega
  simp [this]
 have pl:∀z∈(t.put j).1.place,z<=t.mask:=λz hz=>by
  have hz:z∈insertAt t.place (below t.place j) j:=hz;simp only [insertAt,Array.mem_append,Array.mem_push] at hz
  rcases hz with (hz|hz)|hz
  ·obtain ⟨i,hi,e⟩:=fM.mp (aoy hz);exact e ▸ g.le i hi
  ·omega
  ·obtain ⟨i,hi,e⟩:=fM.mp (aoy hz);exact e ▸ g.le i hi
 have gs:Gs (t.put j).1:=⟨gp,g.pow,g.big,λi hi=>pl _ (gS hi),g.plain⟩;have eq:layNew t es h x=(insertAt es (t.put j).2 (h,x),(t.put j).1,b,false):=by
  unfold layNew;rw [e];simp only [ft,orStandIn,dS,Bool.not_true]
 rw [eq];exact ⟨gs,rfl,ft,rfl,sz1⟩
theorem aoz{es:Array (Int×Value)}:∀l:List Nat,(∀x∈l,x<es.size)->(l.filterMap (es[·]?)).length=l.length
 |[],_=>rfl
 |x::l,h=>by
  rw [cA,bO (h x (aR ..))];exact af (·+1) (aoz l λz hz=>h z (aL _ hz))
theorem amw(g:Gs t)(es:Array (Int×Value))(hn:n<2^67)(big:es.size*2<=n)(pos:0<es.size) :
  Gs (relayAll t es n).2.1/\(relayAll t es n).2.2=false/\(relayAll t es n).2.1.fits (relayAll t es n).1.size=true/\(relayAll t es n).2.1.fill*5<(relayAll t es n).2.1.mask*3:=by
 obtain ⟨b,h3,eb,lb⟩:=above hn;have p8:2^3<=2^b:=Nat.pow_le_pow_right (by decide) h3
 have hk:sizeAbove n-1+1=2^b:=by omega
 obtain ⟨t',o,e,hm,hd,hp,hs,hl,ho⟩:=ajc (f:=t.finger) (m:=t.movedTo (sizeAbove n-1)) (l:=t.led) (p:=t.plain) hk (es.map (·.1)) (by rw [Array.size_map];omega)
 rw [Array.size_map] at hs ho;have gd':=(aj7 e).1;have cov:coversAll o es.size=true:=List.isPerm_iff.mpr ho;have sz:(o.filterMap (es[·]?)).size=es.size:=by
  rw [<-aT,Array.toList_filterMap,aoz _ λx hx=>dM.mp (ho.mem_iff.mp hx),ho.length_eq,bF]
 have fl:=a9z gd';have ft:t'.fits (o.filterMap (es[·]?)).size=true:=by
  unfold fits;rw [fl,sz,hs];have:es.size<=t'.mask:=by omega
  simp [this]
 have eq:relayAll t es n=(o.filterMap (es[·]?),t',false):=by
  unfold relayAll relaid;rw [e];simp only [cov,ft,Bool.and_self,dS]
 rw [eq];exact ⟨⟨gd',⟨b,by rw [hm];exact hk⟩,by rw [hm];omega,λi hi=>by rw [hm];exact hl i hi,hp.trans g.plain⟩,rfl,ft,by show t'.fill*5<t'.mask*3;omega⟩
end SETH
namespace SETB
open PyProof.Rows SETA
def kOf:Int×Value->Int
 |(_,.int k _)=>k
 |_=>0
def AllI(l:List (Int×Value)):Prop:=∀e∈l,∃k t,e=(hashInt k,Value.int k t)
def Gr(t:SetTable):Prop:=SETH.Gs t/\t.fill*5<t.mask*3
def SetI(b:Bool)(a:Addr)(ks:List Int)(h:Heap):Prop :=
 ∃o es ep t,h.get? a=some o/\o.ExactSet/\o.data=.set es ep t/\AllI es.toList/\(es.toList.map kOf).Perm ks/\es.size<scanBound/\t.fits es.size=true/\Gr t/\t.led=b
theorem SetI.keep{h':Heap}(x:SetI b a ks h)(k:∀o,h.get? a=some o->h'.get? a=some o):SetI b a ks h':=by
 obtain ⟨o,es,ep,t,ho,r⟩:=x;exact ⟨o,es,ep,t,k o ho,r⟩
theorem SetI.len(x:SetI b a ks h):ks.length<scanBound:=by
 obtain ⟨o,es,ep,t,_,_,_,_,p,hb,_⟩:=x;have:=p.length_eq;rw [ax,aT] at this;omega
section
variable{prog:Program}{w:World}{E:Value->Shared->Prop}{A:Around}{s:Shared}
theorem AllI.el(h:AllI l):ElemsOf (intKind prog w) l:=λe he=>by
 obtain ⟨k,t,rfl⟩:=h e he;exact ⟨⟨k,by simp [intKind,Value.isInt],rfl⟩,rfl⟩
theorem b0m(h:e=(hashInt j,Value.int j t)):(intKind prog w).is k e.2=decide (k=j):=by
 subst h
 by_cases q:k=j
 ·subst q;simp [intKind,Value.isInt]
 ·rw [br q];show Value.isInt k (Value.int j t)=false;simp only [Value.isInt,bM,ne_eq]
  first|exact q|exact λz=>q z.symm
theorem af0(h:AllI l):l.findIdx? (λe=>(intKind prog w).is k e.2)=none↔k∉l.map kOf:=by
 rw [List.findIdx?_eq_none_iff]
 constructor
 ·intro n m
  obtain ⟨e,he,q⟩:=c8.mp m;have:=n e he;obtain ⟨j,t,rfl⟩:=h e he;rw [b0m rfl] at this;have:¬ k=j:=of_decide_eq_false this;exact this q.symm
 ·intro n e he
  obtain ⟨j,t,rfl⟩:=h e he;rw [b0m rfl];exact br λz=>n (c8.mpr ⟨_,he,z.symm⟩)
theorem stored(prog:Program)(w:World){es':Array (Int×Value)}{t':SetTable}{h:Heap}(ho:h.get? a=some o)(hex:o.ExactSet)(hd:o.data=.set es ep t)(al:AllI es'.toList)(p:(es'.toList.map kOf).Perm ks)(sz:es'.size<scanBound)(f:t'.fits es'.size=true)(g:Gr t')(l:t'.led=b) :
  SetI b a ks (h.update a (Obj.putSet es' t')):=by
 have e:=SetOf_store (knd:=intKind prog w) (S':=λk=>es'.toList.any λe=>(intKind prog w).is k e.2) ho hex hd al.el (λk=>List.any_eq_true) sz f;exact ⟨_,es',ep+1,t',e.1,hex,rfl,al,p,sz,f,g,l⟩
theorem held(prog:Program)(w:World){es':Array (Int×Value)}{t':SetTable}{h:Heap}(ho:h.get? a=some o)(hex:o.ExactSet)(hd:o.data=.set es ep t)(al:AllI es'.toList)(sz:es'.size<scanBound)(f:t'.fits es'.size=true) :
  ∃o1 ep1,(h.update a (Obj.putSet es' t')).get? a=some o1/\o1.ExactSet/\o1.data=.set es' ep1 t':=by
 have e:=SetOf_store (knd:=intKind prog w) (S':=λk=>es'.toList.any λe=>(intKind prog w).is k e.2) ho hex hd al.el (λk=>List.any_eq_true) sz f;exact ⟨_,ep+1,e.1,hex,rfl⟩
theorem size_of{t:SetTable}(hf:t.fits n=true):t.place.size=n:=by
 simp only [SetTable.fits,aZ,eB] at hf;exact hf.1
theorem arp{b:Bool}{a:Addr}{o:Obj}{es es1:Array (Int×Value)}{ep:Nat}{t t2:SetTable}{ks:List Int}{wd:Bool}{g:Bool->Sem Unit}{R:Option Bool->Shared->Prop}{rl:Array (Int×Value)×SetTable×Bool}
  (hrl:rl=relayAll t2 es1 (SetTable.grown es1.size))
  (hg:∀(c:Bool) (z:Shared) (R':Unit->Shared->Prop),R' () z->wpAny (model prog w) A (g c) R' E z)
  (ho:s.heap.get? a=some o) (hex:o.ExactSet) (hd:o.data=.set es ep t) (al:AllI es1.toList) (pm:(es1.toList.map kOf).Perm ks) (sz:es1.size<scanBound) (f:t2.fits es1.size=true) (gs:SETH.Gs t2) (ld:t2.led=b) (hwd:wd=false)
  (fin:∀h',Heap.SameBut a s.heap h'->SetI b a ks h'->R (some true) {s with heap:=h' }) :
  wpAny (model prog w) A (storeSet a es1 t2>>=λ_=>if (!wd && t2.tooFull)=true then (g rl.2.2>>=λ_=>storeSet a rl.1 rl.2.1>>=λ_=>pure (some true)) else pure (some true)) R E s:=by
 have fl:=SETH.a9z gs.gd;have ps:=size_of f;have big:=gs.big;have sb:=cO s.heap a (Obj.putSet es1 t2);refine ae (wpAny_storeSet_of ho hd ?_ (fits_of_scanBound sz))
 split
 ·rename_i full;have full:t2.fill*5≥t2.mask*3:=by
   rw [hwd] at full;simpa [SetTable.tooFull] using full
  have lt:es1.size<4096:=sz;have p2:=relayAll_perm t2 es1 (SetTable.grown es1.size);obtain ⟨g2,_,f2,r2⟩:=SETH.amw gs es1 (n:=SetTable.grown es1.size) (by unfold SetTable.grown;split<;>omega) (by unfold SetTable.grown;split<;>omega) (by omega)
  have l2:=aj8 t2 es1 (SetTable.grown es1.size);rw [<-hrl] at p2 f2 g2 l2 r2
  clear hrl
  obtain ⟨es2,t3,gv⟩:=rl;have z2:es2.size<scanBound:=by
   have:=p2.length_eq
   simp only [aT] at this;omega
  obtain ⟨o1,p1,ho1,hex1,hd1⟩:=held prog w ho hex hd al sz f;refine ae (hg _ _ _ (ae (wpAny_storeSet_of ho1 hd1 (aw (fin _ (sb.trans (cO _ a _)) ?_)) (fits_of_scanBound z2))));exact stored prog w ho1 hex1 hd1 (λe he=>al e (p2.mem_iff.mp he)) ((p2.map kOf).trans pm) z2 f2 ⟨g2,r2⟩ (l2.trans ld)
 ·rename_i full;have full:t2.fill*5<t2.mask*3:=by
   rw [hwd] at full;simpa [SetTable.tooFull] using full
  exact aw (fin _ sb (stored prog w ho hex hd al pm sz f ⟨gs,full⟩ ld))
theorem agc{b:Bool}{a:Addr}{ks:List Int}{k:Int}{tk:Tok}{Q:Bool->Shared->Prop}(hS:SetI b a ks s.heap)(few:ks.length+1<scanBound)
  (q:∀(h':Heap) (r:Bool),Heap.SameBut a s.heap h'->SetI b a (L2.stepK ks k) h'->Q r {s with heap:=h' }):wpAny (model prog w) A (setAddHashed a (.int k tk) (hashInt k)) Q E s:=by
 obtain ⟨o,es,ep,t,ho,hex,hd,al,pm,sz,ft,gd,ld⟩:=hS;have hk:(intKind prog w).is k (Value.int k tk)=true:=by simp [intKind,Value.isInt]
 have lk:es.size=ks.length:=by have:=pm.length_eq;rwa [ax,aT] at this
 unfold setAddHashed setAddHashedIn;refine bW (ae (cQ ho hd ft ?_));dsimp only;rw [byScan_of (knd:=intKind prog w) rfl sz al.el,aC rfl];unfold setAddByScan;refine ae (ae (eV (ae (wpAny_setScan_of (knd:=intKind prog w) hk ho hd ft al.el ?_))))
 cases c:es.toList.findIdx? (λe=>(intKind prog w).is k e.2) with
 |some j =>
  have mem:k∈ks:=by
   apply dO
   intro n
   have:=(af0 (prog:=prog) (w:=w) al (k:=k)).mpr λm=>n (pm.mem_iff.mp m)
   rw [this] at c;cases c
  refine aw (aw ?_);have:=q s.heap false (Heap.SameBut.refl a s.heap) (by rw [show L2.stepK ks k=ks from aC mem];exact ⟨o,es,ep,t,ho,hex,hd,al,pm,sz,ft,gd,ld⟩)
  exact this
 |none =>
  have nm:k∉ks:=λm=>(af0 (prog:=prog) (w:=w) al).mp c (pm.mem_iff.mpr m);have es1p:=layNew_perm t es (hashInt k) (.int k tk);have wd1:=(aj6 gd.1.gd es (hashInt k) (.int k tk)).2;obtain ⟨gs1,_,ft1,_,_⟩:=SETH.ajd gd.1 es (size_of ft) gd.2 (hashInt k) (.int k tk);have ld1:=aga t es (hashInt k) (.int k tk)
  generalize layNew t es (hashInt k) (.int k tk)=L at es1p ft1 gs1 ld1 wd1 ⊢
  obtain ⟨es1,t1,wd,gave⟩:=L;dsimp only at es1p ft1 gs1 ld1 wd1 ⊢;rw [Array.toList_push] at es1p;have al1:AllI es1.toList:=λe he=>by
   rcases bA.mp (es1p.mem_iff.mp he) with m|m
   ·exact al e m
   ·rw [aB] at m;exact ⟨k,tk,m⟩
  have pm1:(es1.toList.map kOf).Perm (L2.stepK ks k):=by
   rw [show L2.stepK ks k=ks++[k] from aQ nm]
   refine (es1p.map kOf).trans ?_;rw [bB];exact pm.append_right _
  have sz1:es1.size<scanBound:=by
   have:=es1p.length_eq
   rw [aT,ar,aT,aG] at this;omega
  have fin:∀h':Heap,Heap.SameBut a s.heap h'->SetI b a (L2.stepK ks k) h'->wpAny (model prog w) A (pure true) Q E {s with heap:=h' }:=λh' sb x=>aw (q h' true sb x)
  have way:∀(c:Bool) (z:Shared) (R:Unit->Shared->Prop),R () z->wpAny (model prog w) A (match c with|true=>rule "set.scan.the-table-gave-way" |false=>pure ()) R E z:=λc z R h=>by
   cases c
   ·exact aw h
   ·exact eV h
  refine ae (way gave _ _ ?_)
  split
  ·refine ae ?_;rw [hashByValue_scannable 8 (x:=.int k tk) rfl];refine aw ?_;exact arp rfl way ho hex hd al1 pm1 sz1 ft1 gs1 (ld1.trans ld) wd1 fin
  ·rename_i z;exact absurd gs1.plain z
end
section
variable{prog:Program}{w:World}{E:Value->Shared->Prop}{A:Around}{s:Shared}
def a4f(b:Bool):Obj:={cls:=.type "set",dict:=none,data:=.set #[] 0 (.fresh 0 0 b)}
theorem arq{h:Heap}(e:h.get? a=some (a4f b)):SetI b a [] h :=
 ⟨_, #[],0,_,e,⟨rfl,rfl,rfl⟩,rfl,λe he=>by simp at he,by simp,by decide,by simp [SetTable.fits,SetTable.fresh,SetTable.fill],⟨SETH.amv _ _ _,by show 0*5<7*3;decide⟩,rfl⟩
def byT(w:World):Bool:=w.params.followText "set-order"
theorem aje(q:Q (.ref s.heap.objs.size) {s with heap:=s.heap.push (a4f (!byT w))}):wpAny (model prog w) A (newSet (.type "set")) Q E s:=by
 unfold newSet setsByText;refine ae (ae (eS (aw ?_)));exact bY q
end
end SETB
set_option maxHeartbeats 1000000
namespace SETB
open PyProof.Rows SETA PySem.Builtin
def itO(f:Value)(i:Nat)(a:Addr)(n ep:Nat):Obj:={cls:=.type "set_iterator",data:=.fields #[f,rawInt i,.ref a,rawInt n,rawInt ep]}
theorem slot_next:Slot "set_iterator" "__next__" "set_iterator.__next__" :=
 .of (owner := "set_iterator") (n := "__next__") (by rw [typeLookup_type,builtinLookup_eq_fast];kernel_rfl) (by decide +kernel) (by decide +kernel) (by decide +kernel)
  (Or.inl (by decide +kernel)) (by rw [fI];kernel_rfl)
theorem entry_next:entryFor table "set_iterator.__next__" = some Builtin.«set_iterator.__next__»:=entryFor_of_fast (by kernel_rfl)
theorem args_next(a:Value):argsOk "set_iterator.__next__" ⟨[a],[]⟩:=by unfold argsOk;kernel_rfl
theorem agd:entryFor table "set.__iter__" = some Builtin.«frozenset.__iter__» :=
 entryFor_alias (id' := "frozenset.__iter__") (by kernel_rfl) rfl (by decide +kernel) (by kernel_rfl)
theorem ajf(a:Value):argsOk "set.__iter__" ⟨[a],[]⟩:=by unfold argsOk;kernel_rfl
section
variable{prog:Program}{w:World}{E:Value->Shared->Prop}{A:Around}{s:Shared}
theorem aa0(q:Q (byT w) s):wpAny (model prog w) A setsByText Q E s:=by
 unfold setsByText;exact ae (eS (aw q))
theorem a7u(ho:s.heap.get? a=some o)(hd:o.data=.set es ep t)(hf:t.fits es.size=true)(bt:byT w=false)(pl:t.plain=true\/es.size<=1)(ld:t.led=true)(hk:SetTable.below t.place slot=k)
  (hr:(∃h x j,es[k]? = some (h,x)/\t.place[k]? = some j/\r=some (x,j+1))\/(es[k]? = none/\r=none)) (q:Q r s):wpAny (model prog w) A (setNext a slot i ep') Q E s:=by
 subst hk;unfold setNext
 apply ae
 apply cQ ho hd hf
 apply ae
 apply aa0
 simp only [bt,bT,eN]
 split
 ·rename_i z;have z:(!t.plain && decide (es.size > 1))=true:=z
  rcases pl with p|p
  ·rw [p] at z;cases z
  ·rw [br (by omega),eD] at z
   cases z
 have led:∀R:Unit->Shared->Prop,R () s->wpAny (model prog w) A (if (!t.led && !es.isEmpty)=true then unsupported "set:maker-not-led" else pure ()) R E s:=λR r=>by
  rw [ld];exact aw r
 refine ae (led _ (aw ?_))
 rcases hr with ⟨h,x,j,e,f,rfl⟩|⟨e,rfl⟩
 ·rw [e,f];exact q
 ·rw [e];exact q
def Tells(w:World)(a:Addr)(slot i ep:Nat)(r:Option (Value×Nat))(s:Shared):Prop:=∀(prog:Program) (A:Around) (E:Value->Shared->Prop) (Q:Option (Value×Nat)->Shared->Prop),Q r s->wpAny (model prog w) A (setNext a slot i ep) Q E s
theorem next_item{o:Obj}{es:Array (Int×Value)}{ep i slot nx:Nat}{t:SetTable}(hi:s.heap.get? it=some (itO (rawInt slot) i a es.size ep))(ho:s.heap.get? a=some o)(hd:o.data=.set es ep t)(hf:t.fits es.size=true)(hn:Tells w a slot i ep (some (x,nx)) s)
  (q:∀h':Heap,h'.get? it=some (itO (rawInt nx) (i+1) a es.size ep)->Heap.SameBut it s.heap h'->Q (some x) {s with heap:=h' }):wpAny (model prog w) A (pyNext (.ref it)) Q E s:=by
 have hT:s.TypeIs (.ref it) "set_iterator":=⟨_,hi,rfl⟩;unfold pyNext;refine ae (gX (cC (name:=Str.ofString "__next__") hT slot_next (cm slot_next hT entry_next ?_ (args_next _))));unfold Builtin.«set_iterator.__next__»;have hn':∀{A:Around} {E:Value->Shared->Prop} {Q:Option (Value×Nat)->Shared->Prop},Q _ s->wpAny (model prog w) A (setNext a (slot:Int).toNat (i:Int).toNat (ep:Int).toNat) Q E s:=λ{A E Q} r=>hn prog A E Q r
 wp_walk using hn',cQ ho hd hf
 exact ⟨x,rfl,aw (q _ (cY _ (cY _ hi rfl) rfl) ((cO ..).trans (cO ..)))⟩
theorem ajg{o:Obj}{es:Array (Int×Value)}{ep i slot:Nat}{t:SetTable}(hh:A.handled=none)(hi:s.heap.get? it=some (itO (rawInt slot) i a es.size ep))(ho:s.heap.get? a=some o)(hd:o.data=.set es ep t)(hf:t.fits es.size=true)(hn:Tells w a slot i ep none s)
  (q:∀h':Heap,Heap.ExtBut it s.heap h'->Q none {s with heap:=h' }):wpAny (model prog w) A (pyNext (.ref it)) Q E s:=by
 have hT:s.TypeIs (.ref it) "set_iterator":=⟨_,hi,rfl⟩;unfold pyNext;refine ae (gX (cC (name:=Str.ofString "__next__") hT slot_next (cm slot_next hT entry_next ?_ (args_next _))));unfold Builtin.«set_iterator.__next__»;have hn':∀{A:Around} {E:Value->Shared->Prop} {Q:Option (Value×Nat)->Shared->Prop},Q _ s->wpAny (model prog w) A (setNext a (slot:Int).toNat (i:Int).toNat (ep:Int).toNat) Q E s:=λ{A E Q} r=>hn prog A E Q r
 wp_walk using hn',cQ ho hd hf
 unfold raiseNew
 apply ae
 apply wpAny_handled
 rw [show A.in1.handled=_ from hh]
 wp_walk
 show wpAny (model prog w) A (isSubtype (.type "StopIteration") (.type "StopIteration")) _ _ _;rw [isSubtype_stop];exact aw (aw (q _ λb o hb e=>ai _ (ai _ ((cO s.heap it _).extBut b o hb e))))
end
end SETB
set_option maxHeartbeats 1000000
namespace SETB
open PyProof.Rows SETA PySem.Builtin
def slotAt(t:SetTable)(i:Nat):Nat:=if i=0 then 0 else t.place.getD (i-1) 0+1
theorem ajh(g:Gd t)(h:i<=t.place.size):SetTable.below t.place (slotAt t i)=i:=by
 unfold slotAt
 split
 ·rename_i z;subst z;exact ark g.ri
 ·have hk:i-1<t.place.size:=by omega
  have e:t.place.getD (i-1) 0=t.place[i-1]:=by simp [Array.getD,hk]
  rw [e,ag6 g.ri hk];omega
section
variable{prog:Program}{w:World}{E:Value->Shared->Prop}{A:Around}{s:Shared}{a:Addr}{o:Obj}{es:Array (Int×Value)}{ep i:Nat}{t:SetTable}
theorem age(ho:s.heap.get? a=some o)(hd:o.data=.set es ep t)(hf:t.fits es.size=true)(bt:byT w=false)(pl:t.plain=true\/es.size<=1)(ld:t.led=true)(g:Gd t)(hi:i<es.size):Tells w a (slotAt t i) i ep (some (es[i].2,slotAt t (i+1))) s:=λprog A E Q q=>by
 have sz:=size_of hf;refine a7u ho hd hf bt pl ld (ajh g (by omega)) (.inl ⟨_,_,_,bO hi,bO (by omega),rfl⟩) ?_
 have e:slotAt t (i+1)=t.place[i]'(by omega)+1:=by
  unfold slotAt;rw [aQ (by omega)]
  simp [Array.getD,show i<t.place.size by omega]
 rw [e] at q;exact q
theorem agf(ho:s.heap.get? a=some o)(hd:o.data=.set es ep t)(hf:t.fits es.size=true)(bt:byT w=false)(pl:t.plain=true\/es.size<=1)(ld:t.led=true)(g:Gd t):Tells w a (slotAt t es.size) es.size ep none s:=λprog A E Q q=>by
 have sz:=size_of hf;exact a7u ho hd hf bt pl ld (ajh g (by omega)) (.inr ⟨Array.getElem?_eq_none (by omega),rfl⟩) q
theorem amx(ho:s.heap.get? a=some o)(hex:o.ExactSet)(hd:o.data=.set es ep t)(hf:t.fits es.size=true)(nd:byT w=true\/t.plain=true\/es.size<=1)
  (q:Q (.ref s.heap.objs.size) {s with heap:=s.heap.push (itO (rawInt 0) 0 a es.size ep)}):wpAny (model prog w) A (pyIter (.ref a)) Q E s:=by
 have ht:s.TypeIs (.ref a) "set":=⟨_,ho,hex.1⟩;refine wpAny_pyIter_slot ht F.slot_set_iter (cm F.slot_set_iter ht agd ?_ (ajf _));have dr:∀{A:Around} {E:Value->Shared->Prop} {Q:Bool->Shared->Prop},Q false s->wpAny (model prog w) A (setDrawn a) Q E s:=λ{A E Q} r=>by
  unfold setDrawn;refine ae (cQ ho hd hf (ae (aa0 (aw ?_))));have:(!byT w && (!t.plain && decide (es.size > 1)))=false:=by
   rcases nd with z|z|z
   ·rw [z];rfl
   ·rw [z];simp
   ·rw [br (by omega)];simp
  rw [<-this] at r;exact r
 unfold Builtin.«frozenset.__iter__»
 wp_walk using dr,cQ ho hd hf
 exact ⟨_,rfl, "set_iterator",_,⟨_,aK _ rfl,rfl⟩,slot_next.lookup,q⟩
end
end SETB
set_option maxHeartbeats 1000000
namespace SETB
open PyProof.Rows SETA PySem.Builtin
theorem a8u{α:Type}:∀(l:List α) (i:Nat) (h:i<l.length),(l[i]::l.eraseIdx i).Perm l
 |x::l,0,_=>.refl _
 |x::l,i+1,h=>(List.Perm.swap ..).trans ((a8u l i (Nat.lt_of_succ_lt_succ h)).cons x)
theorem aji{α:Type}(nx:Nat->Nat):∀(n k:Nat) (l:List α) (out:Array α),l.length=n->(pickOrder.go nx n k l out).toList.Perm (out.toList++l)
 |0,k,l,out,e=>by
  cases l with
  |nil=>simp [pickOrder.go]
  |cons x l=>cases e
 |n+1,k,l,out,e=>by
  have hi:nx k%l.length<l.length:=fF _ (by omega)
  unfold pickOrder.go;rw [ah hi];refine (aji nx n (k+1) _ _ (by rw [List.length_eraseIdx_of_lt hi];omega)).trans ?_
  rw [Array.toList_push,cL];exact (a8u l _ hi).append_left _
theorem ajj{α:Type}(nx:Nat->Nat)(xs:Array α):(pickOrder nx xs).toList.Perm xs.toList:=by
 have:=aji nx xs.size 0 xs.toList #[] (by simp)
 simpa [pickOrder] using this
def af1(w:World)(a:Addr)(ep:Nat)(es:Array (Int×Value)):Array (Int×Value):=if byT w then pickOrder (w.params.setOrder a ep) es else es
theorem af2(w:World)(a:Addr)(ep:Nat)(es:Array (Int×Value)):(af1 w a ep es).toList.Perm es.toList:=by
 unfold af1
 split
 ·exact ajj _ _
 ·exact .refl _
theorem a4g(w:World)(a:Addr)(ep:Nat)(es:Array (Int×Value)):(af1 w a ep es).size=es.size:=by
 have:=(af2 w a ep es).length_eq
 simpa using this
def aa1(w:World)(t:SetTable)(i:Nat):Nat:=if byT w then 0 else slotAt t i
section
variable{prog:Program}{w:World}{E:Value->Shared->Prop}{A:Around}{s:Shared}{a:Addr}{o:Obj}{es:Array (Int×Value)}{ep i:Nat}{t:SetTable}
theorem abr(ho:s.heap.get? a=some o)(hd:o.data=.set es ep t)(hf:t.fits es.size=true)(bt:byT w=true)(q:Q (pickOrder (w.params.setOrder a ep) es) s):wpAny (model prog w) A (setWalk a) Q E s:=by
 unfold setWalk
 apply ae
 apply cQ ho hd hf
 apply ae
 apply aa0
 simp only [bt,dS];exact ae (eS (aw q))
theorem abt(ho:s.heap.get? a=some o)(hd:o.data=.set es ep t)(hf:t.fits es.size=true)(bt:byT w=true)
  (q:Q (((pickOrder (w.params.setOrder a ep) es)[i]?).map λe=>(e.2,slot)) s):wpAny (model prog w) A (setNext a slot i ep) Q E s:=by
 unfold setNext
 apply ae
 apply cQ ho hd hf
 apply ae
 apply aa0
 simp only [bt,dS,bne_self_eq_false,bT,eN]
 first
 |exact ae (abr ho hd hf bt (aw q))
 |exact ae (aw (ae (abr ho hd hf bt (aw q))))
theorem ars(ho:s.heap.get? a=some o)(hd:o.data=.set es ep t)(hf:t.fits es.size=true)(nd:byT w=true\/t.plain=true\/es.size<=1)(ld:t.led = !byT w)(g:Gd t)(hi:i<(af1 w a ep es).size):Tells w a (aa1 w t i) i ep (some ((af1 w a ep es)[i].2,aa1 w t (i+1))) s:=by
 have sz:=a4g w a ep es
 cases bt:byT w with
 |true =>
  intro prog A E Q q
  refine abt ho hd hf bt ?_;have e:pickOrder (w.params.setOrder a ep) es=af1 w a ep es:=by unfold af1;rw [bt];rfl
  rw [e,bO hi];unfold aa1 at q ⊢;rw [bt] at q ⊢;exact q
 |false =>
  have e:af1 w a ep es=es:=by unfold af1;rw [bt];rfl
  rw [bt] at ld;have:=age (i:=i) ho hd hf bt (nd.resolve_left (by rw [bt];decide)) ld g (by omega)
  unfold aa1;rw [bt];simp only [e,bT,eN];exact this
theorem ajk(ho:s.heap.get? a=some o)(hd:o.data=.set es ep t)(hf:t.fits es.size=true)(nd:byT w=true\/t.plain=true\/es.size<=1)(ld:t.led = !byT w)(g:Gd t):Tells w a (aa1 w t es.size) es.size ep none s:=by
 have sz:=a4g w a ep es
 cases bt:byT w with
 |true =>
  intro prog A E Q q
  refine abt ho hd hf bt ?_;have e:pickOrder (w.params.setOrder a ep) es=af1 w a ep es:=by unfold af1;rw [bt];rfl
  rw [e,Array.getElem?_eq_none (by omega)]
  exact q
 |false =>
  rw [bt] at ld;have:=agf ho hd hf bt (nd.resolve_left (by rw [bt];decide)) ld g
  unfold aa1;rw [bt];exact this
end
end SETB
set_option maxHeartbeats 1000000
namespace SETB
open PyProof.Rows SETA PySem.Builtin
theorem slot_self:Slot "set_iterator" "__iter__" "set_iterator.__iter__" :=
 .of (owner := "set_iterator") (n := "__iter__") (by rw [typeLookup_type,builtinLookup_eq_fast];kernel_rfl) (by decide +kernel) (by decide +kernel) (by decide +kernel)
  (Or.inl (by decide +kernel)) (by rw [fI];kernel_rfl)
theorem entry_self:entryFor table "set_iterator.__iter__" = some Builtin.«dict_keyiterator.__iter__»:=entryFor_alias (id' := "dict_keyiterator.__iter__") (by kernel_rfl) rfl (by decide +kernel) (by kernel_rfl)
theorem args_self(a:Value):argsOk "set_iterator.__iter__" ⟨[a],[]⟩:=by unfold argsOk;kernel_rfl
section
variable{prog:Program}{w:World}{A:Around}{a I:Addr}{o:Obj}{es:Array (Int×Value)}{ep:Nat}{t:SetTable}
theorem art{s:Shared}(ht:s.TypeIs (.ref I) "set_iterator")(q:Q (.ref I) s):wpAny (model prog w) A (pyIter (.ref I)) Q E s:=by
 refine wpAny_pyIter_slot ht slot_self (cm slot_self ht entry_self ?_ (args_self _));show wpAny (model prog w) _ (ret (.ref I)) _ _ s;exact aw ⟨_,rfl, "set_iterator",_,ht,slot_next.lookup,q⟩
theorem ajl(hh:A.handled=none)(ne:a≠I)(hd:o.data=.set es ep t)(hf:t.fits es.size=true)(nd:byT w=true\/t.plain=true\/es.size<=1)(ld:t.led = !byT w)(g:Gd t) :
  Walks prog w A I [I,a] [I] es.size (λi v=>((af1 w a ep es)[i]?).map (·.2)=some v) (λi h=>h.get? I=some (itO (rawInt (aa1 w t i)) i a es.size ep)/\h.get? a=some o) where
 sub:=λb hb=>aD.mpr (.inl (aB.mp hb))
 frame:=λ_ _ _ st hk=>⟨hk I (by simp) _ st.1,hk a (by simp) _ st.2⟩
 item:=λi s Q E hi st q=>by
  have hi':i<(af1 w a ep es).size:=by rw [a4g];exact hi
  refine next_item st.1 st.2 hd hf (ars st.2 hd hf nd ld g hi') λh' e sb=>?_;exact q _ h' s.toks (by rw [bO hi'];rfl) ⟨e,sb.extBut a o ne st.2⟩ λb o hb e=>sb.extBut b o (λh=>hb (by simp [h])) e
 done:=λs Q E st q=>ajg hh st.1 st.2 hd hf (ajk st.2 hd hf nd ld g) λh' e=>q h' s.toks λb o hb x=>e b o (λh=>hb (by simp [h])) x
 self:=λi s Q E st q=>art ⟨_,st.1,rfl⟩ q
end
theorem ajm{A:Around}{s:Shared}(hh:A.handled=none)(hS:SetI (!byT w) a ks s.heap)
  (q:∀(es:Array (Int×Value)) (St:Nat->Heap->Prop),AllI es.toList->(es.toList.map kOf).Perm ks->∀h':Heap,(∀b o,s.heap.get? b=some o->h'.get? b=some o)->h'.objs.size=s.heap.objs.size+1->St 0 h'->
   Walks prog w A s.heap.objs.size [s.heap.objs.size,a] [s.heap.objs.size] es.size (λi v=>(es[i]?).map (·.2)=some v) St->Q (.ref s.heap.objs.size) {s with heap:=h' }):wpAny (model prog w) A (pyIter (.ref a)) Q E s:=by
 obtain ⟨o,es,ep,t,ho,hex,hd,al,pm,sz,ft,gr,ld⟩:=hS;have nd:byT w=true\/t.plain=true\/es.size<=1:=.inr (.inl gr.1.plain);refine amx ho hex hd ft nd ?_;have ne:a≠s.heap.objs.size:=λc=>by
  rw [c] at ho;simp [Heap.get?] at ho
 have W:=ajl (prog:=prog) (I:=s.heap.objs.size) hh ne hd ft nd ld gr.1.gd;have pp:=af2 w a ep es;rw [<-a4g w a ep es] at W;refine q (af1 w a ep es) _ (λe he=>al e (pp.mem_iff.mp he)) ((pp.map kOf).trans pm) _ (λb o e=>ai _ e) (by simp [Heap.push]) ⟨?_,ai _ ho⟩ W
 have s0:aa1 w t 0=0:=by unfold aa1 slotAt;simp
 rw [s0,a4g];exact aK _ rfl
end SETB
set_option maxHeartbeats 1000000
namespace SETB
open PyProof.Rows SETA PySem.Builtin
section
variable{prog:Program}{w:World}{A:Around}{s:Shared}{E:Value->Shared->Prop}{a:Addr}{ks:List Int}
theorem amy(ht:s.TypeIs (.ref a) "set")(q:Q false s):wpAny (model prog w) A (Builtin.List.listLengthHint (.ref a)) Q E s:=by
 unfold Builtin.List.listLengthHint;refine ae (wpAny_specialOf ht F.slot_set_len.lookup ?_);have sp:splitId "set.__len__" = some ("set","__len__"):=by decide +kernel
 dsimp only;rw [sp];dsimp only
 apply ae
 apply wpAny_isInstance (T := "set") (b:=true) ht (by rw [fI];kernel_rfl)
 rw [aQ (by decide)]
 refine wpAny_ite_split (λ_=>?_) λn=>absurd (by decide +kernel) n
 apply ae
 apply fJ ht
 exact aw q
theorem ad8(hh:A.handled=none)(hS:SetI (!byT w) a ks s.heap)
  (q:∀(vs:List Value) (js:List Int) (s':Shared),js.Perm ks->vs.length=js.length->(∀(i:Nat) (v:Value),vs[i]? = some v->∃k t,js[i]? = some k/\v=Value.int k t)->Moved [] (λx y=>y=x) s s'->s.heap.objs.size<=s'.heap.objs.size->Q vs s'):wpAny (model prog w) A (collect (.ref a)) Q E s:=by
 unfold collect
 apply ae
 apply wpAny_runValue
 apply dD F.entry_proto_collect
 rw [da F.plain_proto_collect _];unfold Builtin.«proto.collect»
 wp_walk
 refine ⟨fU F.plain_list_iadd _,dD F.entry_list_iadd ?_⟩;rw [da F.plain_list_iadd _];obtain ⟨o,ho,hT⟩:∃o,s.heap.get? a=some o/\o.cls=.type "set":=by
  obtain ⟨o,es,ep,t,ho,hex,_⟩:=hS;exact ⟨o,ho,hex.1⟩
 have lt:=aI ho;have up:∀b x,s.heap.get? b=some x->(s.heap.push {cls:=.type "list",data:=.seq #[]}).get? b=some x:=λb x e=>ai _ e;have sz0:(s.heap.push {cls:=.type "list",data:=.seq #[]}).objs.size=s.heap.objs.size+1:=by simp [Heap.push]
 have hL:(s.heap.push {cls:=.type "list",data:=.seq #[]}).get? s.heap.objs.size=some {cls:=.type "list",data:=.seq #[]}:=aK _ rfl;have hS0:=hS.keep λx e=>up a x e;have few:=hS.len
 generalize s.heap.push {cls:=.type "list",data:=.seq #[]}=h0 at up sz0 hL hS0 ⊢
 show wpAny (model prog w) A.in1 (Builtin.List.listExtendWith (.ref s.heap.objs.size) (.ref a) (.ref s.heap.objs.size)) _ _ _;unfold Builtin.List.listExtendWith
 apply ae
 have ht0:({s with heap:=h0}:Shared).TypeIs (.ref a) "set":=⟨o,up a o ho,hT⟩
 apply fJ ht0
 have far:s.heap.objs.size≠a:=Nat.ne_of_gt lt;rw [aQ (by simp [Builtin.List.listSameRef,far])]
 apply ae
 refine ajm (s:={s with heap:=h0}) hh hS0 λes St al pm h1 ext sz1 st W=>?_
 apply ae
 apply bW
 have ht1:({s with heap:=h1}:Shared).TypeIs (.ref a) "set":=⟨o,ext a o (up a o ho),hT⟩
 apply amy ht1
 refine wpAny_ite_split (λ_=>?_) λn=>absurd (by decide +kernel) n
 apply ae
 apply eV
 apply ae
 have n1:es.size=ks.length:=by
  have:=pm.length_eq
  rwa [ax,aT] at this
 have hL1:=ext _ _ hL;show wpAny (model prog w) A.in1 (updateSeq s.heap.objs.size (·.push .none)>>=λ_=>updateSeq s.heap.objs.size (·.pop)) _ _ _;refine ae (i3 hL1 rfl ?_);have hL2:=cY (Obj.mapSeq (·.push Value.none)) hL1 rfl;refine i3 hL2 rfl ?_;have hL3:=cY (Obj.mapSeq (·.pop)) hL2 rfl;have oth:∀b x,b≠s.heap.objs.size->h1.get? b=some x->((h1.update s.heap.objs.size (Obj.mapSeq (·.push Value.none))).update s.heap.objs.size (Obj.mapSeq (·.pop))).get? b=some x :=
  λb x hb e=>(cJ _ _ (eX hb)).trans ((cJ _ _ (eX hb)).trans e)
 have hf:s.heap.objs.size∉[h0.objs.size,a]:=λc=>by
  simp only [aD,bg,eh] at c
  rcases c with c|c
  ·exact aX (Nat.lt_of_lt_of_eq (eM _) sz0.symm) c
  ·exact far c
 refine aw ⟨fU F.plain_extend_loop _,codeAny_extend_loopS W.toS (by have:ks.length<4096:=few;rw [n1];unfold sizeLine;omega) _ hf _ es.size 0 _ _ _ rfl (aU _)
  (W.frame 0 h1 _ st λb hb x e=>oth b x (λc=>hf (c ▸ hb)) e) hL3 (ItemsOf.nil _) λs' acc c' hm hA hI=>?_⟩
 show wpAny (model prog w) A (load s.heap.objs.size>>=_) _ _ s'
 apply ae
 apply wpAny_load hA
 refine aw (q acc.toList (es.toList.map kOf) s' pm (by rw [aT,hI.1,ax,aT]) (λi v e=>?_) ⟨λb x _ e=>?_,hm.gens,hm.drawn,hm.os,hm.toks⟩ (gu (aI hA)))
 ·have this:(es[i]?).map (·.2)=some v:=hI.2 i v (by simpa using e)
  cases g:es[i]? with
  |none=>rw [g] at this;cases this
  |some y =>
   rw [g] at this;have m:y∈es.toList:=by
    obtain ⟨hi,z⟩:=gi.mp g;rw [<-z];simp
   obtain ⟨k,t,rfl⟩:=al y m;cases this
   exact ⟨k,t,by simp [g,kOf],rfl⟩
 ·have lb:=aI e;refine hm.heap b x (λc=>?_) (oth b x (aX lb) (ext b x (up b x e)));simp only [aD,bg,eh] at c
  rcases c with c|c
  ·exact aX lb c
  ·exact aX (Nat.lt_of_lt_of_eq (Nat.lt_succ_of_lt lb) sz0.symm) c
end
end SETB
set_option maxHeartbeats 1000000
namespace SETB
open PyProof.Rows SETA PySem.Builtin
section
variable{prog:Program}{w:World}{A:Around}{s:Shared}{E:Value->Shared->Prop}{a:Addr}{ks:List Int}
theorem ints_of{vs:List Value}{js:List Int}(len:vs.length=js.length)(h:∀(i:Nat) (v:Value),vs[i]? = some v->∃k t,js[i]? = some k/\v=Value.int k t):IntsAre vs js:=by
 have all:∀v,v∈vs->∃n t,v=Value.int n t:=λv hv=>by
  obtain ⟨i,hi,e⟩:=eJ.mp hv;obtain ⟨k,t,_,z⟩:=h i v (by rw [ah hi,e])
  exact ⟨k,t,z⟩
 have e:vs.map numOf=js:=by
  refine List.ext_getElem (by rw [ax,len]) λi h1 h2=>?_
  have hi:i<vs.length:=by omega
  obtain ⟨k,t,x,z⟩:=h i vs[i] (ah hi);rw [List.getElem_map,z];rw [ah h2] at x;cases x
  rfl
 have:=intsAre_map vs all
 rwa [e] at this
theorem agg(hh:A.handled=none)(hS:SetI (!byT w) a ks s.heap)(h64:ks.length<64)
  (q:∀(l:Addr) (out:Array Value) (e:Nat) (s':Shared),s.heap.objs.size<=l->IntsAre out.toList (PySem.W.sortI ks)->s'.heap.get? l=some (seqObj "list" out e)->Moved [] (λx y=>y=x) s s'->Q (.ref l) s') :
  wpAny (model prog w) A (call (.builtin "sorted") [.ref a]) Q E s:=by
 refine Calls.call_function_entry kind_sorted plain_sorted entry_sorted (args_sorted1 _) ?_;unfold Builtin.«sorted»
 apply ae (m:=checkCount "sorted" 1 1 _)
 apply aw
 apply ae
 refine ad8 hh hS λvs js s1 pj len it mv up=>?_;have hI:=ints_of len it;have l64:vs.length<64:=by rw [len,pj.length_eq];exact h64
 apply ae
 refine wpAny_newList ?_ (hsz:=by rw [fD];omega)
 have hL:(s1.heap.push (seqObj "list" vs.toArray 0)).get? s1.heap.objs.size=some (seqObj "list" vs.toArray 0):=aK _ rfl
 apply ae
 apply bW
 refine cm slot_list_sort (s:={s1 with heap:=s1.heap.push (seqObj "list" vs.toArray 0)}) ⟨_,hL,rfl⟩ entry_list_sort (list_sort_tree hL hI l64 λout ns a1 a2 a3=>⟨_,rfl,?_⟩) (args_list_sort _)
 have e2:ns=PySem.W.sortI ks:=PySem.W.eq_sortI (a2.trans pj) a3;subst e2;obtain ⟨e,he⟩:=sortedHeap_at (out:=out) hL;refine aw ⟨_,rfl,q _ out e _ ?_ a1 he ⟨λb x hb g=>?_,mv.gens,mv.drawn,mv.os,mv.toks⟩⟩
 ·exact up
 ·have g1:=mv.heap b x hb g;have lt:=aI g1;show (sortedHeap _ _ _ _).get? b=some x;rw [sortedHeap_old (aX lt) (by rw [size_push'];exact Nat.lt_succ_of_lt lt)]
  exact ai _ g1
end
end SETB
set_option maxHeartbeats 1000000
namespace L2
open PyProof.Rows SETB
def ay7(w:World)(a:Addr)(ks:List Int):HO:=.ext λh=>SetI (!byT w) a ks h
section
variable{X:Cx}
theorem a7v(hc:X.calm=true):CallR X (.builtin "sorted") (λxs H Q=>∃(p:Addr) (ks:List Int),xs=[.ref p]/\H p=some (ay7 X.w p ks)/\ks.length<64/\∀l,H l=none->Q (.ref l) (upd H l (.lst ((PySem.W.sortI ks).map V.int)))):=by
 intro pins s σ H xs us Q I r ⟨p,ks,e,hp,h64,q⟩
 subst e;obtain ⟨u,rfl,ru⟩:=vals1 r;cases ru
 obtain ⟨hS,_⟩:=I.hok p _ hp;refine agg (I.ok.hd hc) hS h64 λl out e s' hl a1 he mv=>?_;obtain ⟨h',g',d',t',o'⟩:=s';obtain ⟨mh,mg,md,mo,mt⟩:=mv;dsimp only at mh mg md mo mt he;subst mg md mo;have ln:(PySem.W.sortI ks).length=ks.length:=(PySem.W.sortI_perm ks).length_eq;refine ⟨.ref l,_,I.laid (t':=t') (λb u g=>mh b u (by simp) g) hl (show ObjOk X.prog X.w _ _ _ (.lst ((PySem.W.sortI ks).map V.int)) from ⟨by rw [ax,ln];have:=fD;omega,out.toList,e,a74 a1,by simpa [seqObj] using he⟩),rfl,q _ (I.hok.fresh hl)⟩
theorem aru(x:SetI (!byT w) a ks h):ObjOk P w H h a (ay7 w a ks):=by
 refine ⟨x,?_,λh1 h2 p k=>p.keep k⟩;obtain ⟨o,_,_,_,ho,_⟩:=x;exact ⟨o,ho⟩
end
end L2
set_option maxHeartbeats 1000000
namespace L2
open PyProof.Rows SETB
end L2
namespace MI
open L2 SETB
def azi(ks:List Int)(h:Hd):R D:=if ks.length<64 then .ok (.ref h.length) (h++[.lst ((PySem.W.sortI ks).map D.int)]) else .no
theorem a2e:∀{K:PySem.W.Frag} {ι:List Addr} {H:Hp} (ns:List Int),Reps K ι H (ns.map V.int) (ns.map D.int)
 |_,_,_,[]=>.nil
 |_,_,_,n::ns=>.cons (.int n) (a2e ns)
end MI
set_option maxHeartbeats 1000000
namespace SETB
open PyProof.Rows SETA PySem.Builtin
end SETB
set_option maxHeartbeats 1000000
namespace SETB
open PyProof.Rows SETA PySem.Builtin
end SETB
set_option maxHeartbeats 1000000
namespace SETB
open PyProof.Rows SETA PySem.Builtin
end SETB
namespace SETB
open PyProof.Rows SETA
section
variable{prog:Program}{w:World}{A:Around}{E:Value->Shared->Prop}{R:Result->Shared->Prop}{s:Shared}
theorem a7w{b:Bool}{I S:Addr}{fp wr:List Addr}{n:Nat}{P:Nat->Value->Prop}{St:Nat->Heap->Prop}(W:Walks prog w A.in1 I fp wr n P St)(apart:S∉fp)(val:Nat->Int)(key:∀i v,P i v->∃t,v=.int (val i) t)(few:n+1<scanBound) :
  ∀(left i:Nat) (s:Shared) (ks:List Int),i+left=n->ks.length<=i->St i s.heap->SetI b S ks s.heap->
   (∀h' tk,SetI b S (((List.range' i left).map val).foldl L2.stepK ks) h'->(∀c o,c≠S->c∉wr->s.heap.get? c=some o->h'.get? c=some o)->R (.ok (.ret .none)) {s with heap:=h',toks:=tk})->
   codeAny (model prog w) A (.builtin "set.update.loop" ⟨[.ref S,.ref I],[]⟩) R s
 | 0,i,s,ks,hi,hl,st,x,fin=>dD F.entry_set_update_loop (by
   obtain rfl:i=n:=by omega
   simp only [da fq];exact ae (W.done s _ _ st λh' tk k=>aw (fin h' tk (x.keep λo e=>k S o (λz=>apart (W.sub S z)) e) λc o _ hc e=>k c o hc e)))
 | left+1,i,s,ks,hi,hl,st,x,fin=>dD F.entry_set_update_loop (by
   simp only [da fq];refine ae (W.item i s _ _ (by omega) st λv h1 t1 p st1 k1=>?_)
   obtain ⟨tk,rfl⟩:=key i v p;refine ae (bW ?_);unfold setAdd;refine bW (ae ((intKind prog w).pyHash (k:=val i) (by simp [intKind,Value.isInt]) ?_))
   refine agc (s:={s with heap:=h1,toks:=t1+1}) (x.keep λo e=>k1 S o (λz=>apart (W.sub S z)) e) (by omega) λh2 r sb x2=>?_
   have sl:(L2.stepK ks (val i)).length<=i+1:=by
    unfold L2.stepK
    split
    ·omega
    ·rw [ar,aG];omega
   refine aw ⟨fU fq _,a7w W apart val key few left (i+1) _ _ (by omega) sl (W.frame _ _ _ st1 λc hc o e=>sb.extBut c o (λz=>apart (z ▸ hc)) e) x2 λh3 t3 x3 k3=>?_⟩
   exact fin h3 t3 (by rw [List.range'_succ,bp,fW];exact x3) λc o cS cw e=>k3 c o cS cw (sb.extBut c o cS (k1 c o cw e)))
theorem ajn(a:Value)(h:Q₁ (.ref s.heap.objs.size) {s with heap:=s.heap.push (a4f (!byT w))}) :
  codeAny (model prog w) A (.call (.builtin "set.__new__") ⟨[.type "set",a],[]⟩) (wants Q₁ E) s:=by
 apply fv
 apply ae
 refine ei (F.newCall_set_1 a) ?_;refine aw ⟨fU F.plain_set_new _,dD F.entry_set_new ?_⟩;simp only [da F.plain_set_new];have self:=sub_set_self;unfold Builtin.«set.__new__» Builtin.Frozenset.newClass
 generalize en:newSet=mk
 wp_walk
 subst en
 first
  |exact aje (aw h)
  |exact ae (aje (aw h))
theorem ajo{l:Addr}{tn:String}{od:Option Addr}{dt:Data}{sl:Array (Option Value)}{ns:List Int}{b:Bool}{R:Result->Shared->Prop}(hh:A.handled=none)
  (hl:s.heap.get? l=some {cls:=.type tn,dict:=od,data:=dt,slots:=sl}) (no1:isSubtype (.type tn) (.type "set")=pure false) (no2:isSubtype (.type tn) (.type "frozenset")=pure false) (no3:(Value.type tn == Value.type "dict")=false) (few:ns.length+1<scanBound)
  (it:∀(s1:Shared) (Q:Value->Shared->Prop) (E:Value->Shared->Prop),s1.heap.get? l=some {cls:=.type tn,dict:=od,data:=dt,slots:=sl}->
   (∀(o:Obj) (St:Nat->Heap->Prop) (P:Nat->Value->Prop),(∀A':Around,A'.handled=none->Walks prog w A' s1.heap.objs.size [s1.heap.objs.size,l] [s1.heap.objs.size] ns.length P St)->(∀i v,P i v->∃t,v=.int (ns.getD i 0) t)->St 0 (s1.heap.push o)->Q (.ref s1.heap.objs.size) {s1 with heap:=s1.heap.push o})->wpAny (model prog w) A.in1 (pyIter (.ref l)) Q E s1)
  (q:∀h' tk,SetI b s.heap.objs.size (ns.foldl L2.stepK []) h'->(∀c o,s.heap.get? c=some o->h'.get? c=some o)->R (.ok (.ret .none)) {s with heap:=h',toks:=tk}) :
  wpAny (model prog w) A.in1 (Builtin.«set.__init__» ⟨[.ref s.heap.objs.size,.ref l],[]⟩)
   (λfin s'=>match fin with|.done f=>R (.ok f) s'|.again c'=>c'.quiet=true/\codeAny (model prog w) A c' R s') (λe s'=>R (.error e) s') {s with heap:=s.heap.push (a4f b)}:=by
 have at0:(s.heap.push (a4f b)).get? s.heap.objs.size=some (a4f b):=aK _ rfl;have hl':(s.heap.push (a4f b)).get? l=some {cls:=.type tn,dict:=od,data:=dt,slots:=sl}:=ai _ hl;have ll:=aI hl;unfold Builtin.«set.__init__»;unfold noKeywords Builtin.Frozenset.updateFrom
 generalize ep:pyIter=walker
 unfold a4f at at0 hl' ⊢
 wp_walk
 subst ep;refine it _ _ _ hl' λo St P W key st=>ae (wpAny_runValue ?_);dsimp only at W st ⊢;have far:s.heap.objs.size∉[(s.heap.push (a4f b)).objs.size,l]:=λz=>by
  rcases aD.mp z with z|z
  ·rw [dN] at z;exact absurd z (aX (eM _))
  ·rw [aB] at z;rw [<-z] at ll;exact bR _ ll
 have e0:(List.range' 0 ns.length).map (λi=>ns.getD i 0)=ns:=by
  refine List.ext_getElem? λi=>?_
  by_cases hi:i<ns.length
  ·rw [bX,List.getElem?_range' hi,ah hi];simp [dF,hi]
  ·rw [List.getElem?_eq_none (by simp;omega),List.getElem?_eq_none (by omega)]
 refine a7w (b:=b) (W _ (by simp [hh])) far (λi=>ns.getD i 0) key few ns.length 0 {s with heap:=(s.heap.push (a4f b)).push o} [] (by omega) (by simp) st (arq (b:=b) (ai _ (show (s.heap.push (a4f b)).get? s.heap.objs.size=some (a4f b) from at0))) λh' tk held k=>?_
 rw [e0] at held;refine aw (aw ?_);refine q h' tk held λc o e=>k c o ?_ ?_ (ai _ (ai _ e))
 ·exact aX (aI e)
 ·intro z
  have z:=aB.mp z;have:=aI e;rw [z,dN] at this;exact absurd this (Nat.not_lt.mpr (i7 _))
theorem a4h{ns:List Int}
  (hl:s.heap.get? l=some {cls:=.type tn,dict:=od,data:=dt,slots:=sl}) (no1:isSubtype (.type tn) (.type "set")=pure false) (no2:isSubtype (.type tn) (.type "frozenset")=pure false) (no3:(Value.type tn == Value.type "dict")=false) (few:ns.length+1<scanBound)
  (it:∀(A:Around) (s1:Shared) (Q:Value->Shared->Prop) (E:Value->Shared->Prop),s1.heap.get? l=some {cls:=.type tn,dict:=od,data:=dt,slots:=sl}->
   (∀(o:Obj) (St:Nat->Heap->Prop) (P:Nat->Value->Prop),(∀A':Around,A'.handled=none->Walks prog w A' s1.heap.objs.size [s1.heap.objs.size,l] [s1.heap.objs.size] ns.length P St)->(∀i v,P i v->∃t,v=.int (ns.getD i 0) t)->St 0 (s1.heap.push o)->Q (.ref s1.heap.objs.size) {s1 with heap:=s1.heap.push o})->wpAny (model prog w) A (pyIter (.ref l)) Q E s1)
  (hh:A.handled=none)
  (q:∀h' tk,SetI (!byT w) s.heap.objs.size (ns.foldl L2.stepK []) h'->(∀c o,s.heap.get? c=some o->h'.get? c=some o)->Q (.ref s.heap.objs.size) {s with heap:=h',toks:=tk}) :
  wpAny (model prog w) A (call (.type "set") [.ref l]) Q E s:=by
 obtain ⟨_,_,order⟩:=eG.mro;have made:=eG.made;have self:=eG.sub;have nt:=eG.notType;have cc:=eG.canCreate;have tc:=F.typeCall_set_1 (.ref l);refine i6 (fv (aw ⟨Code.quiet_builtin _ (by decide +kernel),dD F.entry_type_call ?_⟩))
 simp only [Around.under_plain (weight_type_call_type "set" [.ref l] []) rfl]
 repeat any_goals first|assumption|wp_step
 refine eE (ajn (.ref l) (E:=E) (Q₁:=λobj s1=>obj=.ref s.heap.objs.size/\s1={s with heap:=s.heap.push (a4f (!byT w))}) ⟨rfl,rfl⟩) λr s1 hr=>?_
 match r,hr with
 |.error _,hr=>exact hr
 |.ok (.ret _),⟨eo,es⟩ =>
  subst eo es;have ty:Shared.TypeIs {s with heap:=s.heap.push (a4f (!byT w))} (.ref s.heap.objs.size) "set":=⟨_,aK _ rfl,rfl⟩
  have look:=eG.init.lookup;have bound:=eG.init.bind (.ref s.heap.objs.size)
  repeat any_goals first|assumption|wp_step
  refine eE (fP (R:=wants (λr s2=>r=.none/\Q (.ref s.heap.objs.size) s2) E) eG.init.plain F.entry_set_init (check_set_init_1 ty (ajo hh hl no1 no2 no3 few (it _) λh' tk x1 k1=>⟨rfl,q h' tk x1 k1⟩))) λr2 s2 hr2=>?_
  match r2,hr2 with
  |.error _,hr2=>exact hr2
  |.ok (.ret _),⟨e2,q2⟩ =>
   subst e2
   repeat any_goals first|assumption|wp_step
  |.ok .next,hr2=>exact hr2.elim
  |.ok .brk,hr2=>exact hr2.elim
  |.ok .cont,hr2=>exact hr2.elim
 |.ok .next,hr=>exact hr.elim
 |.ok .brk,hr=>exact hr.elim
 |.ok .cont,hr=>exact hr.elim
end
end SETB
namespace L2
open PyProof.Rows SETB
theorem sub_tuple_set:isSubtype (.type "tuple") (.type "set")=pure false/\isSubtype (.type "tuple") (.type "frozenset")=pure false:=by
 constructor<;>(rw [fI];kernel_rfl)
section
variable{X:Cx}
theorem af3{its:List Value}{ns:List Int}(h:IntsAre its ns){i:Nat}(e:its.toArray[i]? = some v):∃t,v=.int (ns.getD i 0) t:=by
 replace e:its[i]? = some v:=by simpa using e
 induction h generalizing i with
 |nil=>simp at e
 |cons n t _ ih =>
  cases i with
  |zero=>simp at e;subst e;exact ⟨_,rfl⟩
  |succ i=>simpa using ih (by simpa using e)
theorem agh(hc:X.calm=true):CallR X (.type "set") (λxs H Q=>∃(p:Addr) (ns:List Int),xs=[.ref p]/\(SqL X.K H p (ns.map V.int)\/SqT X.K H p (ns.map V.int))/\ns.length+1<scanBound/\∀l,H l=none->Q (.ref l) (upd H l (ay7 X.w l (ns.foldl stepK [])))):=by
 intro pins s σ H xs us Q I r h
 obtain ⟨p,ns,rfl,hq,few,q⟩:=h;obtain ⟨u,rfl,rx⟩:=vals1 r;cases rx
 have fin:∀(h':Heap) (tk:Nat),SetI (!byT X.w) s.heap.objs.size (ns.foldl stepK []) h'->(∀c o,s.heap.get? c=some o->h'.get? c=some o)->EP X pins σ Q (.ref s.heap.objs.size) {s with heap:=h',toks:=tk}:=λh' tk hS kp =>
  ⟨.ref s.heap.objs.size,_,I.laid (t':=tk) (o:=ay7 X.w s.heap.objs.size (ns.foldl stepK [])) kp (ay _) (aru hS),rfl,q _ (I.hok.fresh (ay _))⟩
 rcases hq with hq|hq
 ·obtain ⟨its,r',pl,hz⟩:=I.list hq;have hI:IntsAre its ns:=intsAre_of r';have hl:its.length=ns.length:=by have:=r'.length;simp at this;omega
  obtain ⟨o,ho,hcl,n,hd⟩:=pl.isList;obtain ⟨oc,od,odt,osl⟩:=o;simp only at hcl hd;subst hcl hd;have hlt:=aI ho;refine a4h (ns:=ns) ho F.sub_list_set F.sub_list_frozenset (by decide) few (λA s1 Q E e1 k=>?_) (I.ok.hd hc) fin
  have hlt1:=aI e1;have il:s1.heap.IsList p its.toArray:=⟨_,e1,rfl,n,rfl⟩;refine gK il (k _ (λi h=>h.IsListIter s1.heap.objs.size p i/\h.IsList p its.toArray) (λi v=>its.toArray[i]? = some v) (λA' hA=>?_) (λi v e=>af3 hI e) ⟨⟨_,aK _ rfl,rfl,rfl⟩,il.at λo e=>ai _ e⟩);have W:=Walks.list (prog:=X.prog) (w:=X.w) (A:=A') hA s1.heap.objs.size p (aX hlt1) its.toArray
  rwa [show its.toArray.size=ns.length by simpa using hl] at W
 ·obtain ⟨its,r',pl,hz⟩:=I.tuple hq;have hI:IntsAre its ns:=intsAre_of r';have hl:its.length=ns.length:=by have:=r'.length;simp at this;omega
  obtain ⟨o,ho,hcl,n,hd⟩:=pl;obtain ⟨oc,od,odt,osl⟩:=o;simp only at hcl hd;subst hcl hd;refine a4h (ns:=ns) ho sub_tuple_set.1 sub_tuple_set.2 (by decide) few (λA s1 Q E e1 k=>?_) (I.ok.hd hc) fin
  have hlt1:=aI e1;have il:s1.heap.IsTuple p its.toArray:=⟨_,e1,rfl,n,rfl⟩;refine gy il (k _ (λi h=>h.IsTupleIter s1.heap.objs.size p i/\h.IsTuple p its.toArray) (λi v=>its.toArray[i]? = some v) (λA' hA=>?_) (λi v e=>af3 hI e) ⟨⟨_,aK _ rfl,rfl,rfl⟩,il.at λo e=>ai _ e⟩);have W:=Walks.tuple (prog:=X.prog) (w:=X.w) (A:=A') hA s1.heap.objs.size p (aX hlt1) its.toArray
  rwa [show its.toArray.size=ns.length by simpa using hl] at W
end
end L2
namespace MI
open L2 SETB
def ajp(d:D)(h:Hd):Option (List Int):=match d with
 |.tup xs=>a5m xs
 |d=>aiw d h
def ajq:D->Hd->R D:=λd h=>match ajp d h with
 |some ns=>if ns.length<=4000 then azi (ns.foldl stepK []) h else .no
 |none=>.no
theorem amz(r:Rep K ι H v d)(hr:HRep K ι H h)(e:ajp d h=some ns):∃p,v=.ref p/\(SqL K H p (ns.map V.int)\/SqT K H p (ns.map V.int)):=by
 cases d with
 |tup xs =>
  cases r with
  |tup hh rs =>
   have e:a5m xs=some ns:=e;exact ⟨_,rfl,.inr (by rw [<-a2q rs e];exact SqT.of hh)⟩
 |_ =>
  obtain ⟨p,e1,q⟩:=aix r hr e;exact ⟨p,e1,.inl q⟩
theorem arv(hg:Gl X "sorted")(hm:X.mg "sorted" = none)(hg2:Gl X "set")(hm2:X.mg "set" = none)(hc:X.calm=true)(he:ME X E e f)
  (hs:starEach [e] X.env=[(false,eval e X.env)]:=by rfl) (hs2:starEach [Expr.Call (.Name "set" p2) [e] [] pos2] X.env=[(false,eval (.Call (.Name "set" p2) [e] [] pos2) X.env)]:=by rfl) :
  ME X E (.Call (.Name "sorted" p) [.Call (.Name "set" p2) [e] [] pos2] [] pos) (s1 ajq f):=by
 refine PE.weak (a6l (a7v hc) hg hm rfl (yj (aax (agh hc) hg2 hm2 rfl (yj he a6z (by rw [hs];rfl)) (by decide) (by decide) (by rw [hs];rfl)) a6z (by rw [hs2];rfl)) (by decide) (by decide) (by rw [hs2];rfl)) ?_
 rintro σ H Q ⟨ι,τ,h,S,Rh,o⟩
 refine ⟨ι,τ,h,S,Rh,g8 o λd h1 ι1 H1 v g1 r1 hr1 o1=>?_⟩;unfold ajq at o1
 cases e1:ajp d h1 with
 |none=>rw [e1] at o1;exact o1.elim
 |some ns =>
  rw [e1] at o1;simp only at o1
  by_cases hl:ns.length<=4000
  ·rw [aC hl] at o1;obtain ⟨q,rfl,sq⟩:=amz r1 hr1 e1;refine ⟨q,ns,rfl,sq,by have:scanBound=4096:=rfl;omega,λl hl'=>?_⟩
   unfold azi at o1
   by_cases h6:(ns.foldl stepK []).length<64
   ·rw [aC h6] at o1;exact ⟨l,_,rfl,ou,h6,zc (E:=E) (a2e _) (hr1.aside hl' _) (a2o o1 (a0n hl' _))⟩
   ·rw [aQ h6] at o1;exact o1.elim
  ·rw [aQ hl] at o1;exact o1.elim
end MI
namespace L2
open PyProof.Rows SETB
end L2
namespace MI
open L2 SETB
end MI
namespace L2
open PyProof.Rows
end L2
namespace MI
open L2
end MI
namespace L2
open PyProof.Rows
theorem a7x:isSubtype (.type "range_iterator") (.type "reversed")=pure false:=by rw [fI];kernel_rfl
section
variable{prog:Program}{w:World}{A:Around}{E:Value->Shared->Prop}{s:Shared}
abbrev atb(n:Int):Obj:={cls:=.type "range_iterator",data:=.fields #[rawInt (n-1),rawInt n,rawInt (-1)]}
theorem arw(h:0<=j):Builtin.Range.rangeSize 0 j 1=j:=by
 rw [rangeSize_one];split<;>omega
theorem ajr(hr:IsRange s.heap r 0 j 1 t u v)(j0:0<=j)(j1:j<2^62)(h:Q (.ref s.heap.objs.size) {s with heap:=s.heap.push (atb j)}) :
  wpAny (model prog w) A (call (.builtin "range.__reversed__") [.ref r]) Q E s:=by
 refine cm fN ⟨_,hr,rfl⟩ F.entry_range_reversed ?_ (F.args_range_reversed_1 _);have sz:=arw j0;have sm:(Builtin.Range.rangeFitsLong 0 && Builtin.Range.rangeFitsLong j && Builtin.Range.rangeFitsLong 1 && Builtin.Range.rangeFitsLong (-1) && Builtin.Range.rangeFitsLong (0-1) && Builtin.Range.rangeFitsLong j)=true:=by
  have:Builtin.Range.rangeFitsLong j=true:=by unfold Builtin.Range.rangeFitsLong;simp;omega
  simp only [this,fT]
  decide
 unfold Builtin.«range.__reversed__»;unfold IsRange at hr
 wp_walk
 simp only [sz];simp only [sm,Bool.not_true,bT,eN,dS];have e:(0:Int)+(j-1)*1=j-1:=by omega
 rw [e];refine ae ?_;unfold newFields;exact bY (aw ⟨_,rfl,h⟩)
theorem arx(hr:IsRange s.heap r 0 j 1 t u v)(j0:0<=j)(j1:j<2^62)(h:Q₁ (.ref s.heap.objs.size) {s with heap:=s.heap.push (atb j)}) :
  codeAny (model prog w) A (.call (.builtin "reversed.__new__") ⟨[.type "reversed",.ref r],[]⟩) (wants Q₁ E) s:=by
 have ty:s.TypeIs (.ref r) "range":=⟨_,hr,rfl⟩
 apply fv
 apply ae
 refine ei (F.newCall_reversed_1 _) ?_;refine aw ⟨fU F.plain_reversed_new _,dD F.entry_reversed_new ?_⟩;simp only [da F.plain_reversed_new];unfold Builtin.«reversed.__new__»
 apply ae
 refine ei (newClass_reversed _) ?_
 try dsimp only
 apply ae
 refine ei (a:=()) (by first|rfl|kernel_rfl) ?_
 apply ae
 refine ei (a:=()) (by first|rfl|kernel_rfl) ?_
 try dsimp only
 apply ae
 refine wpAny_specialOf ty fN.lookup ?_
 try dsimp only
 apply ae
 refine ei (fN.bind _) ?_
 try dsimp only
 have nn:¬ ((Value.builtin "range.__reversed__" == Value.none)=true):=aM
 first
  |rw [aQ nn]
  |(show wpAny _ _ (if (Value.builtin "range.__reversed__" == Value.none)=true then _ else _) _ _ _;rw [aQ nn])
 apply ae
 apply eV
 refine ae (m:=runValue (.call (.builtin "range.__reversed__") ⟨[.ref r],[]⟩)) (show wpAny _ _ (call (.builtin "range.__reversed__") [.ref r]) _ _ _ from ajr hr j0 j1 ?_)
 first
  |exact aw h
  |exact ae (aw (aw h))
theorem an0(hr:IsRange s.heap r 0 j 1 t u v)(j0:0<=j)(j1:j<2^62)(h:Q (.ref s.heap.objs.size) {s with heap:=s.heap.push (atb j)}):wpAny (model prog w) A (call (.type "reversed") [.ref r]) Q E s:=by
 refine callType_other (U := "range_iterator") (Q₁:=λobj s1=>obj=.ref s.heap.objs.size/\s1={s with heap:=s.heap.push (atb j)}) (by decide +kernel) F.create_reversed ⟨_,_,F.mro_reversed⟩ F.made_reversed a7x (F.typeCall_reversed_1 _) (arx hr j0 j1 ⟨rfl,rfl⟩) ?_
 rintro obj s1 ⟨rfl,rfl⟩
 exact ⟨⟨_,aK _ rfl,rfl⟩,h⟩
end
section
variable{X:Cx}{tg:Expr}
def b27(ta:TA):TI:=λσ H R=>ta σ H λvs H1=>∃j:Int,vs=[.int j]/\0<=j/\j<2^62/\R (Itd (j-1) j.toNat) H1
theorem ad9:bootBuiltins "reversed" = some (.type "reversed"):=by first|exact PySem.boot_reversed|exact PyProof.Rows.boot_reversed|kernel_rfl
theorem aw1(hg:Gl X "reversed")(hm:X.mg "reversed" = none)(hg2:Gl X "range")(hm2:X.mg "range" = none)(ha:PA X [a] ta)(hs:starEach [a] X.env=[(false,eval a X.env)]:=by rfl)
  (hs2:starEach [Expr.Call (.Name "range" p2) [a] [] pos2] X.env=[(false,eval (.Call (.Name "range" p2) [a] [] pos2) X.env)]:=by rfl):PI X tg (.Call (.Name "reversed" p) [.Call (.Name "range" p2) [a] [] pos2] [] pos) (b27 ta):=by
 intro pins s σ H R I h
 have inner:wpAny (model X.prog X.w) X.A (eval (.Call (.Name "range" p2) [a] [] pos2) X.env) (λv s1=>∃(j:Int) (r:Addr) (t u w:Tok) (H1:Hp),v=.ref r/\IsRange s1.heap r 0 j 1 t u w/\Inv X pins σ H1 s1/\0<=j/\j<2^62/\R (Itd (j-1) j.toNat) H1) X.xe s:=by
  refine Call_ (a5u I hg2 hm2 boot_range (bU (thn (ha pos2 pins s σ H _ I h) λus s1 ⟨vs,H1,I1,r1,q1⟩=>?_) hs rfl));obtain ⟨j,e,j0,j1,q⟩:=q1;subst e
  cases r1 with
  |cons r rr =>
   cases rr
   obtain ⟨t,rfl⟩:=r;exact call_range_1 ⟨j,_,_,_,_,H1,rfl,IsRange.new ..,I1.kept λb o e=>ai _ e,j0,j1,q⟩
 refine Call_ (a5u I hg hm ad9 (bU ?_ hs2 rfl));rw [hs2];show wpAny _ _ (spliced ((false,eval (.Call (.Name "range" p2) [a] [] pos2) X.env)::backTo pos (starEach [] X.env))) _ _ s;refine Calls.spliced_cons (thn inner λv s1 ⟨j,r,t,u,w,H1,ev,hr,I1,j0,j1,q⟩=>Calls.spliced_nil ?_);subst ev;refine an0 hr j0 j1 ?_;have I2:Inv X pins σ H1 {s1 with heap:=s1.heap.push (atb j)}:=I1.kept (t':=s1.toks) λb o e=>ai _ e
 have st:IsRangeIter (s1.heap.push (atb j)) s1.heap.objs.size (j-1) j (-1):=aK _ rfl;refine fA st ?_;refine ⟨s1.heap.objs.size,[s1.heap.objs.size],_,_,H1,rfl,I2,aj0 _ (j-1) j.toNat,?_,λb hb=>?_,q⟩
 ·show IsRangeIter _ _ (j-1-((0:Nat):Int)) ((j.toNat:Int)-((0:Nat):Int)) (-1);rw [show j-1-((0:Nat):Int)=j-1 by omega,show (j.toNat:Int)-((0:Nat):Int)=j by omega]
  exact st
 ·have e:b=s1.heap.objs.size:=by simpa using hb
  subst e;exact I1.fpOk (ay _) (I1.hok.fresh (ay _))
end
end L2
namespace MI
open L2
def Bz(j:Int):Prop:=0<=j/\j<2^62
instance (j:Int):Decidable (Bz j):=by unfold Bz;exact inferInstance
def atc(ds:List D)(h:Hd):R Itm:=match ds with
 |[.int j]=>if Bz j then .ok ⟨am7 (j-1) j.toNat,λ_=>True⟩ h else .no
 |_=>.no
theorem aw2(hg:Gl X "reversed")(hm:X.mg "reversed" = none)(hg2:Gl X "range")(hm2:X.mg "range" = none)(ha:MA X E [a] k)(hs:starEach [a] X.env=[(false,eval a X.env)]:=by rfl)
  (hs2:starEach [Expr.Call (.Name "range" p2) [a] [] pos2] X.env=[(false,eval (.Call (.Name "range" p2) [a] [] pos2) X.env)]:=by rfl):MI X E tg (.Call (.Name "reversed" p) [.Call (.Name "range" p2) [a] [] pos2] [] pos) (sRg atc k):=by
 rintro pins s σ H Rr I ⟨ι,τ,h,S,Rh,o⟩
 refine aw1 hg hm hg2 hm2 ha hs hs2 pins s σ H Rr I ⟨ι,τ,h,S,Rh,g8 o λds h1 ι1 H1 vs g1 r1 hr1 o1=>?_⟩;unfold atc at o1
 split at o1
 ·rename_i j
  cases r1 with
  |cons r rs =>
   cases r;cases rs
   by_cases hb:Bz j
   ·rw [aC hb] at o1;exact ⟨j,rfl,hb.1,hb.2,o1 ι1 H1 _ (.refl _ _) (avn (j-1) j.toNat) hr1⟩
   ·rw [aQ hb] at o1;exact o1.elim
 ·exact o1.elim
theorem ajs(h:n<=LINE):Bz (n:Int):=by
 have:n<=16777216:=h
 unfold Bz;omega
theorem an1(n:Nat):am7 ((n:Int)-1) n=(List.range n).map λi:Nat=>D.int ((n-1-i:Nat)):=by
 unfold am7;refine eA λi hi=>?_;have:=dM.mp hi;exact af D.int (by omega)
theorem an2(h:Hd)(z:n<=LINE):atc [.int (n:Nat)] h=.ok ⟨(List.range n).map λi:Nat=>D.int ((n-1-i:Nat)),λ_=>True⟩ h:=by
 have e:atc [.int (n:Nat)] h=if Bz (n:Int) then R.ok (⟨am7 ((n:Int)-1) (n:Int).toNat,λ_=>True⟩:Itm) h else .no:=rfl
 have b:=ajs z
 clear z
 rw [e,aC b,dA,an1]
theorem aw3{α β:Type}(a:α)(h:Hd)(k:α->Hd->R β):(R.ok a h).bind k=k a h:=rfl
theorem aw4(e:f τ h=.ok (.int (n:Nat)) h)(z:n<=LINE):sRg atc (ak f dq) τ h=.ok ⟨(List.range n).map λi:Nat=>D.int ((n-1-i:Nat)),λ_=>True⟩ h:=by
 have a:ak f dq τ h=.ok [.int (n:Nat)] h:=by unfold ak dq;rw [e];rfl
 have q:=an2 h z;unfold sRg;rw [a];rw [aw3,q]
end MI
namespace ENG
open L2 MI
noncomputable def aa2:SS :=
 (iz (sIf (sT (s2 hEq (s2 gIx (sV 0) (sC (.int 0))) (sC (.str "one"))))
 (oh (sA yh dq))
 sNx)
 (iz (sIf (sOr (sT (s2 hEq (s2 gIx (sV 0) (sC (.int 0))) (sC (.str "row")))) (sT (s2 hEq (s2 gIx (sV 0) (sC (.int 0))) (sC (.str "either")))))
 (oh (s2 gIx (sV 0) (sC (.int 1))))
 sNx)
 (oh (sA yh (ak (s2 gIx (sV 0) (sC (.int 1))) dq)))))
end ENG
namespace TPM
open PySem.W L2 HT MI
theorem agi(t:Addr)(items:Array Value)(n:Nat)(dd:Option Addr)(sl:Array (Option Value))(u:Tok)(h0:items.isEmpty=false) :
  Meets (Builtin.«tuple.__mul__» ⟨[.ref t,.int 0 u],[]⟩) (λ_ R s=>s.heap.get? t=some {cls:=.type "tuple",dict:=dd,data:=.seq items n,slots:=sl}/\R (.ok (.ret (.ref s.heap.objs.size))) {s with heap:=s.heap.push {cls:=.type "tuple",data:=.seq #[]} }) :=
 .of_wp λprog w A R s h=>by
  obtain ⟨hp,g,d,tk,os⟩:=s;obtain ⟨hl,h⟩:=h;have c2:¬ (items.isEmpty || (0:Int) == 1)=true:=by rw [h0];decide
  wp_walk
  exact ⟨_,rfl,h⟩
def aw5(K:PySem.W.Frag):R2:=λx y H Q=>∃a xs,x=.ref a/\y=.int 0/\SqT K H a xs/\xs≠[]/\∀p,H p=none->Q (.ref p) (upd H p (.tup []))
theorem arz:OpR X (binaryOp .Mult) (aw5 X.K):=by
 intro pins s σ H x y v u Q I rx ry h
 obtain ⟨a,xs,rfl,rfl,ha,hx,q⟩:=h;cases rx
 obtain ⟨t,rfl⟩:=ry;obtain ⟨its,r1,p1,_⟩:=I.tuple ha;obtain ⟨⟨cls,dd,data,sl⟩,ho,hc,n,hd⟩:=id p1;simp only at hc hd;subst hc hd;have he:its.toArray.isEmpty=false:=by
  cases its with
  |nil=>exact (hx (r1.nil_iff.mp rfl)).elim
  |cons _ _=>rfl
 refine cR (T := "tuple") (U := "int") (by decide) ⟨_,ho,rfl⟩ (λs'=>eC s' 0 t) yo fh cD a7j eO.lookup
  (cN cD (eC s 0 t) eP (eI _ _) (a2b 0 t a its.toArray n dd sl)
   ⟨ho,rfl,⟨_,ho,rfl⟩,cN eQ ⟨_,ho,rfl⟩ gQ (gB _ _) (agi a its.toArray n dd sl t he) ⟨ho,?_⟩⟩)
 refine ⟨.ref s.heap.objs.size,_,I.laid (t':=s.toks) (o:=.tup []) (λb ob q=>ai _ q) (ay _) ?_,rfl,q _ (I.hok.fresh (ay _))⟩;exact ⟨by decide,[],.nil,PyProof.Rows.IsTup.new _ _⟩
end TPM
namespace MI
open L2 TPM
open Classical in
noncomputable def agj(x y:D)(h:Hd):R D:=match x,y with
 |.tup xs,.int k=>if k=0/\xs≠[] then .ok (.tup []) h else ag5 (.tup xs) (.int k) h
 |x,y=>ag5 x y h
theorem an3:a1w K agj (λx y H Q=>(((rI CMul (λi j=>.int (i*j)) x y H Q\/auj x y H Q)\/am1 K x y H Q)\/arh K x y H Q)\/aw5 K x y H Q):=by
 intro E ι H h x y dx dy Q rx ry hr o
 cases rx with
 |@tup a vs xs ha rs =>
  cases ry with
  |int k =>
   simp only [agj] at o
   split at o
   ·rename_i hc;obtain ⟨rfl,hx⟩:=hc;refine .inr ⟨a,vs,rfl,rfl,SqT.of ha,λz=>hx ?_,a0z .nil hr o⟩;subst z;cases rs;rfl
   ·exact .inl (a9w _ _ _ _ _ _ _ _ _ (.tup ha rs) (.int k) hr o)
  |_=>exact o.elim
 |int i=>exact .inl (a9w _ _ _ _ _ _ _ _ _ (.int i) ry hr o)
 |ref e=>exact .inl (a9w _ _ _ _ _ _ _ _ _ (.ref e) ry hr o)
 |_=>exact o.elim
theorem as3(ha:ME X E a fa)(hb:ME X E b fb):ME X E (.BinOp a .Mult b pos) (s2 agj fa fb):=acx ((((ao3.or auk).or aqx).or ari).or arz) an3 ha hb
theorem b29(k2:k<=1000):agj (.tup [d]) (.int (k:Nat)) h=.ok (.tup (List.replicate k d)) h:=by
 unfold agj;dsimp only
 by_cases e:(k:Int)=0
 ·rw [aC ⟨e,by simp⟩]
  have:k=0:=by omega
  subst this;rfl
 ·rw [aQ (λz=>e z.1),b26 (by simp) (by omega) k2 (by simp)]
  congr 2
  clear e k2
  induction k with
  |zero=>rfl
  |succ k ih=>rw [aS,cK,ih];rfl
end MI
namespace L2
open PyProof.Rows
end L2
namespace MI
open L2
end MI
namespace L2
open PyProof.Rows
end L2
namespace MI
open L2
end MI
namespace L2
open PyProof.Rows
end L2
namespace MI
open L2
section
variable{prog:Program}{w:World}{A:Around}{E:Value->Shared->Prop}{s:Shared}
theorem aw6:fillsNumberSlot (.type "list") "add" = pure false:=by first|exact F.fills_list_add|exact PyProof.Rows.fills_list_add|kernel_rfl
theorem an4:seqSlot? (.type "list") (dunderI "add")=pure (some (.builtin "list.__iadd__")):=by
 unfold seqSlot?;rw [hV.lookup];rfl
theorem ajt:fillsInplaceSlot (.type "list") "add" true=pure false:=by
 unfold fillsInplaceSlot;simp only [hV.lookup,pure_bind,dS];rfl
theorem agk(ha:s.TypeIs (.ref l) "list")(hb:s.TypeIs (.ref b) "list")(hc:wpAny (model prog w) A (call (.builtin "list.__iadd__") [.ref l,.ref b]) Q E s):wpAny (model prog w) A (inplaceOp .Add (.ref l) (.ref b)) Q E s:=by
 unfold inplaceOp;refine bW ?_;have fill:fillsInplaceSlot (.type "list") Operator.Add.info.2 (Operator.Add == .Add)=pure false:=ajt;refine ae (fJ ha ?_);refine ae (ei fill ?_);rw [aQ aM];refine ae (wpAny_binaryOp1_none (nm := "add") ha hb aw6 ?_);refine ae (ei an4 ?_);exact ae (eV hc)
end
def ap0:R2:=λx y H Q=>∃l b xs zs,x=.ref l/\y=.ref b/\H l=some (.lst xs)/\Rd H b (.lst zs)/\xs.length+zs.length<=sizeLine/\Q (.ref l) (upd H l (.lst (xs++zs)))
theorem an5:OpR X (inplaceOp .Add) ap0:=λpins s σ H x y v u Q I rx ry ⟨l,b,xs,zs,ex,ey,h1,h2,hz,q⟩=>by
 subst ex ey;cases rx
 cases ry
 obtain ⟨_,as,n,va,la,ea⟩:=I.lstM h1;obtain ⟨_,bs,m,vb,lb,eb⟩:=I.lstR h2;have few:as.toArray.size+bs.toArray.size<=sizeLine:=by simp;omega
 have long:¬ (!as.toArray.isEmpty && Builtin.List.listTooLong (as.toArray.size+bs.toArray.size))=true:=by rw [a3v few,eD];exact aM
 refine agk ⟨_,ea,rfl⟩ ⟨_,eb,rfl⟩ ?_;exact cN hV ⟨_,ea,rfl⟩ F.entry_list_iadd (F.args_list_iadd_2 _ _) (AutoSeq1.list___iadd___list_list_0 l as.toArray n b bs.toArray m long (by simp;omega) (by omega))
  ⟨ea,eb,.ref l,_,I.lset (its':=as++bs) h1 ea (by simp) (va.append vb) (by simpa using hz),rfl,q⟩
def abu(x y:D)(h:Hd):R D:=match x with
 |.ref i=>(match h[i]?,yt y h with|some (.lst xs),some ys=>if xs.length+ys.length<=LINE then .ok (.ref i) (h.set i (.lst (xs++ys))) else .no|_,_=>.no)
 |_=>.no
theorem aju:a1w K abu ap0:=by
 intro E ι H h x y dx dy Q rx ry hr o
 unfold abu at o
 split at o
 ·rename_i i
  cases rx with
  |@ref p _ hp =>
   split at o
   ·rename_i xs ys hx hy
    split at o
    ·rename_i hc;obtain ⟨vs,h3,h4⟩:=hr.lst hp hx;obtain ⟨b,us,rfl,h5,h6⟩:=a1b ry hr hy;exact ⟨p,b,vs,us,rfl,rfl,h3,h5,ll (by rw [h4.len,h6.len];exact hc),a9k (h4.app h6) hr hp (.ref hp) o⟩
    ·exact o.elim
   ·exact o.elim
 ·exact o.elim
theorem an6(e:h[i]? = some (.lst xs))(ey:yt y h=some ys)(z:xs.length+ys.length<=LINE):abu (.ref i) y h=.ok (.ref i) (h.set i (.lst (xs++ys))):=by
 unfold abu;simp only [e,ey,z,dS]
end MI
namespace DRW
open L2 MI
noncomputable def a1e(cz:SF):SS :=
 (iz (nu 6 (sA (je false 2 cz) (ak (sV 0) (ak (sA a2p (ak (sV 2) dq)) dq))))
 (iz (ab5 3 a0j (s2 gIx (sV 2) (sV 6)))
 (nu 2 (s2 iu (a8p (sV 2) oN (oS (sV 6))) (a8p (sV 2) (oS (s2 iu (sV 6) (sC (.int 1)))) oN)))))
noncomputable def a2u(cz:SF):SS :=
 (iz (nu 2 (sV 1))
 (iz (nu 3 (sC (.str "")))
 (iz (nu 4 (sC (.int 1)))
 (iz (sIf (sT (s2 hEq (sA (je false 2 cz) (ak (sV 0) (ak (sC (.int 2)) dq))) (sC (.int 0))))
 (nu 4 (s2 iu (sC (.int 1)) (sA (je false 2 cz) (ak (sV 0) (ak (sA a2p (ak (sV 1) dq)) dq)))))
 sNx)
 (iz (a6m (sRg a6i (ak (sV 4) dq)) (kN 5) (a1e cz))
 (oh (sV 3)))))))
noncomputable def vp(aj:SF):SE :=
 (sA (je false 1 aj) (ak (sV 0) dq))
noncomputable def xx(aj:SF):SS :=
 (iz (sIf (sT (s2 hEq (s2 gIx (sV 0) (sC (.int 0))) (sC (.str "one"))))
 (oh (sC (.int 1)))
 sNx)
 (iz (sIf (sT (s2 (gIn false) (s2 gIx (sV 0) (sC (.int 0))) (sA yh (ak (sC (.str "row")) (ak (sC (.str "either")) dq)))))
 (oh (sA aif (ak (sZ (a5i (sIt (s2 gIx (sV 0) (sC (.int 1)))) t1 (vp aj) [])) dq)))
 sNx)
 (iz (sIf (sT (s2 hEq (s2 gIx (sV 0) (sC (.int 0))) (sC (.str "many"))))
 (oh (sA (je false 1 aj) (ak (s2 gIx (sV 0) (sC (.int 1))) dq)))
 sNx)
 (oh (s2 yp (s2 gIx (sV 0) (sC (.int 3))) (sA (je false 1 aj) (ak (s2 gIx (sV 0) (sC (.int 1))) dq)))))))
noncomputable def xn(cz:SF)(n6:SF)(gw:SF)(aj:SF):SS :=
 (sIf (sT (s2 gGt (s2 gIx (sV 4) (sC (.int 0))) (sC (.int 0))))
 (iz (nu 10 (sA (je false 5 gw) (ak (sV 0) (ak (sV 1) (ak (s2 ach (sV 2) (sC (.int 1))) (ak (sV 3) (ak (sV 4) dq)))))))
 (iz (ab5 3 ach (sA (je false 1 aj) (ak (sV 10) dq)))
 (yr (sML agv (sV 8) (ak (sV 10) dq)))))
 sNx)
noncomputable def zq(cz:SF)(n6:SF)(gw:SF)(aj:SF):SS :=
 (iz (a2c ach (sV 4) (sC (.int 0)) (sC (.int 1)))
 (iz (nu 5 (sA (je false 2 cz) (ak (sV 0) (ak (sC (.int 9)) dq))))
 (iz (sIf (sOr (sT (s2 hEq (sV 2) (sC (.int 1)))) (sOr (sT (s2 gLt (s2 gIx (sV 4) (sC (.int 0))) (sC (.int 1)))) (sT (s2 hEq (sV 5) (sC (.int 0))))))
 (iz (sIf (sOr (sT (s2 hEq (sV 3) (sC (.int 0)))) (sT (s2 hEq (sA (je false 2 cz) (ak (sV 0) (ak (sC (.int 8)) dq))) (sC (.int 0)))))
 (oh (sA yh (ak (sC (.str "row")) (ak (sA yh dq) dq))))
 sNx)
 (oh (sA yh (ak (sC (.str "one")) (ak (sA (je false 2 n6) (ak (sV 0) (ak (sV 1) dq))) dq)))))
 sNx)
 (iz (sIf (sT (s2 gLt (sV 5) (sC (.int 3))))
 (oh (sA yh (ak (sC (.str "many")) (ak (sA (je false 5 gw) (ak (sV 0) (ak (sV 1) (ak (s2 ach (sV 2) (sC (.int 1))) (ak (sV 3) (ak (sV 4) dq)))))) dq))))
 sNx)
 (iz (sIf (sT (s2 gLt (sV 5) (sC (.int 5))))
 (iz (nu 6 (sA (je false 2 cz) (ak (sV 0) (ak (sC (.int 5)) dq))))
 (iz (nu 7 (sA (je false 2 cz) (ak (sV 0) (ak (s2 iu (sV 6) (sC (.int 1))) dq))))
 (oh (sA yh (ak (sC (.str "times")) (ak (sA (je false 5 gw) (ak (sV 0) (ak (sV 1) (ak (s2 ach (sV 2) (sC (.int 1))) (ak (s2 a8a (sV 3) (sA aba (ak (sC (.int 1)) (ak (sV 6) dq)))) (ak (sV 4) dq)))))) (ak (sV 7) (ak (sV 6) dq))))))))
 sNx)
 (iz (nu 8 (sA uw dq))
 (iz (a6m (sRg a6i (ak (s2 gIx (sA yh (ak (sC (.int 1)) (ak (sC (.int 2)) (ak (sC (.int 2)) (ak (sC (.int 3)) (ak (sC (.int 3)) (ak (sC (.int 4)) (ak (sC (.int 5)) (ak (sC (.int 6)) dq))))))))) (sA (je false 2 cz) (ak (sV 0) (ak (sC (.int 8)) dq)))) dq)) (kN 9) (xn cz n6 gw aj))
 (oh (sA yh (ak (s2 gIx (sA yh (ak (sC (.str "row")) (ak (sC (.str "either")) dq))) (s2 a8a (sV 5) (sC (.int 7)))) (ak (sA qy (ak (sV 8) dq)) dq)))))))))))
end DRW
set_option maxHeartbeats 1000000
namespace L2
open PyProof.Rows
section
variable{prog:Program}{w:World}{A:Around}{R:Result->Shared->Prop}{s:Shared}{elt t0 i0 t1 i1:Expr}{scope:Scope}{pos:Pos}{it acc:Value}{env:Env}{cs:List Expr}
def tests(cs:List Expr)(env:Env):Sem Bool:=match cs with
 |[]=>pure true
 |c::_=>isTrue c env (eval c env)
def One(cs:List Expr):Prop:=cs=[]\/∃c,cs=[c]
theorem as4(one:One cs):compTurn (.ListComp elt [⟨t0,i0,[],0⟩,⟨t1,i1,cs,0⟩] scope pos) 1 it acc env=(standAt i1.pos>>=λ_=>pyNext it>>=λr=>match r with
   |none=>pure (.done .next)
   |some v=>letOwnedTupleGo t1 it v>>=λ_=>assign t1 env v>>=λ_=>tests cs env>>=λok =>
    (if ok=true then (eval elt env>>=λx=>call (.builtin "list.append") [acc,x]>>=λ_=>pure ()) else pure ())>>=λ_ =>
     again (.compLoop (.ListComp elt [⟨t0,i0,[],0⟩,⟨t1,i1,cs,0⟩] scope pos) 1 it acc env)):=by
 rcases one with rfl|⟨c,rfl⟩
 ·unfold tests;simp only [pure_bind,dS];rfl
 ·show (standAt i1.pos>>=λ_=>pyNext it>>=λr=>_)=_
  congr 1;funext _;congr 1;funext r
  cases r with
  |none=>rfl
  |some v =>
   show (letOwnedTupleGo t1 it v>>=λ_=>assign t1 env v>>=λ_=>_)=(letOwnedTupleGo t1 it v>>=λ_=>assign t1 env v>>=λ_=>_)
   congr 1;funext _;congr 1;funext _
   unfold tests;simp
   congr 1;funext ok
   cases ok with
   |false=>rw [aQ aM,aQ aM,pure_bind]
   |true =>
    rw [aC rfl,aC rfl,bind_assoc]
    congr 1;funext x
    rw [map_eq_pure_bind,bind_assoc]
    congr 1
theorem agl(one:One cs)(J:Nat->Shared->Prop)
  (step:∀m z,J m z->wpAny (model prog w) A (pyNext it) (λgot z1=>match got with
   |none=>R (.ok .next) z1
   |some v=>wpAny (model prog w) A (letOwnedTupleGo t1 it v) (λ_ z2=>wpAny (model prog w) A (assign t1 env v) (λ_ z3=>wpAny (model prog w) A (tests cs env) (λok z3'=>if ok=true then wpAny (model prog w) A (eval elt env) (λx z4 =>
     wpAny (model prog w) A (call (.builtin "list.append") [acc,x]) (λ_ z5=>∃m',m'<m/\J m' z5) (λ_ _=>False) z4)
     (λ_ _=>False) z3' else ∃m',m'<m/\J m' z3') (λ_ _=>False) z3) (λ_ _=>False) z2) (λ_ _=>False) z1) (λ_ _=>False) z)
  (m:Nat) (j0:J m s):codeAny (model prog w) A (.compLoop (.ListComp elt [⟨t0,i0,[],0⟩,⟨t1,i1,cs,0⟩] scope pos) 1 it acc env) R s:=by
 refine codeAny_loop rfl J (λm z hj=>(wpAny_noted ?_:wpAny _ _ ((compTurn (.ListComp elt [⟨t0,i0,[],0⟩,⟨t1,i1,cs,0⟩] scope pos) 1 it acc env).onRaise _) _ _ z)) m j0;rw [as4 one];refine ae (de (ae (aY (step m z hj) (λgot z1 h1=>?_) λ_ _ no=>no.elim)))
 match got,h1 with
 |none,h1=>exact aw h1
 |some v,h1 =>
  refine ae (aY h1 (λ_ z2 h2=>ae (aY h2 (λ_ z3 h3=>ae (aY h3 (λok z3' h3'=>?_) λ_ _ no=>no.elim)) λ_ _ no=>no.elim)) λ_ _ no=>no.elim)
  match ok,h3' with
  |true,h3' =>
   rw [aC rfl] at h3';refine ae (ae (aY h3' (λx z4 h4=>?_) λ_ _ no=>no.elim));exact ae (aY h4 (λ_ z5 h5=>aw (aw ⟨rfl,h5⟩)) λ_ _ no=>no.elim)
  |false,h3' =>
   rw [aQ aM] at h3';exact ae (aw (aw ⟨rfl,h3'⟩))
theorem ada(h0:codeAny (model prog w) A (.compLoop (.ListComp elt [⟨t0,i0,[],0⟩,⟨t1,i1,cs,0⟩] scope pos) 1 it acc env) R s)
  (h:wpAny (model prog w) A (pyIter it) (λit' s'=>codeAny (model prog w) A (.compLoop (.ListComp elt [⟨t0,i0,[],0⟩,⟨t1,i1,cs,0⟩] scope pos) 1 it' acc env) R s') (λ_ _=>False) s) :
  codeAny (model prog w) A (.compStart (.ListComp elt [⟨t0,i0,[],0⟩,⟨t1,i1,cs,0⟩] scope pos) 1 it acc env) R s:=by
 apply fv
 show wpAny (model prog w) _ ((compStart (.ListComp elt [⟨t0,i0,[],0⟩,⟨t1,i1,cs,0⟩] scope pos) 1 it acc env).onRaise _) _ _ s
 apply wpAny_onRaise
 unfold compStart;show wpAny (model prog w) _ (ask>>=_) _ _ s
 apply ae
 apply eS
 refine wpAny_ite ?_
 split
 ·first
  |exact aw ⟨rfl,h0⟩
  |exact ae (aw (aw ⟨rfl,h0⟩))
 ·apply ae
  apply eV
  show wpAny (model prog w) _ (standAt i1.pos>>=_) _ _ s
  apply ae
  apply de
  apply ae
  exact aY h (λit' s' h'=>aw ⟨rfl,h'⟩) λ_ _ no=>no.elim
theorem adb(J:Nat->Shared->Prop)
  (step:∀m z,J m z->wpAny (model prog w) A (pyNext it) (λgot z1=>match got with
   |none=>R (.ok .next) z1
   |some v=>wpAny (model prog w) A (letOwnedTupleGo t0 it v) (λ_ z2=>wpAny (model prog w) A (assign t0 env v) (λ_ z3=>wpAny (model prog w) A (eval i1 env) (λx z4 =>
     wpAny (model prog w) A (foldedSetIterable i1 env x) (λy z5=>wpAny (model prog w) A (pyIter y) (λit1 z6 =>
      codeAny (model prog w) A (.compStart (.ListComp elt [⟨t0,i0,[],0⟩,⟨t1,i1,cs,0⟩] scope pos) 1 it1 acc env) (λr z7=>∃f,r=.ok f/\∃m',m'<m/\J m' z7) z6) (λ_ _=>False) z5) (λ_ _=>False) z4)
     (λ_ _=>False) z3) (λ_ _=>False) z2) (λ_ _=>False) z1) (λ_ _=>False) z)
  (m:Nat) (j0:J m s):codeAny (model prog w) A (.compLoop (.ListComp elt [⟨t0,i0,[],0⟩,⟨t1,i1,cs,0⟩] scope pos) 0 it acc env) R s:=by
 refine codeAny_loop rfl J (λm z hj=>(wpAny_noted ?_:wpAny _ _ ((compTurn (.ListComp elt [⟨t0,i0,[],0⟩,⟨t1,i1,cs,0⟩] scope pos) 0 it acc env).onRaise _) _ _ z)) m j0;show wpAny (model prog w) _ (standAt i0.pos>>=λ_=>pyNext it>>=_) _ _ z
 apply ae
 apply de
 apply ae
 refine aY (step m z hj) (λgot z1 h1=>?_) λ_ _ no=>no.elim
 match got,h1 with
 |none,h1=>exact aw h1
 |some v,h1 =>
  apply ae
  refine aY h1 (λ_ z2 h2=>?_) λ_ _ no=>no.elim
  apply ae
  refine aY h2 (λ_ z3 h3=>?_) λ_ _ no=>no.elim;show wpAny (model prog w) _ (eval i1 env>>=_) _ _ _
  apply ae
  refine aY h3 (λx z4 h4=>?_) λ_ _ no=>no.elim
  apply ae
  apply de
  show wpAny (model prog w) _ (foldedSetIterable i1 env x>>=_) _ _ _
  apply ae
  refine aY h4 (λy z5 h5=>?_) λ_ _ no=>no.elim;show wpAny (model prog w) _ (holding [y] (pyIter y)>>=_) _ _ _
  apply ae
  apply bW
  refine aY h5 (λit1 z6 h6=>?_) λ_ _ no=>no.elim
  apply ae
  refine wpAny_runOwn (eE h6 λr z7 h7=>?_);obtain ⟨f,rfl,h8⟩:=h7;exact aw ⟨rfl,h8⟩
end
section
variable{prog:Program}{w:World}{A:Around}{R:Result->Shared->Prop}{s:Shared}{elt t0 i0 t1 i1:Expr}{scope:Scope}{pos:Pos}{it acc:Value}{env:Env}{cs:List Expr}
theorem abv(h0:codeAny (model prog w) A (.compLoop (.ListComp elt [⟨t0,i0,[],0⟩,⟨t1,i1,cs,0⟩] scope pos) 0 it acc env) R s)
  (h:wpAny (model prog w) A (pyIter it) (λit' s'=>codeAny (model prog w) A (.compLoop (.ListComp elt [⟨t0,i0,[],0⟩,⟨t1,i1,cs,0⟩] scope pos) 0 it' acc env) R s') (λ_ _=>False) s) :
  codeAny (model prog w) A (.compStart (.ListComp elt [⟨t0,i0,[],0⟩,⟨t1,i1,cs,0⟩] scope pos) 0 it acc env) R s:=by
 apply fv
 show wpAny (model prog w) _ ((compStart (.ListComp elt [⟨t0,i0,[],0⟩,⟨t1,i1,cs,0⟩] scope pos) 0 it acc env).onRaise _) _ _ s
 apply wpAny_onRaise
 unfold compStart;show wpAny (model prog w) _ (ask>>=_) _ _ s
 apply ae
 apply eS
 refine wpAny_ite ?_
 split
 ·first
  |exact aw ⟨rfl,h0⟩
  |exact ae (aw (aw ⟨rfl,h0⟩))
 ·apply ae
  apply eV
  show wpAny (model prog w) _ (standAt i0.pos>>=_) _ _ s
  apply ae
  apply de
  apply ae
  exact aY h (λit' s' h'=>aw ⟨rfl,h'⟩) λ_ _ no=>no.elim
end
section
variable{X:Cx}
theorem FpOk.onL(f:FpOk Y pins H b)(hp:Y.pn=[])(hn:H' b=none)(ne:b∉L):FpOk Y (xf L h) H' b:=by
 obtain ⟨_,f1,f2,f3,f4,_⟩:=f;refine ⟨hn,f1,f2,f3,f4,λp hq z=>ne ?_⟩;rw [hp] at hq;have:=(aar (show p∈xf L h from hq)).1
 rw [<-z];exact this
def LiA(a:Addr)(ys:List V)(h:Heap):Prop:=∃(its:List Value) (k:Nat),h.get? a=some {cls:=.type "list",data:=.seq its.toArray k}/\Vals ys its/\ys.length<=sizeLine
theorem LiA.keep{a:Addr}{ys:List V}{h h':Heap}(l:LiA a ys h)(k:∀o,h.get? a=some o->h'.get? a=some o):LiA a ys h':=let ⟨its,n,e,r⟩:=l; ⟨its,n,k _ e,r⟩
def PCn(X:Cx)(cs:List Expr)(t:TT):Prop:=∀(pins:List (Addr×Obj)) (s:Shared) (σ:St) (H:Hp) (Q:Bool->Hp->Prop),Inv X pins σ H s->t σ H Q->wpAny (model X.prog X.w) X.A (tests cs X.env) (TP X pins σ Q) X.xe s
theorem aw7:PCn X [] (λ_ H Q=>Q true H):=λ_ _ _ H _ I h=>aw ⟨H,I,h⟩
def b0n(wi1:TI)(s0:St)(g0 g1:TG)(tc:TT)(te:TE)(Q:VK)(J0:It)(H1:Hp):Prop :=
 ∃W:Nat->Nat->List V->Hp->Prop,(∃m,W 0 m [] H1)/\∀i m ks H,W i m ks H->
  (J0.stop i H/\∀p,H p=none->Q (.ref p) (upd H p (.lst ks))) \/
  (J0.go i H/\∀x H',J0.yld i H x H'->g0 x s0 H' λσ2 H2=>Ext s0 σ2/\wi1 σ2 H2 λJ1 H3=>∃V':Nat->Nat->List V->Hp->Prop,(∃n,V' 0 n ks H3)/\∀j n ks H,V' j n ks H->
   (J1.stop j H/\∃m',m'<m/\W (i+1) m' ks H) \/
   (J1.go j H/\∀y H',J1.yld j H y H'->g1 y σ2 H' λσ3 H4=>Ext σ2 σ3/\tc σ3 H4 λok H4'=>if ok=true then te σ3 H4' (λz H5=>ks.length<sizeLine/\∃n',n'<n/\V' (j+1) n' (ks++[z]) H5) else ∃n',n'<n/\V' (j+1) n' ks H4'))
def as5(wi0 wi1:TI)(s0:St->St)(g0 g1:TG)(tc:TT)(te:TE):TE:=λσ H Q=>wi0 σ H λJ0 H1=>b0n wi1 (s0 σ) g0 g1 tc te Q J0 H1
theorem as6(one:One cs)(hc:X.calm=true)(S:CSc X scope cl ts fr ix)(hi0:PI X t0 i0 wi0)
  (hg0:∀C fp s H,PG (cxC X (ts++fr) scope cl C fp s H) t0 g0) (hi1:∀C fp s H,PI (cxC X (ts++fr) scope cl C fp s H) t1 i1 wi1) (hg1:∀C fp s H,PG (cxC X (ts++fr) scope cl C fp s H) t1 g1) (ht:∀C fp s H,PCn (cxC X (ts++fr) scope cl C fp s H) cs tc) (he:∀C fp s H,PE (cxC X (ts++fr) scope cl C fp s H) elt te)
  (hs0:∀x,foldedSetIterable i0 X.env x=pure x:=by intro _;rfl) (hs1:∀env x,foldedSetIterable i1 env x=pure x:=by intro _ _;rfl)
  (use:Option (Value->Sem Unit)) (I:Inv X pins σ H s) (h:as5 wi0 wi1 (qu ts.length ix) g0 g1 tc te σ H Q) (fin:a5c X pins σ use Q Qf) :
  wpAny (model X.prog X.w) X.A (comprehension (.ListComp elt [⟨t0,i0,[],0⟩,⟨t1,i1,cs,0⟩] scope pos) scope X.env ppos (newList []) false (eval i0 X.env) use) Qf X.xe s:=by
 refine wpAny_comprehension_free (use:=use) rfl hs0 S.clos S.kind S.names (thn (hi0 pins s σ H _ I h) λv s1 h1=>thn h1 λitv s2 h2=>?_);obtain ⟨it,fp,tn,J,H2,e,I2,T,st2,f2,W,⟨m0,w0⟩,turn⟩:=h2;subst e;have hob:∀b∈fp,b<s2.heap.objs.size:=λb hb=>let ⟨o,e,_⟩:=T.obj _ _ st2 b hb;aI e;refine bY (wpAny_newFunctionEnv S.nocell (by intro y hy;simp at hy) (λh4 hns4 hsb4=>?_) S.kind)
 dsimp only at hns4 hsb4 ⊢
 generalize hH2:s2.heap.push {cls:=.type "list",dict:=none,data:=.seq ([]:List Value).toArray}=G at hns4 hsb4 ⊢
 have hCs:G.objs.size=s2.heap.objs.size+1:=by rw [<-hH2,dN]
 have hCle:s2.heap.objs.size<=G.objs.size:=by omega
 have hne:G.objs.size≠s2.heap.objs.size:=by omega
 have old:∀b o,s2.heap.get? b=some o->h4.get? b=some o:=λb o e=>by
  have hlt:=aI e;exact hsb4.extBut b o (aX (aO hlt hCle)) (ai _ (hH2 ▸ ai _ e))
 have hacc:LiA s2.heap.objs.size [] h4:=⟨[],0,hsb4.extBut _ _ (eX hne) (ai _ (hH2 ▸ aK _ rfl)),.nil,aU _⟩;have K0:Inv (cxC X (ts++fr) scope cl G.objs.size fp s2 H2) [] (qu ts.length ix σ) H2 {s2 with heap:=h4,toks:=s2.toks+([]:List (Str×Value)).length} :=
  ahv S I2 f2 hob hCle old hns4 rfl rfl
 have st4:tn 0 h4:=T.keep _ _ _ st2 λb _ o e=>old b o e;have accF:s2.heap.objs.size∉fp:=λz=>bR _ (hob _ z)
 generalize hY:cxC X (ts++fr) scope cl G.objs.size fp s2 H2=Y at K0
 have Yc:Y.calm=true:=by rw [<-hY];exact hc
 have Yp:Y.prog=X.prog:=by rw [<-hY];rfl
 have Yw:Y.w=X.w:=by rw [<-hY];rfl
 have YK:Y.K=X.K:=by rw [<-hY];rfl
 have YA:Y.A=X.A:=by rw [<-hY];rfl
 have Yn:Y.pn=[]:=by rw [<-hY];rfl
 have Ye:Y.env=compEnvC scope cl G.objs.size X.env:=by rw [<-hY];rfl
 have Yx:Y.xe=λ_ _=>False:=by rw [<-hY];rfl
 have YG0:PG Y t0 g0:=by rw [<-hY];exact hg0 _ _ _ _
 have YG1:PG Y t1 g1:=by rw [<-hY];exact hg1 _ _ _ _
 have YI1:PI Y t1 i1 wi1:=by rw [<-hY];exact hi1 _ _ _ _
 have YT:PCn Y cs tc:=by rw [<-hY];exact ht _ _ _ _
 have YE:PE Y elt te:=by rw [<-hY];exact he _ _ _ _
 have stat:∀{H':Hp},(∀b∈fp,H' b=none)->∀b∈fp,FpOk Y [] H' b:=λhn b hb=>by
  rw [<-hY];exact ⟨hn b hb,λz=>by have h1:=hob b hb;have z':b=G.objs.size:=z;exact aX (aO h1 hCle) z',λz=>(ab2 S I2 f2 hob hCle).exfs b hb z,.inl hb,λx c e=>(f2 b hb).2.2.2.2.1 x c (S.sub x c e),λp hp=>absurd (show p∈([]:List (Addr×Obj)) from hp) (by simp)⟩
 have statA:∀{H':Hp},H' s2.heap.objs.size=none->FpOk Y [] H' s2.heap.objs.size:=λhn=>by
  rw [<-hY];exact ⟨hn,λz=>hne (show G.objs.size=s2.heap.objs.size from z.symm),λz=>by
   obtain ⟨_,o,ho,_⟩:=(ab2 S I2 f2 hob hCle).funs.mem z;exact bR _ (aI ho),.inr (ay _),λx c e z=>by
   obtain ⟨v,o,ho,_⟩:=I2.cell x c (S.sub x c e);rw [z] at ho;exact bR _ (aI ho),λp hp=>absurd (show p∈([]:List (Addr×Obj)) from hp) (by simp)⟩
 generalize hacca:s2.heap.objs.size=ac at hacc accF statA hne hCle
 have loop:∀s4:Shared,s4={s2 with heap:=h4,toks:=s2.toks+([]:List (Str×Value)).length}->
   codeAny (model X.prog X.w) X.A (.compLoop (.ListComp elt [⟨t0,i0,[],0⟩,⟨t1,i1,cs,0⟩] scope pos) 0 (.ref it) (.ref ac) (compEnvC scope cl G.objs.size X.env))
    (compPost (model X.prog X.w) X.A X.xe use Qf (.ref ac) G.objs.size) s4:=by
  rintro s4 rfl
  refine adb (λn s'=>∃i σ' H' ks,Inv Y [] σ' H' s'/\Ext (qu ts.length ix σ) σ'/\tn i s'.heap/\(∀b∈fp,H' b=none)/\H' ac=none /\
   LiA ac ks s'.heap/\W i n ks H') ?_ m0
   ⟨0,_,H2,[],K0,⟨rfl,λ_ _ z=>z⟩,st4,λb hb=>(f2 b hb).1,I2.hok.fresh (by omega),hacc,w0⟩
  rintro n s5 ⟨i,σ5,H5,ks,I5,x5,st5,fr5,fa5,ac5,w5⟩
  have I5':Inv Y [] (qu ts.length ix σ) H5 s5:=I5.weak x5.1.symm x5.2;have hao:∃o,s5.heap.get? ac=some o/\∀v,o.data≠.cell v:=by
   obtain ⟨its,k,ho,_⟩:=ac5;exact ⟨_,ho,λv z=>by cases z⟩
  have I5p:Inv Y (xf [ac] s5.heap) (qu ts.length ix σ) H5 s5:=Inv.pinned (pins:=[]) (fp:=[ac]) I5' (λb hb=>by rw [aB.mp hb];exact statA fa5) (λb hb=>by rw [aB.mp hb];exact hao)
  have F5:∀b∈fp,FpOk Y (xf [ac] s5.heap) H5 b:=λb hb=>(stat fr5 b hb).onL Yn (fr5 b hb) (λz=>accF (by rw [aB.mp z] at hb;exact hb))
  obtain ⟨ao,hao1,hao2⟩:=hao;have pa:(ac,ao)∈xf [ac] s5.heap:=jz (by simp) hao1
  rcases turn i n ks H5 w5 with ⟨stop,qn⟩|⟨go,step⟩
  ·rw [<-YA];refine thn (T.done Y Yp Yw YK Yc i _ s5 _ H5 _ I5p F5 st5 stop) λr s6 ⟨hr,I6⟩=>?_;subst hr;have e6:=(I6.pin (ac,ao) (aJ _ pa)).1;have S6:LiA ac ks s6.heap:=ac5.keep λo ho=>by rw [hao1] at ho;cases ho;exact e6
   have I6':Inv (cxC X (ts++fr) scope cl G.objs.size fp s2 H2) [] (qu ts.length ix σ) H5 s6:=by rw [hY];exact I6.unpinned'
   obtain ⟨m6,hn6,_⟩:=I6'.loc;rw [YA];obtain ⟨its6,k6,q6,rv6,hz6⟩:=S6;refine fin ac G.objs.size s6 (upd H5 ac (.lst ks)) m6 hn6 (I2.fpOk (by omega) (by rw [jh hne];exact I6'.free)) (λh' sb=>?_) (qn _ fa5)
   exact comp_back I2 f2 (by omega) (by omega) hne I6' fa5 q6 rv6 hz6 sb
  ·rw [<-YA];refine thn (T.item Y Yp Yw YK Yc i _ s5 _ H5 _ I5p F5 st5 go) λr s6 ⟨u,hr,h6⟩=>?_;subst hr;refine thn h6 λ_ s7 ⟨x,H7,I7,r7,y7,st7,fr7⟩=>?_;have fa7:H7 ac=none:=(I7.pin (ac,ao) (aJ _ pa)).2.1;have ac7:=(I7.pin (ac,ao) (aJ _ pa)).1;have S7:LiA ac ks s7.heap:=ac5.keep λo ho=>by rw [hao1] at ho;cases ho;exact ac7
   have obj7:∀b∈ac::fp,∃o,s7.heap.get? b=some o/\∀v,o.data≠.cell v:=λb hb=>by
    rcases aD.mp hb with e|e
    ·subst e;exact ⟨_,ac7,hao2⟩
    ·exact T.obj _ _ st7 b e
   have I7':Inv Y (xf (ac::fp) s7.heap) (qu ts.length ix σ) H7 s7:=by
    refine Inv.pinned (pins:=[]) (fp:=ac::fp) I7.unpinned' (λb hb=>?_) obj7
    rcases aD.mp hb with e|e
    ·subst e;exact statA fa7
    ·exact stat fr7 b e
   rw [<-Ye,<-Yp,<-Yw];refine aY (YG0 _ s7 _ H7 x u _ I7' r7 (step x H7 y7)) (λ_ s8 ⟨σ8,H8,I8,x8,q8⟩=>?_) (λ_ _ z=>by rw [Yx] at z;exact z)
   refine aY (YI1 _ s8 _ H8 _ I8 q8) (λv8 z4 h8=>ei (hs1 _ v8) (aY h8 (λitv z6 h9=>?_) (λ_ _ z=>by rw [Yx] at z;exact z))) (λ_ _ z=>by rw [Yx] at z;exact z)
   obtain ⟨it1,fp1,tn1,J1,H9,e1,I9,T1,st9,f9,V,⟨n0,v0⟩,turn1⟩:=h9;subst e1;have pin9:∀b∈ac::fp,∀o,s7.heap.get? b=some o->z6.heap.get? b=some o/\H9 b=none:=λb hb o e=>by
    obtain ⟨z1,z2,_⟩:=I9.pin (b,o) (aJ _ (jz hb e));exact ⟨z1,z2⟩
   have apart:∀b∈fp1,b∉ac::fp:=λb hb z=>by
    obtain ⟨o,e,_⟩:=obj7 b z;exact (f9 b hb).2.2.2.2.2 (b,o) (aJ _ (jz z e)) rfl
   have stat1:∀{H':Hp},(∀b∈fp1,H' b=none)->∀b∈fp1,FpOk Y [] H' b:=λhn b hb=>by
    obtain ⟨_,k1,k2,k3,k4,_⟩:=f9 b hb;refine ⟨hn b hb,k1,k2,k3,k4,λp hp=>?_⟩;rw [Yn] at hp;exact absurd (show p∈([]:List (Addr×Obj)) from hp) (by simp)
   have S9:LiA ac ks z6.heap:=S7.keep λo ho=>(pin9 ac (by simp) o ho).1
   have inner:codeAny (model Y.prog Y.w) Y.A (.compLoop (.ListComp elt [⟨t0,i0,[],0⟩,⟨t1,i1,cs,0⟩] scope pos) 1 (.ref it1) (.ref ac) Y.env)
     (λr z7=>∃f,r=.ok f/\∃m',m'<n/\∃i σ' H' ks,Inv Y [] σ' H' z7/\Ext (qu ts.length ix σ) σ'/\tn i z7.heap/\(∀b∈fp,H' b=none)/\H' ac=none/\LiA ac ks z7.heap/\W i m' ks H') z6:=by
    refine agl one (λn s'=>∃j σ' H' ks,Inv Y [] σ' H' s'/\Ext σ8 σ'/\tn1 j s'.heap/\(∀b∈fp1,H' b=none)/\(∀b∈fp,∀o,s7.heap.get? b=some o->s'.heap.get? b=some o/\H' b=none)/\H' ac=none/\LiA ac ks s'.heap/\V j n ks H') ?_ n0
     ⟨0,_,H9,ks,I9.unpinned',⟨rfl,λ_ _ z=>z⟩,st9,λb hb=>(f9 b hb).1,λb hb=>pin9 b (aL _ hb),(pin9 ac (by simp) _ ac7).2,S9,v0⟩
    rintro k a5 ⟨j,τ5,G5,ks5,Q5,y5,t5,e5,o5,c5,d5,v5⟩
    have Q5':Inv Y [] σ8 G5 a5:=Q5.weak y5.1.symm y5.2;have fp5:∀b∈fp,G5 b=none:=λb hb=>by
     obtain ⟨o,e,_⟩:=T.obj _ _ st7 b hb;exact (o5 b hb o e).2
    have dob:∃o,a5.heap.get? ac=some o/\∀v,o.data≠.cell v:=by
     obtain ⟨its,k,ho,_⟩:=d5;exact ⟨_,ho,λv z=>by cases z⟩
    have objs:∀b∈ac::fp,∃o,a5.heap.get? b=some o/\∀v,o.data≠.cell v:=λb hb=>by
     rcases aD.mp hb with e|e
     ·subst e;exact dob
     ·obtain ⟨o,e',d⟩:=T.obj _ _ st7 b e;exact ⟨o,(o5 b e o e').1,d⟩
    have Q5p:Inv Y (xf (ac::fp) a5.heap) σ8 G5 a5:=by
     refine Inv.pinned (pins:=[]) (fp:=ac::fp) Q5' (λb hb=>?_) objs
     rcases aD.mp hb with e|e
     ·subst e;exact statA c5
     ·exact stat fp5 b e
    have FF:∀b∈fp1,FpOk Y (xf (ac::fp) a5.heap) G5 b:=λb hb=>(f9 b hb).onL Yn (e5 b hb) (apart b hb);obtain ⟨bo,hbo1,hbo2⟩:=dob;have keep6:∀{G6:Hp} {τ:St} {a6:Shared} {P:List (Addr×Obj)},Inv Y (xf (ac::fp) a5.heap++P) τ G6 a6->(∀b∈fp,∀o,s7.heap.get? b=some o->a6.heap.get? b=some o/\G6 b=none)/\G6 ac=none/\LiA ac ks5 a6.heap:=λ{G6 τ a6 P} I6=>by
     refine ⟨λb hb o e=>?_,?_,?_⟩
     ·obtain ⟨z1,z2,_⟩:=I6.pin (b,o) (aJ _ (cH _ (jz (aL _ hb) (o5 b hb o e).1)));exact ⟨z1,z2⟩
     ·exact (I6.pin (ac,bo) (aJ _ (cH _ (jz (by simp) hbo1)))).2.1
     ·exact d5.keep λo ho=>by
       rw [hbo1] at ho;cases ho
       exact (I6.pin (ac,bo) (aJ _ (cH _ (jz (by simp) hbo1)))).1
    rcases turn1 j k ks5 G5 v5 with ⟨stop1,m',hm',w6⟩|⟨go1,step1⟩
    ·refine thn (T1.done Y rfl rfl rfl Yc j _ a5 _ G5 _ Q5p FF t5 stop1) λr a6 ⟨hr,Q6⟩=>?_;subst hr;obtain ⟨kk1,kk2,kk3⟩:=keep6 (P:=[]) (by rw [b9];exact Q6)
     refine ⟨_,rfl,m',hm',i+1,σ8,G5,ks5,Q6.unpinned',x8,?_,fp5,c5,kk3,w6⟩;exact T.keep _ _ _ st7 λb hb o e=>(kk1 b hb o e).1
    ·refine thn (T1.item Y rfl rfl rfl Yc j _ a5 _ G5 _ Q5p FF t5 go1) λr a6 ⟨u1,hr,h6'⟩=>?_;subst hr;refine thn h6' λ_ a7 ⟨y,G7,Q7,ry,yy,t7,e7⟩=>?_;obtain ⟨p1,p2,p3⟩:=keep6 (P:=[]) (by rw [b9];exact Q7)
     have Q7p:Inv Y (xf (ac::fp) a5.heap++xf fp1 a7.heap) σ8 G7 a7:=by
      refine Inv.pinned (fp:=fp1) Q7 (λb hb=>(f9 b hb).onL Yn (e7 b hb) (apart b hb)) (T1.obj _ _ t7)
     refine aY (YG1 _ a7 _ G7 y u1 _ Q7p ry (step1 y G7 yy)) (λ_ a8 ⟨τ8,G8,Q8,z8,q8'⟩=>?_) (λ_ _ z=>by rw [Yx] at z;exact z)
     refine aY (YT _ a8 _ G8 _ Q8 q8') (λok b8 ⟨G8',Q8',q9⟩=>?_) (λ_ _ z=>by rw [Yx] at z;exact z)
     cases ok with
     |false =>
      rw [aQ aM] at q9 ⊢;obtain ⟨n',hn',v9⟩:=q9;obtain ⟨r1,r2,r3⟩:=keep6 Q8';refine ⟨n',hn',j+1,τ8,G8',_,Q8'.unpinned',z8,?_,?_,r1,r2,r3,v9⟩
      ·exact T1.keep _ _ _ t7 λb hb o e=>(Q8'.pin (b,o) (aJ _ (aJ _ (jz hb e)))).1
      ·intro b hb
       obtain ⟨o,e,_⟩:=T1.obj _ _ t7 b hb;exact (Q8'.pin (b,o) (aJ _ (aJ _ (jz hb e)))).2.1
     |true =>
      rw [aC rfl] at q9 ⊢;refine aY (YE _ b8 _ G8' _ Q8' q9) (λyv a9 ⟨z,G9,Q9,rz,few,n',hn',v9⟩=>?_) (λ_ _ z=>by rw [Yx] at z;exact z)
      obtain ⟨r1,r2,its,k5,ac9,rv5,hz5⟩:=keep6 Q9;have hl:=rv5.length;refine cN cy ⟨_,ac9,rfl⟩ fX (fO _ _) (gP ac its.toArray k5 yv (by rw [aA];omega)) ⟨ac9,?_⟩
      have q:=hR ac9 (λa=>a.push yv);have qo:∀b o,b≠ac->a9.heap.get? b=some o->(a9.heap.update ac (Obj.mapSeq (λa=>a.push yv))).get? b=some o:=λb o hb e=>(cJ a9.heap _ (eX hb)).trans e;obtain ⟨k9,q9'⟩:∃k,(a9.heap.update ac (Obj.mapSeq (λa=>a.push yv))).get? ac=some {cls:=.type "list",data:=.seq (its++[yv]).toArray k}:=⟨_,by rw [q];simp;rfl⟩
      obtain ⟨a0,a1,a2,a3,a4,a5'⟩:=statA (show G9 ac=none from r2)
      have nac:∀b∈fp,b≠ac:=λb hb z=>accF (z ▸ hb);have nac1:∀b∈fp1,b≠ac:=λb hb z=>apart b hb (by rw [z];simp)
      refine ⟨n',hn',j+1,τ8,G9,_,(Q9.unpinned').turned qo a0 a1 a3 a4 a5',z8,?_,?_,?_,r2,⟨_,k9,q9',rv5.append (.cons rz .nil),by rw [ar,aG];omega⟩,v9⟩
      ·exact T1.keep _ _ _ t7 λb hb o e=>qo b o (nac1 b hb) (Q9.pin (b,o) (aJ _ (aJ _ (jz hb e)))).1
      ·intro b hb
       obtain ⟨o,e,_⟩:=T1.obj _ _ t7 b hb;exact (Q9.pin (b,o) (aJ _ (aJ _ (jz hb e)))).2.1
      ·intro b hb o e
       obtain ⟨z1,z2⟩:=r1 b hb o e;exact ⟨qo b o (nac b hb) z1,z2⟩
   exact ada inner (T1.self _ 0 _ _ _ st9 inner)
 exact abv (loop _ rfl) (T.self _ 0 _ _ _ st4 (loop _ rfl))
end
end L2
namespace MI
open L2
open Classical in
noncomputable def ajv(ck:Hd->Prop)(c:ST)(fe:SE)(x:D)(rd:Sd):List D->List D->Hd->R (List D)
 |[],zs,h=>if ck h then .ok zs h else .no
 |y::ys,zs,h=>if ck h then (c (some x::some y::rd) h).bind λb h1=>if b=true then ((fe (some x::some y::rd) h1).bind λd h2=>if zs.length+1<=LINE then ajv ck c fe x rd ys (zs++[d]) h2 else .no) else ajv ck c fe x rd ys zs h1 else .no
open Classical in
noncomputable def a7y(ck:Hd->Prop)(fj:SI)(c:ST)(fe:SE)(rd:Sd):List D->List D->Hd->R (List D)
 |[],zs,h=>if ck h then .ok zs h else .no
 |x::xs,zs,h=>if ck h then (fj (some x::none::rd) h).bind λjt h1=>(ajv jt.ck c fe x rd jt.xs zs h1).bind λzs1 h2=>a7y ck fj c fe rd xs zs1 h2 else .no
noncomputable def adc(fi fj:SI)(c:ST)(fe:SE)(ix:List Nat):SE:=λτ h=>(fi τ h).bind λit h1=>(a7y it.ck fj c fe (frs' ix τ) it.xs [] h1).bind (aap [])
def an7:ST:=λ_ h=>.ok true h
theorem azj{K:PySem.W.Frag}{E:XD}{J:It}{jt:Itm}{c:ST}{fe:SE}{x:D}{vx:V}{r:St}{rd:Sd}{k1:List D->Hd->R D}{ι0:List Addr}{H0:Hp}{h0:Hd}{Q:VK}{M:List V->Hp->Prop}{ks0:List V}{zs0:List D}
  (ir:alk K ι0 H0 J jt) (rx:Rep K ι0 H0 vx x) (S:SRep K ι0 H0 r rd) (Rh:HRep K ι0 H0 h0) (rz:Reps K ι0 H0 ks0 zs0) (o:out K E (vh K) ι0 H0 ((ajv jt.ck c fe x rd jt.xs zs0 h0).bind k1) Q)
  (fin:∀ks zs ι H h,Gr ι0 H0 ι H->HRep K ι H h->Reps K ι H ks zs->out K E (vh K) ι H (k1 zs h) Q->M ks H) :
  ∃V':Nat->Nat->List V->Hp->Prop,(∃n,V' 0 n ks0 H0)/\∀j n ks H,V' j n ks H->
   (J.stop j H/\M ks H) \/
   (J.go j H/\∀y H',J.yld j H y H'->a04 1 y (some vx::none::r) H' λσ3 H4=>L2.Ext (some vx::none::r) σ3/\lift K E acv c σ3 H4 λok H4'=>if ok=true then lift K E (vh K) fe σ3 H4' (λz H5=>ks.length<sizeLine/\∃n',n'<n/\V' (j+1) n' (ks++[z]) H5) else ∃n',n'<n/\V' (j+1) n' ks H4'):=by
 refine ⟨λj n ks H=>n=jt.xs.length-j/\j<=jt.xs.length/\∃ι h zs,Gr ι0 H0 ι H/\HRep K ι H h/\Reps K ι H ks zs/\out K E (vh K) ι H ((ajv jt.ck c fe x rd (jt.xs.drop j) zs h).bind k1) Q,⟨_,rfl,aU _,ι0,h0,zs0,.refl _ _,Rh,rz,o⟩,?_⟩
 rintro j n ks H ⟨rfl,hj,ι,h,zs,g0,Rh,rz,o⟩
 by_cases hlt:j<jt.xs.length
 ·rw [cT hlt,ajv] at o
  by_cases hc:jt.ck h
  ·rw [aC hc,R.bind_assoc] at o;obtain ⟨go,yl⟩:=(ir ι H h g0 Rh hc).1 j _ (ah hlt);refine .inr ⟨go,λy H' yy=>?_⟩;obtain ⟨g1,r1,hr1⟩:=yl y H' yy;have o':=a2o o g1;have st:∀{ι':List Addr} {H'':Hp},Gr ι H' ι' H''->SRep K ι' H'' (some vx::some y::r) (some x::some jt.xs[j]::rd):=λg=>zg ((rx.mono (g0.trans g1)).mono g) (zg (r1.mono g) ((S.mono (g0.trans g1)).mono g));refine ⟨⟨rfl,λi v e=>?_⟩,ι,some x::some jt.xs[j]::rd,h,st (.refl _ _),hr1,g8 o' λok h1 ι1 H1 u g2 r2 hr2 o2=>?_⟩
   ·match i,e with
    |0,e=>exact e
    |1,e=>simp at e
    |i+2,e=>simpa using e
   ·have r2:u=ok:=r2;subst r2
    cases u with
    |false =>
     rw [aQ aM] at o2 ⊢;exact ⟨jt.xs.length-(j+1),by omega,rfl,hlt,ι1,h1,zs,(g0.trans g1).trans g2,hr2,rz.mono (g1.trans g2),o2⟩
    |true =>
     rw [aC rfl] at o2 ⊢;rw [R.bind_assoc] at o2;refine ⟨ι1,_,h1,st g2,hr2,g8 o2 λd h2 ι2 H2 z g3 r3 hr3 o3=>?_⟩
     by_cases h6:zs.length+1<=LINE
     ·rw [aC h6] at o3;have few:ks.length<sizeLine:=by have:=ll h6;rw [<-rz.len] at this;omega
      exact ⟨few,jt.xs.length-(j+1),by omega,rfl,hlt,ι2,h2,zs++[d],((g0.trans g1).trans g2).trans g3,hr3,(rz.mono ((g1.trans g2).trans g3)).app (.cons r3 .nil),o3⟩
     ·rw [aQ h6] at o3;exact o3.elim
  ·rw [aQ hc] at o;exact o.elim
 ·have e:j=jt.xs.length:=by omega
  subst e;rw [bQ (ay _),ajv] at o
  by_cases hc:jt.ck h
  ·rw [aC hc] at o;exact .inl ⟨(ir ι H h g0 Rh hc).2,fin ks zs ι H h g0 Rh rz o⟩
  ·rw [aQ hc] at o;exact o.elim
theorem aw8{K:PySem.W.Frag}{E:XD}{J:It}{it:Itm}{fj:SI}{c:ST}{fe:SE}{r:St}{rd:Sd}{ι0:List Addr}{H0:Hp}{h0:Hd}{Q:VK}
  (ir:alk K ι0 H0 J it) (S:SRep K ι0 H0 r rd) (Rh:HRep K ι0 H0 h0) (o:out K E (vh K) ι0 H0 ((a7y it.ck fj c fe rd it.xs [] h0).bind (aap [])) Q) :
  b0n (lift K E (aoe K) fj) (List.replicate 2 none++r) (a04 0) (a04 1) (lift K E acv c) (lift K E (vh K) fe) Q J H0:=by
 refine ⟨λi m ks H=>m=it.xs.length-i/\i<=it.xs.length/\∃ι h zs,Gr ι0 H0 ι H/\HRep K ι H h/\Reps K ι H ks zs/\out K E (vh K) ι H ((a7y it.ck fj c fe rd (it.xs.drop i) zs h).bind (aap [])) Q,⟨_,rfl,aU _,ι0,h0,[],.refl _ _,Rh,.nil,o⟩,?_⟩
 rintro i m ks H ⟨rfl,hi,ι,h,zs,g0,Rh,rz,o⟩
 by_cases hlt:i<it.xs.length
 ·rw [cT hlt,a7y] at o
  by_cases hc:it.ck h
  ·rw [aC hc,R.bind_assoc] at o;obtain ⟨go,yl⟩:=(ir ι H h g0 Rh hc).1 i _ (ah hlt);refine .inr ⟨go,λx H' y=>?_⟩;obtain ⟨g1,r1,hr1⟩:=yl x H' y;have o':=a2o o g1;refine ⟨⟨rfl,λk v e=>?_⟩,ι,some it.xs[i]::none::rd,h,zg r1 ?_,hr1,g8 o' λjt h1 ι1 H1 J1 g2 r2 hr2 o2=>?_⟩
   ·match k,e with
    |0,e=>simp at e
    |1,e=>simp at e
    |k+2,e=>simpa using e
   ·have S':=S.mono (g0.trans g1);refine ⟨by simp [S'.len],λk d e=>?_⟩
    cases k with
    |zero=>simp at e
    |succ k=>simpa using S'.val k d (by simpa using e)
   ·rw [R.bind_assoc] at o2;refine azj (k1:=λks1 h2=>(a7y it.ck fj c fe rd (it.xs.drop (i+1)) ks1 h2).bind (aap [])) r2 (r1.mono g2) (S.mono ((g0.trans g1).trans g2)) hr2 (rz.mono (g1.trans g2)) o2 λks' zs' ι3 H3 h3 g3 hr3 rz3 o3=>?_;exact ⟨it.xs.length-(i+1),by omega,rfl,hlt,ι3,h3,zs',((g0.trans g1).trans g2).trans g3,hr3,rz3,o3⟩
  ·rw [aQ hc] at o;exact o.elim
 ·have e:i=it.xs.length:=by omega
  subst e;rw [bQ (ay _),a7y] at o
  by_cases hc:it.ck h
  ·rw [aC hc] at o;have o1:out K E (vh K) ι H (.ok (.ref h.length) (h++[.lst ([]++zs)])) Q:=o;rw [dC] at o1;exact .inl ⟨(ir ι H h g0 Rh hc).2,zc (E:=E) rz Rh o1⟩
  ·rw [aQ hc] at o;exact o.elim
section
variable{X:Cx}{E:XD}{elt t0 i0 t1 i1 cn:Expr}{scope:Scope}{pos:Pos}{cl:List (Str×Addr)}{a b:Str}{fr:List Str}{ix:List Nat}{fi fj:SI}{fe:SE}{c:ST}
theorem as7{σ:St}{H:Hp}{Q:VK}(h:lift X.K E (vh X.K) (adc fi fj c fe ix) σ H Q):as5 (lift X.K E (aoe X.K) fi) (lift X.K E (aoe X.K) fj) (qu 2 ix) (a04 0) (a04 1) (lift X.K E acv c) (lift X.K E (vh X.K) fe) σ H Q:=by
 obtain ⟨ι,τ,h,Sr,Rh,o⟩:=h;refine ⟨ι,τ,h,Sr,Rh,g8 o λit h1 ι1 H1 J g1 r1 hr1 o1=>?_⟩;exact aw8 r1 (a3y (Sr.mono g1) ix) hr1 o1
theorem ajw:PCn X [] (lift X.K E acv an7):=λpins s σ H Q I ⟨ι,τ,h,_,Rh,o⟩=>aw7 pins s σ H Q I (o ι H true (.refl _ _) rfl Rh)
theorem as8{spos:Pos}{x:Str}{i:Nat}{pos':Pos}{cs:List Expr}(hN:X.N.Nodup)(hi':X.N[i]? = some x)(hx:Loc X.env.scope x)(one:One cs)(hc:X.calm=true)(S:CSc X scope cl [a,b] fr ix)(hi:MI X E t0 i0 fi)
  (hg0:∀C fp s H,PG (cxC X ([a,b]++fr) scope cl C fp s H) t0 (a04 0)) (hj:∀C fp s H,MI (cxC X ([a,b]++fr) scope cl C fp s H) E t1 i1 fj) (hg1:∀C fp s H,PG (cxC X ([a,b]++fr) scope cl C fp s H) t1 (a04 1)) (ht:∀C fp s H,PCn (cxC X ([a,b]++fr) scope cl C fp s H) cs (lift X.K E acv c)) (he:∀C fp s H,ME (cxC X ([a,b]++fr) scope cl C fp s H) E elt fe)
  (hs0:∀x,foldedSetIterable i0 X.env x=pure x:=by intro _;rfl) (hs1:∀env x,foldedSetIterable i1 env x=pure x:=by intro _ _;rfl) (hsw:swapsWith (.ListComp elt [⟨t0,i0,[],0⟩,⟨t1,i1,cs,0⟩] scope pos) (some (.Name x pos')) spos.line X.env=pure true:=by rfl) (hf:X.fn x=true\/X.env.scope.names.lookup x=some .local:=by first|exact .inl rfl|exact .inr rfl|assumption) :
  PS X (.Assign [.Name x pos'] (.ListComp elt [⟨t0,i0,[],0⟩,⟨t1,i1,cs,0⟩] scope pos) spos) (atx (as5 (lift X.K E (aoe X.K) fi) (lift X.K E (aoe X.K) fj) (qu 2 ix) (a04 0) (a04 1) (lift X.K E acv c) (lift X.K E (vh X.K) fe)) (a04 i)):=by
 intro pins s σ H D I h
 rw [fK _ _ _ _ hsw];refine ae (de (ae ?_));refine ae (aY (as6 one hc S hi hg0 hj hg1 ht he hs0 hs1 (some (assign (.Name x pos') X.env)) I h (a9h hN hi' hx hf)) (λ_ s' hq=>aw (aw hq)) λ_ _ e=>e)
theorem abw{spos:Pos}{x:Str}{i:Nat}{pos':Pos}{cs:List Expr}(hN:X.N.Nodup)(hi':X.N[i]? = some x)(hx:Loc X.env.scope x)(one:One cs)(hc:X.calm=true)(S:CSc X scope cl [a,b] fr ix)(hi:MI X E t0 i0 fi)
  (hg0:∀C fp s H,PG (cxC X ([a,b]++fr) scope cl C fp s H) t0 (a04 0)) (hj:∀C fp s H,MI (cxC X ([a,b]++fr) scope cl C fp s H) E t1 i1 fj) (hg1:∀C fp s H,PG (cxC X ([a,b]++fr) scope cl C fp s H) t1 (a04 1)) (ht:∀C fp s H,PCn (cxC X ([a,b]++fr) scope cl C fp s H) cs (lift X.K E acv c)) (he:∀C fp s H,ME (cxC X ([a,b]++fr) scope cl C fp s H) E elt fe)
  (hs0:∀x,foldedSetIterable i0 X.env x=pure x:=by intro _;rfl) (hs1:∀env x,foldedSetIterable i1 env x=pure x:=by intro _ _;rfl) (hsw:swapsWith (.ListComp elt [⟨t0,i0,[],0⟩,⟨t1,i1,cs,0⟩] scope pos) (some (.Name x pos')) spos.line X.env=pure true:=by rfl) (hf:X.fn x=true\/X.env.scope.names.lookup x=some .local:=by first|exact .inl rfl|exact .inr rfl|assumption) :
  MS X E (.Assign [.Name x pos'] (.ListComp elt [⟨t0,i0,[],0⟩,⟨t1,i1,cs,0⟩] scope pos) spos) (nu i (sZ (adc fi fj c fe ix))) :=
 PS.weak (aiq (as8 hN hi' hx one hc S hi hg0 hj hg1 ht he hs0 hs1 hsw hf)) λN σ H q=>as7 (ay6 (ais q))
end
structure CK (K:PySem.W.Frag) (mg:Str->Option Value) (c:Str) (C:Addr) (ks:List Str):Prop where
 m:mg c=some (.ref C)
 ns:PySem.W.nsIn K mainGlobals c=some (some (.ref C))
 cl:Cls K C
 na:∀k∈ks,NoAttr K C k
def azk(K:PySem.W.Frag)(ta:TE)(f:Str):TE:=λσ H Q=>ta σ H λx H1=>∃a C dx fs v,x=.ref a/\Rd H1 a (.ins C dx fs)/\Cls K C/\NoAttr K C f/\fs.lookup f=some v/\Q v H1
section
variable{X:Cx}{E:XD}
theorem as9(he:PE X e ta)(hb:attributeBase e f X.env (eval e X.env)=eval e X.env):PE X (.Attribute e f pos) (azk X.K ta f):=by
 intro pins s σ H Q I h
 refine aq1 hb (L2.thn (he pins s σ H _ I h) λu s1 ⟨x,H1,I1,rx,a,C,dx,fs,v,ex,ea,c,n,l,q⟩=>?_);subst ex;obtain rfl:u=Value.ref a:=rx
 rcases ea with ea|⟨o,ea⟩
 ·exact afp I1 ea c n l λu' s2 I2 ru=>⟨v,H1,I2,ru,q⟩
 ·obtain ⟨_,_,_,ne,ob,mA,nn,r,_⟩:=I1.hok a _ ea;obtain ⟨u,hu,ru⟩:=RelO.some_of (v:=v) (o:=mA f) (by rw [<-l];exact r f)
  exact ahi I1.kIn ⟨ob,nn,ne⟩ (c.get f) c.hd n hu (aas ru) ⟨v,H1,I1.tok _,ru,q⟩
theorem a7z{us:List (Str×V)}:∀{us:List (Str×V)} {kvs:List (Str×D)},KRep K ι H us kvs->kvs.lookup k=some d->∃v,us.lookup k=some v/\Rep K ι H v d
 |[],[],_,e=>by cases e
 |[],_::_,r,_=>by cases r.1
 |_::_,[],r,_=>by cases r.1
 |(k1,v1)::us,(k2,d2)::kvs,⟨h1,h2⟩,e=>by
  simp only [bp,List.cons.injEq] at h1;obtain ⟨rfl,h1⟩:=h1
  cases h2 with
  |cons r rs =>
   rw [List.lookup_cons] at e ⊢
   cases hk:k == k1 with
   |true=>rw [hk] at e;cases e;exact ⟨_,rfl,r⟩
   |false=>rw [hk] at e;exact a7z (us:=us) ⟨h1,rs⟩ e
def azl(c k:Str):D->Hd->Option D
 |.ins c' ks xs,_=>if c'=c then (ks.zip xs).lookup k else none
 |.ref i,h=>(match h[i]? with|some (.ins c' fs)=>if c'=c then fs.lookup k else none|_=>none)
 |_,_=>none
def qw(c k:Str)(d:D)(h:Hd):R D:=match azl c k d h with
 |some x=>.ok x h
 |none=>.no
theorem jc{c k:Str}{C:Addr}{ks:List Str}(hk:CK X.K X.mg c C ks)(hf:k∈ks)(he:ME X E e f)(hb:attributeBase e k X.env (eval e X.env)=eval e X.env:=by rfl):ME X E (.Attribute e k pos) (s1 (qw c k) f):=by
 refine PE.weak (as9 he hb) λσ H Q ⟨ι,τ,h,S,Rh,o⟩=>?_;refine ⟨ι,τ,h,S,Rh,g8 o λd h1 ι1 H1 v g1 r1 hr1 o1=>?_⟩;unfold qw at o1
 split at o1
 ·rename_i x hx
  cases r1 with
  |@ref a i ha =>
   obtain ⟨ob,e1,e2⟩:=hr1.at ha;simp only [azl,e1] at hx
   cases ob with
   |ins c' fs =>
    simp only at hx
    split at hx
    ·rename_i hc;subst hc;obtain ⟨C',dx,us,h3,hn,kr⟩:=e2;rw [hk.ns] at hn;cases hn
     obtain ⟨v,l,r⟩:=a7z (us:=us) kr hx;exact ⟨a,C,dx,us,v,rfl,.inl h3,hk.cl,hk.na _ hf,l,o1 ι1 H1 v (.refl _ _) r hr1⟩
    ·cases hx
   |_=>cases hx
  |@ins a C' dx oo c' us ks' xs h3 hn ek rs =>
   simp only [azl] at hx
   split at hx
   ·rename_i hc;subst hc;rw [hk.ns] at hn;cases hn
    obtain ⟨v,l,r⟩:=a7z (us:=us) (a6o ek rs) hx;exact ⟨a,C,dx,us,v,rfl,.inr ⟨oo,h3⟩,hk.cl,hk.na _ hf,l,o1 ι1 H1 v (.refl _ _) r hr1⟩
   ·cases hx
  |_=>cases hx
 ·exact o1.elim
def a2f(c:Str)(n:Nat)(F:SF)(ds:List D)(h:Hd):R D:=if ds.length=n then (match F (.ref h.length::ds) (h++[.ins c []]) with
 |.ok .non h'=>.ok (.ref h.length) h'
 |_=>.no) else .no
theorem asa{c:Str}{C:Addr}{ks:List Str}(hk:CK X.K X.mg c C ks)(M:Mk X.K C f)(G:FnOk X.prog X.w X.K X.mg X.base CX0 k f fd ps (m5 X.K (n+1) F))(hb:Binds X.K fd ps [])(hr:Room (k+1) X.A)(ha:MA X X0 (e::es) ka)(hg:Gl X c:=by rfl)
  (hdb:(c == ("__debug__" : Str))=false:=by decide) (he:starEach (e::es) X.env=(false,eval e X.env)::starEach es X.env:=by rfl) (hpl:(backTo pos (starEach es X.env)).any (·.1)=false:=by rfl) :
  ME X X0 (.Call (.Name c p) (e::es) [] pos) (sA (a2f c n F) ka):=by
 refine PE.weak (aq2 M G hr hg hk.m hb .nil ale ha hdb he hpl) λσ H Q ⟨ι,τ,h,S,Rh,o⟩=>?_;refine ⟨ι,τ,h,S,Rh,g8 o λds h1 ι1 H1 vs g1 r1 hr1 o1=>?_⟩
 intro x dx nx nd ne
 unfold a2f at o1
 split at o1
 ·rename_i hl;have n2:upd H1 dx (.own x) x=none:=by rw [jh ne.symm];exact nx
  have g2:Gr ι1 H1 (ι1++[x]) (upd (upd H1 dx (.own x)) x (.ins C dx [])):=(a0n nd _).trans (aec n2 _);have hr2:HRep X.K (ι1++[x]) (upd (upd H1 dx (.own x)) x (.ins C dx [])) (h1++[.ins c []]):=(hr1.aside nd _).add n2 ⟨C,dx,[],ou,hk.ns,rfl,.nil⟩;have ix:(ι1++[x])[h1.length]? = some x:=by rw [<-hr1.len];simp
  rw [b9];refine ⟨by rw [aF,r1.len,hl],ι1++[x],.ref h1.length::ds,_,.cons (.ref ix) (r1.mono g2),hr2,?_⟩
  split at o1
  ·rename_i h' hF;rw [hF]
   intro ι' H' v g r hr'
   cases r
   exact ⟨rfl,o1 ι' H' _ (g2.trans g) (.ref (g.at ix)) hr'⟩
  ·exact o1.elim
 ·exact o1.elim
structure Di (P:Program) (w:World) (K:PySem.W.Frag) (mg:Str->Option Value) (base:Heap) (k:Nat) (c:Str) (C:Addr) (ks ps:List Str) (n:Nat) (F:SF) (f:Addr) (fd:FuncData):Prop where
 ok:FnOk P w K mg base CX0 k f fd ps (m5 K (n+1) F)
 b:Binds K fd ps []
 mke:Mk K C f
 ck:CK K mg c C ks
theorem ade{X:Cx}{ks ps:List Str}(G:Di X.prog X.w X.K X.mg X.base k c C ks ps n F f fd)(hr:Room k' X.A)(hk:k+1<=k')(ha:MA X X0 (e::es) ka)(hg:Gl X c:=by rfl)
  (hdb:(c == ("__debug__" : Str))=false:=by decide) (he:starEach (e::es) X.env=(false,eval e X.env)::starEach es X.env:=by rfl) (hpl:(backTo pos (starEach es X.env)).any (·.1)=false:=by rfl) :
  ME X X0 (.Call (.Name c p) (e::es) [] pos) (sA (a2f c n F) ka):=asa G.ck G.mke G.ok G.b (hr.mono hk) ha hg hdb he hpl
def aci{α:Type}(f:Str)(v:α):List (Str×α)->List (Str×α)
 |[]=>[(f,v)]
 |(g,x)::r=>if g=f then (g,v)::r else (g,x)::aci f v r
theorem abx{k:Str}(q:Rep K ι H v d):∀{us:List (Str×V)} {kvs:List (Str×D)},KRep K ι H us kvs->KRep K ι H (a9b k v us) (aci k d kvs)
 |[],[],_=>⟨rfl,.cons q .nil⟩
 |[],_::_,r=>by cases r.1
 |_::_,[],r=>by cases r.1
 |(k1,v1)::us,(k2,d2)::kvs,⟨h1,h2⟩=>by
  simp only [bp,List.cons.injEq] at h1;obtain ⟨rfl,h1⟩:=h1
  cases h2 with
  |cons r rs =>
   unfold a9b aci
   split
   ·exact ⟨by simp [h1],.cons q rs⟩
   ·have ih:=abx (k:=k) q (us:=us) (kvs:=kvs) ⟨h1,rs⟩;exact ⟨by simp [ih.1],.cons r ih.2⟩
def a8c(c k:Str)(fo fe:SE):SS:=λτ h=>(fe τ h).fl λy h1=>(fo τ h1).fl λx h2=>match x with
 |.ref i=>(match h2[i]? with
  |some (.ins c' fs)=>if c'=c/\fs.length<1000 then .nx τ (h2.set i (.ins c (aci k y fs))) else .no
  |_=>.no)
 |_=>.no
theorem a8v{c k:Str}{C:Addr}{ks:List Str}(hk:CK X.K X.mg c C ks)(hf:k∈ks)(ho:ME X E o fo)(he:ME X E e fe)(hs:swapsWith e (some (.Attribute o k pos')) pos.line X.env=pure false:=by rfl) :
  MS X E (.Assign [.Attribute o k pos'] e pos) (a8c c k fo fe):=by
 refine PS.weak (au8 ho he hs) λN σ H ⟨ι,τ,h,S,Rh,o⟩=>?_;refine ⟨ι,τ,h,S,Rh,v7 o λy h1 ι1 H1 v g1 r1 hr1 o1=>⟨ι1,τ,h1,S.mono g1,hr1,v7 o1 λx h2 ι2 H2 u g2 r2 hr2 o2=>?_⟩⟩
 split at o2
 ·rename_i i
  cases r2 with
  |@ref a _ ha =>
   split at o2
   ·rename_i c' fs hx
    split at o2
    ·rename_i hc;obtain ⟨rfl,hl⟩:=hc;obtain ⟨C',dx,us,h3,hn,kr⟩:=hr2.obj i a _ ha hx;rw [hk.ns] at hn;cases hn
     have lu:us.length=fs.length:=by simpa using af List.length kr.1
     have gp:=a79 hr2 ha (.ins C dx (a9b k v us));exact ⟨a,C,dx,us,rfl,h3,hk.cl,hk.na _ hf,by omega,o2 ι2 _ σ gp (((S.mono g1).mono g2).mono gp) (hr2.put ha ⟨C,dx,_,ou,hk.ns,let q:=abx (k:=k) (r1.mono g2) kr; ⟨q.1,q.2.mono gp⟩⟩)⟩
    ·exact o2.elim
   ·exact o2.elim
 ·exact o2.elim
end
end MI
namespace K11
open L2 MI
def a0b:Str->Option Bool:=λc=>if c = "TooHeavy" then some true else none
def a2v:Str->Option Bool:=λc=>if c = "TooHeavy" then some true else none
def j8:Str->Option Bool:=λc=>if c = "TooHeavy" then some false else none
def a1f:Str->Bool:=λc=>decide (c = "TooHeavy")
noncomputable def a6s:SS :=
 (oh (sA qy (ak (sZ (s1 ajq (sV 0))) dq)))
noncomputable def a1g(v6:SF)(p7:SF):SE :=
 (sA (je false 1 p7) (ak (sV 0) dq))
noncomputable def a4i(v6:SF)(p7:SF):SS :=
 (iz (sIf (sT (s2 hEq (s2 gIx (sV 0) (sC (.int 0))) (sC (.str "one"))))
 (oh (sC (.int 1)))
 sNx)
 (iz (nu 1 (sA aif (ak (sZ (a5i (sIt (sA (je false 1 v6) (ak (sV 0) dq))) t1 (a1g v6 p7) [])) dq)))
 (iz (sIf (sT (s2 hEq (s2 gIx (sV 0) (sC (.int 0))) (sC (.str "times"))))
 (oh (s2 yp (s2 gIx (sV 0) (sC (.int 3))) (sV 1)))
 sNx)
 (oh (sV 1)))))
noncomputable def a0c:SS :=
 (iz (a8c "Patch" "signs" (sV 0) (sV 1))
 (iz (a8c "Patch" "firsts" (sV 0) (sV 2))
 (iz (a8c "Patch" "pairs" (sV 0) (sV 3))
 (iz (a8c "Patch" "lasts" (sV 0) (sV 4))
 (a8c "Patch" "empty" (sV 0) (sV 5))))))
noncomputable def a4j(j5:SF)(u9:SF)(p7:SF):SS :=
 (iz (sIf (sT (s2 gGt (sA (je false 1 p7) (ak (sV 0) dq)) (sC (.int 10))))
 (aos "TooHeavy" (ak (sC (.str "the shape weighs too much")) dq))
 sNx)
 (oh (sA (je false 1 u9) (ak (sA (je false 2 j5) (ak (sV 0) (ak (sC (.int 1)) dq))) dq))))
noncomputable def a2g(jw:SF):SE :=
 (sV 1)
noncomputable def zr(jw:SF):ST :=
 (sT (s2 hEq (sV 0) (sV 2)))
noncomputable def a2h(jw:SF):SS :=
 (yr (sML agv (sV 1) (ak (sA (je false 1 jw) (ak (sZ (ut (sIt (s1 (qw "Patch" "pairs") (sV 0))) (tN 2) (zr jw) (a2g jw) [2])) dq)) dq)))
noncomputable def a0d(jw:SF):SS :=
 (iz (nu 1 (sA uw (ak (sA (je false 1 jw) (ak (s1 (qw "Patch" "firsts") (sV 0)) dq)) dq)))
 (iz (a6m (sRg a5h (ak (sC (.int 1)) (ak (s2 iu (sA a2p (ak (s1 (qw "Patch" "signs") (sV 0)) dq)) (sC (.int 1))) dq))) (kN 2) (a2h jw))
 (iz (nu 3 (aed (a1n (s1 (qw "Patch" "empty") (sV 0))) (sZ (s2 iu (s1 (qw "Patch" "lasts") (sV 0)) (sZ (sA uw (ak (sC (.int 0)) dq))))) (s1 (qw "Patch" "lasts") (sV 0))))
 (oh (sA yh (ak (sA qy (ak (sZ (s2 iu (sZ (sA uw (ak (sC (.str "")) dq))) (s1 (qw "Patch" "signs") (sV 0)))) dq)) (ak (sA qy (ak (sV 1) dq)) (ak (sA (je false 1 jw) (ak (sV 3) dq)) dq))))))))
noncomputable def ue(bh:SF)(m9:SF)(jl:SF)(j5:SF)(ju:SF)(jg:SF)(my:SF):SS :=
 (iz (sIf (sT (s2 hEq (s2 gIx (sV 0) (sC (.int 0))) (sC (.str "one"))))
 (oh (sZ (sA (a2f "Patch" 5 bh) (ak (sZ (sA uw (ak (s2 gIx (sV 0) (sC (.int 1))) dq))) (ak (sZ (sA uw (ak (sV 1) dq))) (ak (sZ (sA uw dq)) (ak (sZ (sA uw (ak (sV 1) dq))) (ak (sC (.bl false)) dq))))))))
 sNx)
 (iz (sIf (sT (s2 hEq (s2 gIx (sV 0) (sC (.int 0))) (sC (.str "row"))))
 (oh (sA (je false 1 jl) (ak (sA (je false 2 my) (ak (s2 gIx (sV 0) (sC (.int 1))) (ak (sV 1) dq))) dq)))
 sNx)
 (iz (sIf (sT (s2 hEq (s2 gIx (sV 0) (sC (.int 0))) (sC (.str "either"))))
 (oh (sA (je false 1 ju) (ak (sA (je false 2 my) (ak (s2 gIx (sV 0) (sC (.int 1))) (ak (sV 1) dq))) dq)))
 sNx)
 (iz (sIf (sT (s2 hEq (s2 gIx (sV 0) (sC (.int 0))) (sC (.str "many"))))
 (oh (sA (je false 1 m9) (ak (sA (je false 2 j5) (ak (s2 gIx (sV 0) (sC (.int 1))) (ak (sV 1) dq))) dq)))
 sNx)
 (oh (sA (je false 2 jg) (ak (sA (je false 2 my) (ak (sZ (s2 yp (sZ (sA uw (ak (s2 gIx (sV 0) (sC (.int 1))) dq))) (s2 gIx (sV 0) (sC (.int 3))))) (ak (sV 1) dq))) (ak (s2 gIx (sV 0) (sC (.int 2))) dq))))))))
noncomputable def vq(j5:SF):SS :=
 (iz (nu 5 (sA (je false 2 j5) (ak (sV 4) (ak (sV 3) dq))))
 (iz (yr (sML agv (sV 2) (ak (sV 5) dq)))
 (ab5 3 a0j (sA a2p (ak (s1 (qw "Patch" "signs") (sV 5)) dq)))))
noncomputable def yc(j5:SF):SS :=
 (iz (nu 2 (sA uw dq))
 (iz (nu 3 (sV 1))
 (iz (a6m (sIt (sV 0)) (kN 4) (vq j5))
 (oh (sV 2)))))
noncomputable def adf(bh:SF):SE :=
 (sA yh (ak (sV 0) (ak (sV 1) dq)))
noncomputable def a6t(bh:SF):SS :=
 (iz (nu 2 (aed (a1n (s1 (qw "Patch" "empty") (sV 0))) (sZ (s2 iu (s1 (qw "Patch" "firsts") (sV 0)) (s1 (qw "Patch" "firsts") (sV 1)))) (s1 (qw "Patch" "firsts") (sV 0))))
 (iz (nu 3 (aed (a1n (s1 (qw "Patch" "empty") (sV 1))) (sZ (s2 iu (s1 (qw "Patch" "lasts") (sV 0)) (s1 (qw "Patch" "lasts") (sV 1)))) (s1 (qw "Patch" "lasts") (sV 1))))
 (iz (nu 4 (sZ (adc (sIt (s1 (qw "Patch" "lasts") (sV 0))) (sIt (s1 (qw "Patch" "firsts") (sV 2))) an7 (adf bh) [1])))
 (oh (sZ (sA (a2f "Patch" 5 bh) (ak (sZ (s2 iu (s1 (qw "Patch" "signs") (sV 0)) (s1 (qw "Patch" "signs") (sV 1)))) (ak (sV 2) (ak (sZ (s2 iu (sZ (s2 iu (s1 (qw "Patch" "pairs") (sV 0)) (sV 4))) (s1 (qw "Patch" "pairs") (sV 1)))) (ak (sV 3) (ak (a0y (s1 (qw "Patch" "empty") (sV 0)) (s1 (qw "Patch" "empty") (sV 1))) dq)))))))))))
noncomputable def qz(bh:SF)(m8:SF):SS :=
 (nu 1 (sA (je false 2 m8) (ak (sV 1) (ak (sV 2) dq))))
noncomputable def vy(bh:SF)(m8:SF):SS :=
 (iz (nu 1 (sZ (sA (a2f "Patch" 5 bh) (ak (sZ (sA uw dq)) (ak (sZ (sA uw dq)) (ak (sZ (sA uw dq)) (ak (sZ (sA uw dq)) (ak (sC (.bl true)) dq))))))))
 (iz (a6m (sIt (sV 0)) (kN 2) (qz bh m8))
 (oh (sV 1))))
noncomputable def uf(bh:SF):SS :=
 (iz (yr (sML a7k (s1 (qw "Patch" "signs") (sV 1)) (ak (s1 (qw "Patch" "signs") (sV 2)) dq)))
 (iz (yr (sML a7k (s1 (qw "Patch" "firsts") (sV 1)) (ak (s1 (qw "Patch" "firsts") (sV 2)) dq)))
 (iz (yr (sML a7k (s1 (qw "Patch" "pairs") (sV 1)) (ak (s1 (qw "Patch" "pairs") (sV 2)) dq)))
 (iz (yr (sML a7k (s1 (qw "Patch" "lasts") (sV 1)) (ak (s1 (qw "Patch" "lasts") (sV 2)) dq)))
 (a8c "Patch" "empty" (sV 1) (aao (s1 (qw "Patch" "empty") (sV 1)) (s1 (qw "Patch" "empty") (sV 2))))))))
noncomputable def xq(bh:SF):SS :=
 (iz (nu 1 (sA (a2f "Patch" 5 bh) (ak (sA uw dq) (ak (sA uw dq) (ak (sA uw dq) (ak (sA uw dq) (ak (sC (.bl false)) dq)))))))
 (iz (a6m (sIt (sV 0)) (kN 2) (uf bh))
 (oh (sV 1))))
noncomputable def a6j(bh:SF):SE :=
 (sA yh (ak (sV 0) (ak (sV 1) dq)))
noncomputable def yu(bh:SF):SS :=
 (iz (nu 1 (sZ (adc (sIt (s1 (qw "Patch" "lasts") (sV 0))) (sIt (s1 (qw "Patch" "firsts") (sV 2))) an7 (a6j bh) [0])))
 (oh (sZ (sA (a2f "Patch" 5 bh) (ak (s1 (qw "Patch" "signs") (sV 0)) (ak (s1 (qw "Patch" "firsts") (sV 0)) (ak (sZ (s2 iu (s1 (qw "Patch" "pairs") (sV 0)) (sV 1))) (ak (s1 (qw "Patch" "lasts") (sV 0)) (ak (sC (.bl true)) dq)))))))))
noncomputable def qm(bh:SF)(m8:SF):SS :=
 (iz (nu 2 (sA (je false 2 m8) (ak (s2 gIx (sV 0) (sV 3)) (ak (sV 2) dq))))
 (sIf (sT (s2 gGe (sV 3) (sV 1)))
 (nu 2 (sZ (sA (a2f "Patch" 5 bh) (ak (s1 (qw "Patch" "signs") (sV 2)) (ak (s1 (qw "Patch" "firsts") (sV 2)) (ak (s1 (qw "Patch" "pairs") (sV 2)) (ak (s1 (qw "Patch" "lasts") (sV 2)) (ak (sC (.bl true)) dq))))))))
 sNx))
noncomputable def ux(bh:SF)(m8:SF):SS :=
 (iz (nu 2 (sZ (sA (a2f "Patch" 5 bh) (ak (sZ (sA uw dq)) (ak (sZ (sA uw dq)) (ak (sZ (sA uw dq)) (ak (sZ (sA uw dq)) (ak (sC (.bl true)) dq))))))))
 (iz (a6m (sRg atc (ak (sA a2p (ak (sV 0) dq)) dq)) (kN 3) (qm bh m8))
 (oh (sV 2))))
noncomputable def a3c(aq:SF):SE :=
 (sV 0)
noncomputable def a0l(aq:SF):ST :=
 (a7b (a1n (sA (je false 1 aq) (ak (sV 0) dq))))
noncomputable def a3d(aq:SF):SE :=
 (sV 0)
noncomputable def a3e(aq:SF):ST :=
 (a1n (sA (je false 1 aq) (ak (sV 0) dq)))
noncomputable def zu(aq:SF):SS :=
 (iz (sIf (sT (s2 hEq (s2 gIx (sV 0) (sC (.int 0))) (sC (.str "one"))))
 (oh (sC (.bl false)))
 sNx)
 (iz (sIf (sT (s2 hEq (s2 gIx (sV 0) (sC (.int 0))) (sC (.str "row"))))
 (oh (s2 (ag3 false) (sZ (ut (sIt (s2 gIx (sV 0) (sC (.int 1)))) t1 (a0l aq) (a3c aq) [])) (sZ (sA uw dq))))
 sNx)
 (iz (sIf (sT (s2 hEq (s2 gIx (sV 0) (sC (.int 0))) (sC (.str "either"))))
 (oh (s2 (ag3 true) (sZ (ut (sIt (s2 gIx (sV 0) (sC (.int 1)))) t1 (a3e aq) (a3d aq) [])) (sZ (sA uw dq))))
 sNx)
 (oh (aao (s2 hEq (s2 gIx (sV 0) (sC (.int 0))) (sC (.str "many"))) (aao (s2 hEq (s2 gIx (sV 0) (sC (.int 2))) (sC (.int 0))) (sA (je false 1 aq) (ak (s2 gIx (sV 0) (sC (.int 1))) dq))))))))
noncomputable def a2w:SS :=
 (iz (sIf (sT (s2 (gIn false) (s2 gIx (sV 0) (sC (.int 0))) (sA yh (ak (sC (.str "row")) (ak (sC (.str "either")) dq)))))
 (oh (s2 gIx (sV 0) (sC (.int 1))))
 sNx)
 (iz (sIf (sT (s2 hEq (s2 gIx (sV 0) (sC (.int 0))) (sC (.str "many"))))
 (oh (sA yh (ak (s2 gIx (sV 0) (sC (.int 1))) dq)))
 sNx)
 (oh (s2 agj (sA yh (ak (s2 gIx (sV 0) (sC (.int 1))) dq)) (s2 gIx (sV 0) (sC (.int 3)))))))
noncomputable def pq(bj:SF)(aq:SF)(bz:SF)(aj:SF):SS :=
 (iz (sIf (a1n (sA (je false 3 bj) (ak (sV 3) (ak (sV 1) (ak (sV 2) dq)))))
 (oh (sC (.bl true)))
 sNx)
 (iz (sIf (a7a (sT (s2 hNe (s2 gIx (sV 0) (sC (.int 0))) (sC (.str "either")))) (a7b (a1n (sA (je false 1 aq) (ak (sV 3) dq)))))
 (oh (sC (.bl false)))
 sNx)
 (ab5 1 a0j (sA (je false 1 aj) (ak (sV 3) dq)))))
noncomputable def ye(bj:SF)(aq:SF)(bz:SF)(aj:SF):SS :=
 (iz (sIf (a7b (sT (sCh gLt gLe (sV 1) (sV 2) (s2 iu (sV 1) (sA (je false 1 aj) (ak (sV 0) dq))))))
 (oh (sC (.bl false)))
 sNx)
 (iz (sIf (sT (s2 hEq (s2 gIx (sV 0) (sC (.int 0))) (sC (.str "one"))))
 (oh (sC (.bl true)))
 sNx)
 (iz (a6m (sIt (sA (je false 1 bz) (ak (sV 0) dq))) (kN 3) (pq bj aq bz aj))
 (oh (sC (.bl false))))))
noncomputable def a1h(aq:SF)(bu:SF)(bz:SF)(aj:SF):SE :=
 (sV 0)
noncomputable def yw(aq:SF)(bu:SF)(bz:SF)(aj:SF):ST :=
 (a7b (a1n (sA (je false 1 aq) (ak (sV 0) dq))))
noncomputable def ug(aq:SF)(bu:SF)(bz:SF)(aj:SF):SS :=
 (iz (sIf (sT (sCh gLt gLe (sV 1) (sV 2) (s2 iu (sV 1) (sA (je false 1 aj) (ak (sV 5) dq)))))
 (iz (nu 6 (s2 (ag3 false) (sZ (ut (sIt (a8p (sV 3) (oS (s2 iu (sV 4) (sC (.int 1)))) oN)) t1 (yw aq bu bz aj) (a1h aq bu bz aj) [])) (sZ (sA uw dq))))
 (iz (sIf (sOr (a7a (sT (s2 hEq (s2 gIx (sV 0) (sC (.int 0))) (sC (.str "times")))) (sT (s2 gGe (s2 iu (sV 4) (sC (.int 1))) (s2 gIx (sV 0) (sC (.int 2)))))) (sT (s2 hEq (s2 gIx (sV 0) (sC (.int 0))) (sC (.str "either")))))
 (nu 6 (sC (.bl true)))
 sNx)
 (oh (a0y (sV 6) (sA (je false 3 bu) (ak (sV 5) (ak (sV 1) (ak (sV 2) dq))))))))
 sNx)
 (ab5 1 a0j (sA (je false 1 aj) (ak (sV 5) dq))))
noncomputable def a0t(aq:SF)(bu:SF)(bz:SF)(aj:SF):SS :=
 (iz (sIf (a7b (sT (sCh gLt gLe (sV 1) (sV 2) (s2 iu (sV 1) (sA (je false 1 aj) (ak (sV 0) dq))))))
 (oh (sC (.bl false)))
 sNx)
 (iz (sIf (sT (s2 hEq (s2 gIx (sV 0) (sC (.int 0))) (sC (.str "one"))))
 (oh (sC (.bl true)))
 sNx)
 (iz (nu 3 (sA (je false 1 bz) (ak (sV 0) dq)))
 (iz (a6m (ad5 (sV 3)) (ali 2 (a5g (kN 4) (a5g (kN 5) aod))) (ug aq bu bz aj))
 agw))))
noncomputable def uy(bj:SF)(aq:SF)(bu:SF)(bw:SF)(bz:SF)(aj:SF):SS :=
 (iz (nu 7 (sA (je false 1 aj) (ak (sV 6) dq)))
 (iz (sIf (a7a (sT (sCh gLt gLe (sV 1) (sV 2) (s2 iu (sV 1) (sV 7)))) (sT (sCh gLt gLe (sV 1) (sV 3) (s2 iu (sV 1) (sV 7)))))
 (nu 4 (aao (sV 4) (sA (je false 4 bw) (ak (sV 6) (ak (sV 1) (ak (sV 2) (ak (sV 3) dq)))))))
 sNx)
 (iz (sIf (a7a (sT (s2 hEq (s2 gIx (sV 0) (sC (.int 0))) (sC (.str "many")))) (a7a (a1n (sA (je false 3 bu) (ak (sV 6) (ak (sV 1) (ak (sV 2) dq))))) (a1n (sA (je false 3 bj) (ak (sV 6) (ak (sV 1) (ak (sV 3) dq)))))))
 (nu 4 (sC (.bl true)))
 sNx)
 (iz (sIf (a7a (a1n (sV 5)) (a1n (sA (je false 3 bj) (ak (sV 6) (ak (sV 1) (ak (sV 3) dq))))))
 (nu 4 (sC (.bl true)))
 sNx)
 (iz (nu 5 (aao (a0y (sV 5) (sA (je false 1 aq) (ak (sV 6) dq))) (a0y (s2 hNe (s2 gIx (sV 0) (sC (.int 0))) (sC (.str "either"))) (sA (je false 3 bu) (ak (sV 6) (ak (sV 1) (ak (sV 2) dq)))))))
 (ab5 1 a0j (sV 7)))))))
noncomputable def vz(bj:SF)(aq:SF)(bu:SF)(bw:SF)(bz:SF)(aj:SF):SS :=
 (iz (sIf (sT (s2 hEq (s2 gIx (sV 0) (sC (.int 0))) (sC (.str "one"))))
 (oh (sC (.bl false)))
 sNx)
 (iz (nu 4 (sC (.bl false)))
 (iz (nu 5 (sC (.bl false)))
 (iz (a6m (sIt (sA (je false 1 bz) (ak (sV 0) dq))) (kN 6) (uy bj aq bu bw bz aj))
 (oh (sV 4))))))
noncomputable def a2i:SS :=
 (sIf (sOr (a7b (a1n (sA a2d (ak (sV 1) (ak (sC (.ty "int")) dq))))) (a1n (sA a2d (ak (sV 1) (ak (sC (.ty "bool")) dq)))))
 agw
 sNx)
noncomputable def a4k:SS :=
 (iz (sIf (a7b (a1n (sA a2d (ak (sV 0) (ak (sC (.ty "tuple")) dq)))))
 agw
 sNx)
 (iz (a6m (sIt (sV 0)) (kN 1) a2i)
 (oh (sC (.bl true)))))
noncomputable def a3f:SE :=
 (sV 0)
noncomputable def a3g:ST :=
 (a7b (a1n (sA a2d (ak (sV 0) (ak (sC (.ty "str")) dq)))))
noncomputable def a1i:SS :=
 (oh (a0y (sA a2d (ak (sV 0) (ak (sC (.ty "tuple")) dq))) (s2 (ag3 false) (sZ (ut (sIt (sV 0)) t1 a3g a3f [])) (sZ (sA uw dq)))))
noncomputable def a2j(o9:SF)(jo:SF):SE :=
 (sV 0)
noncomputable def a2k(o9:SF)(jo:SF):ST :=
 (a7b (a1n (sA (je false 1 o9) (ak (sV 0) dq))))
noncomputable def a0e(o9:SF)(jo:SF):SS :=
 (iz (sIf (sOr (a7b (a1n (sA a2d (ak (sV 0) (ak (sC (.ty "tuple")) dq))))) (sT (s2 hNe (sA a2p (ak (sV 0) dq)) (sC (.int 3)))))
 agw
 sNx)
 (iz (sIf (sOr (a7b (a1n (sA (je false 1 jo) (ak (s2 gIx (sV 0) (sC (.int 0))) dq)))) (sOr (a7b (a1n (sA (je false 1 o9) (ak (s2 gIx (sV 0) (sC (.int 2))) dq)))) (a7b (a1n (sA a2d (ak (s2 gIx (sV 0) (sC (.int 1))) (ak (sC (.ty "tuple")) dq)))))))
 agw
 sNx)
 (oh (s2 (ag3 false) (sZ (ut (sIt (s2 gIx (sV 0) (sC (.int 1)))) t1 (a2k o9 jo) (a2j o9 jo) [])) (sZ (sA uw dq))))))
noncomputable def a0m(bz:SF)(dj:SF):SS :=
 (ab5 1 abu (sA (je false 1 dj) (ak (sV 2) dq)))
noncomputable def zx(bz:SF)(dj:SF):SS :=
 (iz (sIf (sT (s2 hEq (s2 gIx (sV 0) (sC (.int 0))) (sC (.str "one"))))
 (oh (sA uw (ak (s2 gIx (sV 0) (sC (.int 1))) dq)))
 sNx)
 (iz (nu 1 (sA uw dq))
 (iz (a6m (sIt (sA (je false 1 bz) (ak (sV 0) dq))) (kN 2) (a0m bz dj))
 (oh (sV 1)))))
noncomputable def a66(bj:SF)(aq:SF)(bu:SF)(bw:SF)(dj:SF)(aj:SF):SE :=
 (sV 0)
noncomputable def a67(bj:SF)(aq:SF)(bu:SF)(bw:SF)(dj:SF)(aj:SF):ST :=
 (a1n (sA (je false 3 bj) (ak (sV 1) (ak (sC (.int 0)) (ak (sV 0) dq)))))
noncomputable def a68(bj:SF)(aq:SF)(bu:SF)(bw:SF)(dj:SF)(aj:SF):SE :=
 (sV 0)
noncomputable def a69(bj:SF)(aq:SF)(bu:SF)(bw:SF)(dj:SF)(aj:SF):ST :=
 (a1n (sA (je false 4 bw) (ak (sV 1) (ak (sC (.int 0)) (ak (sV 2) (ak (sV 0) dq))))))
noncomputable def a6a(bj:SF)(aq:SF)(bu:SF)(bw:SF)(dj:SF)(aj:SF):SS :=
 (yr (sML agv (sV 2) (ak (sA qy (ak (sZ (ut (sRg a5h (ak (sC (.int 1)) (ak (s2 iu (sV 1) (sC (.int 1))) dq))) t1 (a69 bj aq bu bw dj aj) (a68 bj aq bu bw dj aj) [0,3])) dq)) dq)))
noncomputable def a6b(bj:SF)(aq:SF)(bu:SF)(bw:SF)(dj:SF)(aj:SF):SE :=
 (sV 0)
noncomputable def a6c(bj:SF)(aq:SF)(bu:SF)(bw:SF)(dj:SF)(aj:SF):ST :=
 (a1n (sA (je false 3 bu) (ak (sV 1) (ak (sC (.int 0)) (ak (sV 0) dq)))))
noncomputable def a4l(bj:SF)(aq:SF)(bu:SF)(bw:SF)(dj:SF)(aj:SF):SS :=
 (iz (nu 1 (sA (je false 1 aj) (ak (sV 0) dq)))
 (iz (nu 2 (sA uw (ak (sA qy (ak (sZ (ut (sRg a5h (ak (sC (.int 1)) (ak (s2 iu (sV 1) (sC (.int 1))) dq))) t1 (a67 bj aq bu bw dj aj) (a66 bj aq bu bw dj aj) [0])) dq)) dq)))
 (iz (a6m (sRg a5h (ak (sC (.int 1)) (ak (s2 iu (sV 1) (sC (.int 1))) dq))) (kN 3) (a6a bj aq bu bw dj aj))
 (iz (nu 4 (sZ (ut (sRg a5h (ak (sC (.int 1)) (ak (s2 iu (sV 1) (sC (.int 1))) dq))) t1 (a6c bj aq bu bw dj aj) (a6b bj aq bu bw dj aj) [0])))
 (iz (sIf (a1n (sA (je false 1 aq) (ak (sV 0) dq)))
 (nu 4 (sZ (s2 iu (sZ (sA uw (ak (sC (.int 0)) dq))) (sV 4))))
 sNx)
 (oh (sA yh (ak (sA qy (ak (sZ (s2 iu (sZ (sA uw (ak (sC (.str "")) dq))) (sA (je false 1 dj) (ak (sV 0) dq)))) dq)) (ak (sA qy (ak (sV 2) dq)) (ak (sA qy (ak (sV 4) dq)) dq))))))))))
noncomputable def yx(qp:SF):SS :=
 (iz (nu 1 (sC (.bl false)))
 (iz (avs 2 a1f
 (yr (sA (a7m 1 qp) (qA (ak (sV 0) dq))))
 (iz (nu 1 (a0y (agx 2 a2v) (agx 2 a0b)))
 (sIf (a1n (agx 2 j8))
 agw
 sNx)))
 (oh (sV 1))))
noncomputable def a2x(a03:SF)(uc:SF)(qt:SF)(aj:SF)(qp:SF):SS :=
 (iz (sIf (sT (s2 gGt (sA (je false 1 aj) (ak (sV 0) dq)) (sC (.int 10))))
 (oh (sA (je false 1 qt) (ak (sV 0) dq)))
 sNx)
 (iz (nu 1 (sA (a7m 1 qp) (ak (sV 0) dq)))
 (oh (a0y (sA (je false 1 uc) (ak (sV 1) dq)) (s2 hEq (sV 1) (sA (je false 1 a03) (ak (sV 0) dq)))))))
noncomputable def aa3(cz:SF)(gw:SF)(jy:SF)(qd:SF)(mj:SF):SS :=
 (sIf (a7b (a1n (sA (je false 1 qd) (ak (sV 6) dq))))
 agw
 sNx)
noncomputable def an8(cz:SF)(gw:SF)(jy:SF)(qd:SF)(mj:SF):SS :=
 (iz (nu 1 (sA (je true 1 jy) (ak (sV 0) dq)))
 (iz (nu 2 (s2 gIx (sA yh (ak (sC (.int 10)) (ak (sC (.int 10)) (ak (sC (.int 10)) (ak (sC (.int 10)) (ak (sC (.int 40)) dq)))))) (sA (je false 2 cz) (ak (sV 1) (ak (sC (.int 5)) dq)))))
 (iz (nu 3 (sA (je false 1 mj) (ak (sV 1) dq)))
 (iz (nu 4 (sA (je false 5 gw) (ak (sV 1) (ak (sV 3) (ak (sC (.int 5)) (ak (sC (.int 10)) (ak (sA uw (ak (sC (.int 24)) dq)) dq)))))))
 (iz (nu 5 (sA (je false 5 gw) (ak (sV 1) (ak (sV 3) (ak (s2 iu (sC (.int 1)) (sA (je false 2 cz) (ak (sV 1) (ak (sC (.int 5)) dq)))) (ak (sV 2) (ak (sA uw (ak (sC (.int 24)) dq)) dq)))))))
 (iz (a6m (sIt (sA yh (ak (sV 4) (ak (sV 5) (ak (sV 4) dq))))) (kN 6) (aa3 cz gw jy qd mj))
 (oh (sC (.bl true)))))))))
end K11
namespace MI
open L2
theorem gh(ha:ME X E a fa)(hb:ME X E b fb)(hp:a9e b:=by exact λ_ _=>rfl):ME X E (.Subscript a b pos) (s2 gIx fa fb):=a5j ha hb hp
theorem jm(i:Nat)(hN:X.N.Nodup)(he:ME X E e fa)(hi:X.N[i]? = some x:=by rfl)(hx:Loc X.env.scope x:=by first|exact Or.inl rfl|exact Or.inr rfl)(hs:swapsWith e (some (.Name x pos')) pos.line X.env=pure false:=by rfl)(hf:X.fn x=true\/X.env.scope.names.lookup x=some .local:=by first|exact .inl rfl|exact .inr rfl|assumption) :
  MS X E (.Assign [.Name x pos'] e pos) (nu i fa):=auu hN hi hx he hs hf
theorem j4{X:Cx}(G:Dn X.prog X.w X.K X.mg X.base k x ps (m5 X.K n F) f fd)(hr:Room k' X.A)(hk:k<=k')(ha:MA X X0 (e::es) ka)(hg:Gl X x:=by rfl)
  (hdb:(x == ("__debug__" : Str))=false:=by decide) (he:starEach (e::es) X.env=(false,eval e X.env)::starEach es X.env:=by rfl) (hpl:(backTo pos (starEach es X.env)).any (·.1)=false:=by rfl):ME X X0 (.Call (.Name x p) (e::es) [] pos) (sA (je false n F) ka):=aem false G (hr.mono hk) hg ha hdb he hpl
theorem a6d(hm:X.mg "len" = none)(ha:MA X E [e] ka)(hg:Gl X "len":=by rfl)(he:starEach [e] X.env=(false,eval e X.env)::starEach [] X.env:=by rfl)(hpl:(backTo pos (starEach [] X.env)).any (·.1)=false:=by rfl):ME X E (.Call (.Name "len" p) [e] [] pos) (sA a2p ka) :=
 a5f (L2.CallR.or ab0 ab1) aqj hg hm auo ha (by decide) (by decide) he hpl
theorem a0u(ho:OpR X (compareOp op) r)(hs:a1w X.K g r)(ha:ME X E a fa)(hb:ME X E b fb)(hm:behindInMarks op b=false:=by exact yz _):MT X E (.Compare a [op] [b] pos) (sT (s2 g fa fb)):=a3l ho hs ha hb hm
theorem qe(hu:X.A.units+64<cLine)(ha:ME X E a fa)(hb:ME X E b fb):MT X E (.Compare a [.Eq] [b] pos) (sT (s2 hEq fa fb)):=a3l (a7g hu) a3m ha hb (yz _)
theorem pgn(i:Nat)(hN:N.Nodup:=by decide +kernel)(hi:N[i]? = some x:=by rfl)(hx:∀C fp s H,Loc (cxC X N scope cl C fp s H).env.scope x:=by exact λ_ _ _ _=>Or.inl rfl)(hf:∀C fp s H,(cxC X N scope cl C fp s H).fn x=true\/(cxC X N scope cl C fp s H).env.scope.names.lookup x=some .local:=by exact λ_ _ _ _=>.inr rfl) :
  ∀C fp s H,PG (cxC X N scope cl C fp s H) (.Name x pos) (a04 i):=λC fp s H=>ack (X:=cxC X N scope cl C fp s H) hN hi (hx C fp s H) (hf C fp s H)
theorem pgm(i:Nat)(hN:N.Nodup:=by decide +kernel)(hi:N[i]? = some x:=by rfl)(hx:Loc (cxC X N scope cl C fp s H).env.scope x:=by exact Or.inl rfl)(hf:(cxC X N scope cl C fp s H).fn x=true\/(cxC X N scope cl C fp s H).env.scope.names.lookup x=some .local:=by exact .inr rfl) :
  PG (cxC X N scope cl C fp s H) (.Name x pos) (a04 i):=ack (X:=cxC X N scope cl C fp s H) hN hi hx hf
def allP(P:α->Prop):List α->Prop
 |[]=>True
 |a::l=>P a/\allP P l
theorem allP.mem{P:α->Prop}:∀{l:List α},allP P l->∀a∈l,P a
 |b::l,h,a,m=>by
  rcases aD.mp m with rfl|m
  ·exact h.1
  ·exact h.2.mem a m
theorem agm{X:Cx}(ts fr:List Str)(ix:List Nat)(clos:closureFor scope X.env=pure cl:=by rfl)(kind:scope.kind=.function:=by rfl)
  (nocell:(scope.names.all λp=>p.2 != .cell)=true:=by rfl) (names:(scope.names.all λp=>p.2 != .local || scope.names.lookup p.1 == some .local)=true:=by rfl) (sub:allP (λp=>X.env.cells.lookup p.1=some p.2) cl:=by repeat' constructor)
  (has:((relabel scope X.env).names.all λp => !(p.2 == .cell || p.2 == .free) || (cl.lookup p.1).isSome)=true:=by rfl) (nofn:(ts.all λy=>(relabel scope X.env).names.lookup y == some .local)=true:=by rfl)
  (len:ix.length=fr.length:=by rfl) (vis:((fr.zip ix).all λp=>X.N[p.2]? == some p.1 && (X.env.kindOf p.1 == some .cell || X.env.kindOf p.1 == some .free) && ((relabel scope X.env).names.lookup p.1 == some .cell || (relabel scope X.env).names.lookup p.1 == some .free))=true:=by rfl) :
  CSc X scope cl ts fr ix:=.of clos kind nocell names sub.mem has nofn len vis
theorem aby{scope:Scope}(ts:List Str)(kind:scope.kind=.function:=by rfl)(h:∀y∈scope.names,y.2≠.cell/\y.2≠.free:=by decide +kernel)(names:∀y∈scope.names,y.2=.local->scope.names.lookup y.1=some .local:=by decide +kernel)
  (ht:∀y∈ts,scope.names.lookup y=some .local:=by decide +kernel):CSc X scope [] ts [] []:=.noFree kind h names ht
section
variable{α:Type}{us:List α}
theorem len0{P:List α->Prop}(h:us.length=0)(k:P []):P us:=by cases us with|nil=>exact k|cons _ _=>cases h
theorem agn{P:List α->Prop}(h:us.length=n+1)(k:∀a vs,vs.length=n->P (a::vs)):P us:=by cases us with|nil=>cases h|cons a vs=>exact k a vs (i4 h)
theorem b0o{P:List α->Prop}(h:us.length=1)(k:∀a,P [a]):P us:=agn h λa _ h=>len0 (P:=λus=>P (a::us)) h (k a)
theorem b0p{P:List α->Prop}(h:us.length=2)(k:∀a b,P [a,b]):P us:=agn h λa _ h=>b0o (P:=λus=>P (a::us)) h (k a)
theorem b0q{P:List α->Prop}(h:us.length=3)(k:∀a b c,P [a,b,c]):P us:=agn h λa _ h=>b0p (P:=λus=>P (a::us)) h (k a)
theorem b0r{P:List α->Prop}(h:us.length=4)(k:∀a b c d,P [a,b,c,d]):P us:=agn h λa _ h=>b0q (P:=λus=>P (a::us)) h (k a)
theorem b0s{P:List α->Prop}(h:us.length=5)(k:∀a b c d e,P [a,b,c,d,e]):P us:=agn h λa _ h=>b0r (P:=λus=>P (a::us)) h (k a)
theorem b2a{P:List α->Prop}(h:us.length=6)(k:∀a b c d e f,P [a,b,c,d,e,f]):P us:=agn h λa _ h=>b0s (P:=λus=>P (a::us)) h (k a)
end
end MI
namespace K11
open L2 MI
def cst(s:Stmt)(j:Nat):Stmt:=match s with
 |.ClassDef _ _ _ b _ _ _ _ _ _ _=>b.getD j (.Pass ⟨0,0,0,0⟩)
 |_=>s
def top(i:Nat):Stmt:=PySem.Challenge.pw_nearreach_k11_spreads.main.body.getD i (.Pass ⟨0,0,0,0⟩)
structure Nm (mg:Str->Option Value):Prop where
 ValueError:mg "ValueError" = none
 abs:mg "abs" = none
 bool:mg "bool" = none
 enumerate:mg "enumerate" = none
 int:mg "int" = none
 isinstance:mg "isinstance" = none
 len:mg "len" = none
 max:mg "max" = none
 range:mg "range" = none
 reversed:mg "reversed" = none
 set:mg "set" = none
 sorted:mg "sorted" = none
 str:mg "str" = none
 sum:mg "sum" = none
 tuple:mg "tuple" = none
structure Cn (mg:Str->Option Value):Prop where
 HEAVIEST:∃t,mg "HEAVIEST" = some (.int 10 t)
structure Xn (K:PySem.W.Frag) (mg:Str->Option Value) (y_TooHeavy y_ReachError y_NoBook y_NoPlace y_NoShape y_TooMany:Addr):Prop where
 g_TooHeavy:mg "TooHeavy" = some (.ref y_TooHeavy)
 g_ReachError:mg "ReachError" = some (.ref y_ReachError)
 g_NoBook:mg "NoBook" = some (.ref y_NoBook)
 g_NoPlace:mg "NoPlace" = some (.ref y_NoPlace)
 g_NoShape:mg "NoShape" = some (.ref y_NoShape)
 g_TooMany:mg "TooMany" = some (.ref y_TooMany)
 n_TooHeavy:PySem.W.nsIn K mainGlobals "TooHeavy" = some (some (.ref y_TooHeavy))
 c_TooHeavy:XCls K y_TooHeavy
 k_TooHeavy:XKit K y_TooHeavy
 e_TooHeavy_ReachError:PySem.W.exmOne K (.ref y_TooHeavy) (.ref y_ReachError)=some true
 i_TooHeavy_ValueError:PySem.W.kitOne K (.ref y_TooHeavy) (.type "ValueError")=some true
 i_TooHeavy_TooHeavy:PySem.W.kitOne K (.ref y_TooHeavy) (.ref y_TooHeavy)=some true
 i_TooHeavy_NoBook_NoPlace_NoShape_TooMany:PySem.W.kitAny K (.ref y_TooHeavy) [.ref y_NoBook,.ref y_NoPlace,.ref y_NoShape,.ref y_TooMany]=some false
section
variable{K:PySem.W.Frag}{mg:Str->Option Value}{y_TooHeavy y_ReachError y_NoBook y_NoPlace y_NoShape y_TooMany:Addr}
theorem a8d(Z:Xn K mg y_TooHeavy y_ReachError y_NoBook y_NoPlace y_NoShape y_TooMany):∀c,a1f c=true->∃C,mg c=some (.ref C)/\PySem.W.nsIn K mainGlobals c=some (some (.ref C))/\PySem.W.exmOne K (.ref C) (.ref y_ReachError)=some true:=by
 intro c h
 simp only [a1f,bL,cP] at h;subst h
 ·exact ⟨_,Z.g_TooHeavy,Z.n_TooHeavy,Z.e_TooHeavy_ReachError⟩
theorem aa4(Z:Xn K mg y_TooHeavy y_ReachError y_NoBook y_NoPlace y_NoShape y_TooMany):∀c b C,a0b c=some b->PySem.W.nsIn K mainGlobals c=some (some (.ref C))->XKit K C/\PySem.W.kitOne K (.ref C) (.type "ValueError")=some b:=by
 intro c b C h q
 unfold a0b at h
 by_cases e_TooHeavy:c = "TooHeavy"
 ·subst e_TooHeavy;rw [aC rfl] at h;cases h;cases Z.n_TooHeavy.symm.trans q;exact ⟨Z.k_TooHeavy,Z.i_TooHeavy_ValueError⟩
 rw [aQ e_TooHeavy] at h;cases h
theorem adg(Z:Xn K mg y_TooHeavy y_ReachError y_NoBook y_NoPlace y_NoShape y_TooMany):∀c b C,a2v c=some b->PySem.W.nsIn K mainGlobals c=some (some (.ref C))->XKit K C/\PySem.W.kitOne K (.ref C) (.ref y_TooHeavy)=some b:=by
 intro c b C h q
 unfold a2v at h
 by_cases e_TooHeavy:c = "TooHeavy"
 ·subst e_TooHeavy;rw [aC rfl] at h;cases h;cases Z.n_TooHeavy.symm.trans q;exact ⟨Z.k_TooHeavy,Z.i_TooHeavy_TooHeavy⟩
 rw [aQ e_TooHeavy] at h;cases h
theorem wg(Z:Xn K mg y_TooHeavy y_ReachError y_NoBook y_NoPlace y_NoShape y_TooMany):∀c b C,j8 c=some b->PySem.W.nsIn K mainGlobals c=some (some (.ref C))->XKit K C/\PySem.W.kitAny K (.ref C) ([y_NoBook,y_NoPlace,y_NoShape,y_TooMany].map Value.ref)=some b:=by
 intro c b C h q
 unfold j8 at h
 by_cases e_TooHeavy:c = "TooHeavy"
 ·subst e_TooHeavy;rw [aC rfl] at h;cases h;cases Z.n_TooHeavy.symm.trans q;exact ⟨Z.k_TooHeavy,Z.i_TooHeavy_NoBook_NoPlace_NoShape_TooMany⟩
 rw [aQ e_TooHeavy] at h;cases h
end
section
variable{P:Program}{w:World}{K:PySem.W.Frag}{mg:Str->Option Value}{base:Heap}{f:Addr}
def MD(P:Program)(w:World)(K:PySem.W.Frag)(mg:Str->Option Value)(base:Heap)(f:Addr)(k:Nat)(N:List Str)(x:Str)(t:Stmt)(b:SS):Prop:=∀(cdv:Value) (A:Around) (outer:List Env) (s:Shared) (H:Hp) (E:XK),Room k (A.deeper (PyProof.Rows.envOfC x (dh t) s.heap.objs.size f cdv))->MSs (agu CX0 P w K mg base N x (dh t) f cdv A outer s H E).nox X0 (uh t) b
local macro_rules|`(tactic|walk_at "sc") => `(tactic|exact ⟨rfl,rfl,rfl,by decide +kernel,rfl,by decide +kernel,by decide +kernel⟩)
theorem b0t:FnScope ["numbers"] ["numbers"] (dh (top 8)):=by walk_at "sc"
theorem m_0(M:Nm mg):MD P w K mg base f k ["numbers"] "rising" (top 8) (a6s):=λcdv A outer s H E hr =>
 have SC:=b0t
 (cu (ik (a0i (L2.CallR.or m7 (o8 rfl)) vm rfl M.tuple ud (aa (ym (arv rfl M.sorted rfl M.set rfl (cj 0))) bc))))
theorem b0u:FnScope ["shape"] ["shape"] (dh (top 11)):=by walk_at "sc"
theorem m_1:MD P w K mg base f k ["shape"] "inner" (top 11) (ENG.aa2):=λcdv A outer s H E hr =>
 have SC:=b0u
 (au (mz (a3l (a7g hr.u) a3m (a5j (cj 0) bf (λ_ _=>rfl)) jj (yz _))
 (cu (ik (vf bc)))
 ig)
 (au (mz (PW.pt (a9j (a3l (a7g hr.u) a3m (a5j (cj 0) bf (λ_ _=>rfl)) jj (yz _)) (a7c (a3l (a7g hr.u) a3m (a5j (cj 0) bf (λ_ _=>rfl)) jj (yz _)))))
 (cu (ik (a5j (cj 0) bf (λ_ _=>rfl))))
 ig)
 (cu (ik (vf (aa (a5j (cj 0) bf (λ_ _=>rfl)) bc))))))
theorem b0v:FnScope ["shape","parts"] ["shape"] (dh (top 12)):=by walk_at "sc"
theorem m_2(M:Nm mg)(D_1:Dn P w K mg base k_1 "inner" ["shape"] (m5 K 1 F_1) a_1 d_1)(h_1:k_1<=k)(D_2:Dn P w K mg base k_2 "weight" ["shape"] (m5 K 1 F_2) a_2 d_2)(h_2:k_2<=k):MD P w K mg base f k ["shape","parts"] "weight" (top 12) (a4i F_1 F_2):=λcdv A outer s H E hr =>
 have SC:=b0v
 (au (mz (qe hr.u (gh (cj 0) bf) jj)
 (cu (ik bf))
 ig)
 (au (jm 1 SC.nd (a5f (a5d rfl) ad1 rfl M.sum aii (aa (ym (ai4 rfl (aby ["part"]) (ur (j4 D_1 hr h_1 (aa (cj 0) bc))) (pgn 0) a2a (λ_ _ _ _=>(j4 D_2 hr h_2 (aa (cj 0) bc))))) bc)))
 (au (mz (qe hr.u (gh (cj 0) bf) jj)
 (cu (ik (a3n (gh (cj 0) bf) (cj 1))))
 ig)
 (cu (ik (cj 1))))))
theorem b0w:FnScope ["self","signs","firsts","pairs","lasts","empty"] ["self","signs","firsts","pairs","lasts","empty"] (dh (cst (top 14) 0)):=by walk_at "sc"
theorem m_3{k:Nat}{C_Patch:Addr}(Q_Patch:CK K mg "Patch" C_Patch ["signs","firsts","pairs","lasts","empty"])(cdv:Value)(A:Around)(outer:List Env)(s:Shared)(H:Hp)(E:XK)(hr:Room k (A.deeper (PyProof.Rows.envOfC "Patch.__init__" (dh (cst (top 14) 0)) s.heap.objs.size f cdv))):MSs (agu CX0 P w K mg base ["self","signs","firsts","pairs","lasts","empty"] "Patch.__init__" (dh (cst (top 14) 0)) f cdv A outer s H E).nox X0 (uh (cst (top 14) 0)) (a0c) :=
 have SC:=b0w
 (au (a8v Q_Patch (by decide +kernel) (cj 0) (cj 1))
 (au (a8v Q_Patch (by decide +kernel) (cj 0) (cj 2))
 (au (a8v Q_Patch (by decide +kernel) (cj 0) (cj 3))
 (au (a8v Q_Patch (by decide +kernel) (cj 0) (cj 4))
 (cu (a8v Q_Patch (by decide +kernel) (cj 0) (cj 5)))))))
theorem b0x:FnScope ["shape"] ["shape"] (dh (top 15)):=by walk_at "sc"
theorem m_4{k:Nat}(C:Cn mg){y_TooHeavy y_ReachError y_NoBook y_NoPlace y_NoShape y_TooMany:Addr}(Z:Xn K mg y_TooHeavy y_ReachError y_NoBook y_NoPlace y_NoShape y_TooMany){a_6:Addr}{d_6:FuncData}{k_6:Nat}{F_6:SF}(D_6:Dn P w K mg base k_6 "patch_of" ["shape","at"] (m5 K 2 F_6) a_6 d_6)(h_6:k_6<=k){a_5:Addr}{d_5:FuncData}{k_5:Nat}{F_5:SF}(D_5:Dn P w K mg base k_5 "patch_rows" ["patch"] (m5 K 1 F_5) a_5 d_5)(h_5:k_5<=k){a_2:Addr}{d_2:FuncData}{k_2:Nat}{F_2:SF}(D_2:Dn P w K mg base k_2 "weight" ["shape"] (m5 K 1 F_2) a_2 d_2)(h_2:k_2<=k)(cdv:Value)(A:Around)(outer:List Env)(s:Shared)(H:Hp)(E:XK)(hr:Room k (A.deeper (PyProof.Rows.envOfC "spread" (dh (top 15)) s.heap.objs.size f cdv))):MSs (cxE P w K mg base ["shape"] "spread" (dh (top 15)) f cdv A outer s H E) (aor mg E) (uh (top 15)) (a4j F_6 F_5 F_2) :=
 have SC:=b0x
 (au (mz (a0u al4 aef (a9v false D_2 (hr.mono h_2) rfl (aa (cj 0) bc)) (aqc rfl C.HEAVIEST.choose_spec))
 (cu (amg Z.c_TooHeavy rfl Z.g_TooHeavy (aa jj bc)))
 ig)
 (cu (ik (a9v false D_5 (hr.mono h_5) rfl (aa (a9v false D_6 (hr.mono h_6) rfl (aa (cj 0) (aa bf bc))) bc)))))
theorem b0y:FnScope ["patch","nexts","place","lasts"] ["patch"] (dh (top 16)):=by walk_at "sc"
theorem m_5(M:Nm mg)(Q_Patch:CK K mg "Patch" C_Patch ["signs","firsts","pairs","lasts","empty"])(D_0:Dn P w K mg base k_0 "rising" ["numbers"] (m5 K 1 F_0) a_0 d_0)(h_0:k_0<=k):MD P w K mg base f k ["patch","nexts","place","lasts"] "patch_rows" (top 16) (a0d F_0):=λcdv A outer s H E hr =>
 have SC:=b0y
 (au (jm 1 SC.nd (jx (aa (j4 D_0 hr h_0 (aa (jc Q_Patch (by decide +kernel) (cj 0)) bc)) bc)))
 (au (zf bI rfl (a7f rfl M.range (aa bf (aa (j7 (a6d M.len (aa (jc Q_Patch (by decide +kernel) (cj 0)) bc)) bf) bc))) (um (i:=2) SC.nd rfl (Or.inr rfl)) (cu (a1y (abb cy dW a3w a9m (cj 1) (aa (j4 D_0 hr h_0 (aa (ym (a06 rfl (agm ["one","other"] ["place"] [2]) (ur (jc Q_Patch (by decide +kernel) (cj 0))) (λ_ _ _ _=>ao2 rfl (a9a (pgm 0) (a9a (pgm 1) ah5))) auz (λ_ _ _ _=>(cj 1)) (λ_ _ _ _=>(qe hr.u (cj 0) (cj 2))))) bc)) bc)))))
 (au (jm 3 SC.nd (ai0 (ph (jc Q_Patch (by decide +kernel) (cj 0))) (ym (j7 (jc Q_Patch (by decide +kernel) (cj 0)) (ym (jx (aa bf bc))))) (jc Q_Patch (by decide +kernel) (cj 0))))
 (cu (ik (vf (aa (a0i (L2.CallR.or m7 (o8 rfl)) vm rfl M.tuple ud (aa (ym (j7 (ym (jx (aa jj bc))) (jc Q_Patch (by decide +kernel) (cj 0)))) bc)) (aa (a0i (L2.CallR.or m7 (o8 rfl)) vm rfl M.tuple ud (aa (cj 1) bc)) (aa (j4 D_0 hr h_0 (aa (cj 3) bc)) bc)))))))))
theorem b0z:FnScope ["shape","at"] ["shape","at"] (dh (top 17)):=by walk_at "sc"
theorem m_6(Q_Patch:CK K mg "Patch" C_Patch ["signs","firsts","pairs","lasts","empty"])(D_3:Di P w K mg base k_3 "Patch" C_Patch ["signs","firsts","pairs","lasts","empty"] ["self","signs","firsts","pairs","lasts","empty"] 5 F_3 a_3 d_3)(h_3:k_3+1<=k)(D_11:Dn P w K mg base k_11 "patch_again" ["patch"] (m5 K 1 F_11) a_11 d_11)(h_11:k_11<=k)(D_9:Dn P w K mg base k_9 "patch_in_turn" ["patches"] (m5 K 1 F_9) a_9 d_9)(h_9:k_9<=k)(D_6:Dn P w K mg base k_6 "patch_of" ["shape","at"] (m5 K 2 F_6) a_6 d_6)(h_6:k_6<=k)(D_10:Dn P w K mg base k_10 "patch_of_one" ["patches"] (m5 K 1 F_10) a_10 d_10)(h_10:k_10<=k)(D_12:Dn P w K mg base k_12 "patch_of_times" ["copies","low"] (m5 K 2 F_12) a_12 d_12)(h_12:k_12<=k)(D_7:Dn P w K mg base k_7 "patches_of" ["shapes","at"] (m5 K 2 F_7) a_7 d_7)(h_7:k_7<=k):MD P w K mg base f k ["shape","at"] "patch_of" (top 17) (ue F_3 F_11 F_9 F_6 F_10 F_12 F_7):=λcdv A outer s H E hr =>
 have SC:=b0z
 (au (mz (qe hr.u (gh (cj 0) bf) jj)
 (cu (ik (ym (ade D_3 hr h_3 (aa (ym (jx (aa (gh (cj 0) bf) bc))) (aa (ym (jx (aa (cj 1) bc))) (aa (ym (jx bc)) (aa (ym (jx (aa (cj 1) bc))) (aa zb bc)))))))))
 ig)
 (au (mz (qe hr.u (gh (cj 0) bf) jj)
 (cu (ik (j4 D_9 hr h_9 (aa (j4 D_7 hr h_7 (aa (gh (cj 0) bf) (aa (cj 1) bc))) bc))))
 ig)
 (au (mz (qe hr.u (gh (cj 0) bf) jj)
 (cu (ik (j4 D_10 hr h_10 (aa (j4 D_7 hr h_7 (aa (gh (cj 0) bf) (aa (cj 1) bc))) bc))))
 ig)
 (au (mz (qe hr.u (gh (cj 0) bf) jj)
 (cu (ik (j4 D_11 hr h_11 (aa (j4 D_6 hr h_6 (aa (gh (cj 0) bf) (aa (cj 1) bc))) bc))))
 ig)
 (cu (ik (j4 D_12 hr h_12 (aa (j4 D_7 hr h_7 (aa (ym (a3n (ym (jx (aa (gh (cj 0) bf) bc))) (gh (cj 0) bf))) (aa (cj 1) bc))) (aa (gh (cj 0) bf) bc)))))))))
theorem b11:FnScope ["shapes","at","patches","place","shape","patch"] ["shapes","at"] (dh (top 18)):=by walk_at "sc"
theorem m_7(M:Nm mg)(Q_Patch:CK K mg "Patch" C_Patch ["signs","firsts","pairs","lasts","empty"])(D_6:Dn P w K mg base k_6 "patch_of" ["shape","at"] (m5 K 2 F_6) a_6 d_6)(h_6:k_6<=k):MD P w K mg base f k ["shapes","at","patches","place","shape","patch"] "patches_of" (top 18) (yc F_6):=λcdv A outer s H E hr =>
 have SC:=b11
 (au (jm 2 SC.nd (jx bc))
 (au (jm 3 SC.nd (cj 1))
 (au (zf bI rfl (ur (cj 0)) (um (i:=4) SC.nd rfl (Or.inl rfl)) (au (jm 5 SC.nd (j4 D_6 hr h_6 (aa (cj 4) (aa (cj 3) bc))))
 (au (a1y (abb cy dW a3w a9m (cj 2) (aa (cj 5) bc)))
 (cu (a5w (i:=3) SC.nd rfl (Or.inl rfl) (a1t.or u5) a07 (a6d M.len (aa (jc Q_Patch (by decide +kernel) (cj 5)) bc)))))))
 (cu (ik (cj 2))))))
theorem b12:FnScope ["one","other","firsts","lasts","between"] ["one","other"] (dh (top 19)):=by walk_at "sc"
theorem m_8(Q_Patch:CK K mg "Patch" C_Patch ["signs","firsts","pairs","lasts","empty"])(D_3:Di P w K mg base k_3 "Patch" C_Patch ["signs","firsts","pairs","lasts","empty"] ["self","signs","firsts","pairs","lasts","empty"] 5 F_3 a_3 d_3)(h_3:k_3+1<=k):MD P w K mg base f k ["one","other","firsts","lasts","between"] "joined" (top 19) (a6t F_3):=λcdv A outer s H E hr =>
 have SC:=b12
 (au (jm 2 SC.nd (ai0 (ph (jc Q_Patch (by decide +kernel) (cj 0))) (ym (j7 (jc Q_Patch (by decide +kernel) (cj 0)) (jc Q_Patch (by decide +kernel) (cj 1)))) (jc Q_Patch (by decide +kernel) (cj 0))))
 (au (jm 3 SC.nd (ai0 (ph (jc Q_Patch (by decide +kernel) (cj 1))) (ym (j7 (jc Q_Patch (by decide +kernel) (cj 0)) (jc Q_Patch (by decide +kernel) (cj 1)))) (jc Q_Patch (by decide +kernel) (cj 1))))
 (au (abw (i:=4) SC.nd rfl (Or.inl rfl) (.inl rfl) rfl (agm ["last","first"] ["other"] [1]) (ur (jc Q_Patch (by decide +kernel) (cj 0))) (pgn 0) (λ_ _ _ _=>(ur (jc Q_Patch (by decide +kernel) (cj 2)))) (pgn 1) (λ_ _ _ _=>ajw) (λ_ _ _ _=>(vf (aa (cj 0) (aa (cj 1) bc)))))
 (cu (ik (ym (ade D_3 hr h_3 (aa (ym (j7 (jc Q_Patch (by decide +kernel) (cj 0)) (jc Q_Patch (by decide +kernel) (cj 1)))) (aa (cj 2) (aa (ym (j7 (ym (j7 (jc Q_Patch (by decide +kernel) (cj 0)) (cj 4))) (jc Q_Patch (by decide +kernel) (cj 1)))) (aa (cj 3) (aa (a7e (jc Q_Patch (by decide +kernel) (cj 0)) (a1x (jc Q_Patch (by decide +kernel) (cj 1)))) bc))))))))))))
theorem b13:FnScope ["patches","whole","patch"] ["patches"] (dh (top 20)):=by walk_at "sc"
theorem m_9(Q_Patch:CK K mg "Patch" C_Patch ["signs","firsts","pairs","lasts","empty"])(D_3:Di P w K mg base k_3 "Patch" C_Patch ["signs","firsts","pairs","lasts","empty"] ["self","signs","firsts","pairs","lasts","empty"] 5 F_3 a_3 d_3)(h_3:k_3+1<=k)(D_8:Dn P w K mg base k_8 "joined" ["one","other"] (m5 K 2 F_8) a_8 d_8)(h_8:k_8<=k):MD P w K mg base f k ["patches","whole","patch"] "patch_in_turn" (top 20) (vy F_3 F_8):=λcdv A outer s H E hr =>
 have SC:=b13
 (au (jm 1 SC.nd (ym (ade D_3 hr h_3 (aa (ym (jx bc)) (aa (ym (jx bc)) (aa (ym (jx bc)) (aa (ym (jx bc)) (aa zb bc))))))))
 (au (zf bI rfl (ur (cj 0)) (um (i:=2) SC.nd rfl (Or.inl rfl)) (cu (jm 1 SC.nd (j4 D_8 hr h_8 (aa (cj 1) (aa (cj 2) bc))))))
 (cu (ik (cj 1)))))
theorem aw9:FnScope ["patches","whole","patch"] ["patches"] (dh (top 21)):=by walk_at "sc"
theorem b2b(Q_Patch:CK K mg "Patch" C_Patch ["signs","firsts","pairs","lasts","empty"])(D_3:Di P w K mg base k_3 "Patch" C_Patch ["signs","firsts","pairs","lasts","empty"] ["self","signs","firsts","pairs","lasts","empty"] 5 F_3 a_3 d_3)(h_3:k_3+1<=k):MD P w K mg base f k ["patches","whole","patch"] "patch_of_one" (top 21) (xq F_3):=λcdv A outer s H E hr =>
 have SC:=aw9
 (au (jm 1 SC.nd (ade D_3 hr h_3 (aa (jx bc) (aa (jx bc) (aa (jx bc) (aa (jx bc) (aa zb bc)))))))
 (au (zf bI rfl (ur (cj 0)) (um (i:=2) SC.nd rfl (Or.inl rfl)) (au (a1y (abb dX dY (MtR.or a2s a2n) a6p (jc Q_Patch (by decide +kernel) (cj 1)) (aa (jc Q_Patch (by decide +kernel) (cj 2)) bc)))
 (au (a1y (abb dX dY (MtR.or a2s a2n) a6p (jc Q_Patch (by decide +kernel) (cj 1)) (aa (jc Q_Patch (by decide +kernel) (cj 2)) bc)))
 (au (a1y (abb dX dY (MtR.or a2s a2n) a6p (jc Q_Patch (by decide +kernel) (cj 1)) (aa (jc Q_Patch (by decide +kernel) (cj 2)) bc)))
 (au (a1y (abb dX dY (MtR.or a2s a2n) a6p (jc Q_Patch (by decide +kernel) (cj 1)) (aa (jc Q_Patch (by decide +kernel) (cj 2)) bc)))
 (cu (a8v Q_Patch (by decide +kernel) (cj 1) (ahz (jc Q_Patch (by decide +kernel) (cj 1)) (a1x (jc Q_Patch (by decide +kernel) (cj 2)))))))))))
 (cu (ik (cj 1)))))
theorem awa:FnScope ["patch","between"] ["patch"] (dh (top 22)):=by walk_at "sc"
theorem b2c(Q_Patch:CK K mg "Patch" C_Patch ["signs","firsts","pairs","lasts","empty"])(D_3:Di P w K mg base k_3 "Patch" C_Patch ["signs","firsts","pairs","lasts","empty"] ["self","signs","firsts","pairs","lasts","empty"] 5 F_3 a_3 d_3)(h_3:k_3+1<=k):MD P w K mg base f k ["patch","between"] "patch_again" (top 22) (yu F_3):=λcdv A outer s H E hr =>
 have SC:=awa
 (au (abw (i:=1) SC.nd rfl (Or.inl rfl) (.inl rfl) rfl (agm ["last","first"] ["patch"] [0]) (ur (jc Q_Patch (by decide +kernel) (cj 0))) (pgn 0) (λ_ _ _ _=>(ur (jc Q_Patch (by decide +kernel) (cj 2)))) (pgn 1) (λ_ _ _ _=>ajw) (λ_ _ _ _=>(vf (aa (cj 0) (aa (cj 1) bc)))))
 (cu (ik (ym (ade D_3 hr h_3 (aa (jc Q_Patch (by decide +kernel) (cj 0)) (aa (jc Q_Patch (by decide +kernel) (cj 0)) (aa (ym (j7 (jc Q_Patch (by decide +kernel) (cj 0)) (cj 1))) (aa (jc Q_Patch (by decide +kernel) (cj 0)) (aa zb bc))))))))))
theorem awb:FnScope ["copies","low","whole","number"] ["copies","low"] (dh (top 23)):=by walk_at "sc"
theorem b2d(M:Nm mg)(Q_Patch:CK K mg "Patch" C_Patch ["signs","firsts","pairs","lasts","empty"])(D_3:Di P w K mg base k_3 "Patch" C_Patch ["signs","firsts","pairs","lasts","empty"] ["self","signs","firsts","pairs","lasts","empty"] 5 F_3 a_3 d_3)(h_3:k_3+1<=k)(D_8:Dn P w K mg base k_8 "joined" ["one","other"] (m5 K 2 F_8) a_8 d_8)(h_8:k_8<=k):MD P w K mg base f k ["copies","low","whole","number"] "patch_of_times" (top 23) (ux F_3 F_8):=λcdv A outer s H E hr =>
 have SC:=awb
 (au (jm 2 SC.nd (ym (ade D_3 hr h_3 (aa (ym (jx bc)) (aa (ym (jx bc)) (aa (ym (jx bc)) (aa (ym (jx bc)) (aa zb bc))))))))
 (au (zf bI rfl (aw2 rfl M.reversed rfl M.range (aa (a6d M.len (aa (cj 0) bc)) bc)) (um (i:=3) SC.nd rfl (Or.inl rfl)) (au (jm 2 SC.nd (j4 D_8 hr h_8 (aa (gh (cj 0) (cj 3)) (aa (cj 2) bc))))
 (cu (mz (a0u apw aia (cj 3) (cj 1))
 (cu (jm 2 SC.nd (ym (ade D_3 hr h_3 (aa (jc Q_Patch (by decide +kernel) (cj 2)) (aa (jc Q_Patch (by decide +kernel) (cj 2)) (aa (jc Q_Patch (by decide +kernel) (cj 2)) (aa (jc Q_Patch (by decide +kernel) (cj 2)) (aa zb bc)))))))))
 ig))))
 (cu (ik (cj 2)))))
theorem awc:FnScope ["_law_script","_law_cells"] ["_law_script"] (dh (top 25)):=by walk_at "sc"
theorem b2e(M:Nm mg):MD P w K mg base f k ["_law_script","_law_cells"] "_law_source" (top 25) (SRC.a09):=λcdv A outer s H E hr =>
 have SC:=awc
 (au (aly (i:=1) SC.nd rfl (Or.inl rfl) rfl (aby ["_law_cell"]) (ur (ym (a0r (cj 0) a5k (a5l bf)))) (pgn 0) a2a (λ_ _ _ _=>(j7 (a3n bf (a5f al7 aqk rfl M.abs auq (aa (cj 0) bc))) (a0i ahg aqm rfl M.int aob (aa (a0h (a88.or uq) a3b (cj 0) bf (yz _)) bc)))))
 (cu (ik (jx (aa (cj 1) (aa bf (aa bf (aa bf (aa (a8l (a5f (a5d rfl) ad1 rfl M.sum aii (aa (cj 1) bc)) bf) bc)))))))))
theorem awd:FnScope ["_law_left","_law_many","_law_cell","_law_told_here"] ["_law_left","_law_many"] (dh (top 26)):=by walk_at "sc"
theorem b2f(M:Nm mg):MD P w K mg base f k ["_law_left","_law_many","_law_cell","_law_told_here"] "_law_draw" (top 26) (SRC.a2t):=λcdv A outer s H E hr =>
 have SC:=awd
 (au (a9s (cj 0) bf bf (a1t.or u5) a07)
 (au (mz (PW.pt (a7d (qe hr.u (gh (cj 0) bf) bf) (a5e (a0u (a88.or uq) a3b (gh (cj 0) bf) (a6d M.len (aa (gh (cj 0) bf) bc))))))
 (au (jm 2 SC.nd (gh (gh (cj 0) bf) (gh (cj 0) bf)))
 (au (a9s (cj 0) bf bf (a1t.or u5) a07)
 (cu (mz (a0u apw aia (cj 2) (ai9 bf bf))
 (cu (aoc (cj 2) (cj 0) bf))
 (cu (aoc (a8l (j7 (a3n (gh (cj 0) bf) bf) (cj 2)) bf) (cj 0) bf))))))
 ig)
 (au (mz (a0u al4 aef (gh (cj 0) bf) bf)
 (au (jm 3 SC.nd (a8l (gh (cj 0) bf) (cj 1)))
 (au (a9s (cj 0) bf (cj 1) al3 ai5)
 (cu (ik (cj 3)))))
 ig)
 (au (jm 3 SC.nd (a8l (ai9 (j7 (j7 (gh (cj 0) bf) bf) (a3n (gh (cj 0) bf) bf)) bf) bf))
 (cu (ik (a8l (ai8 (a8l (ai9 (j7 (a3n (cj 3) bf) (gh (cj 0) bf)) bf) bf) bf) (cj 1))))))))
theorem awe:FnScope ["_law_some"] [] (dh (top 27)):=by walk_at "sc"
theorem b2g:MD P w K mg base f k ["_law_some"] "_law_signs" (top 27) (SRC.zm):=λcdv A outer s H E hr =>
 have SC:=awe
 (au (jm 0 SC.nd jj)
 (cu (ik (j7 (cj 0) jj))))
theorem awf:FnScope ["_law_left","_law_rest","_law_told_here","_law_k","_law_at"] ["_law_left"] (dh (top 28)):=by walk_at "sc"
theorem b2h(M:Nm mg)(D_14:Dn P w K mg base k_14 "_law_draw" ["_law_left","_law_many"] (m5 K 2 F_14) a_14 d_14)(h_14:k_14<=k)(D_15:Dn P w K mg base k_15 "_law_signs" [] (m5 K 0 F_15) a_15 d_15)(h_15:k_15<=k):MD P w K mg base f k ["_law_left","_law_rest","_law_told_here","_law_k","_law_at"] "_law_tongue" (top 28) (SRC.a0a F_14 F_15):=λcdv A outer s H E hr =>
 have SC:=awf
 (au (jm 1 SC.nd (aip false D_15 (hr.mono h_15) rfl))
 (au (jm 2 SC.nd jj)
 (au (zf bI rfl (acy rfl M.range (aa (j7 bf (j4 D_14 hr h_14 (aa (cj 0) (aa bf bc)))) bc)) (um (i:=3) SC.nd rfl (Or.inl rfl)) (au (jm 4 SC.nd (j4 D_14 hr h_14 (aa (cj 0) (aa (a6d M.len (aa (cj 1) bc)) bc))))
 (au (a5w (i:=2) SC.nd rfl (Or.inl rfl) (a1t.or u5) a07 (gh (cj 1) (cj 4)))
 (cu (jm 1 SC.nd (j7 (a0r (cj 1) a5k (a5l (cj 4))) (a0r (cj 1) (a5l (j7 (cj 4) bf)) a5k)))))))
 (cu (ik (cj 2))))))
theorem awg:FnScope ["_law_left","_law_tongue_here","_law_rest","_law_told_here","_law_many","_law_k","_law_at"] ["_law_left","_law_tongue_here"] (dh (top 29)):=by walk_at "sc"
theorem b2j(M:Nm mg)(D_14:Dn P w K mg base k_14 "_law_draw" ["_law_left","_law_many"] (m5 K 2 F_14) a_14 d_14)(h_14:k_14<=k):MD P w K mg base f k ["_law_left","_law_tongue_here","_law_rest","_law_told_here","_law_many","_law_k","_law_at"] "_law_ones" (top 29) (DRW.a2u F_14):=λcdv A outer s H E hr =>
 have SC:=awg
 (au (jm 2 SC.nd (cj 1))
 (au (jm 3 SC.nd jj)
 (au (jm 4 SC.nd bf)
 (au (mz (qe hr.u (j4 D_14 hr h_14 (aa (cj 0) (aa bf bc))) bf)
 (cu (jm 4 SC.nd (j7 bf (j4 D_14 hr h_14 (aa (cj 0) (aa (a6d M.len (aa (cj 1) bc)) bc))))))
 ig)
 (au (zf bI rfl (acy rfl M.range (aa (cj 4) bc)) (um (i:=5) SC.nd rfl (Or.inl rfl)) (au (jm 6 SC.nd (j4 D_14 hr h_14 (aa (cj 0) (aa (a6d M.len (aa (cj 2) bc)) bc))))
 (au (a5w (i:=3) SC.nd rfl (Or.inl rfl) (a1t.or u5) a07 (gh (cj 2) (cj 6)))
 (cu (jm 2 SC.nd (j7 (a0r (cj 2) a5k (a5l (cj 6))) (a0r (cj 2) (a5l (j7 (cj 6) bf)) a5k)))))))
 (cu (ik (cj 3))))))))
theorem awh:FnScope ["_law_shape_here"] ["_law_shape_here"] (dh (top 30)):=by walk_at "sc"
theorem b2k(M:Nm mg)(D_18:Dn P w K mg base k_18 "_law_weight" ["_law_shape_here"] (m5 K 1 F_18) a_18 acj)(h_18:k_18<=k):MD P w K mg base f k ["_law_shape_here"] "_law_weight" (top 30) (DRW.xx F_18):=λcdv A outer s H E hr =>
 have SC:=awh
 (au (mz (qe hr.u (gh (cj 0) bf) jj)
 (cu (ik bf))
 ig)
 (au (mz (a3l (ahx.or aaz) aid (gh (cj 0) bf) (vf (aa jj (aa jj bc))) (by with_unfolding_all rfl))
 (cu (ik (a5f (a5d rfl) ad1 rfl M.sum aii (aa (ym (ai4 rfl (aby ["_law_part"]) (ur (gh (cj 0) bf)) (pgn 0) a2a (λ_ _ _ _=>(j4 D_18 hr h_18 (aa (cj 0) bc))))) bc))))
 ig)
 (au (mz (qe hr.u (gh (cj 0) bf) jj)
 (cu (ik (j4 D_18 hr h_18 (aa (gh (cj 0) bf) bc))))
 ig)
 (cu (ik (a3n (gh (cj 0) bf) (j4 D_18 hr h_18 (aa (gh (cj 0) bf) bc))))))))
theorem awi:FnScope ["_law_left","_law_tongue_here","_law_deep","_law_purse","_law_room","_law_sort","_law_high","_law_low","_law_parts","_law_k","_law_part"] ["_law_left","_law_tongue_here","_law_deep","_law_purse","_law_room"] (dh (top 31)):=by walk_at "sc"
theorem b2l(M:Nm mg)(D_14:Dn P w K mg base k_14 "_law_draw" ["_law_left","_law_many"] (m5 K 2 F_14) a_14 d_14)(h_14:k_14<=k)(D_17:Dn P w K mg base k_17 "_law_ones" ["_law_left","_law_tongue_here"] (m5 K 2 F_17) a_17 d_17)(h_17:k_17<=k)(D_19:Dn P w K mg base k_19 "_law_shape" ["_law_left","_law_tongue_here","_law_deep","_law_purse","_law_room"] (m5 K 5 F_19) a_19 b05)(h_19:k_19<=k)(D_18:Dn P w K mg base k_18 "_law_weight" ["_law_shape_here"] (m5 K 1 F_18) a_18 acj)(h_18:k_18<=k):MD P w K mg base f k ["_law_left","_law_tongue_here","_law_deep","_law_purse","_law_room","_law_sort","_law_high","_law_low","_law_parts","_law_k","_law_part"] "_law_shape" (top 31) (DRW.zq F_14 F_17 F_19 F_18):=λcdv A outer s H E hr =>
 have SC:=awi
 (au (a9s (cj 4) bf bf ahb ad0)
 (au (jm 5 SC.nd (j4 D_14 hr h_14 (aa (cj 0) (aa bf bc))))
 (au (mz (PW.pt (a9j (qe hr.u (cj 2) bf) (a9j (a0u (a88.or uq) a3b (gh (cj 4) bf) bf) (a7c (qe hr.u (cj 5) bf)))))
 (au (mz (PW.pt (a9j (qe hr.u (cj 3) bf) (a7c (qe hr.u (j4 D_14 hr h_14 (aa (cj 0) (aa bf bc))) bf))))
 (cu (ik (vf (aa jj (aa (vf bc) bc)))))
 ig)
 (cu (ik (vf (aa jj (aa (j4 D_17 hr h_17 (aa (cj 0) (aa (cj 1) bc))) bc))))))
 ig)
 (au (mz (a0u (a88.or uq) a3b (cj 5) bf)
 (cu (ik (vf (aa jj (aa (j4 D_19 hr h_19 (aa (cj 0) (aa (cj 1) (aa (ai7 (cj 2) bf) (aa (cj 3) (aa (cj 4) bc)))))) bc)))))
 ig)
 (au (mz (a0u (a88.or uq) a3b (cj 5) bf)
 (au (jm 6 SC.nd (j4 D_14 hr h_14 (aa (cj 0) (aa bf bc))))
 (au (jm 7 SC.nd (j4 D_14 hr h_14 (aa (cj 0) (aa (j7 (cj 6) bf) bc))))
 (cu (ik (vf (aa jj (aa (j4 D_19 hr h_19 (aa (cj 0) (aa (cj 1) (aa (ai7 (cj 2) bf) (aa (ai8 (cj 3) (a5f (ahf rfl) alp rfl M.max avc (aa bf (aa (cj 6) bc)))) (aa (cj 4) bc)))))) (aa (cj 7) (aa (cj 6) bc)))))))))
 ig)
 (au (jm 8 SC.nd (jx bc))
 (au (zf bI rfl (acy rfl M.range (aa (gh (vf (aa bf (aa bf (aa bf (aa bf (aa bf (aa bf (aa bf (aa bf bc))))))))) (j4 D_14 hr h_14 (aa (cj 0) (aa bf bc)))) bc)) (um (i:=9) SC.nd rfl (Or.inl rfl)) (cu (mz (a0u al4 aef (gh (cj 4) bf) bf)
 (au (jm 10 SC.nd (j4 D_19 hr h_19 (aa (cj 0) (aa (cj 1) (aa (ai7 (cj 2) bf) (aa (cj 3) (aa (cj 4) bc)))))))
 (au (a5w (i:=3) SC.nd rfl (Or.inl rfl) ahb ad0 (j4 D_18 hr h_18 (aa (cj 10) bc)))
 (cu (a1y (abb cy dW a3w a9m (cj 8) (aa (cj 10) bc))))))
 ig)))
 (cu (ik (vf (aa (gh (vf (aa jj (aa jj bc))) (ai8 (cj 5) bf)) (aa (a0i (L2.CallR.or m7 (o8 rfl)) vm rfl M.tuple ud (aa (cj 8) bc)) bc))))))))))))
theorem awj:FnScope ["_law_shape_here"] ["_law_shape_here"] (dh (top 32)):=by walk_at "sc"
theorem b2m(D_20:Dn P w K mg base k_20 "_law_empty" ["_law_shape_here"] (m5 K 1 F_20) a_20 ah1)(h_20:k_20<=k):MD P w K mg base f k ["_law_shape_here"] "_law_empty" (top 32) (zu F_20):=λcdv A outer s H E hr =>
 have SC:=awj
 (au (mz (qe hr.u (gh (cj 0) bf) jj)
 (cu (ik zb))
 ig)
 (au (mz (qe hr.u (gh (cj 0) bf) jj)
 (cu (ik (a0h (aev hr.u) (a7n false) (ym (a06 rfl (aby ["_law_part"]) (ur (gh (cj 0) bf)) (pgn 0) a2a (λ_ _ _ _=>(cj 0)) (λ_ _ _ _=>(a05 (ph (j4 D_20 hr h_20 (aa (cj 0) bc))))))) (ym (jx bc)) (yz _))))
 ig)
 (au (mz (qe hr.u (gh (cj 0) bf) jj)
 (cu (ik (a0h (avw hr.u) (a7n true) (ym (a06 rfl (aby ["_law_part"]) (ur (gh (cj 0) bf)) (pgn 0) a2a (λ_ _ _ _=>(cj 0)) (λ_ _ _ _=>(ph (j4 D_20 hr h_20 (aa (cj 0) bc)))))) (ym (jx bc)) (yz _))))
 ig)
 (cu (ik (ahz (a0h (a7g hr.u) a3m (gh (cj 0) bf) jj (yz _)) (ahz (a0h (a7g hr.u) a3m (gh (cj 0) bf) bf (yz _)) (a1x (j4 D_20 hr h_20 (aa (gh (cj 0) bf) bc))))))))))
theorem awk:FnScope ["_law_shape_here"] ["_law_shape_here"] (dh (top 33)):=by walk_at "sc"
theorem b2n:MD P w K mg base f k ["_law_shape_here"] "_law_laid" (top 33) (a2w):=λcdv A outer s H E hr =>
 have SC:=awk
 (au (mz (a3l (ahx.or aaz) aid (gh (cj 0) bf) (vf (aa jj (aa jj bc))) (by with_unfolding_all rfl))
 (cu (ik (gh (cj 0) bf)))
 ig)
 (au (mz (qe hr.u (gh (cj 0) bf) jj)
 (cu (ik (vf (aa (gh (cj 0) bf) bc))))
 ig)
 (cu (ik (as3 (vf (aa (gh (cj 0) bf) bc)) (gh (cj 0) bf))))))
theorem awl:FnScope ["_law_shape_here","_law_at","_law_place","_law_part"] ["_law_shape_here","_law_at","_law_place"] (dh (top 34)):=by walk_at "sc"
theorem b2o(D_22:Dn P w K mg base k_22 "_law_begins" ["_law_shape_here","_law_at","_law_place"] (m5 K 3 F_22) a_22 ate)(h_22:k_22<=k)(D_20:Dn P w K mg base k_20 "_law_empty" ["_law_shape_here"] (m5 K 1 F_20) a_20 ah1)(h_20:k_20<=k)(D_21:Dn P w K mg base k_21 "_law_laid" ["_law_shape_here"] (m5 K 1 F_21) a_21 d_21)(h_21:k_21<=k)(D_18:Dn P w K mg base k_18 "_law_weight" ["_law_shape_here"] (m5 K 1 F_18) a_18 acj)(h_18:k_18<=k):MD P w K mg base f k ["_law_shape_here","_law_at","_law_place","_law_part"] "_law_begins" (top 34) (ye F_22 F_20 F_21 F_18):=λcdv A outer s H E hr =>
 have SC:=awl
 (au (mz (a05 (a3x (a88.or uq) (ahd.or a1v) a3b ab8 (cj 1) (cj 2) (j7 (cj 1) (j4 D_18 hr h_18 (aa (cj 0) bc)))))
 (cu (ik zb))
 ig)
 (au (mz (qe hr.u (gh (cj 0) bf) jj)
 (cu (ik zb))
 ig)
 (au (zf bI rfl (ur (j4 D_21 hr h_21 (aa (cj 0) bc))) (um (i:=3) SC.nd rfl (Or.inl rfl)) (au (mz (ph (j4 D_22 hr h_22 (aa (cj 3) (aa (cj 1) (aa (cj 2) bc)))))
 (cu (ik zb))
 ig)
 (au (mz (PW.pt (a7d (a0u (aih hr.u) ad2 (gh (cj 0) bf) jj) (a5e (a05 (ph (j4 D_20 hr h_20 (aa (cj 3) bc)))))))
 (cu (ik zb))
 ig)
 (cu (a5w (i:=1) SC.nd rfl (Or.inl rfl) (a1t.or u5) a07 (j4 D_18 hr h_18 (aa (cj 3) bc)))))))
 (cu (ik zb)))))
theorem awm:FnScope ["_law_shape_here","_law_at","_law_place","_law_parts","_law_k","_law_part","_law_loose"] ["_law_shape_here","_law_at","_law_place"] (dh (top 35)):=by walk_at "sc"
theorem b2p(M:Nm mg)(D_20:Dn P w K mg base k_20 "_law_empty" ["_law_shape_here"] (m5 K 1 F_20) a_20 ah1)(h_20:k_20<=k)(D_23:Dn P w K mg base k_23 "_law_ends" ["_law_shape_here","_law_at","_law_place"] (m5 K 3 F_23) a_23 atf)(h_23:k_23<=k)(D_21:Dn P w K mg base k_21 "_law_laid" ["_law_shape_here"] (m5 K 1 F_21) a_21 d_21)(h_21:k_21<=k)(D_18:Dn P w K mg base k_18 "_law_weight" ["_law_shape_here"] (m5 K 1 F_18) a_18 acj)(h_18:k_18<=k):MD P w K mg base f k ["_law_shape_here","_law_at","_law_place","_law_parts","_law_k","_law_part","_law_loose"] "_law_ends" (top 35) (a0t F_20 F_23 F_21 F_18):=λcdv A outer s H E hr =>
 have SC:=awm
 (au (mz (a05 (a3x (a88.or uq) (ahd.or a1v) a3b ab8 (cj 1) (cj 2) (j7 (cj 1) (j4 D_18 hr h_18 (aa (cj 0) bc)))))
 (cu (ik zb))
 ig)
 (au (mz (qe hr.u (gh (cj 0) bf) jj)
 (cu (ik zb))
 ig)
 (au (jm 3 SC.nd (j4 D_21 hr h_21 (aa (cj 0) bc)))
 (au (zf bI rfl (ar7 rfl M.enumerate (cj 3)) (auv rfl (aei (um (i:=4) SC.nd rfl (Or.inl rfl)) (aei (um (i:=5) SC.nd rfl (Or.inl rfl)) aqf))) (au (mz (a3x (a88.or uq) (ahd.or a1v) a3b ab8 (cj 1) (cj 2) (j7 (cj 1) (j4 D_18 hr h_18 (aa (cj 5) bc))))
 (au (jm 6 SC.nd (a0h (aev hr.u) (a7n false) (ym (a06 rfl (aby ["_law_other"]) (ur (a0r (cj 3) (a5l (j7 (cj 4) bf)) a5k)) (pgn 0) a2a (λ_ _ _ _=>(cj 0)) (λ_ _ _ _=>(a05 (ph (j4 D_20 hr h_20 (aa (cj 0) bc))))))) (ym (jx bc)) (yz _)))
 (au (mz (PW.pt (a9j (PW.pt (a7d (qe hr.u (gh (cj 0) bf) jj) (a5e (a0u apw aia (j7 (cj 4) bf) (gh (cj 0) bf))))) (a7c (qe hr.u (gh (cj 0) bf) jj))))
 (cu (jm 6 SC.nd zb))
 ig)
 (cu (ik (a7e (cj 6) (a1x (j4 D_23 hr h_23 (aa (cj 5) (aa (cj 1) (aa (cj 2) bc))))))))))
 ig)
 (cu (a5w (i:=1) SC.nd rfl (Or.inl rfl) (a1t.or u5) a07 (j4 D_18 hr h_18 (aa (cj 5) bc))))))
 (cu azc)))))
theorem awn:FnScope ["_law_shape_here","_law_at","_law_place","_law_other","_law_yes","_law_before","_law_part","_law_wide"] ["_law_shape_here","_law_at","_law_place","_law_other"] (dh (top 36)):=by walk_at "sc"
theorem b2q(D_22:Dn P w K mg base k_22 "_law_begins" ["_law_shape_here","_law_at","_law_place"] (m5 K 3 F_22) a_22 ate)(h_22:k_22<=k)(D_20:Dn P w K mg base k_20 "_law_empty" ["_law_shape_here"] (m5 K 1 F_20) a_20 ah1)(h_20:k_20<=k)(D_23:Dn P w K mg base k_23 "_law_ends" ["_law_shape_here","_law_at","_law_place"] (m5 K 3 F_23) a_23 atf)(h_23:k_23<=k)(D_24:Dn P w K mg base k_24 "_law_follows" ["_law_shape_here","_law_at","_law_place","_law_other"] (m5 K 4 F_24) a_24 b06)(h_24:k_24<=k)(D_21:Dn P w K mg base k_21 "_law_laid" ["_law_shape_here"] (m5 K 1 F_21) a_21 d_21)(h_21:k_21<=k)(D_18:Dn P w K mg base k_18 "_law_weight" ["_law_shape_here"] (m5 K 1 F_18) a_18 acj)(h_18:k_18<=k):MD P w K mg base f k ["_law_shape_here","_law_at","_law_place","_law_other","_law_yes","_law_before","_law_part","_law_wide"] "_law_follows" (top 36) (vz F_22 F_20 F_23 F_24 F_21 F_18):=λcdv A outer s H E hr =>
 have SC:=awn
 (au (mz (qe hr.u (gh (cj 0) bf) jj)
 (cu (ik zb))
 ig)
 (au (jm 4 SC.nd zb)
 (au (jm 5 SC.nd zb)
 (au (zf bI rfl (ur (j4 D_21 hr h_21 (aa (cj 0) bc))) (um (i:=6) SC.nd rfl (Or.inl rfl)) (au (jm 7 SC.nd (j4 D_18 hr h_18 (aa (cj 6) bc)))
 (au (mz (PW.pt (a7d (a3x (a88.or uq) (ahd.or a1v) a3b ab8 (cj 1) (cj 2) (j7 (cj 1) (cj 7))) (a5e (a3x (a88.or uq) (ahd.or a1v) a3b ab8 (cj 1) (cj 3) (j7 (cj 1) (cj 7))))))
 (cu (jm 4 SC.nd (ahz (cj 4) (a1x (j4 D_24 hr h_24 (aa (cj 6) (aa (cj 1) (aa (cj 2) (aa (cj 3) bc)))))))))
 ig)
 (au (mz (PW.pt (a7d (qe hr.u (gh (cj 0) bf) jj) (a7d (ph (j4 D_23 hr h_23 (aa (cj 6) (aa (cj 1) (aa (cj 2) bc))))) (a5e (ph (j4 D_22 hr h_22 (aa (cj 6) (aa (cj 1) (aa (cj 3) bc)))))))))
 (cu (jm 4 SC.nd zb))
 ig)
 (au (mz (PW.pt (a7d (ph (cj 5)) (a5e (ph (j4 D_22 hr h_22 (aa (cj 6) (aa (cj 1) (aa (cj 3) bc))))))))
 (cu (jm 4 SC.nd zb))
 ig)
 (au (jm 5 SC.nd (ahz (a7e (cj 5) (a1x (j4 D_20 hr h_20 (aa (cj 6) bc)))) (a1x (a7e (a0h (aih hr.u) ad2 (gh (cj 0) bf) jj (yz _)) (a1x (j4 D_23 hr h_23 (aa (cj 6) (aa (cj 1) (aa (cj 2) bc)))))))))
 (cu (a5w (i:=1) SC.nd rfl (Or.inl rfl) (a1t.or u5) a07 (cj 7)))))))))
 (cu (ik (cj 4)))))))
theorem awo:FnScope ["_law_found","_law_one"] ["_law_found"] (dh (top 37)):=by walk_at "sc"
theorem b2r(M:Nm mg):MD P w K mg base f k ["_law_found","_law_one"] "_law_row" (top 37) (a4k):=λcdv A outer s H E hr =>
 have SC:=awo
 (au (mz (a05 (ph (a5f (L2.CallR.or uz u6) a1d rfl M.isinstance jq (aa (cj 0) (aa (acw rfl M.tuple ud) bc)))))
 a8o
 ig)
 (au (zf bI rfl (ur (cj 0)) (um (i:=1) SC.nd rfl (Or.inl rfl)) (cu (mz (PW.pt (a9j (a05 (ph (a5f (L2.CallR.or uz u6) a1d rfl M.isinstance jq (aa (cj 1) (aa (acw rfl M.int aob) bc))))) (a7c (ph (a5f (L2.CallR.or uz u6) a1d rfl M.isinstance jq (aa (cj 1) (aa (acw rfl M.bool aqr) bc)))))))
 a8o
 ig)))
 (cu (ik zb))))
theorem awp:FnScope ["_law_found"] ["_law_found"] (dh (top 38)):=by walk_at "sc"
theorem b2s(M:Nm mg):MD P w K mg base f k ["_law_found"] "_law_texts" (top 38) (a1i):=λcdv A outer s H E hr =>
 have SC:=awp
 (cu (ik (a7e (a5f (L2.CallR.or uz u6) a1d rfl M.isinstance jq (aa (cj 0) (aa (acw rfl M.tuple ud) bc))) (a1x (a0h (aev hr.u) (a7n false) (ym (a06 rfl (aby ["_law_one"]) (ur (cj 0)) (pgn 0) a2a (λ_ _ _ _=>(cj 0)) (λ_ _ _ _=>(a05 (ph (a5f (L2.CallR.or uz u6) a1d rfl M.isinstance jq (aa (cj 0) (aa (acw rfl M.str aup) bc)))))))) (ym (jx bc)) (yz _))))))
theorem awq:FnScope ["_law_found"] ["_law_found"] (dh (top 39)):=by walk_at "sc"
theorem b2t(M:Nm mg)(D_25:Dn P w K mg base k_25 "_law_row" ["_law_found"] (m5 K 1 F_25) a_25 d_25)(h_25:k_25<=k)(D_26:Dn P w K mg base k_26 "_law_texts" ["_law_found"] (m5 K 1 F_26) a_26 d_26)(h_26:k_26<=k):MD P w K mg base f k ["_law_found"] "_law_laying" (top 39) (a0e F_25 F_26):=λcdv A outer s H E hr =>
 have SC:=awq
 (au (mz (PW.pt (a9j (a05 (ph (a5f (L2.CallR.or uz u6) a1d rfl M.isinstance jq (aa (cj 0) (aa (acw rfl M.tuple ud) bc))))) (a7c (a0u (aih hr.u) ad2 (a6d M.len (aa (cj 0) bc)) bf))))
 a8o
 ig)
 (au (mz (PW.pt (a9j (a05 (ph (j4 D_26 hr h_26 (aa (gh (cj 0) bf) bc)))) (a9j (a05 (ph (j4 D_25 hr h_25 (aa (gh (cj 0) bf) bc)))) (a7c (a05 (ph (a5f (L2.CallR.or uz u6) a1d rfl M.isinstance jq (aa (gh (cj 0) bf) (aa (acw rfl M.tuple ud) bc)))))))))
 a8o
 ig)
 (cu (ik (a0h (aev hr.u) (a7n false) (ym (a06 rfl (aby ["_law_row_here"]) (ur (gh (cj 0) bf)) (pgn 0) a2a (λ_ _ _ _=>(cj 0)) (λ_ _ _ _=>(a05 (ph (j4 D_25 hr h_25 (aa (cj 0) bc))))))) (ym (jx bc)) (yz _))))))
theorem awr:FnScope ["_law_shape_here","_law_told_here","_law_part"] ["_law_shape_here"] (dh (top 40)):=by walk_at "sc"
theorem b2u(D_21:Dn P w K mg base k_21 "_law_laid" ["_law_shape_here"] (m5 K 1 F_21) a_21 d_21)(h_21:k_21<=k)(D_28:Dn P w K mg base k_28 "_law_marks" ["_law_shape_here"] (m5 K 1 F_28) a_28 b07)(h_28:k_28<=k):MD P w K mg base f k ["_law_shape_here","_law_told_here","_law_part"] "_law_marks" (top 40) (zx F_21 F_28):=λcdv A outer s H E hr =>
 have SC:=awr
 (au (mz (qe hr.u (gh (cj 0) bf) jj)
 (cu (ik (jx (aa (gh (cj 0) bf) bc))))
 ig)
 (au (jm 1 SC.nd (jx bc))
 (au (zf bI rfl (ur (j4 D_21 hr h_21 (aa (cj 0) bc))) (um (i:=2) SC.nd rfl (Or.inl rfl)) (cu (a5w (i:=1) SC.nd rfl (Or.inl rfl) an5 aju (j4 D_28 hr h_28 (aa (cj 2) bc)))))
 (cu (ik (cj 1))))))
theorem aws:FnScope ["_law_shape_here","_law_many","_law_rows","_law_place","_law_lasts"] ["_law_shape_here"] (dh (top 41)):=by walk_at "sc"
theorem b2v(M:Nm mg)(D_22:Dn P w K mg base k_22 "_law_begins" ["_law_shape_here","_law_at","_law_place"] (m5 K 3 F_22) a_22 ate)(h_22:k_22<=k)(D_20:Dn P w K mg base k_20 "_law_empty" ["_law_shape_here"] (m5 K 1 F_20) a_20 ah1)(h_20:k_20<=k)(D_23:Dn P w K mg base k_23 "_law_ends" ["_law_shape_here","_law_at","_law_place"] (m5 K 3 F_23) a_23 atf)(h_23:k_23<=k)(D_24:Dn P w K mg base k_24 "_law_follows" ["_law_shape_here","_law_at","_law_place","_law_other"] (m5 K 4 F_24) a_24 b06)(h_24:k_24<=k)(D_28:Dn P w K mg base k_28 "_law_marks" ["_law_shape_here"] (m5 K 1 F_28) a_28 b07)(h_28:k_28<=k)(D_18:Dn P w K mg base k_18 "_law_weight" ["_law_shape_here"] (m5 K 1 F_18) a_18 acj)(h_18:k_18<=k):MD P w K mg base f k ["_law_shape_here","_law_many","_law_rows","_law_place","_law_lasts"] "_law_due" (top 41) (a4l F_22 F_20 F_23 F_24 F_28 F_18):=λcdv A outer s H E hr =>
 have SC:=aws
 (au (jm 1 SC.nd (j4 D_18 hr h_18 (aa (cj 0) bc)))
 (au (jm 2 SC.nd (jx (aa (a0i (L2.CallR.or m7 (o8 rfl)) vm rfl M.tuple ud (aa (ym (a06 rfl (agm ["_law_to"] ["_law_shape_here"] [0]) (a7f rfl M.range (aa bf (aa (j7 (cj 1) bf) bc))) (pgn 0) a2a (λ_ _ _ _=>(cj 0)) (λ_ _ _ _=>(ph (j4 D_22 hr h_22 (aa (cj 1) (aa bf (aa (cj 0) bc)))))))) bc)) bc)))
 (au (zf bI rfl (a7f rfl M.range (aa bf (aa (j7 (cj 1) bf) bc))) (um (i:=3) SC.nd rfl (Or.inr rfl)) (cu (a1y (abb cy dW a3w a9m (cj 2) (aa (a0i (L2.CallR.or m7 (o8 rfl)) vm rfl M.tuple ud (aa (ym (a06 rfl (agm ["_law_to"] ["_law_shape_here","_law_place"] [0,3]) (a7f rfl M.range (aa bf (aa (j7 (cj 1) bf) bc))) (pgn 0) a2a (λ_ _ _ _=>(cj 0)) (λ_ _ _ _=>(ph (j4 D_24 hr h_24 (aa (cj 1) (aa bf (aa (cj 2) (aa (cj 0) bc))))))))) bc)) bc)))))
 (au (alz (i:=4) SC.nd rfl (Or.inl rfl) rfl (agm ["_law_place"] ["_law_shape_here"] [0]) (a7f rfl M.range (aa bf (aa (j7 (cj 1) bf) bc))) (pgn 0) a2a (λ_ _ _ _=>(cj 0)) (λ_ _ _ _=>(ph (j4 D_23 hr h_23 (aa (cj 1) (aa bf (aa (cj 0) bc)))))))
 (au (mz (ph (j4 D_20 hr h_20 (aa (cj 0) bc)))
 (cu (jm 4 SC.nd (ym (j7 (ym (jx (aa bf bc))) (cj 4)))))
 ig)
 (cu (ik (vf (aa (a0i (L2.CallR.or m7 (o8 rfl)) vm rfl M.tuple ud (aa (ym (j7 (ym (jx (aa jj bc))) (j4 D_28 hr h_28 (aa (cj 0) bc)))) bc)) (aa (a0i (L2.CallR.or m7 (o8 rfl)) vm rfl M.tuple ud (aa (cj 2) bc)) (aa (a0i (L2.CallR.or m7 (o8 rfl)) vm rfl M.tuple ud (aa (cj 4) bc)) bc)))))))))))
theorem awt:FnScope ["_law_shape_here","_law_told_here","e"] ["_law_shape_here"] (dh (top 42)):=by walk_at "sc"
theorem b2w(M:Nm mg)(Z:Xn K mg y_TooHeavy y_ReachError y_NoBook y_NoPlace y_NoShape y_TooMany)(D_4:DnX P w K mg base k_4 "spread" ["shape"] (spX K mg 1 F_4) a_4 d_4)(h_4:k_4<=k):MD P w K mg base f k ["_law_shape_here","_law_told_here","e"] "_law_refused" (top 42) (yx F_4):=λcdv A outer s H E hr =>
 have SC:=awt
 (au (jm 1 SC.nd zb)
 (au (avt (i:=2) ⟨rfl,Z.g_ReachError,SC.nd,rfl,rfl,⟨rfl,rfl⟩,by decide⟩ (a8d Z)
 (ard (arc D_4 (hr.mono h_4) rfl (aa (cj 0) bc)))
 (λa=>(au (jm 1 SC.nd (a7e (aou (i:=2) rfl M.isinstance jq rfl (Or.inl rfl) (a4z (v:=.ref y_TooHeavy) rfl Z.g_TooHeavy rfl) (.inl ⟨_,rfl,rfl⟩) (adg Z)) (a1x (aou (i:=2) rfl M.isinstance jq rfl (Or.inl rfl) (ah4 (v:=.ty "ValueError") rfl M.ValueError PyProof.Rows.Boot.«ValueError» rfl) (.inr ⟨_,rfl,rfl⟩) (aa4 Z)))))
 (cu (mz (ph (arf (i:=2) (cs:=[y_NoBook,y_NoPlace,y_NoShape,y_TooMany]) rfl M.isinstance jq rfl (Or.inl rfl) (yj (a4z (v:=.ref y_NoBook) rfl Z.g_NoBook rfl) (yj (a4z (v:=.ref y_NoPlace) rfl Z.g_NoPlace rfl) (yj (a4z (v:=.ref y_NoShape) rfl Z.g_NoShape rfl) (yj (a4z (v:=.ref y_TooMany) rfl Z.g_TooMany rfl) a6z)))) (λ_ _ _ q=>q) (acs (by simp)) (wg Z)))
 a8o
 ig)))))
 (cu (ik (cj 1)))))
theorem awu:FnScope ["_law_shape_here","_law_found"] ["_law_shape_here"] (dh (top 43)):=by walk_at "sc"
theorem b2x(D_29:Dn P w K mg base k_29 "_law_due" ["_law_shape_here"] (m5 K 1 F_29) a_29 d_29)(h_29:k_29<=k)(D_27:Dn P w K mg base k_27 "_law_laying" ["_law_found"] (m5 K 1 F_27) a_27 d_27)(h_27:k_27<=k)(D_30:Dn P w K mg base k_30 "_law_refused" ["_law_shape_here"] (m5 K 1 F_30) a_30 d_30)(h_30:k_30<=k)(D_18:Dn P w K mg base k_18 "_law_weight" ["_law_shape_here"] (m5 K 1 F_18) a_18 acj)(h_18:k_18<=k)(D_4:DnX P w K mg base k_4 "spread" ["shape"] (spX K mg 1 F_4) a_4 d_4)(h_4:k_4<=k):MD P w K mg base f k ["_law_shape_here","_law_found"] "_law_told" (top 43) (a2x F_29 F_27 F_30 F_18 F_4):=λcdv A outer s H E hr =>
 have SC:=awu
 (au (mz (a0u al4 aef (j4 D_18 hr h_18 (aa (cj 0) bc)) bf)
 (cu (ik (j4 D_30 hr h_30 (aa (cj 0) bc))))
 ig)
 (au (jm 1 SC.nd (aj3 D_4 (hr.mono h_4) rfl (aa (cj 0) bc)))
 (cu (ik (a7e (j4 D_27 hr h_27 (aa (cj 1) bc)) (a1x (a0h (a7g hr.u) a3m (cj 1) (j4 D_29 hr h_29 (aa (cj 0) bc)) (yz _))))))))
theorem awv:FnScope ["_law_script","_law_left","_law_purse","_law_tongue_here","_law_one","_law_other","_law_shape_here"] ["_law_script"] (dh (top 44)):=by walk_at "sc"
theorem b2y(D_14:Dn P w K mg base k_14 "_law_draw" ["_law_left","_law_many"] (m5 K 2 F_14) a_14 d_14)(h_14:k_14<=k)(D_19:Dn P w K mg base k_19 "_law_shape" ["_law_left","_law_tongue_here","_law_deep","_law_purse","_law_room"] (m5 K 5 F_19) a_19 b05)(h_19:k_19<=k)(D_13:Dn P w K mg base k_13 "_law_source" ["_law_script"] (m5 K 1 F_13) a_13 d_13)(h_13:k_13<=k)(D_31:Dn P w K mg base k_31 "_law_told" ["_law_shape_here"] (m5 K 1 F_31) a_31 d_31)(h_31:k_31<=k)(D_16:Dn P w K mg base k_16 "_law_tongue" ["_law_left"] (m5 K 1 F_16) a_16 d_16)(h_16:k_16<=k):MD P w K mg base f k ["_law_script","_law_left","_law_purse","_law_tongue_here","_law_one","_law_other","_law_shape_here"] "law" (top 44) (an8 F_14 F_19 F_13 F_31 F_16):=λcdv A outer s H E hr =>
 have SC:=awv
 (au (jm 1 SC.nd (aem true D_13 (hr.mono h_13) rfl (aa (cj 0) bc)))
 (au (jm 2 SC.nd (gh (vf (aa bf (aa bf (aa bf (aa bf (aa bf bc)))))) (j4 D_14 hr h_14 (aa (cj 1) (aa bf bc)))))
 (au (jm 3 SC.nd (j4 D_16 hr h_16 (aa (cj 1) bc)))
 (au (jm 4 SC.nd (j4 D_19 hr h_19 (aa (cj 1) (aa (cj 3) (aa bf (aa bf (aa (jx (aa bf bc)) bc)))))))
 (au (jm 5 SC.nd (j4 D_19 hr h_19 (aa (cj 1) (aa (cj 3) (aa (j7 bf (j4 D_14 hr h_14 (aa (cj 1) (aa bf bc)))) (aa (cj 2) (aa (jx (aa bf bc)) bc)))))))
 (au (zf bI rfl (ur (vf (aa (cj 4) (aa (cj 5) (aa (cj 4) bc))))) (um (i:=6) SC.nd rfl (Or.inl rfl)) (cu (mz (a05 (ph (j4 D_31 hr h_31 (aa (cj 6) bc))))
 a8o
 ig)))
 (cu (ik zb))))))))
end
end K11
namespace SPR
structure Pt where
 w:Nat
 e:Bool
 B:Nat->Nat->Bool
 E:Nat->Nat->Bool
 F:Nat->Nat->Nat->Bool
def sw:List Pt->Nat
 |[]=>0
 |x::xs=>x.w+sw xs
def aE:List Pt->Bool
 |[]=>true
 |x::xs=>x.e && aE xs
def oE:List Pt->Bool
 |[]=>false
 |x::xs=>x.e || oE xs
def sB:List Pt->Nat->Nat->Bool
 |[],_,_=>false
 |x::xs,a,p=>x.B a p || (x.e && sB xs (a+x.w) p)
def sE:List Pt->Nat->Nat->Bool
 |[],_,_=>false
 |x::xs,a,p=>(x.E a p && aE xs) || sE xs (a+x.w) p
def sF:List Pt->Nat->Nat->Nat->Bool
 |[],_,_,_=>false
 |x::xs,a,p,q=>x.F a p q || (x.E a p && sB xs (a+x.w) q) || sF xs (a+x.w) p q
def oB:List Pt->Nat->Nat->Bool
 |[],_,_=>false
 |x::xs,a,p=>x.B a p || oB xs (a+x.w) p
def oEn:List Pt->Nat->Nat->Bool
 |[],_,_=>false
 |x::xs,a,p=>x.E a p || oEn xs (a+x.w) p
def oF:List Pt->Nat->Nat->Nat->Bool
 |[],_,_,_=>false
 |x::xs,a,p,q=>x.F a p q || oF xs (a+x.w) p q
def tE(lo:Nat):Nat->List Pt->Nat->Nat->Bool
 |_,[],_,_=>false
 |k,x::xs,a,p=>(x.E a p && (decide (lo<=k+1) || aE xs)) || tE lo (k+1) xs (a+x.w) p
def eT(lo:Nat):Nat->List Pt->Bool
 |_,[]=>true
 |k,x::xs=>decide (lo<=k) || (x.e && eT lo (k+1) xs)
def asb:Pt:=⟨1,false,λa p=>p == a+1,λa p=>p == a+1,λ_ _ _=>false⟩
def ajx(xs:List Pt):Pt:=⟨sw xs,aE xs,sB xs,sE xs,sF xs⟩
def ajy(xs:List Pt):Pt:=⟨sw xs,oE xs,oB xs,oEn xs,oF xs⟩
def ay8(x:Pt):Pt:=⟨x.w,true,x.B,x.E,λa p q=>x.F a p q || (x.E a p && x.B a q)⟩
def atd(x:Pt)(lo hi:Nat):Pt:=⟨hi*x.w,lo == 0 || x.e,sB (List.replicate hi x),tE lo 0 (List.replicate hi x),sF (List.replicate hi x)⟩
structure Pt.Ok (x:Pt):Prop where
 b:∀a p,x.B a p=true->a<p/\p<=a+x.w
 e:∀a p,x.E a p=true->a<p/\p<=a+x.w
 f:∀a p q,x.F a p q=true->(a<p/\p<=a+x.w)/\a<q/\q<=a+x.w
theorem an9:∀{xs:List Pt},(∀x∈xs,x.Ok)->∀{a p},sB xs a p=true->a<p/\p<=a+sw xs
 |[],_,_,_,h=>by cases h
 |x::xs,o,a,p,h=>by
  simp only [sB,bL,aZ] at h;simp only [sw]
  rcases h with h|⟨_,h⟩
  ·have:=(o x (by simp)).b a p h;omega
  ·have:=an9 (λy hy=>o y (by simp [hy])) h;omega
theorem aww:∀{xs:List Pt},(∀x∈xs,x.Ok)->∀{a p},sE xs a p=true->a<p/\p<=a+sw xs
 |[],_,_,_,h=>by cases h
 |x::xs,o,a,p,h=>by
  simp only [sE,bL,aZ] at h;simp only [sw]
  rcases h with ⟨h,_⟩|h
  ·have:=(o x (by simp)).e a p h;omega
  ·have:=aww (λy hy=>o y (by simp [hy])) h;omega
theorem awx{lo:Nat}:∀{xs:List Pt},(∀x∈xs,x.Ok)->∀{k a p},tE lo k xs a p=true->a<p/\p<=a+sw xs
 |[],_,_,_,_,h=>by cases h
 |x::xs,o,k,a,p,h=>by
  simp only [tE,bL,aZ] at h;simp only [sw]
  rcases h with ⟨h,_⟩|h
  ·have:=(o x (by simp)).e a p h;omega
  ·have:=awx (λy hy=>o y (by simp [hy])) h;omega
theorem asd:∀{xs:List Pt},(∀x∈xs,x.Ok)->∀{a p q},sF xs a p q=true->(a<p/\p<=a+sw xs)/\a<q/\q<=a+sw xs
 |[],_,_,_,_,h=>by cases h
 |x::xs,o,a,p,q,h=>by
  simp only [sF,bL,aZ] at h;simp only [sw];have o':∀y∈xs,y.Ok:=λy hy=>o y (by simp [hy])
  rcases h with (h|⟨h,h'⟩)|h
  ·have:=(o x (by simp)).f a p q h;omega
  ·have:=(o x (by simp)).e a p h;have:=an9 o' h';omega
  ·have:=asd o' h;omega
theorem awy:∀{xs:List Pt},(∀x∈xs,x.Ok)->∀{a p},oB xs a p=true->a<p/\p<=a+sw xs
 |[],_,_,_,h=>by cases h
 |x::xs,o,a,p,h=>by
  simp only [oB,bL] at h;simp only [sw]
  rcases h with h|h
  ·have:=(o x (by simp)).b a p h;omega
  ·have:=awy (λy hy=>o y (by simp [hy])) h;omega
theorem ap1:∀{xs:List Pt},(∀x∈xs,x.Ok)->∀{a p},oEn xs a p=true->a<p/\p<=a+sw xs
 |[],_,_,_,h=>by cases h
 |x::xs,o,a,p,h=>by
  simp only [oEn,bL] at h;simp only [sw]
  rcases h with h|h
  ·have:=(o x (by simp)).e a p h;omega
  ·have:=ap1 (λy hy=>o y (by simp [hy])) h;omega
theorem awz:∀{xs:List Pt},(∀x∈xs,x.Ok)->∀{a p q},oF xs a p q=true->(a<p/\p<=a+sw xs)/\a<q/\q<=a+sw xs
 |[],_,_,_,_,h=>by cases h
 |x::xs,o,a,p,q,h=>by
  simp only [oF,bL] at h;simp only [sw]
  rcases h with h|h
  ·have:=(o x (by simp)).f a p q h;omega
  ·have:=awz (λy hy=>o y (by simp [hy])) h;omega
theorem a8w(x:Pt):∀n,sw (List.replicate n x)=n*x.w
 |0=>by simp [sw]
 |n+1=>by rw [aS,sw,a8w x n,dI];omega
theorem ax0:asb.Ok:=⟨λa p h=>by simp [asb] at h ⊢;omega,λa p h=>by simp [asb] at h ⊢;omega,λa p q h=>by cases h⟩
theorem ax1{xs:List Pt}(o:∀x∈xs,x.Ok):(ajx xs).Ok:=⟨λ_ _ h=>an9 o h,λ_ _ h=>aww o h,λ_ _ _ h=>asd o h⟩
theorem ax2{xs:List Pt}(o:∀x∈xs,x.Ok):(ajy xs).Ok:=⟨λ_ _ h=>awy o h,λ_ _ h=>ap1 o h,λ_ _ _ h=>awz o h⟩
theorem ax3{x:Pt}(o:x.Ok):(ay8 x).Ok:=⟨o.b,o.e,λa p q h=>by
 simp only [ay8,bL,aZ] at h ⊢
 rcases h with h|⟨h1,h2⟩
 ·exact o.f a p q h
 ·exact ⟨o.e a p h1,o.b a q h2⟩⟩
theorem ax4{x:Pt}(o:x.Ok)(lo hi:Nat):(atd x lo hi).Ok:=by
 have o':∀y∈List.replicate hi x,y.Ok:=λy hy=>by rw [eW hy];exact o
 have w:(atd x lo hi).w=sw (List.replicate hi x):=(a8w x hi).symm;exact ⟨λa p h=>by rw [w];exact an9 o' h,λa p h=>by rw [w];exact awx o' h,λa p q h=>by rw [w];exact asd o' h⟩
theorem a0v:∀(xs:List Pt) (x:Pt),sw (xs++[x])=sw xs+x.w
 |[],x=>by simp [sw]
 |y::xs,x=>by rw [bJ,sw,sw,a0v xs x];omega
theorem ajz:∀(xs:List Pt) (x:Pt),aE (xs++[x])=(aE xs && x.e)
 |[],x=>by simp [aE]
 |y::xs,x=>by rw [bJ,aE,aE,ajz xs x,Bool.and_assoc]
theorem ap2:∀(xs:List Pt) (x:Pt),oE (xs++[x])=(oE xs || x.e)
 |[],x=>by simp [oE]
 |y::xs,x=>by rw [bJ,oE,oE,ap2 xs x,fV]
theorem ak0:∀(xs:List Pt) (x:Pt) (a p:Nat),sB (xs++[x]) a p=(sB xs a p || (aE xs && x.B (a+sw xs) p))
 |[],x,a,p=>by simp [sB,aE,sw]
 |y::xs,x,a,p=>by
  rw [bJ,sB,sB,aE,sw,ak0 xs x,cG]
  cases y.B a p<;>cases y.e<;>simp
theorem ap3:∀(xs:List Pt) (x:Pt) (a p:Nat),sE (xs++[x]) a p=((sE xs a p && x.e) || x.E (a+sw xs) p)
 |[],x,a,p=>by simp [sE,aE,sw]
 |y::xs,x,a,p=>by
  rw [bJ,sE,sE,ajz,sw,ap3 xs x,cG]
  cases y.E a p<;>cases aE xs<;>cases x.e<;>simp
theorem ap4:∀(xs:List Pt) (x:Pt) (a p q:Nat),sF (xs++[x]) a p q=(sF xs a p q || (sE xs a p && x.B (a+sw xs) q) || x.F (a+sw xs) p q)
 |[],x,a,p,q=>by simp [sF,sE,sB,sw]
 |y::xs,x,a,p,q=>by
  rw [bJ,sF,sF,sE,ak0,sw,ap4 xs x,cG]
  cases y.F a p q<;>cases y.E a p<;>cases aE xs<;>cases sB xs (a+y.w) q<;>cases sF xs (a+y.w) p q<;>cases sE xs (a+y.w) p<;>simp
theorem ap5:∀(xs:List Pt) (x:Pt) (a p:Nat),oB (xs++[x]) a p=(oB xs a p || x.B (a+sw xs) p)
 |[],x,a,p=>by simp [oB,sw]
 |y::xs,x,a,p=>by rw [bJ,oB,oB,ap5 xs x,sw,cG,fV]
theorem ak1:∀(xs:List Pt) (x:Pt) (a p:Nat),oEn (xs++[x]) a p=(oEn xs a p || x.E (a+sw xs) p)
 |[],x,a,p=>by simp [oEn,sw]
 |y::xs,x,a,p=>by rw [bJ,oEn,oEn,ak1 xs x,sw,cG,fV]
theorem ap6:∀(xs:List Pt) (x:Pt) (a p q:Nat),oF (xs++[x]) a p q=(oF xs a p q || x.F (a+sw xs) p q)
 |[],x,a,p,q=>by simp [oF,sw]
 |y::xs,x,a,p,q=>by rw [bJ,oF,oF,ap6 xs x,sw,cG,fV]
theorem ak2{x:Pt}(h:x.e=true):∀n,aE (List.replicate n x)=true
 |0=>rfl
 |n+1=>by rw [aS,aE,h,ak2 h n];rfl
theorem ap7{x:Pt}{lo:Nat}(h:x.e=true):∀n k,eT lo k (List.replicate n x)=true
 |0,_=>rfl
 |n+1,k=>by rw [aS,eT,h,ap7 h n (k+1)];simp
theorem ax5{x:Pt}{lo k n:Nat}:eT lo k (List.replicate n x)=(decide (lo<=k) || aE (List.replicate n x)):=by
 cases h:x.e with
 |true=>rw [ap7 h,ak2 h];simp
 |false =>
  cases n with
  |zero=>simp [eT,aE]
  |succ n=>simp [aS,eT,aE,h]
theorem ax6{x:Pt}{lo hi:Nat}(hl:lo<=hi):eT lo 0 (List.replicate hi x)=(lo == 0 || x.e):=by
 rw [ax5]
 cases hi with
 |zero =>
  obtain rfl:lo=0:=by omega
  simp
 |succ n =>
  cases h:x.e with
  |true=>rw [ak2 h];simp
  |false=>rw [aS,aE,h];cases lo<;>simp
end SPR
namespace HND
open L2 MI
noncomputable def zm:SS :=
 (iz (nu 0 (sC (.str " !\"#$&'()*+,-./0123456789:;<=>?@ABCDEFGHIJKLMNOPQRSTUVWXYZ[\\]^_`")))
 (oh (s2 iu (sV 0) (sC (.str "abcdefghijklmnopqrstuvwxyz{|}~\n")))))
end HND
namespace MI
open L2
abbrev S(l:List Nat):Str:=⟨l.toArray⟩
theorem ana(l:List Nat):(S l).cps.toList=l:=by simp
theorem ago(l:List Nat):(S l).length=l.length:=by simp [Str.length]
theorem ase(x:Str):S x.cps.toList=x:=by cases x;simp
theorem azm(a b:List Nat):S a++S b=S (a++b):=by rw [<-ase (S a++S b),az7]
section
variable{h:Hd}{a b l:List Nat}{i:Nat}{c:Nat}
theorem b14(hl:l.length<=LINE)(e:l[i]? = some c):gIx (.str (S l)) (.int (i:Nat)) h=.ok (.str (S [c])) h:=by
 unfold gIx;simp only [ago,aC hl,ana,xg e]
theorem anb(hl:a.length+b.length<=LINE):iu (.str (S a)) (.str (S b)) h=.ok (.str (S (a++b))) h:=by
 unfold iu;simp only [ago,aC hl,azm]
theorem asf(hl:l.length<=LINE):a2p [.str (S l)] h=.ok (.int l.length) h:=by
 unfold a2p;simp only [ago,aC hl]
theorem b15(k:Nat)(hl:l.length<=LINE):ad4 (.str (S l)) none (some (k:Int)) h=.ok (.str (S (l.take k))) h:=by
 show gSl (.str (S l)) none (some (k:Int)) h=_;unfold gSl;simp only [ago,aC hl,ana,acu]
theorem ap8(k:Nat)(hl:l.length<=LINE):ad4 (.str (S l)) (some (k:Int)) none h=.ok (.str (S (l.drop k))) h:=by
 show gSl (.str (S l)) (some (k:Int)) none h=_;unfold gSl;simp only [ago,aC hl,ana,ab4]
end
section
variable{h:Hd}{i j:Int}{xs ys:List D}
theorem a72:gIx (.tup xs) (.int i) h=(match atI xs i with|some d=>.ok d h|none=>.no):=rfl
theorem abz:gIx (.rol xs) (.int i) h=(match atI xs i with|some d=>.ok d h|none=>.no):=rfl
theorem ac0:gIx (.ref k) (.int i) h=(match a1p (.ref k) h with|some xs=>(match atI xs i with|some d=>.ok d h|none=>.no)|none=>.no):=rfl
theorem aa5:a2p [.tup xs] h=.ok (.int xs.length) h:=rfl
theorem a5p:a2p [.rol xs] h=.ok (.int xs.length) h:=rfl
theorem aa6:a2p [.ref k] h=(match a1p (.ref k) h with|some xs=>.ok (.int xs.length) h|none=>.no):=rfl
theorem a1m:iu (.int i) (.int j) h=.ok (.int (i+j)) h:=rfl
theorem a5q:a0j (.int i) (.int j) h=.ok (.int (i+j)) h:=rfl
open Classical in
theorem a3h:yp (.int i) (.int j) h=if CMul i j then .ok (.int (i*j)) h else .no:=by unfold yp;rfl
theorem j6(b:Bool):tru (.bl b) h=.ok b h:=rfl
theorem aa7:tru (.int i) h=.ok (i != 0) h:=rfl
theorem aa8:tru (.rol xs) h=.ok (!xs.isEmpty) h:=rfl
theorem aa9:tru (.tup xs) h=.ok (!xs.isEmpty) h:=rfl
theorem aaa:tru .non h=.ok false h:=rfl
theorem agp:hEq (.int i) (.int j) h=.ok (.bl (i == j)) h:=rfl
theorem agq:hNe (.int i) (.int j) h=.ok (.bl (!(i == j))) h:=rfl
theorem ax7(a b:Str):hEq (.str a) (.str b) h=.ok (.bl (a == b)) h:=rfl
theorem ax8(a b:Str):hNe (.str a) (.str b) h=.ok (.bl (!(a == b))) h:=rfl
theorem anc(a b:Bool):hEq (.bl a) (.bl b) h=.ok (.bl (a == b)) h:=rfl
theorem ane(a b:Bool):hNe (.bl a) (.bl b) h=.ok (.bl (!(a == b))) h:=rfl
theorem af4(x:D):gIs x .non h=.ok (.bl (ab9 x)) h:=by cases x<;>rfl
theorem a4m(x:D):aok x .non h=.ok (.bl (!ab9 x)) h:=by cases x<;>rfl
theorem anf(a b:Bool):gIs (.bl a) (.bl b) h=.ok (.bl (a == b)) h:=rfl
theorem a6u(a b:Bool):aok (.bl a) (.bl b) h=.ok (.bl (a != b)) h:=rfl
theorem ay9:ab9 (.int i)=false:=rfl
theorem aya(x:Str):ab9 (.str x)=false:=rfl
theorem ayb:ab9 .non=true:=rfl
theorem ayc:ab9 (.tup xs)=false:=rfl
end
end MI
namespace HND
open L2 MI AT
def ayd:Str := " !\"#$&'()*+,-./0123456789:;<=>?@ABCDEFGHIJKLMNOPQRSTUVWXYZ[\\]^_`"
def aye:Str := "abcdefghijklmnopqrstuvwxyz{|}~\n"
def sig:List Nat:=ayd.cps.toList++aye.cps.toList
theorem ash:sig.length=95:=by decide +kernel
theorem ax9:sig.Nodup:=by decide +kernel
noncomputable def lr:SF:=km zm 1
theorem lits{h:Hd}:iu (.str ayd) (.str aye) h=.ok (.str (S sig)) h:=by
 rw [<-ase ayd,<-ase aye,anb (by decide +kernel)]
 rfl
theorem aab:Pu lr 0 [] (.str (S sig)):=by
 refine Pu.of rfl (by simp) (r:=.ok (.str (S sig)) []) ?_ (by rw [jb (gj _) (by simp)];rfl) (gj _)
 unfold lr;rw [iy];unfold zm;have e:=@lits [];unfold ayd aye at e;show toR (iz (nu 0 _) _ [none] [])=_;simp only [vo,nu,sC,a4c,a8q,oh,s2,sV,List.set_cons_zero,gV,fu,e,abj]
structure Tongue (l:List Nat):Prop where
 lo:1<=l.length
 hi:l.length<=6
 nd:l.Nodup
 sub:∀c∈l,c∈sig
theorem ac1(a r:List Nat)(i:Nat)(c:Nat)(e:r[i]? = some c):List.Perm (a++r) ((a++[c])++(r.take i++r.drop (i+1))):=by
 obtain ⟨hi,e⟩:=av.mp e;have:r=r.take i++c::r.drop (i+1):=by rw [<-e];simp
 rw [cL];refine List.Perm.append_left a ?_;rw [fL]
 conv=>lhs;rw [this]
 exact List.perm_middle
end HND
namespace MI
open L2
theorem azn(n:Nat):rng 0 n=(List.range n).map λi:Nat=>D.int (i:Nat):=by
 unfold rng;exact eA λi _=>by rw [Int.zero_add]
theorem azo(a:Int)(n:Nat):rng a n=(List.range n).map λi:Nat=>D.int (a+(i:Nat)):=rfl
theorem adh(h:n<=LINE):B62 (n:Int):=by
 have:n<=16777216:=h
 unfold B62;omega
theorem ap9(h:Hd)(z:n<=LINE):a6i [.int (n:Nat)] h=.ok ⟨(List.range n).map λi:Nat=>D.int (i:Nat),λ_=>True⟩ h:=by
 unfold a6i;simp only [adh z,dS,dA,azn]
theorem axa(h:Hd)(za:a<=LINE)(z:n<=LINE):a5h [.int (a:Nat),.int (n:Nat)] h=.ok ⟨(List.range (n-a)).map λi:Nat=>D.int ((a+i:Nat)),λ_=>True⟩ h:=by
 unfold a5h;simp only [adh z,adh za,and_self,dS,azo];rw [show ((n:Int)-(a:Int)).toNat=n-a by omega]
 congr 2
theorem azp(e:f τ h=.ok d h):ak f dq τ h=.ok [d] h:=by unfold ak dq;rw [e];rfl
theorem azq(e:f τ h=.ok c h)(e':g τ h=.ok d h):ak f (ak g dq) τ h=.ok [c,d] h:=by unfold ak;rw [e,fu,e',fu];rfl
theorem asi(e:f τ h=.ok (.int (n:Nat)) h)(z:n<=LINE):sRg a6i (ak f dq) τ h=.ok ⟨(List.range n).map λi:Nat=>D.int (i:Nat),λ_=>True⟩ h:=by
 unfold sRg;rw [azp e,fu];exact ap9 h z
theorem adi(e':g τ h=.ok (.int (a:Nat)) h)(e:f τ h=.ok (.int (n:Nat)) h)(za:a<=LINE)(z:n<=LINE):sRg a5h (ak g (ak f dq)) τ h=.ok ⟨(List.range (n-a)).map λi:Nat=>D.int ((a+i:Nat)),λ_=>True⟩ h:=by
 unfold sRg;rw [azq e' e,fu];exact axa h za z
theorem c7(e:τ[i]? = some (some d)):sV i τ h=.ok d h:=by unfold sV;rw [e]
theorem a80{fi:SI}{t:D->Option Sd}{fe:SE}{ix:List Nat}{τ:Sd}{h:Hd}{α:Type}(g F:α->D)(xs:List α)(e:fi τ h=.ok ⟨xs.map g,λ_=>True⟩ h)(z:xs.length<=LINE)
  (st:∀x∈xs,acz t fe (frs' ix τ) (g x) h=.ok (F x) h):a5i fi t fe ix τ h=.ok (.ref h.length) (h++[.lst (xs.map F)]):=by
 unfold a5i;rw [e,fu];dsimp only;rw [aC (by rw [ax];exact z),abk g F st]
 rfl
theorem ac2{fi:SI}{t:D->Option Sd}{c:ST}{fe:SE}{ix:List Nat}{τ:Sd}{h:Hd}{α:Type}(g:α->D)(F:α->Option D)(xs:List α)(e:fi τ h=.ok ⟨xs.map g,λ_=>True⟩ h)(z:xs.length<=LINE)
  (st:∀x∈xs,ab6 t c fe (frs' ix τ) (g x) h=.ok (F x) h):ut fi t c fe ix τ h=.ok (.ref h.length) (h++[.lst (xs.filterMap F)]):=by
 unfold ut;rw [e,fu];dsimp only;rw [aC (by rw [ax];exact z),abl g F st]
 rfl
theorem adk(fe:SE)(r:Sd)(x:D)(h:Hd):acz t1 fe r x h=fe (some x::r) h:=rfl
theorem asj(c:ST)(fe:SE)(r:Sd)(x:D)(h:Hd):ab6 t1 c fe r x h=(c (some x::r) h).bind λb h1=>if b=true then (fe (some x::r) h1).bind λy h2=>.ok (some y) h2 else .ok none h1:=rfl
section
variable{f k f1 f2 f3:SE}{c c1 c2:ST}{g p q:SS}{τ τ1:Sd}{h h1 h2 h3 h4:Hd}{a b d v:D}{i:Nat}{t u:Bool}
theorem dz(d:D)(τ:Sd)(h:Hd):sC d τ h=.ok d h:=rfl
theorem ayf(e3:G [] h=.ok v h1):sA G dq τ h=.ok v h1:=e3
theorem qg(e1:f τ h=.ok a h1)(e3:G [a] h1=.ok v h2):sA G (ak f dq) τ h=.ok v h2:=by
 have:ak f dq τ h=.ok [a] h1:=by unfold ak;rw [e1];rfl
 unfold sA;rw [this,fu,e3]
theorem a1j(e1:f τ h=.ok a h1)(e2:k τ h1=.ok b h2)(e3:G [a,b] h2=.ok v h3):sA G (ak f (ak k dq)) τ h=.ok v h3:=by
 have:ak f (ak k dq) τ h=.ok [a,b] h2:=by unfold ak;rw [e1,fu,e2];rfl
 unfold sA;rw [this,fu,e3]
theorem ang(e0:f1 τ h=.ok d h1)(e1:f τ h1=.ok a h2)(e2:k τ h2=.ok b h3)(e3:G [d,a,b] h3=.ok v h4):sA G (ak f1 (ak f (ak k dq))) τ h=.ok v h4:=by
 have:ak f1 (ak f (ak k dq)) τ h=.ok [d,a,b] h3:=by unfold ak;rw [e0,fu,e1,fu,e2];rfl
 unfold sA;rw [this,fu,e3]
theorem lw(e:f τ h=.ok d h1):iz (nu i f) g τ h=g (τ.set i (some d)) h1:=by
 rw [vo];unfold nu;rw [e];rfl
theorem azr(e:f τ h=.ok d h1):nu i f τ h=.nx (τ.set i (some d)) h1:=by
 unfold nu;rw [e];rfl
theorem yf(e:p τ h=.nx τ1 h1):iz p g τ h=g τ1 h1:=by rw [vo,e];rfl
theorem qx(e:p τ h=.rt d h1):iz p g τ h=.rt d h1:=by rw [vo,e];rfl
theorem ifT(e:c τ h=.ok true h1):sIf c p q τ h=p τ h1:=by unfold sIf;rw [e];rfl
theorem ifF(e:c τ h=.ok false h1):sIf c p q τ h=q τ h1:=by unfold sIf;rw [e];rfl
theorem ifN(e:c τ h=.ok false h1):iz (sIf c p sNx) g τ h=g τ h1:=by rw [vo,ifF e];rfl
theorem tof(e:f τ h=.ok (.bl t) h1):sT f τ h=.ok t h1:=by unfold sT;rw [e];rfl
theorem o7(e:f τ h=.ok d h1)(e':tru d h1=.ok t h2):a1n f τ h=.ok t h2:=by unfold a1n;rw [e,fu,e']
theorem aac(e:c1 τ h=.ok true h1)(e':c2 τ h1=.ok t h2):a7a c1 c2 τ h=.ok t h2:=by unfold a7a;rw [e,fu,aC rfl,e']
theorem a8x(e:c1 τ h=.ok false h1):a7a c1 c2 τ h=.ok false h1:=by unfold a7a;rw [e,fu,aQ (by simp)]
theorem orT(e:c1 τ h=.ok true h1):sOr c1 c2 τ h=.ok true h1:=by unfold sOr;rw [e,fu,aC rfl]
theorem orF(e:c1 τ h=.ok false h1)(e':c2 τ h1=.ok t h2):sOr c1 c2 τ h=.ok t h2:=by unfold sOr;rw [e,fu,aQ (by simp),e']
theorem axb(e:c τ h=.ok t h1):a7b c τ h=.ok (!t) h1:=by unfold a7b;rw [e];rfl
theorem a4x(e:c τ h=.ok true h1):a7b c τ h=.ok false h1:=axb e
theorem aad(e:c τ h=.ok false h1):a7b c τ h=.ok true h1:=axb e
theorem j9(e:f τ h=.ok d h1):oh f τ h=.rt d h1:=by unfold oh;rw [e];rfl
theorem ak3(e:f τ h=.ok (.bl true) h1)(e':k τ h1=.ok d h2):a0y f k τ h=.ok d h2:=by unfold a0y;rw [e,fu];exact e'
theorem a6e(e1:f τ h=.ok d h1)(l:isL d h1=true)(e2:A τ h1=.ok ds h2)(e3:G d ds h2=.ok v h3):yr (sML G f A) τ h=.nx τ h3:=by
 unfold yr sML;rw [e1,fu,aC l,e2,fu,e3];rfl
theorem arg1(e:f τ h=.ok d h1):ak f dq τ h=.ok [d] h1:=by unfold ak dq;rw [e];rfl
theorem ie(e1:f τ h=.ok a h1)(e2:k τ h1=.ok b h2)(e3:G a b h2=.ok v h3):s2 G f k τ h=.ok v h3:=by
 unfold s2;rw [e1,fu,e2,fu,e3]
theorem wj(e1:f τ h=.ok a h1)(e3:G a h1=.ok v h2):s1 G f τ h=.ok v h2:=by
 unfold s1;rw [e1,fu,e3]
theorem ac3(ht:τ[i]? = some (some a))(e:f τ h=.ok b h1)(e2:G a b h1=.ok d h2):ab5 i G f τ h=.nx (τ.set i (some d)) h2:=by
 unfold ab5;rw [ht];dsimp only;rw [e,a4c,e2];rfl
theorem axc(e1:f1 τ h=.ok v h1)(e2:f2 τ h1=.ok a h2)(e3:f3 τ h2=.ok b h3)(e4:put a b v h3=some h4):ag0 f1 f2 f3 τ h=.nx τ h4:=by
 unfold ag0;rw [e1,a4c,e2,a4c,e3,a4c,e4]
theorem a3q{fi:SI}{G:SG}{b:SS}{xs:List D}{ck:Hd->Prop}(e:fi τ h=.ok ⟨xs,ck⟩ h1):iz (a6m fi G b) g τ h=thn (forL ck G b xs τ h1) g:=by
 rw [vo];unfold a6m;rw [e];rfl
theorem a8e(e:f τ h=.ok d h1)(e2:aks d h1=.ok ⟨xs,ck⟩ h1):sIt f τ h=.ok ⟨xs,ck⟩ h1:=by
 unfold sIt;rw [e,fu,e2]
theorem af5(e:h[i]? = some (.lst xs))(z:xs.length<LINE):agv (.ref i) [a] h=.ok .non (h.set i (.lst (xs++[a]))):=by
 unfold agv;simp only [e,aC z]
theorem ac4(e:h[i]? = some (.lst xs))(hj:xs[j]? = some y):gIx (.ref i) (.int (j:Nat)) h=.ok y h:=by
 rw [ac0];unfold a1p;simp only [e,xg hj]
theorem azs(hj:xs[j]? = some y):gIx (.rol xs) (.int (j:Nat)) h=.ok y h:=by
 rw [abz];simp only [xg hj]
theorem agz(hj:xs[j]? = some y):gIx (.tup xs) (.int (j:Nat)) h=.ok y h:=by
 rw [a72];simp only [xg hj]
theorem asl(e:h[i]? = some (.lst xs)):qy [.ref i] h=.ok (.tup xs) h:=by
 unfold qy a1p;simp only [e]
theorem div_ii(c:0<y/\y<1073741824):a8a (.int x) (.int y) h=.ok (.int (x / y)) h:=by unfold a8a;exact aC c
theorem a8y(c:0<y):a5x (.int x) (.int y) h=.ok (.int (x%y)) h:=by unfold a5x;exact aC c
theorem adl(c:y<x):gGt (.int x) (.int y) h=.ok (.bl true) h:=by unfold gGt;simp only [c,decide_true]
theorem adm(c:¬ y<x):gGt (.int x) (.int y) h=.ok (.bl false) h:=by unfold gGt;simp only [c,decide_false]
theorem adn(c:x<y):gLt (.int x) (.int y) h=.ok (.bl true) h:=by unfold gLt;simp only [c,decide_true]
theorem ado(c:¬ x<y):gLt (.int x) (.int y) h=.ok (.bl false) h:=by unfold gLt;simp only [c,decide_false]
theorem a1r(c:x=y):hEq (.int x) (.int y) h=.ok (.bl true) h:=by rw [agp,c,eR]
theorem a1s(c:¬ x=y):hEq (.int x) (.int y) h=.ok (.bl false) h:=by rw [agp,bM.mpr c]
theorem a3r(c:x=y):hNe (.int x) (.int y) h=.ok (.bl false) h:=by rw [agq,c,eR];rfl
theorem a4n(c:¬ x=y):hNe (.int x) (.int y) h=.ok (.bl true) h:=by rw [agq,bM.mpr c];rfl
theorem a4o(x:Int):av3 (.int x) h=.ok (.int (-x)) h:=rfl
theorem yg(x y:Int):MI.ach (.int x) (.int y) h=.ok (.int (x-y)) h:=rfl
theorem jf(h:n<=1000000):n<=LINE:=by show n<=16777216;omega
theorem axd(h:n<=1000000):n<LINE:=by show n<16777216;omega
theorem a5r:MI.yh [a,b] h=.ok (.tup [a,b]) h:=by unfold MI.yh;rw [aC (jf (by simp))]
theorem ac6:MI.yh [a,b,v] h=.ok (.tup [a,b,v]) h:=by unfold MI.yh;rw [aC (jf (by simp))]
end
end MI
namespace SRC
open L2 MI AT
structure Src (o:O) (N:Nat):Prop where
 ex:∃(cells:List Int) (a l c s:Int),o=.lst [.rol (cells.map D.int),.int a,.int l,.int c,.int s]/\0<=a/\0<=l/\0<=s/\s<2147483647/\0<=c/\c<=N
theorem Src.clo(P:Src o N):xj 0 o:=by
 obtain ⟨cells,a,l,c,s,rfl,_⟩:=P.ex;exact bx (lq (gf λx _=>du x)) (bx (du _) (bx (du _) (bx (du _) (bx (du _) gq))))
theorem Src.up(P:Src o N)(h:N<=M):Src o M:=by
 obtain ⟨cells,a,l,c,s,e,h1,h2,h3,h4,h5,h6⟩:=P.ex;exact ⟨cells,a,l,c,s,e,h1,h2,h3,h4,h5,by omega⟩
noncomputable def cz:SF:=km a2t 4
abbrev so(cells:List Int)(a l c s:Int):O:=.lst [.rol (cells.map D.int),.int a,.int l,.int c,.int s]
theorem af6(e:h[i]? = some (.lst xs))(hj:xs[j]? = some y):akv (.ref i) (.int (j:Nat)) h=.ok y h:=by
 unfold akv;simp only [e,xg hj]
theorem ayg(e1:fo τ h=.ok o h)(e2:fi τ h=.ok i h)(e3:akv o i h=.ok x h)(e4:fe τ h=.ok y h)(e5:G x y h=.ok z h)(e6:put o i z h=some h'):a2c G fo fi fe τ h=.nx τ h':=by
 unfold a2c;rw [e1,a4c,e2,a4c,e3,a4c,e4,a4c,e5,a4c,e6]
theorem b2z(c:y<=x):gGe (.int x) (.int y) h=.ok (.bl true) h:=by show R.ok (D.bl (decide (y<=x))) h=_;rw [dk c]
theorem b30(c:¬ y<=x):gGe (.int x) (.int y) h=.ok (.bl false) h:=by show R.ok (D.bl (decide (y<=x))) h=_;rw [br c]
theorem ak4(P:Src o N)(hN:N<=1000000000)(m0:0<m)(m1:m<1073741824):∃r o',cz [.ref 0,.int m] [o]=.ok (.int r) [o']/\0<=r/\r<m/\Src o' (N+1):=by
 obtain ⟨cells,a,l,c,s,rfl,a0,l0,s0,s1,c0,c1⟩:=P.ex;unfold cz;rw [iy];show ∃r o',toR (a2t [some (.ref 0),some (.int m),none,none] [so cells a l c s])=_/\_;unfold a2t;have last:∀s':Int,0<=s'->s'<2147483647->∃r q,0<=r/\r<m/\(s'+1+(c+1)*7919)^(3:Int).toNat%2147483647=q/\(q*48271+(c+1))^(2:Int).toNat%2147483629 / 64%m=r/\CMul (c+1) 7919/\CMul q 48271 /\
   (∀h,a8k (.int (s'+1+(c+1)*7919)) (.int 3) h=.ok (.int ((s'+1+(c+1)*7919)^(3:Int).toNat)) h)/\∀h,a8k (.int (q*48271+(c+1))) (.int 2) h=.ok (.int ((q*48271+(c+1))^(2:Int).toNat)) h:=λs' h0 h1=>by
  have q0:0<=(s'+1+(c+1)*7919)^(3:Int).toNat%2147483647:=eH _ (by decide)
  have q1:(s'+1+(c+1)*7919)^(3:Int).toNat%2147483647<2147483647:=dJ _ (by decide)
  refine ⟨_,_,eH _ (by omega),dJ _ m0,rfl,rfl,.inr ⟨by decide,by decide⟩,.inr ⟨by decide,by decide⟩,λh=>avv ⟨by decide,by decide,by omega⟩,λh=>avv ⟨by decide,by decide,?_⟩⟩
  generalize (s'+1+(c+1)*7919)^(3:Int).toNat%2147483647=q at q0 q1
  omega
 have x0:∀{a l c s:Int},gIx (.ref 0) (.int 0) [so cells a l c s]=.ok (.rol (cells.map D.int)) [so cells a l c s]:=λ{a l c s}=>ac4 (j:=0) rfl rfl;have x1:∀{a l c s:Int},gIx (.ref 0) (.int 1) [so cells a l c s]=.ok (.int a) [so cells a l c s]:=λ{a l c s}=>ac4 (j:=1) rfl rfl;have x2:∀{a l c s:Int},gIx (.ref 0) (.int 2) [so cells a l c s]=.ok (.int l) [so cells a l c s]:=λ{a l c s}=>ac4 (j:=2) rfl rfl;have x3:∀{a l c s:Int},gIx (.ref 0) (.int 3) [so cells a l c s]=.ok (.int c) [so cells a l c s]:=λ{a l c s}=>ac4 (j:=3) rfl rfl
 have x4:∀{a l c s:Int},gIx (.ref 0) (.int 4) [so cells a l c s]=.ok (.int s) [so cells a l c s]:=λ{a l c s}=>ac4 (j:=4) rfl rfl;have u3:∀{a l c s:Int} {τ:Sd},τ[0]? = some (some (.ref 0))->a2c a0j (sV 0) (sC (.int 3)) (sC (.int 1)) τ [so cells a l c s]=.nx τ [so cells a l (c+1) s]:=λ{a l c s τ} h0=>ayg (c7 h0) (dz _ _ _) (af6 (j:=3) rfl rfl) (dz _ _ _) a5q rfl;have u1:∀{a l c s:Int} {τ:Sd},τ[0]? = some (some (.ref 0))->a2c a0j (sV 0) (sC (.int 1)) (sC (.int 1)) τ [so cells a l c s]=.nx τ [so cells (a+1) l c s]:=λ{a l c s τ} h0=>ayg (c7 h0) (dz _ _ _) (af6 (j:=1) rfl rfl) (dz _ _ _) a5q rfl
 have p18:∀{h:Hd},a8k (.int 10) (.int 18) h=.ok (.int 1000000000000000000) h:=λ{h}=>p18 h;have e1:∀{a l c s:Int} {t2:Option D},0<l->toR (iz (sIf (sT (s2 gGt (s2 gIx (sV 0) (sC (.int 2))) (sC (.int 0)))) (iz (nu 3 (s2 a5x (s2 gIx (sV 0) (sC (.int 2))) (sV 1))) (iz (a2c a8a (sV 0) (sC (.int 2)) (sV 1)) (oh (sV 3)))) sNx) (iz (nu 3 (s2 a5x (s2 a8k (s2 iu (s2 iu (s2 gIx (sV 0) (sC (.int 4))) (sC (.int 1))) (s2 yp (s2 gIx (sV 0) (sC (.int 3))) (sC (.int 7919)))) (sC (.int 3))) (sC (.int 2147483647)))) (oh (s2 a5x (s2 a8a (s2 a5x (s2 a8k (s2 iu (s2 yp (sV 3) (sC (.int 48271))) (s2 gIx (sV 0) (sC (.int 3)))) (sC (.int 2))) (sC (.int 2147483629))) (sC (.int 64))) (sV 1)))) [some (.ref 0),some (.int m),t2,none] [so cells a l c s])=.ok (.int (l%m)) [so cells a (l / m) c s]:=λ{a l c s t2} hl=>by
  refine af toR (qx (ag (ifT (tof (ie (ie (c7 rfl) (dz _ _ _) x2) (dz _ _ _) (adl hl)))) ?_));refine ag (lw (ie (ie (c7 rfl) (dz _ _ _) x2) (c7 rfl) (a8y m0))) ?_;refine ag (yf (ayg (c7 rfl) (dz _ _ _) (af6 (j:=2) rfl rfl) (c7 rfl) (div_ii ⟨m0,m1⟩) rfl)) ?_;exact j9 (c7 rfl)
 have e2:∀{a s':Int} {t2:Option D},0<=s'->s'<2147483647->∃r,0<=r/\r<m/\toR (iz (sIf (sT (s2 gGt (s2 gIx (sV 0) (sC (.int 2))) (sC (.int 0)))) (iz (nu 3 (s2 a5x (s2 gIx (sV 0) (sC (.int 2))) (sV 1))) (iz (a2c a8a (sV 0) (sC (.int 2)) (sV 1)) (oh (sV 3)))) sNx) (iz (nu 3 (s2 a5x (s2 a8k (s2 iu (s2 iu (s2 gIx (sV 0) (sC (.int 4))) (sC (.int 1))) (s2 yp (s2 gIx (sV 0) (sC (.int 3))) (sC (.int 7919)))) (sC (.int 3))) (sC (.int 2147483647)))) (oh (s2 a5x (s2 a8a (s2 a5x (s2 a8k (s2 iu (s2 yp (sV 3) (sC (.int 48271))) (s2 gIx (sV 0) (sC (.int 3)))) (sC (.int 2))) (sC (.int 2147483629))) (sC (.int 64))) (sV 1)))) [some (.ref 0),some (.int m),t2,none] [so cells a 0 (c+1) s'])=.ok (.int r) [so cells a 0 (c+1) s']:=λ{a s' t2} h0 h1=>by
  obtain ⟨r,q,r0,r1,eq,er,d1,d2,d3,d4⟩:=last s' h0 h1;refine ⟨r,r0,r1,?_⟩;refine ag (af toR (ifN (tof (ie (ie (c7 rfl) (dz _ _ _) x2) (dz _ _ _) (adm (by omega)))))) ?_
  refine ag (af toR (lw (ie (ie (ie (ie (ie (c7 rfl) (dz _ _ _) x4) (dz _ _ _) a1m) (ie (ie (c7 rfl) (dz _ _ _) x3) (dz _ _ _) (a3h.trans (aC d1))) a1m) (dz _ _ _) (d3 _)) (dz _ _ _) (a8y (by decide))))) ?_
  rw [eq];refine ag (af toR (j9 (ie (ie (ie (ie (ie (ie (c7 rfl) (dz _ _ _) (a3h.trans (aC d2))) (ie (c7 rfl) (dz _ _ _) x3) a1m) (dz _ _ _) (d4 _)) (dz _ _ _) (a8y (by decide))) (dz _ _ _) (div_ii ⟨by decide,by decide⟩)) (c7 rfl) (a8y m0)))) ?_
  rw [er];rfl
 by_cases hA:l=0/\a<(cells.length:Int)
 ·obtain ⟨rfl,ha⟩:=hA;obtain ⟨j,rfl⟩:=fz a0;have hj:j<cells.length:=by omega
  have gx:∀{h:Hd},gIx (.rol (cells.map D.int)) (.int (j:Nat)) h=.ok (.int cells[j]) h:=λ{h}=>azs (by rw [bX,ah hj];rfl)
  have tt:∀{c s:Int} {t2 t3:Option D},a7a (sT (s2 hEq (s2 gIx (sV 0) (sC (.int 2))) (sC (.int 0)))) (sT (s2 gLt (s2 gIx (sV 0) (sC (.int 1))) (sA a2p (ak (s2 gIx (sV 0) (sC (.int 0))) dq)))) [some (.ref 0),some (.int m),t2,t3] [so cells (j:Nat) 0 c s]=.ok true [so cells (j:Nat) 0 c s]:=λ{c s t2 t3} =>
   aac (tof (ie (ie (c7 rfl) (dz _ _ _) x2) (dz _ _ _) (a1r rfl))) (tof (ie (ie (c7 rfl) (dz _ _ _) x1) (qg (ie (c7 rfl) (dz _ _ _) x0) (a5p.trans (by rw [ax]))) (adn ha)))
  have s2':0<=(s*31+cells[j])%2147483647:=eH _ (by decide)
  have s3:(s*31+cells[j])%2147483647<2147483647:=dJ _ (by decide)
  have go:∀{o':O} {g:SS},sIf (sT (s2 gGe (sV 2) (s2 a8k (sC (.int 10)) (sC (.int 18))))) (ag0 (sV 2) (sV 0) (sC (.int 2))) (ag0 (s2 a5x (s2 iu (s2 yp (s2 gIx (sV 0) (sC (.int 4))) (sC (.int 31))) (sV 2)) (sC (.int 2147483647))) (sV 0) (sC (.int 4))) [some (.ref 0),some (.int m),some (.int cells[j]),none] [so cells ((j:Nat)+1) 0 (c+1) s]=.nx [some (.ref 0),some (.int m),some (.int cells[j]),none] [o']->
    toR (iz (a2c a0j (sV 0) (sC (.int 3)) (sC (.int 1))) (iz (sIf (a7a (sT (s2 hEq (s2 gIx (sV 0) (sC (.int 2))) (sC (.int 0)))) (sT (s2 gLt (s2 gIx (sV 0) (sC (.int 1))) (sA a2p (ak (s2 gIx (sV 0) (sC (.int 0))) dq))))) (iz (nu 2 (s2 gIx (s2 gIx (sV 0) (sC (.int 0))) (s2 gIx (sV 0) (sC (.int 1))))) (iz (a2c a0j (sV 0) (sC (.int 1)) (sC (.int 1))) (sIf (sT (s2 gGe (sV 2) (s2 a8k (sC (.int 10)) (sC (.int 18))))) (ag0 (sV 2) (sV 0) (sC (.int 2))) (ag0 (s2 a5x (s2 iu (s2 yp (s2 gIx (sV 0) (sC (.int 4))) (sC (.int 31))) (sV 2)) (sC (.int 2147483647))) (sV 0) (sC (.int 4)))))) sNx) g) [some (.ref 0),some (.int m),none,none] [so cells (j:Nat) 0 c s])=toR (g [some (.ref 0),some (.int m),some (.int cells[j]),none] [o']):=λ{o' g} e=>by
   refine ag (af toR (yf (u3 rfl))) ?_;refine af toR (yf (ag (ifT tt) ?_));refine ag (lw (ie (ie (c7 rfl) (dz _ _ _) x0) (ie (c7 rfl) (dz _ _ _) x1) gx)) ?_;exact ag (yf (u1 rfl)) e
  generalize cells[j]=x at *
  by_cases hB:(1000000000000000000:Int)<=x
  ·refine ⟨x%m,_,(go (o':=so cells ((j:Nat)+1) x (c+1) s) (ag (ifT (tof (ie (c7 rfl) (ie (dz _ _ _) (dz _ _ _) p18) (b2z hB)))) (axc (c7 rfl) (c7 rfl) (dz _ _ _) rfl))).trans (e1 (by omega)),eH _ (by omega),dJ _ m0,⟨cells,(j:Int)+1,x / m,c+1,s,rfl,by omega,Int.ediv_nonneg (by omega) (by omega),s0,s1,by omega,by omega⟩⟩
  ·obtain ⟨r,r0,r1,e⟩:=e2 (a:=(j:Nat)+1) (t2:=some (.int x)) s2' s3;exact ⟨r,_,(go (o':=so cells ((j:Nat)+1) 0 (c+1) ((s*31+x)%2147483647)) (ag (ifF (tof (ie (c7 rfl) (ie (dz _ _ _) (dz _ _ _) p18) (b30 hB)))) (axc (ie (ie (ie (ie (c7 rfl) (dz _ _ _) x4) (dz _ _ _) (a3h.trans (aC (.inr ⟨by decide,by decide⟩)))) (c7 rfl) a1m) (dz _ _ _) (a8y (by decide))) (c7 rfl) (dz _ _ _) rfl))).trans e,r0,r1,⟨cells,(j:Int)+1,0,c+1,_,rfl,by omega,by omega,s2',s3,by omega,by omega⟩⟩
 ·have tt:a7a (sT (s2 hEq (s2 gIx (sV 0) (sC (.int 2))) (sC (.int 0)))) (sT (s2 gLt (s2 gIx (sV 0) (sC (.int 1))) (sA a2p (ak (s2 gIx (sV 0) (sC (.int 0))) dq)))) [some (.ref 0),some (.int m),none,none] [so cells a l (c+1) s]=.ok false [so cells a l (c+1) s]:=by
   by_cases hl:l=0
   ·exact aac (tof (ie (ie (c7 rfl) (dz _ _ _) x2) (dz _ _ _) (a1r hl))) (tof (ie (ie (c7 rfl) (dz _ _ _) x1) (qg (ie (c7 rfl) (dz _ _ _) x0) (a5p.trans (by rw [ax]))) (ado λz=>hA ⟨hl,z⟩)))
   ·exact a8x (tof (ie (ie (c7 rfl) (dz _ _ _) x2) (dz _ _ _) (a1s hl)))
  by_cases hC:0<l
  ·exact ⟨l%m,_,(af toR (yf (u3 rfl))).trans ((af toR (ifN tt)).trans (e1 hC)),eH _ (by omega),dJ _ m0,⟨cells,a,l / m,c+1,s,rfl,a0,Int.ediv_nonneg (by omega) (by omega),s0,s1,by omega,by omega⟩⟩
  ·have:l=0:=by omega
   subst this;obtain ⟨r,r0,r1,e⟩:=e2 (a:=a) (t2:=none) s0 s1;exact ⟨r,_,(af toR (yf (u3 rfl))).trans ((af toR (ifN tt)).trans e),r0,r1,⟨cells,a,0,c+1,s,rfl,a0,by omega,s0,s1,by omega,by omega⟩⟩
theorem adp(P:Src o N)(hN:N<=1000000000)(m0:0<m)(m1:m<1073741824):∃r o',Dr cz 2 [.int m] o (.int r) o'/\0<=r/\r<m/\Src o' (N+1):=by
 obtain ⟨r,o',e,r0,r1,P'⟩:=ak4 P hN m0 m1;refine ⟨r,o',Dr.of rfl (by simp [du]) P.clo e (jb (du _) ?_) (du _) P'.clo,r0,r1,P'⟩
 intro u hu
 simp at hu
 subst hu;exact a3o (by omega) P'.clo
end SRC
namespace EVX
open L2 MI
section
variable{i:Nat}{cs:Str->Bool}{fb fs p g:SS}{τ τ1 τ2:Sd}{h h1 h2:Hd}{c:Str}{f:SE}{ka:SA}{ds:List D}{F:SF}{n:Nat}
theorem asm(hn:ds.length=n)(cd:∀x∈ds,MI.clo 0 x)(e:F ds []=.ex c h1):a7m n F ds h=.ex c h:=by
 unfold a7m;rw [aC cd,e];exact aC hn
theorem asn(cd:∀x∈ds,MI.clo 0 x)(e:F ds []=.ok d h1)(p:Pu F n ds d'):a7m n F ds h=.ok d' h:=by
 unfold a7m;rw [aC cd,e];exact p h
theorem axe(e:fb τ h=.ex c h1)(hc:cs c=true)(e2:fs (τ.set i (some (.exc c))) h1=.nx τ2 h2):avs i cs fb fs τ h=.nx (τ2.set i none) h2:=by
 unfold avs;rw [e];show (if cs c=true then _ else _)=_
 rw [aC hc,e2]
theorem axf(e:f τ h=.ex c h1):yr f τ h=.ex c h1:=by unfold yr;rw [e];rfl
theorem qof{α:Type}{k:Sd->Hd->R α}{x:α}(e:k τ h=.ok x h1):qA k τ h=.ok x h1:=by unfold qA;rw [e];rfl
theorem b31(e:ka τ h=.ok ds h1):sA F ka τ h=F ds h1:=by unfold sA;rw [e];rfl
theorem aso(e:τ[i]? = some (some (.exc c)))(e2:x c=some b):agx i x τ h=.ok (.bl b) h:=by unfold agx;rw [e];dsimp only;rw [e2]
theorem di(e:f τ h=.ok d h1)(e2:ka τ h1=.ok ds h2):ak f ka τ h=.ok (d::ds) h2:=by
 unfold ak;rw [e,fu,e2];rfl
theorem a3a:MI.yh [a] h=.ok (.tup [a]) h:=by unfold MI.yh;rw [aC (jf (by simp))]
theorem a3u:MI.yh [] h=.ok (.tup []) h:=by unfold MI.yh;rw [aC (jf (by simp))]
theorem o6:sZ aqq τ []=.ok (.rod [] []) []:=by
 unfold sZ;show a8n 0 (.ok (.ref 0) [.dK []])=_;refine a3p (h1:=[.dK []]) ?_ (by simp)
 unfold FU a1q;rw [aQ (by simp only [MI.clo];omega)]
 rfl
end
end EVX
namespace SRC
open L2 MI AT HND EVX
noncomputable def jy:SF:=km a09 2
theorem ints_map:∀l:List Int,a5m (l.map D.int)=some l
 |[]=>rfl
 |a::l=>by rw [bp];simp only [a5m,ints_map l,Option.map_some]
theorem b33(e:k τ h=.ok ds h1)(eg:g ds h1=.ok d h2):sA g k τ h=.ok d h2:=by
 unfold sA;rw [e,fu,eg]
def cell(x:Int):Int:=2*b0l x+(if decide (x<0)=true then 1 else 0)
theorem ak5(ns:List Int)(h:Hd):∃o,Src o 0/\je true 1 jy [.scr (ns.map D.int)] h=.ok (.ref h.length) (h++[o]):=by
 have cl:clos 0 ((ns.take 63).map D.int):=gf λx _=>du x;have z1:sZ (a8p (sV 0) oN (oS (sC (.int 63)))) [some (.scr (ns.map D.int)),none] []=.ok (.rol ((ns.take 63).map D.int)) []:=by
  refine am9 (by
   show gSl (.scr (ns.map D.int)) none (some ((63:Nat):Int)) []=_;unfold gSl;simp only [acu,List.map_take]) cl (by simp)
 have z2:sZ (a5i (sIt (sZ (a8p (sV 0) oN (oS (sC (.int 63)))))) t1 zj []) [some (.scr (ns.map D.int)),none] []=.ok (.rol ((ns.take 63).map λx=>D.int (cell x))) []:=by
  refine am9 (a80 D.int (λx=>D.int (cell x)) (ns.take 63) (a8e z1 rfl) (jf (by simp;omega)) λx _=>?_) (gf λx _=>du _) (by simp)
  rw [adk];unfold zj;exact ie (ie (dz _ _ _) (qg (c7 rfl) (aj5 _ _)) (a3h.trans (aC (.inl ⟨by decide,by decide⟩)))) (qg (ie (c7 rfl) (dz _ _ _) rfl) rfl) a1m
 have em:((ns.take 63).map λx=>D.int (cell x))=((ns.take 63).map cell).map D.int:=by rw [e8];rfl
 rw [em] at z2
 generalize (ns.take 63).map cell=cs at z2
 have e:jy [.scr (ns.map D.int)] []=.ok (.ref 0) [.lst [.rol (cs.map D.int),.int 0,.int 0,.int 0,.int (cs.sum%2147483647)]]:=by
  unfold jy;rw [iy];show toR (a09 [some (.scr (ns.map D.int)),none] [])=_;unfold a09;refine ag (af toR (lw z2)) ?_;have su:aif [.rol (cs.map D.int)] []=.ok (.int cs.sum) []:=by unfold aif;simp only [ints_map]
  exact af toR (j9 (b33 (di (c7 rfl) (di (dz _ _ _) (di (dz _ _ _) (di (dz _ _ _) (di (ie (qg (c7 rfl) su) (dz _ _ _) (a8y (by decide))) rfl))))) rfl))
 have P:Src (.lst [.rol (cs.map D.int),.int 0,.int 0,.int 0,.int (cs.sum%2147483647)]) 0:=⟨cs,0,0,0,_,rfl,by decide,by decide,eH _ (by decide),dJ _ (by decide),by decide,by decide⟩
 exact ⟨_,P,avo rfl (by simpa [MI.clo] using (gf λx _=>du x:clos 0 (ns.map D.int))) e rfl P.clo h⟩
noncomputable def lr:SF:=km zm 1
theorem aab:Pu lr 0 [] (.str (S sig)):=HND.aab
noncomputable def mj:SF:=km (a0a cz lr) 5
theorem apa{a b:List Nat}(l:a.length+b.length<=LINE):a0j (.str (S a)) (.str (S b)) h=.ok (.str (S (a++b))) h:=by
 have:=anb (h:=h) l
 simpa [a0j,iu,b1w] using this
theorem anh(e:f τ h=.ok (.int i) h1):oS f τ h=.ok (some i) h1:=by unfold oS;rw [e];rfl
theorem ani(e:f τ h=.ok d h1)(e1:lo τ h1=.ok a h2)(e2:hi τ h2=.ok b h3)(e3:ad4 d a b h3=.ok v h4):a8p f lo hi τ h=.ok v h4:=by
 unfold a8p;rw [e,fu,e1,fu,e2,fu,e3]
theorem ak6(P:Src o N)(hN:N<=999999000):∃l o',Tongue l/\Dr mj 1 [] o (.str (S l)) o'/\Src o' (N+7):=by
 obtain ⟨r0,o1,e1,r0a,r0b,P1⟩:=adp (m:=6) P (by omega) (by decide) (by decide)
 have lo:=a08 (g:=kN 3) (b:=zp cz lr) (λi:Nat=>D.int (0+(i:Nat)))
  (λpre τ h=>∃(rest told:List Nat) (u:O) (t3 t4:Option D),τ=[some (.ref 0),some (.str (S rest)),some (.str (S told)),t3,t4]/\h=[u]/\Src u (N+1+pre.length)/\told.length=pre.length/\(told++rest).length=95/\(told++rest).Nodup/\∀c∈told++rest,c∈sig)
  (List.range (1+r0).toNat) [some (.ref 0),some (.str (S sig)),some (.str (S [])),none,none] [o1] ?_
  ⟨sig,[],o1,none,none,rfl,rfl,P1,rfl,by simp [ash],by simpa using ax9,by simp⟩
 ·obtain ⟨τ',h',e2,rest,told,u,t3,t4,rfl,rfl,P2,l1,l2,nd,sb⟩:=lo;rw [bF] at P2 l1;have T:Tongue told:=⟨by omega,by omega,(bZ.mp nd).1,λc hc=>sb c (cH _ hc)⟩
  refine ⟨told,u,T,Dr.of rfl (by simp) P.clo (r:=.ok (.str (S told)) [u]) ?_ (jb (gj _) (by simpa using a3o (by omega) P2.clo)) (gj _) P2.clo,P2.up (by omega)⟩
  unfold mj;rw [iy];show toR (a0a cz lr [some (.ref 0),none,none,none,none] [o])=_;unfold a0a;have c2:je false 2 cz [.ref 0,.int 6] [o]=.ok (.int r0) [o1]:=e1 0 [o] rfl;have bd:B62 (1+r0):=by unfold B62;omega
  refine ag (af toR (lw (ayf (aab _)))) ?_;refine ag (af toR (lw (dz _ _ _))) ?_;have it:sRg a6i (ak (s2 iu (sC (.int 1)) (sA (je false 2 cz) (ak (sV 0) (ak (sC (.int 6)) dq)))) dq) [some (.ref 0),some (.str (S sig)),some (.str ""),none,none] [o]=.ok ⟨rng 0 (1+r0).toNat,λ_=>True⟩ [o1]:=by
   unfold sRg;rw [arg1 (ie (dz _ _ _) (a1j (c7 rfl) (dz _ _ _) c2) a1m),fu];exact aC bd
  refine ag (af toR (a3q it)) ?_;refine ag (af (λz=>toR (MI.thn z _)) e2) ?_;exact af toR (j9 (c7 rfl))
 ·rintro pre i post τ h all ⟨rest,told,u,t3,t4,rfl,rfl,P2,l1,l2,nd,sb⟩
  have hlen:pre.length<(1+r0).toNat:=by
   have:=af List.length all
   simp at this;omega
  rw [ar] at l2;obtain ⟨r,u',e2,ra,rb,P3⟩:=adp (m:=(rest.length:Nat)) P2 (by omega) (by omega) (by omega)
  obtain ⟨j,rfl⟩:=fz ra;have hj:j<rest.length:=by omega
  have gx:rest[j]? = some rest[j]:=ah hj;have pp:=ac1 told rest j rest[j] gx;refine ⟨_,_,rfl,_,_,?_,rest.take j++rest.drop (j+1),told++[rest[j]],u',some (.int (0+(i:Nat))),some (.int (j:Nat)),rfl,rfl,by simpa [cG] using P3,by simp [l1],?_,pp.nodup_iff.mp nd,λc hc=>sb c (pp.mem_iff.mpr hc)⟩
  ·unfold zp;have L:∀n:Nat,n<=95->n<=LINE:=λn hn=>by show n<=16777216;omega
   have c2:=e2 0 [u] rfl;have x1:∀h,gIx (.str (S rest)) (.int (j:Nat)) h=.ok (.str (S [rest[j]])) h:=λh=>b14 (L _ (by omega)) gx
   have x2:∀h,a2p [.str (S rest)] h=.ok (.int rest.length) h:=λh=>asf (L _ (by omega))
   have x3:∀h,a0j (.str (S told)) (.str (S [rest[j]])) h=.ok (.str (S (told++[rest[j]]))) h:=λh=>apa (L _ (by simp;omega))
   have x4:∀h,ad4 (.str (S rest)) none (some (j:Int)) h=.ok (.str (S (rest.take j))) h:=λh=>b15 j (L _ (by omega))
   have x5:∀h,ad4 (.str (S rest)) (some ((j:Int)+1)) none h=.ok (.str (S (rest.drop (j+1)))) h:=λh=>ap8 (j+1) (L _ (by omega))
   have x6:∀h,iu (.str (S (rest.take j))) (.str (S (rest.drop (j+1)))) h=.ok (.str (S (rest.take j++rest.drop (j+1)))) h:=λh=>anb (L _ (by simp;omega))
   have c2:je false 2 cz [.ref 0,.int (rest.length:Nat)] [u]=.ok (.int (j:Nat)) [u']:=c2;refine ag (lw (a1j (c7 rfl) (qg (c7 rfl) (x2 _)) c2)) ?_;refine ag (yf (ac3 rfl (ie (c7 rfl) (c7 rfl) (x1 _)) (x3 _))) ?_;exact azr (ie (ani (c7 rfl) rfl (anh (c7 rfl)) (x4 _)) (ani (c7 rfl) (anh (ie (c7 rfl) (dz _ _ _) a1m)) rfl (x5 _)) (x6 _))
  ·rw [<-pp.length_eq];simpa using l2
end SRC
namespace PN
open L2 MI AT HND EVX
end PN
namespace HND
open L2 MI AT
abbrev dg(i:Nat):D:=.int (i:Nat)
structure Table where
 tg:List Nat
 go:List (List Nat)
 ks:List Int
end HND
namespace MI
open L2
end MI
namespace PAP
open L2 MI AT HND
theorem axg(e:f τ h=.ok (.bl false) h1):a0y f k τ h=.ok (.bl false) h1:=by unfold a0y;rw [e,fu]
theorem adq(e:f τ h=.ok (.int i) h1):oS f τ h=.ok (some i) h1:=by unfold oS;rw [e];rfl
theorem adt(e:f τ h=.ok d h1)(e1:lo τ h1=.ok a h2)(e2:hi τ h2=.ok b h3)(e3:ad4 d a b h3=.ok v h4):a8p f lo hi τ h=.ok v h4:=by
 unfold a8p;rw [e,fu,e1,fu,e2,fu,e3]
theorem azt(xs:List D)(lo hi:Option Int)(h:Hd):ad4 (.tup xs) lo hi h=.ok (.tup (a75 xs lo hi)) h:=by
 unfold ad4;dsimp only
 split
 ·rename_i w;obtain ⟨a,b⟩:=w
  congr 2
  unfold a75;rw [a,b,gG,bP (by omega)]
 ·rfl
theorem af7(xs:List D)(k:Nat)(h:Hd):ad4 (.tup xs) none (some (k:Int)) h=.ok (.tup (xs.take k)) h:=by rw [azt,acu]
theorem zy(xs:List D)(k:Nat)(h:Hd):ad4 (.tup xs) (some (k:Int)) none h=.ok (.tup (xs.drop k)) h:=by rw [azt,ab4]
theorem a4p{xs ys:List D}(z:xs.length+ys.length<=1000000):iu (.tup xs) (.tup ys) h=.ok (.tup (xs++ys)) h:=by
 cases xs with
 |nil=>rfl
 |cons x xs =>
  show (if (x::xs).length+ys.length<=LINE then R.ok (D.tup (x::xs++ys)) h else .no)=_
  rw [aC (jf z)]
theorem a3a:MI.yh [a] h=.ok (.tup [a]) h:=by unfold MI.yh;rw [aC (jf (by simp))]
theorem a3u:MI.yh [] h=.ok (.tup []) h:=by unfold MI.yh;rw [aC (jf (by simp))]
theorem di(e:f τ h=.ok d h1)(e2:k τ h1=.ok ds h2):ak f k τ h=.ok (d::ds) h2:=by
 unfold ak;rw [e,fu,e2,fu]
theorem aof(e:k τ h=.ok ds h1)(e2:G ds h1=.ok v h2):sA G k τ h=.ok v h2:=by
 unfold sA;rw [e,fu,e2]
theorem o6:sZ aqq τ []=.ok (.rod [] []) []:=by
 unfold sZ;show a8n 0 (.ok (.ref 0) [.dK []])=_;refine a3p (h1:=[.dK []]) ?_ (by simp)
 unfold FU a1q;rw [aQ (by simp only [MI.clo];omega)]
 rfl
theorem a00{h h':Hd}(hl:h'.length=h.length)(e:f τ h=.ok (.ref h'.length) (h'++[.lst xs]))(cx:clos h.length xs)(c:∀o∈h',xj h.length o):sZ f τ h=.ok (.rol xs) h':=by
 unfold sZ;rw [e,a6r (by omega) (by simp) cx (by rw [<-hl];simpa [hl] using c)]
 rw [<-hl];simp
end PAP
namespace SRC
open L2 MI AT HND EVX
end SRC
namespace BF
section
variable(s:Nat)(step:Nat->Nat->Nat)(K:Nat->Bool)
def fl:Nat->Nat->Bool
 |0,r=>K r
 |k+1,r=>(List.range s).any λc=>fl k (step r c)
variable{s step K}
end
theorem af8:∀(n:Nat) (l:List Nat),l.Nodup->(∀x∈l,x<n)->l.length<=n
 |0,l,_,h=>by
  cases l with
  |nil=>exact ay _
  |cons x l=>exact absurd (h x aR) (by omega)
 |n+1,l,nd,h=>by
  have:=af8 n (l.erase n) (nd.erase n) λx hx=>by
   have h1:=h x (List.mem_of_mem_erase hx);have h2:x≠n:=λz=>by subst z;exact (List.Nodup.not_mem_erase nd) hx
   omega
  have:=List.length_erase (a:=n) (l:=l)
  split at this<;>omega
end BF
namespace SRC
open L2 MI AT HND EVX
abbrev cst(l:List Nat):List Int:=l.map λx:Nat=>(x:Int)
theorem adu(l:List Nat):l.map dg=(cst l).map D.int:=by unfold cst;rw [e8];rfl
theorem a8z(l:List Nat):∃m:List Nat,PySem.W.sortI (cst l)=cst m/\m.Perm l/\m.Pairwise (·<=·):=by
 have p:=PySem.W.sortI_perm (cst l);have s:=PySem.W.sortI_rises (cst l);refine ⟨(PySem.W.sortI (cst l)).map Int.toNat,?_,?_,?_⟩
 ·unfold cst;rw [e8];have:∀x∈PySem.W.sortI (l.map λx:Nat=>(x:Int)),((λx:Nat=>(x:Int)) ∘ Int.toNat) x=x:=λx hx=>by
   have:=p.mem_iff.mp hx
   obtain ⟨y,_,rfl⟩:=c8.mp this;simp
  rw [eA this];simp
 ·have:=p.map Int.toNat
  have e:(cst l).map Int.toNat=l:=by
   unfold cst;rw [e8];exact (eA λx _=>by simp).trans (List.map_id l)
  rwa [e] at this
 ·rw [List.pairwise_map];exact s.imp λh=>by omega
def pos(m:List Nat)(x:Nat):Nat:=(ixI (x:Int) (cst m)).getD 0
end SRC
namespace K21
open L2 MI
end K21
namespace K23
open L2 MI
end K23
namespace K22
open L2 MI
end K22
namespace K22
open L2 MI AT HND
section
variable(T:Table)
def knd(r:Nat):Bool:=decide ((T.ks[r]?).getD (-1) ≠ -1)
end
end K22
namespace K23
open L2 MI AT HND K22
end K23
namespace K21
open L2 MI AT HND K22 K23 EVX
end K21
namespace SRC
open L2 MI AT HND EVX K22 K23 K21
end SRC
namespace PN
open L2 MI AT HND EVX K22 K23 K21
end PN
namespace EVT
open L2 MI AT HND
section
variable{f g k f1 f2 f3:SE}{ka:SA}{c c1 c2:ST}{τ:Sd}{h h1 h2 h3:Hd}{a b d v:D}{i:Nat}{t u:Bool}{xs ys ds:List D}
theorem lz:dq τ h=.ok [] h:=rfl
theorem adv:oN τ h=.ok none h:=rfl
theorem PuE(p:Pu F n ds d):je false n F ds h=.ok d h:=p h
theorem aae(p:Dr F n ds o d o'):je false n F (.ref 0::ds) (o::h)=.ok d (o'::h):=p 0 (o::h) rfl
theorem a4q(hv:n<xs.length):gIx (.rol xs) (.int (n:Nat)) h=.ok (xs.getD n .non) h:=azs (by rw [dF,ah hv];rfl)
theorem a4r(hv:n<xs.length):gIx (.tup xs) (.int (n:Nat)) h=.ok (xs.getD n .non) h:=agz (by rw [dF,ah hv];rfl)
theorem a01:a2p [.tup xs] h=.ok (dg xs.length) h:=rfl
theorem yq:a2p [.rol xs] h=.ok (dg xs.length) h:=rfl
theorem azu(e:f τ h=.ok (.bl true) h1):aao f g τ h=.ok (.bl true) h1:=by unfold aao;rw [e,fu]
theorem azv(e:f τ h=.ok (.bl false) h1)(e':g τ h1=.ok d h2):aao f g τ h=.ok d h2:=by unfold aao;rw [e,fu];exact e'
theorem b34(e:c τ h=.ok true h1)(e':f τ h1=.ok d h2):aed c f g τ h=.ok d h2:=by unfold aed;rw [e,fu,aC rfl,e']
theorem b35(e:c τ h=.ok false h1)(e':g τ h1=.ok d h2):aed c f g τ h=.ok d h2:=by unfold aed;rw [e,fu,aQ (by simp),e']
theorem anj(e:f τ h=R.ok (D.ref h1.length) (h1++[.lst xs]))(hl:h1.length=h.length)(cx:clos 0 xs)(co:∀o∈h1,xj 0 o):sZ f τ h=.ok (.rol xs) h1 :=
 PAP.a00 hl e (xm (aU _) cx) λo ho=>a3o (aU _) (co o ho)
theorem qi(e:ka τ h=.ok ds h1)(hl:h1.length=h.length)(cd:clos 0 ds)(co:∀o∈h1,xj 0 o)(z:ds.length<=1000000):sZ (sA MI.uw ka) τ h=.ok (.rol ds) h1:=by
 refine anj ?_ hl cd co;unfold sA;rw [e,fu];unfold MI.uw;exact aC (jf z)
theorem wk(e:f τ h=.ok (.tup xs) h1)(hl:h1.length=h.length)(cd:clos 0 xs)(co:∀o∈h1,xj 0 o):sZ (sA ava (ak f dq)) τ h=.ok (.rol xs) h1:=anj (qg e rfl) hl cd co
theorem wu(e:f τ h=.ok (.str (S l)) h1)(hl:h1.length=h.length)(co:∀o∈h1,xj 0 o)(z:l.length<=1000000):sZ (sA ava (ak f dq)) τ h=.ok (.rol (l.map λc=>.str (S [c]))) h1:=by
 refine anj (qg e ?_) hl (gf λ_ _=>gj _) co;show (if (S l).length<=LINE then R.ok (D.ref h1.length) (h1++[O.lst (a1z (S l))]) else R.no)=_
 rw [aC (jf (by rw [ago];exact z))]
 unfold a1z;rw [ana]
theorem uv(e1:f τ h=.ok (.rol xs) h1)(e2:g τ h1=.ok (.rol ys) h2)(hl:h2.length=h.length)(c1:clos 0 xs)(c2:clos 0 ys)(co:∀o∈h2,xj 0 o)(z:xs.length+ys.length<=1000000):sZ (s2 iu f g) τ h=.ok (.rol (xs++ys)) h2:=by
 refine anj (ie e1 e2 ?_) hl (jr.mpr λx hx=>(bA.mp hx).elim (jr.mp c1 x) (jr.mp c2 x)) co;rw [aiv (xs:=xs) (ys:=ys) rfl rfl,aC (jf z)]
theorem a02{k:Int}(e1:f τ h=.ok (.rol xs) h1)(e2:g τ h1=.ok (.int k) h2)(hl:h2.length=h.length)(c1:clos 0 xs)(co:∀o∈h2,xj 0 o)(z:xs.length*k.toNat<=1000000)(zn : -1000000<=k/\k<=1000000):sZ (s2 yp f g) τ h=.ok (.rol (List.replicate k.toNat xs).flatten) h2:=by
 refine anj (ie e1 e2 ?_) hl (jr.mpr λx hx=>?_) co
 ·have:yp (.rol xs) (.int k) h2=if (-(2^63)<=k/\k<2^63)/\xs.length*k.toNat<=LINE then .ok (.ref h2.length) (h2++[.lst (List.replicate k.toNat xs).flatten]) else .no:=rfl
  rw [this,aC ⟨by omega,jf z⟩]
 ·obtain ⟨l,hl,hx⟩:=List.mem_flatten.mp hx;rw [(List.mem_replicate.mp hl).2] at hx;exact jr.mp c1 x hx
theorem o6(co:∀o∈h,xj 0 o):sZ aqq τ h=.ok (.rod [] []) h:=by
 unfold sZ;show a8n h.length (.ok (.ref h.length) (h++[.dK []]))=_;rw [a3p (d':=.rod [] []) ?_ ?_]
 ·simp
 ·unfold FU a1q;rw [aQ (by simp only [MI.clo];omega)]
  simp [a0x]
 ·simp only [List.take_left'];exact λo ho=>a3o (aU _) (co o ho)
theorem ww:(List.replicate n xs).flatten.length=n*xs.length:=by simp
theorem p6(c1:clos i xs)(c2:clos i ys):clos i (xs++ys):=jr.mpr λx hx=>(bA.mp hx).elim (jr.mp c1 x) (jr.mp c2 x)
theorem nj(c:clos i xs):clos i (xs.take n):=jr.mpr λx hx=>jr.mp c x (List.mem_of_mem_take hx)
theorem nq(c:clos i xs):clos i (xs.drop n):=jr.mpr λx hx=>jr.mp c x (fR hx)
theorem rm(c:clos i xs):clos i (List.replicate n xs).flatten:=jr.mpr λx hx=>by
 obtain ⟨l,hl,hx⟩:=List.mem_flatten.mp hx;rw [(List.mem_replicate.mp hl).2] at hx;exact jr.mp c x hx
theorem rn(c:clos i xs):clo i (xs.getD n .non):=by
 rw [dF]
 cases e:xs[n]? with
 |none=>exact v4
 |some x=>exact jr.mp c x (bD e)
theorem sr:clo i (.rod [] []):=by simp [clo,clos]
theorem iw:∀u∈([]:List O),xj 0 u:=λu hu=>by cases hu
theorem wy(c:xj 0 o):∀u∈[o],xj 0 u:=λu hu=>by rw [aB] at hu;subst hu;exact c
end
def wth(ws:List D)(k:Nat)(d:D):List D:=ws.take k++[d]++ws.drop (k+1)
theorem sy(c:clos i ws)(cd:clo i d):clos i (wth ws k d):=p6 (p6 (nj c) (bx cd gq)) (nq c)
theorem axh{α:Type}(l:List α):a75 l none (some (-1))=l.take (l.length-1):=by
 unfold a75;rw [HT.a9c,gG,Nat.sub_zero]
 congr 1
 unfold HT.sIx;simp;omega
theorem a4s(ys:List D)(hh:Hd):ad4 (.tup ys) none (some (-1)) hh=.ok (.tup (ys.take (ys.length-1))) hh:=by rw [PAP.azt,axh]
end EVT
namespace K76
open L2 MI
end K76
namespace K76
open L2 MI AT HND
end K76
namespace MI
open L2 SRC HND
theorem ak7{y:Nat}:(y:Int)∈cst l↔y∈l:=by
 unfold cst;rw [c8]
 constructor
 ·rintro ⟨x,hx,e⟩;have:x=y:=by omega
  subst this;exact hx
 ·intro h;exact ⟨y,h,rfl⟩
theorem ak8(l:List Nat)(y:Nat):stepK (cst l) (y:Int)=cst (stepK l y):=by
 unfold L2.stepK
 by_cases h:y∈l
 ·rw [aC h,aC (ak7.mpr h)]
 ·rw [aQ h,aQ λz=>h (ak7.mp z)];unfold cst;rw [bB];rfl
structure Fw (n:Nat) (l:List Nat):Prop where
 nd:l.Nodup
 lt:∀x∈l,x<n
theorem Fw.nil:Fw n []:=⟨fG,by simp⟩
theorem Fw.len(h:Fw n l):l.length<=n:=BF.af8 n l h.nd h.lt
theorem Fw.step(M:Fw n l)(hx:x<n):Fw n (stepK l x):=by
 unfold L2.stepK
 by_cases h:x∈l
 ·rw [aC h];exact M
 rw [aQ h];refine ⟨?_,λy hy=>?_⟩
 ·rw [bZ];refine ⟨M.nd,by simp,λa ha b hb=>?_⟩
  rw [aB] at hb;subst hb;exact λe=>h (e ▸ ha)
 ·rcases bA.mp hy with z|z
  ·exact M.lt y z
  ·rw [aB] at z;subst z;exact hx
theorem ank{x y:Nat}:y∈stepK l x↔y∈l\/y=x:=by
 unfold L2.stepK
 by_cases h:x∈l
 ·rw [aC h];exact ⟨.inl,λz=>z.elim id λe=>e ▸ h⟩
 ·rw [aQ h,bA,aB]
theorem Fw.fold:∀{r l:List Nat},Fw n l->(∀x∈r,x<n)->Fw n (r.foldl stepK l)
 |[],_,h,_=>h
 |x::r,l,h,k=>Fw.fold (r:=r) (h.step (k x aR)) λy hy=>k y (aL _ hy)
theorem af9:∀{r l:List Nat},y∈r.foldl stepK l↔y∈l\/y∈r
 |[],l=>by simp
 |x::r,l=>by
  rw [fW,af9 (r:=r),ank,aD]
  constructor
  ·rintro ((h|h)|h)
   ·exact .inl h
   ·exact .inr (.inl h)
   ·exact .inr (.inr h)
  ·rintro (h|h|h)
   ·exact .inl (.inl h)
   ·exact .inl (.inr h)
   ·exact .inr h
end MI
namespace ENG
open L2 MI
abbrev Rl:=Nat->Nat->Prop
open Classical in
noncomputable def fl(n:Nat)(R:Rl)(a:Nat):List Nat:=(List.range (n+1)).filter λe=>decide (R a e)
theorem a4t{n a e:Nat}{R:Rl}:e∈fl n R a↔e<=n/\R a e:=by
 unfold fl;simp only [cV,dM,cP];exact ⟨λ⟨h1,h2⟩=>⟨by omega,h2⟩,λ⟨h1,h2⟩=>⟨by omega,h2⟩⟩
theorem asp{n a:Nat}{R:Rl}:(fl n R a).Nodup:=eK _ List.nodup_range
theorem adw{n a:Nat}{R:Rl}:(fl n R a).Pairwise (·<=·):=by
 refine eK _ ?_;exact (fB (n:=n+1)).imp λh=>gu h
theorem a90{n a:Nat}{R:Rl}:(fl n R a).length<=n+1:=by
 have:=List.length_filter_le (λe=>@decide (R a e) (Classical.propDecidable _)) (List.range (n+1))
 rw [bF] at this;exact this
theorem aaf{n a:Nat}{R:Rl}{ts:List Nat}(nd:ts.Nodup)(st:ts.Pairwise (·<=·))(m:∀e,e∈ts↔e<=n/\R a e):ts=fl n R a:=by
 have p:ts.Perm (fl n R a):=(List.perm_ext_iff_of_nodup nd asp).mpr λe=>by rw [m,a4t]
 exact p.eq_of_pairwise (λx y _ _ h1 h2=>Nat.le_antisymm h1 h2) st adw
theorem asq{n a b:Nat}{R T:Rl}(h:∀e,e<=n->(R a e↔T b e)):fl n R a=fl n T b:=aaf asp adw λe=>by
 rw [a4t]
 constructor
 ·rintro ⟨h1,h2⟩;exact ⟨h1,(h e h1).mp h2⟩
 ·rintro ⟨h1,h2⟩;exact ⟨h1,(h e h1).mpr h2⟩
def cmp(P R:Rl):Rl:=λa e=>∃b,P a b/\R b e
def chn(Rs:List Rl):Rl:=Rs.foldl cmp (· = ·)
def pw(R:Rl):Nat->Rl
 |0=>(· = ·)
 |k+1=>cmp (pw R k) R
def star(R:Rl):Rl:=λa e=>∃k,pw R k a e
def btw(R:Rl)(lo hi:Nat):Rl:=λa e=>∃k,lo<=k/\k<=hi/\pw R k a e
end ENG
namespace MI
open L2 SRC HND
theorem ac8:∀(r l:List Nat),(cst r).foldl stepK (cst l)=cst (r.foldl stepK l)
 |[],l=>rfl
 |x::r,l=>by
  show (cst r).foldl stepK (stepK (cst l) (x:Int))=_;rw [ak8];exact ac8 r _
theorem anl{l:List Nat}{d:D}{n:Nat}(hn:n<=60)(lt:∀y∈l,y<n)(ll:l.length<=4000){h:Hd}(e:ajp d h=some (cst l)) :
  ∃ts:List Nat,Fw n ts/\ts.Pairwise (·<=·)/\(∀y,y∈ts↔y∈l)/\ajq d h=.ok (.ref h.length) (h++[.lst (ts.map dg)]):=by
 obtain ⟨m,em,pm,sm⟩:=a8z (l.foldl stepK []);have F:Fw n (l.foldl stepK []):=Fw.fold .nil lt;refine ⟨m,⟨pm.nodup_iff.mpr F.nd,λx hx=>F.lt x (pm.mem_iff.mp hx)⟩,sm,λy=>?_,?_⟩
 ·rw [pm.mem_iff,af9];simp
 ·unfold ajq;rw [e];have fl:=F.len;have cl:(cst l).length<=4000:=by unfold cst;rw [ax];exact ll
  simp only [aC cl];have:(cst l).foldl stepK []=cst (l.foldl stepK []):=ac8 l [];rw [this];unfold azi;rw [aC (by unfold cst;rw [ax];omega),em,<-adu]
theorem aca:∀l:List Nat,a5m (l.map dg)=some (cst l)
 |[]=>rfl
 |x::l=>by
  show (a5m (l.map dg)).map _=_;rw [aca l];rfl
theorem ak9(l:List Nat)(h:Hd):ajp (.rol (l.map dg)) h=some (cst l):=aca l
end MI
namespace SHD
open L2 MI AT HND EVX
open PAP hiding di a3a a3u o6 a00 aof
def Dr2(F:SF)(n:Nat)(ds:List D)(o p:O)(d:D)(o' p':O):Prop:=∀i j h,i≠j->h[i]? = some o->h[j]? = some p->je false n F (.ref i::.ref j::ds) h=.ok d ((h.set i o').set j p')
theorem Dr2.of{F:SF}{n:Nat}{ds:List D}{o o' p p':O}{r:R D}{d:D}(hn:ds.length+2=n)(cd:∀x∈ds,clo 0 x)(co:xj 0 o)(cp:xj 0 p)(e:F (.ref 0::.ref 1::ds) [o,p]=r)(z:a8n 2 r=.ok d [o',p'])(c:clo 0 d)(co':xj 0 o')(cp':xj 0 p'):Dr2 F n ds o p d o' p':=λi j h ne hi hj=>by
 obtain ⟨p1,_,p3⟩:=a4e cd;have e1:a1a (.ref i::.ref j::ds)=[i,j]:=by
  have:a1a (.ref i::.ref j::ds)=i::j::a1a ds:=rfl
  rw [this,p1]
 have e2:a0k 0 (.ref i::.ref j::ds)=.ref 0::.ref 1::ds:=by
  have:a0k 0 (.ref i::.ref j::ds)=.ref 0::.ref 1::a0k 2 ds:=rfl
  rw [this,p3]
 unfold je;rw [aC (by simpa using hn)]
 unfold aon;rw [e1];simp only [a0x,hi,hj,aF,bC,bT,eN,gD,Nat.reduceAdd];have all:∀x∈(D.ref i::.ref j::ds),clo 0 x\/isRef x:=λx hx=>by
  rcases aD.mp hx with rfl|hx
  ·exact .inr ⟨i,rfl⟩
  rcases aD.mp hx with rfl|hx
  ·exact .inr ⟨j,rfl⟩
  ·exact .inl (cd x hx)
 rw [aC ⟨by simp [ne],all,λu hu=>by simp only [aD,bg,eh] at hu;rcases hu with rfl|rfl;exact co;exact cp⟩,e2,e,z]
 simp [c,co',cp',vg]
theorem azw{F:SF}{n:Nat}{ds:List D}{o o' p p':O}{d:D}{h:Hd}(q:Dr2 F n ds o p d o' p'):je false n F (.ref 0::.ref 1::ds) (o::p::h)=.ok d (o'::p'::h):=q 0 1 (o::p::h) (by decide) rfl rfl
inductive Sh where
 |one (s:List Nat)|row (ps:List Sh)|eit (ps:List Sh)|many (p:Sh)|tim (p:Sh) (lo hi:Nat)
mutual
def sd:Sh->D
 |.one s=>.tup [.str "one",.str (S s)]
 |.row ps=>.tup [.str "row",.tup (sds ps)]
 |.eit ps=>.tup [.str "either",.tup (sds ps)]
 |.many p=>.tup [.str "many",sd p]
 |.tim p lo hi=>.tup [.str "times",sd p,dg lo,dg hi]
def sds:List Sh->List D
 |[]=>[]
 |p::ps=>sd p::sds ps
end
theorem uo:∀ps,sds ps=ps.map sd
 |[]=>by rw [sds];rfl
 |p::ps=>by rw [sds,uo ps];rfl
def a3s(tg:List Nat):Nat->Sh->Prop
 |0,_=>False
 |n+1,s=>match s with
  |.one s=>1<=s.length/\s.length<=6/\∀c∈s,c∈tg
  |.row ps=>ps.length<=6/\∀p∈ps,a3s tg n p
  |.eit ps=>1<=ps.length/\ps.length<=6/\∀p∈ps,a3s tg n p
  |.many p=>a3s tg n p
  |.tim p lo hi=>lo<=hi/\hi<=4/\a3s tg n p
mutual
theorem qj:∀p,MI.clo 0 (sd p)
 |.one s=>by rw [sd];exact gk (bx (gj _) (bx (gj _) gq))
 |.row ps=>by rw [sd];exact gk (bx (gj _) (bx (gk (a2l ps)) gq))
 |.eit ps=>by rw [sd];exact gk (bx (gj _) (bx (gk (a2l ps)) gq))
 |.many p=>by rw [sd];exact gk (bx (gj _) (bx (qj p) gq))
 |.tim p lo hi=>by rw [sd];exact gk (bx (gj _) (bx (qj p) (bx (du _) (bx (du _) gq))))
theorem a2l:∀ps,clos 0 (sds ps)
 |[]=>by rw [sds];exact gq
 |p::ps=>by rw [sds];exact bx (qj p) (a2l ps)
end
def bnd:Nat->Nat
 |0=>200
 |d+1=>7*bnd d
theorem apb:∀d,200<=bnd d
 |0=>by decide
 |d+1=>by have:=apb d;rw [bnd];omega
theorem apc:∀{d e:Nat},d<=e->bnd d<=bnd e
 |d,0,h=>by cases Nat.le_zero.mp h;exact ay _
 |d,e+1,h=>by
  by_cases q:d=e+1
  ·rw [q];exact ay _
  ·have:=apc (d:=d) (e:=e) (by omega);rw [bnd];omega
theorem adx(x:Int):xj 0 (.lst [.int x]):=bx (du _) gq
theorem asr{o p:O}(c:xj 0 o)(c':xj 0 p):∀u∈[o,p],xj 0 u:=λu hu=>by
 simp only [aD,bg,eh] at hu
 rcases hu with rfl|rfl
 ·exact c
 ·exact c'
theorem b36{d:D}{o p:O}{h:Hd}(c:MI.clo 0 d)(co:xj 0 o)(cp:xj 0 p):a8n 2 (.ok d (o::p::h))=.ok d [o,p]:=jb (aop (by omega) c) (by
 intro u hu
 simp only [List.take_succ_cons,gI] at hu;exact a3o (by omega) (asr co cp u hu))
theorem b37{a b c d:D}{h:Hd}:MI.yh [a,b,c,d] h=.ok (.tup [a,b,c,d]) h:=by unfold MI.yh;rw [aC (jf (by simp))]
theorem qb{xs:List D}{h:Hd}:qy [.rol xs] h=.ok (.tup xs) h:=rfl
theorem ixp{o:O}{v:D}{h:Hd}:gIx (.ref 1) (.int 0) (o::.lst [v]::h)=.ok v (o::.lst [v]::h):=rfl
theorem subn{n:Nat}{h:Hd}:MI.ach (.int ((n+1:Nat):Int)) (.int 1) h=.ok (dg n) h:=by
 rw [yg,show ((n+1:Nat):Int)-1=(n:Int) by omega]
theorem acb{x y:Int}{h:Hd}:iu (.int x) (.int y) h=.ok (.int (x+y)) h:=rfl
section
variable{a b c d:D}{xs:List D}{h:Hd}
theorem ix0:gIx (.tup (a::xs)) (.int 0) h=.ok a h:=agz (j:=0) rfl
theorem ix1:gIx (.tup (a::b::xs)) (.int 1) h=.ok b h:=agz (j:=1) rfl
theorem ix2:gIx (.tup (a::b::c::xs)) (.int 2) h=.ok c h:=agz (j:=2) rfl
theorem ix3:gIx (.tup (a::b::c::d::xs)) (.int 3) h=.ok d h:=agz (j:=3) rfl
theorem afa{x:Str}:hEq (.str x) (.str x) h=.ok (.bl true) h:=by rw [ax7,eR]
theorem afb{x y:Str}(e:(x == y)=false):hEq (.str x) (.str y) h=.ok (.bl false) h:=by rw [ax7,e]
theorem afc{x y:Str}(e:(x == y)=false):hNe (.str x) (.str y) h=.ok (.bl true) h:=by rw [ax8,e];rfl
theorem afd{x:Str}:hNe (.str x) (.str x) h=.ok (.bl false) h:=by rw [ax8,eR];rfl
end
inductive All2 {α β:Type} (Q:α->β->Prop):List α->List β->Prop
 |nil:All2 Q [] []
 |cons {x:α} {y:β} {xs:List α} {ys:List β} (h:Q x y) (t:All2 Q xs ys):All2 Q (x::xs) (y::ys)
theorem All2.rt{α β:Type}{Q:α->β->Prop}:∀{xs:List α} {ys:List β},All2 Q xs ys->∀y∈ys,∃x∈xs,Q x y
 |_,_,.nil,y,hy=>by cases hy
 |_,_,.cons q t,y,hy=>by
  rcases aD.mp hy with rfl|hy
  ·exact ⟨_,aR,q⟩
  ·obtain ⟨x,hx,q⟩:=t.rt y hy;exact ⟨x,aL _ hx,q⟩
theorem pu1{F:SF}{n:Nat}{ds:List D}{d:D}(hn:ds.length=n)(ca:∀x∈ds,MI.clo 0 x)(c:MI.clo 0 d)(e:F ds []=.ok d []):Pu F n ds d:=Pu.of hn ca e (jb c (by simp)) c
theorem azx{x:D}(c:MI.clo 0 x):∀y∈[x],MI.clo 0 y:=λy hy=>by rw [aB.mp hy];exact c
end SHD
local macro_rules|`(tactic|walk_at "c") => `(tactic|first|assumption|exact MI.du _|(with_reducible exact EVT.sr)|exact MI.gj _|exact MI.kj _|exact MI.v4|exact MI.gq|((with_reducible apply MI.bx)<;>walk_at "c")|((with_reducible apply MI.gk);walk_at "c")|((with_reducible apply MI.lq);walk_at "c")|((with_reducible apply EVT.p6)<;>walk_at "c")|((with_reducible apply EVT.nj);walk_at "c")|((with_reducible apply EVT.nq);walk_at "c")|((with_reducible apply EVT.rm);walk_at "c")|((with_reducible apply EVT.rn);walk_at "c")|((with_reducible apply EVT.sy)<;>walk_at "c")|exact MI.gf fun _ _=>MI.du _|exact MI.gf fun _ _=>MI.gj _)
local macro_rules|`(tactic|walk_at "h") => `(tactic|first|assumption|exact EVT.iw|exact EVT.wy (by assumption))
local macro_rules|`(tactic|walk_at "z") => `(tactic|first|assumption|omega|(simp only [aF,bC,ar,aV,aW,ax,aG,EVT.ww,Int.reduceToNat]<;>omega))
local macro_rules|`(tactic|walk_at "l") => `(tactic|first
 |(with_reducible assumption)
 |(with_reducible exact PAP.a3u)|(with_reducible exact PAP.a3a)|(with_reducible exact MI.a5r)|(with_reducible exact MI.ac6)
 |(with_reducible exact EVT.a01)|(with_reducible exact EVT.yq)
 |((with_reducible apply EVT.PuE);with_reducible assumption)
 |((with_reducible apply EVT.aae);with_reducible assumption)
 |(with_reducible exact EVT.a4s _ _)|(with_reducible exact PAP.af7 _ _ _)|(with_reducible exact PAP.zy _ _ _)
 |((with_reducible apply PAP.a4p);walk_at "z")
 |((with_reducible apply EVT.a4q);walk_at "z")
 |((with_reducible apply EVT.a4r);walk_at "z")
 |(with_reducible exact MI.yg _ _)|(with_reducible exact MI.a4o _)|(with_reducible exact MI.j6 _)
 |((with_reducible apply MI.adn);walk_at "z")|((with_reducible apply MI.ado);walk_at "z")
 |((with_reducible apply MI.adl);walk_at "z")|((with_reducible apply MI.adm);walk_at "z")
 |((with_reducible apply MI.a1r);walk_at "z")|((with_reducible apply MI.a1s);walk_at "z")
 |((with_reducible apply MI.a4n);walk_at "z")|((with_reducible apply MI.a3r);walk_at "z")
 |exact rfl)
local macro_rules|`(tactic|walk_at "x") => `(tactic|first
 |(with_reducible assumption)
 |(with_reducible exact MI.dz _ _ _)
 |((with_reducible apply MI.c7);exact rfl)
 |(with_reducible exact EVT.lz)|(with_reducible exact EVT.adv)
 |((with_reducible apply EVT.qi);walk_at "x";exact rfl;walk_at "c";walk_at "h";walk_at "z")
 |((with_reducible apply EVT.wk);walk_at "x";exact rfl;walk_at "c";walk_at "h")
 |((with_reducible apply EVT.wu);walk_at "x";exact rfl;walk_at "h";walk_at "z")
 |((with_reducible apply EVT.uv);walk_at "x";walk_at "x";exact rfl;walk_at "c";walk_at "c";walk_at "h";walk_at "z")
 |((with_reducible apply EVT.a02);walk_at "x";walk_at "x";exact rfl;walk_at "c";walk_at "h";walk_at "z";walk_at "z")
 |((with_reducible apply EVT.o6);walk_at "h")
 |((with_reducible apply MI.ie);walk_at "x";walk_at "x";walk_at "l")
 |((with_reducible apply MI.wj);walk_at "x";walk_at "l")
 |((with_reducible apply PAP.aof);walk_at "x";walk_at "l")
 |((with_reducible apply PAP.di);walk_at "x";walk_at "x")
 |((with_reducible apply PAP.adt);walk_at "x";walk_at "x";walk_at "x";walk_at "l")
 |((with_reducible apply PAP.adq);walk_at "x")
 |((with_reducible apply MI.tof);walk_at "x")
 |((with_reducible apply MI.o7);walk_at "x";walk_at "l")
 |((with_reducible apply MI.a4x);walk_at "x")|((with_reducible apply MI.aad);walk_at "x")
 |((with_reducible apply MI.aac);walk_at "x";walk_at "x")|((with_reducible apply MI.a8x);walk_at "x")
 |((with_reducible apply MI.orT);walk_at "x")|((with_reducible apply MI.orF);walk_at "x";walk_at "x"))
local macro_rules|`(tactic|walk_at "l") => `(tactic|first|(with_reducible exact SHD.ix0)|(with_reducible exact SHD.ix1)|(with_reducible exact SHD.ix2)|(with_reducible exact SHD.ix3)|(with_reducible exact SHD.afa)|((with_reducible apply SHD.afb);exact (by decide))|(with_reducible exact SHD.afd)|((with_reducible apply SHD.afc);exact (by decide))|(with_reducible exact SHD.acb)|(with_reducible exact SHD.qb))
namespace ENG
open L2 MI AT HND EVX SHD
open PAP hiding di a3a a3u o6 a00 aof
open SRC (cst adu)
def En(w:List Nat):Nat->Sh->Rl
 |0,_=>λ_ _=>False
 |d+1,s=>match s with
  |.one sg=>λa e=>∃c,w[a]? = some c/\c∈sg/\e=a+1
  |.row ps=>chn (ps.map (En w d))
  |.eit ps=>λa e=>∃p∈ps,En w d p a e
  |.many p=>star (En w d p)
  |.tim p lo hi=>btw (En w d p) lo hi
def kids:Sh->List Sh
 |.one _=>[]
 |.row ps=>ps
 |.eit ps=>ps
 |.many p=>[p]
 |.tim p _ _=>[p]
theorem ass{tg:List Nat}{d:Nat}{s:Sh}(k:a3s tg (d+1) s):(kids s).length<=6/\∀p∈kids s,a3s tg d p:=by
 cases s with
 |one s=>exact ⟨by simp [kids],by simp [kids]⟩
 |row ps=>exact k
 |eit ps=>exact ⟨k.2.1,k.2.2⟩
 |many p=>exact ⟨by simp [kids],λq hq=>by rw [aB.mp hq];exact k⟩
 |tim p lo hi=>exact ⟨by simp [kids],λq hq=>by rw [aB.mp hq];exact k.2.2⟩
theorem asu(l:List Sh):clos 0 (l.map sd):=gf λp _=>qj p
noncomputable def v6:SF:=km aa2 1
theorem anm(s:Sh):Pu v6 1 [sd s] (.tup ((kids s).map sd)):=by
 refine pu1 rfl (azx (qj s)) (gk (asu _)) ?_;unfold v6;rw [iy];show toR (aa2 [some (sd s)] [])=_;unfold aa2
 cases s with
 |one s=>rw [sd];exact af toR (qx (ag (ifT (by walk_at "x")) (j9 (ayf PAP.a3u))))
 |row ps =>
  rw [sd,uo];exact ag (af toR (ifN (by walk_at "x"))) (af toR (qx (ag (ifT (orT (by walk_at "x"))) (j9 (ie (c7 rfl) (dz _ _ _) ix1)))))
 |eit ps =>
  rw [sd,uo];exact ag (af toR (ifN (by walk_at "x"))) (af toR (qx (ag (ifT (orF (by walk_at "x") (by walk_at "x"))) (j9 (ie (c7 rfl) (dz _ _ _) ix1)))))
 |many p =>
  rw [sd];exact ag (af toR (ifN (by walk_at "x"))) (ag (af toR (ifN (orF (by walk_at "x") (by walk_at "x")))) (af toR (j9 (qg (ie (c7 rfl) (dz _ _ _) ix1) PAP.a3a))))
 |tim p lo hi =>
  rw [sd];exact ag (af toR (ifN (by walk_at "x"))) (ag (af toR (ifN (orF (by walk_at "x") (by walk_at "x")))) (af toR (j9 (qg (ie (c7 rfl) (dz _ _ _) ix1) PAP.a3a))))
end ENG
namespace DRW
open L2 MI AT HND EVX SHD
open PAP hiding di a3a a3u o6 a00 aof
open SRC (Src)
open SRC (cst adu a8z)
open ENG
theorem dw{o:O}{N:Nat}{m:Int}(P:Src o N)(hN:N<=1000000000)(m0:0<m)(m1:m<1073741824):∃(r:Nat) (o':O),Dr SRC.cz 2 [.int m] o (dg r) o'/\(r:Int)<m/\Src o' (N+1):=by
 obtain ⟨r,o',e,r0,r1,P'⟩:=SRC.adp P hN m0 m1;obtain ⟨r,rfl⟩:=fz r0;exact ⟨r,o',e,r1,P'⟩
theorem ah0{a b:Nat}{h:Hd}:iu (dg a) (dg b) h=.ok (dg (a+b)) h:=rfl
mutual
def wt:Sh->Nat
 |.one _=>1
 |.row ps=>wts ps
 |.eit ps=>wts ps
 |.many p=>wt p
 |.tim p _ hi=>hi*wt p
def wts:List Sh->Nat
 |[]=>0
 |p::ps=>wt p+wts ps
end
theorem ady:∀(l:List Sh) (s:Sh),wts (l++[s])=wts l+wt s
 |[],s=>by rw [dC,wts,wts,wts];omega
 |p::l,s=>by rw [bJ,wts,wts,ady l s];omega
theorem adz:∀l:List Sh,((l.map λs=>(wt s:Int)).sum)=(wts l:Nat)
 |[]=>by rw [wts];rfl
 |p::l=>by rw [bp,List.sum_cons,adz l,wts];omega
mutual
def pn:Sh->Nat
 |.one _=>1
 |.row ps=>1+pns ps
 |.eit ps=>1+pns ps
 |.many p=>1+pn p
 |.tim p _ _=>1+pn p
def pns:List Sh->Nat
 |[]=>0
 |p::ps=>pn p+pns ps
end
theorem aka:∀(l:List Sh) (s:Sh),pns (l++[s])=pns l+pn s
 |[],s=>by rw [dC,pns,pns,pns];omega
 |p::l,s=>by rw [bJ,pns,pns,aka l s];omega
noncomputable def aj:Nat->SF
 |0=>λ_ _=>.no
 |n+1=>km (xx (aj n)) 1
theorem a2m(x:Str)(h:Hd):gIn false (.str x) (.tup [.str "row",.str "either"]) h=.ok (.bl (("row" : Str) == x || (("either" : Str) == x || false))) h:=rfl
theorem wz{tg:List Nat}:∀(d n:Nat),d<=n->∀s,a3s tg d s->Pu (aj n) 1 [sd s] (dg (wt s))
 |0,_,_,_,k=>k.elim
 |d+1,0,h,_,_=>absurd h (by omega)
 |d+1,n+1,h,s,k=>by
  have ih:=wz (tg:=tg) d n (by omega)
  refine Pu.of rfl (by simp [qj]) (r:=.ok (dg (wt s)) []) ?_ (jb (du _) (by simp)) (du _)
  show km (xx (aj n)) 1 [sd s] []=_;rw [iy];show toR (xx (aj n) [some (sd s)] [])=_;unfold xx;have many:∀(hd:Str) (ps:List Sh),(∀p∈ps,a3s tg d p)->ps.length<=6->sA aif (ak (sZ (a5i (sIt (s2 gIx (sV 0) (sC (.int 1)))) MI.t1 (vp (aj n)) [])) dq) [some (.tup [.str hd,.tup (sds ps)])] []=.ok (dg (wts ps)) []:=λhd ps kp lp=>by
   have z:sZ (a5i (sIt (s2 gIx (sV 0) (sC (.int 1)))) MI.t1 (vp (aj n)) []) [some (.tup [.str hd,.tup (sds ps)])] []=.ok (.rol ((ps.map λs=>(wt s:Int)).map D.int)) []:=by
    refine am9 ?_ (gf λ_ _=>du _) (by simp)
    rw [e8];refine a80 sd (λs=>D.int (wt s:Int)) ps (a8e (ie (c7 rfl) (dz _ _ _) rfl) (by rw [uo];rfl)) (jf (by omega)) λp hp=>?_
    rw [adk];unfold vp;exact qg (c7 rfl) (ih p (kp p hp) [])
   refine qg z ?_;unfold aif;simp only [SRC.ints_map,adz]
  match s,k with
  |.one sg,k =>
   rw [sd,wt];exact af toR (qx (ag (ifT (by walk_at "x")) (j9 (dz _ _ _))))
  |.row ps,k =>
   rw [sd,wt];refine ag (af toR (ifN (by walk_at "x"))) ?_
   exact af toR (qx (ag (ifT (tof (ie (ie (c7 rfl) (dz _ _ _) SHD.ix0) (a1j (dz _ _ _) (dz _ _ _) a5r) (a2m _ _)))) (j9 (many _ ps k.2 k.1))))
  |.eit ps,k =>
   rw [sd,wt];refine ag (af toR (ifN (by walk_at "x"))) ?_
   exact af toR (qx (ag (ifT (tof (ie (ie (c7 rfl) (dz _ _ _) SHD.ix0) (a1j (dz _ _ _) (dz _ _ _) a5r) (a2m _ _)))) (j9 (many _ ps k.2.2 k.2.1))))
  |.many p,k =>
   rw [sd,wt];have c1:=ih p k;refine ag (af toR (ifN (by walk_at "x"))) ?_
   refine ag (af toR (ifN (tof (ie (ie (c7 rfl) (dz _ _ _) SHD.ix0) (a1j (dz _ _ _) (dz _ _ _) a5r) (a2m _ _))))) ?_;exact af toR (qx (ag (ifT (by walk_at "x")) (j9 (by walk_at "x"))))
  |.tim p lo hi,k =>
   rw [sd,wt];have c1:=ih p k.2.2;have h4:=k.2.1;refine ag (af toR (ifN (by walk_at "x"))) ?_
   refine ag (af toR (ifN (tof (ie (ie (c7 rfl) (dz _ _ _) SHD.ix0) (a1j (dz _ _ _) (dz _ _ _) a5r) (a2m _ _))))) ?_;refine ag (af toR (ifN (by walk_at "x"))) ?_
   have m:yp (dg hi) (dg (wt p)) []=.ok (dg (hi*wt p)) []:=a3h.trans ((aC (.inl ⟨by omega,by omega⟩)).trans (by rw [<-i5]))
   exact af toR (j9 (ie (ie (c7 rfl) (dz _ _ _) SHD.ix3) (qg (ie (c7 rfl) (dz _ _ _) SHD.ix1) (c1 _)) m))
noncomputable def n6:SF:=km (a2u SRC.cz) 7
theorem asv{tg:List Nat}(t1:1<=tg.length)(t6:tg.length<=6)(nd:tg.Nodup){o:O}{N:Nat}(P:Src o N)(hN:N<=999999000):∃l o',1<=l.length/\l.length<=tg.length/\l.Nodup/\(∀c∈l,c∈tg)/\Dr n6 2 [.str (S tg)] o (.str (S l)) o'/\Src o' (N+8):=by
 have lt:∀h,a2p [.str (S tg)] h=.ok (dg tg.length) h:=λh=>asf (jf (by omega))
 obtain ⟨many,o1,m1,m6,P1,pre⟩:∃(many:Nat) (o1:O),1<=many/\many<=tg.length/\Src o1 (N+2)/\∀g:SS,iz (sIf (sT (s2 hEq (sA (je false 2 SRC.cz) (ak (sV 0) (ak (sC (.int 2)) dq))) (sC (.int 0)))) (nu 4 (s2 iu (sC (.int 1)) (sA (je false 2 SRC.cz) (ak (sV 0) (ak (sA a2p (ak (sV 1) dq)) dq))))) sNx) g [some (.ref 0),some (.str (S tg)),some (.str (S tg)),some (.str (S [])),some (.int 1),none,none] [o]=g [some (.ref 0),some (.str (S tg)),some (.str (S tg)),some (.str (S [])),some (dg many),none,none] [o1]:=by
  obtain ⟨q,u,e,_,Q⟩:=dw (m:=2) P (by omega) (by decide) (by decide)
  by_cases hq:q=0
  ·obtain ⟨r,u',e',r1,Q'⟩:=dw (m:=(tg.length:Int)) Q (by omega) (by omega) (by omega)
   refine ⟨1+r,u',by omega,by omega,Q',λg=>yf (ag (ifT (tof (ie (a1j (c7 rfl) (dz _ _ _) (e 0 _ rfl)) (dz _ _ _) (a1r (by omega))))) (azr (ie (dz _ _ _) (a1j (c7 rfl) (qg (c7 rfl) (lt _)) (e' 0 _ rfl)) ah0)))⟩
  ·exact ⟨1,u,by omega,by omega,Q.up (by omega),λg=>ifN (tof (ie (a1j (c7 rfl) (dz _ _ _) (e 0 _ rfl)) (dz _ _ _) (a1s (by omega))))⟩
 obtain ⟨τ',h',e2,rest,told,u,t5,t6',rfl,rfl,P2,l1,l2,nd',sb⟩:=a08 (g:=kN 5) (b:=a1e SRC.cz) dg
  (λpre τ h=>∃(rest told:List Nat) (u:O) (t5 t6:Option D),τ=[some (.ref 0),some (.str (S tg)),some (.str (S rest)),some (.str (S told)),some (dg many),t5,t6]/\h=[u]/\Src u (N+2+pre.length)/\told.length=pre.length/\(told++rest).length=tg.length/\(told++rest).Nodup/\∀c∈told++rest,c∈tg)
  (List.range many) [some (.ref 0),some (.str (S tg)),some (.str (S tg)),some (.str (S [])),some (dg many),none,none] [o1] (by
   rintro pre i post τ h al ⟨rest,told,u,t5,t6',rfl,rfl,P2,l1,l2,nd',sb⟩
   have hlen:pre.length<many:=by
    have:=af List.length al
    simp at this;omega
   rw [ar] at l2;obtain ⟨j,u',e2,rb,P3⟩:=dw (m:=(rest.length:Int)) P2 (by omega) (by omega) (by omega)
   have hj:j<rest.length:=by omega
   have gx:rest[j]? = some rest[j]:=ah hj;have pp:=ac1 told rest j rest[j] gx;refine ⟨_,_,rfl,_,_,?_,rest.take j++rest.drop (j+1),told++[rest[j]],u',some (dg i),some (dg j),rfl,rfl,by simpa [cG] using P3,by simp [l1],?_,pp.nodup_iff.mp nd',λc hc=>sb c (pp.mem_iff.mpr hc)⟩
   ·unfold a1e;refine ag (lw (a1j (c7 rfl) (qg (c7 rfl) (asf (jf (by omega)))) (e2 0 [u] rfl))) ?_
    refine ag (yf (ac3 rfl (ie (c7 rfl) (c7 rfl) (b14 (jf (by omega)) gx)) (SRC.apa (jf (by simp;omega))))) ?_
    exact azr (ie (SRC.ani (c7 rfl) rfl (SRC.anh (c7 rfl)) (b15 j (jf (by omega)))) (SRC.ani (c7 rfl) (SRC.anh (ie (c7 rfl) (dz _ _ _) a1m)) rfl (ap8 (j+1) (jf (by omega)))) (anb (jf (by simp;omega))))
   ·rw [<-pp.length_eq];simpa using l2) ⟨tg,[],o1,none,none,rfl,rfl,P1,rfl,rfl,nd,λc hc=>hc⟩
 rw [bF] at P2 l1;refine ⟨told,u,by omega,by omega,(bZ.mp nd').1,λc hc=>sb c (cH _ hc),Dr.of rfl (by simp [gj]) P.clo (r:=.ok (.str (S told)) [u]) ?_ (jb (gj _) (by simpa using a3o (by omega) P2.clo)) (gj _) P2.clo,P2.up (by omega)⟩
 unfold n6;rw [iy];show toR (a2u SRC.cz [some (.ref 0),some (.str (S tg)),none,none,none,none,none] [o])=_;unfold a2u;refine ag (af toR (lw (c7 rfl))) ?_;refine ag (af toR (lw (dz _ _ _))) ?_;refine ag (af toR (lw (dz _ _ _))) ?_;refine ag (af toR (pre _)) ?_;refine ag (af toR (a3q (asi (n:=many) (c7 rfl) (jf (by omega))))) ?_
 refine ag (af (λz=>toR (MI.thn z _)) e2) ?_;exact af toR (j9 (c7 rfl))
mutual
def Nd:Sh->Prop
 |.one s=>s.Nodup
 |.row ps=>Nds ps
 |.eit ps=>Nds ps
 |.many p=>Nd p
 |.tim p _ _=>Nd p
def Nds:List Sh->Prop
 |[]=>True
 |p::ps=>Nd p/\Nds ps
end
theorem akb:∀{l:List Sh} {s:Sh},Nds l->Nd s->Nds (l++[s])
 |[],s,_,h=>by rw [dC,Nds,Nds];exact ⟨h,trivial⟩
 |p::l,s,a,h=>by rw [Nds] at a;rw [bJ,Nds];exact ⟨a.1,akb a.2 h⟩
def Dr5(F:SF)(a b c:D)(o q:O)(d:D)(o' q':O):Prop:=∀i j h,i≠j->h[i]? = some o->h[j]? = some q->je false 5 F [.ref i,a,b,c,.ref j] h=.ok d ((h.set i o').set j q')
theorem Dr5.of{F:SF}{x:Str}{y z:Int}{o o' q q':O}{r:R D}{d:D}(co:xj 0 o)(cq:xj 0 q)(e:F [.ref 0,.str x,.int y,.int z,.ref 1] [o,q]=r)(zz:a8n 2 r=.ok d [o',q'])(c:clo 0 d)(co':xj 0 o')(cq':xj 0 q'):Dr5 F (.str x) (.int y) (.int z) o q d o' q':=λi j h ne hi hj=>by
 have e1:a1a [.ref i,.str x,.int y,.int z,.ref j]=[i,j]:=rfl;have e2:a0k 0 [.ref i,.str x,.int y,.int z,.ref j]=[.ref 0,.str x,.int y,.int z,.ref 1]:=rfl;unfold je;rw [aC (by rfl:([D.ref i,D.str x,D.int y,D.int z,D.ref j]:List D).length=5)]
 unfold aon;rw [e1];simp only [a0x,hi,hj,aF,bC,bT,eN,gD,Nat.reduceAdd];have all:∀v∈[D.ref i,.str x,.int y,.int z,.ref j],clo 0 v\/isRef v:=λv hv=>by
  simp only [aD,bg,eh] at hv
  rcases hv with rfl|rfl|rfl|rfl|rfl
  ·exact .inr ⟨i,rfl⟩
  ·exact .inl (gj _)
  ·exact .inl (du _)
  ·exact .inl (du _)
  ·exact .inr ⟨j,rfl⟩
 rw [aC ⟨by simp [ne],all,λu hu=>by simp only [aD,bg,eh] at hu;rcases hu with rfl|rfl;exact co;exact cq⟩,e2,e,zz]
 simp [c,co',cq',vg]
theorem b16{F:SF}{a b c:D}{o o' p p':O}{d:D}{h:Hd}(q:Dr5 F a b c o p d o' p'):je false 5 F [.ref 0,a,b,c,.ref 1] (o::p::h)=.ok d (o'::p'::h):=q 0 1 (o::p::h) (by decide) rfl rfl
noncomputable def gw:Nat->SF
 |0=>λ_ _=>.no
 |n+1=>km (zq SRC.cz n6 (gw n) (aj 5)) 11
def Drawn(tg:List Nat)(n d:Nat):Prop:=∀(o:O) (N p:Nat) (x:Int),Src o N->N+bnd d<=900000000->p<=1000->∃s o',a3s tg d s/\wt s<=p/\Nd s/\Dr5 (gw n) (.str (S tg)) (dg d) (dg p) o (.lst [.int x]) (sd s) o' (.lst [.int (x-pn s)])/\Src o' (N+bnd d)
def Res(tg:List Nat)(d N p:Nat)(x:Int)(r:R D):Prop:=∃s o' hs,r=.ok (sd s) (o'::.lst [.int (x-pn s)]::hs)/\a3s tg d s/\wt s<=p/\Nd s/\Src o' N
theorem Res.tr{tg:List Nat}{d N p:Nat}{x:Int}{r r':R D}(e:r=r')(q:Res tg d N p x r'):Res tg d N p x r:=e ▸ q
theorem Res.to{tg:List Nat}{d N p n:Nat}{o:O}{x:Int}{r:R D}(co:xj 0 o)(e:gw n [.ref 0,.str (S tg),dg d,dg p,.ref 1] [o,.lst [.int x]]=r)(q:Res tg d N p x r):∃s o',a3s tg d s/\wt s<=p/\Nd s/\Dr5 (gw n) (.str (S tg)) (dg d) (dg p) o (.lst [.int x]) (sd s) o' (.lst [.int (x-pn s)])/\Src o' N:=by
 obtain ⟨s,o',hs,e',k,w,nd,P⟩:=q;exact ⟨s,o',k,w,nd,Dr5.of co (adx _) (e.trans e') (b36 (qj s) P.clo (adx _)) (qj s) P.clo (adx _),P⟩
theorem ano{tg:List Nat}{n d p:Nat}{o:O}{x:Int}:gw (n+1) [.ref 0,.str (S tg),dg d,dg p,.ref 1] [o,.lst [.int x]]=toR (zq SRC.cz n6 (gw n) (aj 5) [some (.ref 0),some (.str (S tg)),some (dg d),some (dg p),some (.ref 1),none,none,none,none,none,none] [o,.lst [.int x]]):=by
 show km (zq SRC.cz n6 (gw n) (aj 5)) 11 [.ref 0,.str (S tg),dg d,dg p,.ref 1] [o,.lst [.int x]]=_;rw [iy];rfl
theorem ix8(r:Nat)(h:r<8)(h':Hd):∃m:Nat,1<=m/\m<=6/\gIx (.tup [.int 1,.int 2,.int 2,.int 3,.int 3,.int 4,.int 5,.int 6]) (dg r) h'=.ok (dg m) h':=by
 rcases r with _|_|_|_|_|_|_|_|r
 ·exact ⟨1,by decide,by decide,rfl⟩
 ·exact ⟨2,by decide,by decide,rfl⟩
 ·exact ⟨2,by decide,by decide,rfl⟩
 ·exact ⟨3,by decide,by decide,rfl⟩
 ·exact ⟨3,by decide,by decide,rfl⟩
 ·exact ⟨4,by decide,by decide,rfl⟩
 ·exact ⟨5,by decide,by decide,rfl⟩
 ·exact ⟨6,by decide,by decide,rfl⟩
 ·omega
theorem ixq{o:O}{v:D}{h:Hd}:gIx (.ref 1) (.int 0) (o::.lst [v]::h)=.ok v (o::.lst [v]::h):=rfl
local macro_rules|`(tactic|walk_at "l") => `(tactic|first|((with_reducible apply b16);with_reducible assumption)|(with_reducible exact ixq)|(with_reducible exact subn)|(with_reducible exact acb))
theorem a91{tg:List Nat}(t1:1<=tg.length)(t6:tg.length<=6)(nd:tg.Nodup){n d:Nat}(hd:d<=4)(ih:0<d->Drawn tg n d):Drawn tg (n+1) (d+1):=by
 intro o N p x P hN hp
 have bl:=apb d;have be:bnd (d+1)=7*bnd d:=rfl;refine Res.to P.clo ano ?_;unfold zq;obtain ⟨r,o1,e1,r1,P1⟩:=dw (m:=9) P (by omega) (by decide) (by decide)
 have pu:put (.ref 1) (.int 0) (.int (x-1)) [o,.lst [.int x]]=some [o,.lst [.int (x-1)]]:=rfl;refine Res.tr (af toR (yf (SRC.ayg (c7 rfl) (dz _ _ _) (SRC.af6 (i:=1) (j:=0) rfl rfl) (dz _ _ _) (yg _ _) pu))) ?_;refine Res.tr (af toR (lw (by walk_at "x"))) ?_
 by_cases leaf:d=0\/x-1<1\/r=0
 ·have c:sOr (sT (s2 hEq (sV 2) (sC (.int 1)))) (sOr (sT (s2 gLt (s2 gIx (sV 4) (sC (.int 0))) (sC (.int 1)))) (sT (s2 hEq (sV 5) (sC (.int 0))))) [some (.ref 0),some (.str (S tg)),some (dg (d+1)),some (dg p),some (.ref 1),some (dg r),none,none,none,none,none] [o1,.lst [.int (x-1)]]=.ok true [o1,.lst [.int (x-1)]]:=by
   by_cases a:d=0
   ·exact orT (by walk_at "x")
   ·by_cases b:x-1<1
    ·exact orF (by walk_at "x") (orT (by walk_at "x"))
    ·have:r=0:=by omega
     exact orF (by walk_at "x") (orF (by walk_at "x") (by walk_at "x"))
  have emp:∀u:O,Src u (N+2)->Res tg (d+1) (N+bnd (d+1)) p x (.ok (sd (.row [])) [u,.lst [.int (x-1)]]):=λu Q=>⟨.row [],u,[],by rw [pn,pns];simp,⟨by simp,by simp⟩,by rw [wt,wts];omega,by rw [Nd,Nds];trivial,Q.up (by omega)⟩
  by_cases p0:p=0
  ·refine Res.tr (af toR (qx (ag (ifT c) (qx (ag (ifT (orT (by walk_at "x"))) (j9 (by walk_at "x"))))))) (emp o1 (P1.up (by omega)))
  ·obtain ⟨q,o2,e2,q1,P2⟩:=dw (m:=8) P1 (by omega) (by decide) (by decide)
   by_cases q0:q=0
   ·refine Res.tr (af toR (qx (ag (ifT c) (qx (ag (ifT (orF (by walk_at "x") (by walk_at "x"))) (j9 (by walk_at "x"))))))) (emp o2 P2)
   ·obtain ⟨l,o3,l1,l2,l3,l4,e3,P3⟩:=asv t1 t6 nd P2 (by omega)
    refine Res.tr (af toR (qx (ag (ifT c) (ag (ifN (orF (by walk_at "x") (by walk_at "x"))) (j9 (by walk_at "x")))))) ?_
    exact ⟨.one l,o3,[],by rw [pn];rfl,⟨l1,by omega,l4⟩,by rw [wt];omega,by rw [Nd];exact l3,P3.up (by omega)⟩
 ·have d0:¬ d=0:=λz=>leaf (.inl z);have xp:¬ x-1<1:=λz=>leaf (.inr (.inl z));have rp:¬ r=0:=λz=>leaf (.inr (.inr z));refine Res.tr (af toR (ifN (orF (by walk_at "x") (orF (by walk_at "x") (by walk_at "x"))))) ?_
  have ih:=ih (by omega)
  obtain ⟨d,rfl⟩:∃d',d=d'+1:=⟨d-1,by omega⟩
  by_cases h3:r<3
  ·obtain ⟨s,o3,k3,w3,n3,e3,P3⟩:=ih o1 (N+1) p (x-1) P1 (by omega) hp
   refine Res.tr (af toR (qx (ag (ifT (by walk_at "x")) (j9 (by walk_at "x"))))) ?_
   exact ⟨.many s,o3,[],by rw [sd,pn,show x-1-(pn s:Int)=x-((1+pn s:Nat):Int) by omega];rfl,k3,by rw [wt];exact w3,by rw [Nd];exact n3,P3.up (by omega)⟩
  ·refine Res.tr (af toR (ifN (by walk_at "x"))) ?_
   by_cases h5:r<5
   ·obtain ⟨hi,o2,e2,b1,P2⟩:=dw (m:=5) P1 (by omega) (by decide) (by decide)
    obtain ⟨lo,o3,e3,c1,P3⟩:=dw (m:=(hi:Int)+1) P2 (by omega) (by omega) (by omega)
    obtain ⟨m,hm,m1,mw⟩:∃m:Nat,aba [.int 1,dg hi] [o3,.lst [.int (x-1)]]=.ok (dg m) [o3,.lst [.int (x-1)]]/\1<=m/\m<=4/\hi<=m:=by
     refine ⟨(if (hi:Int) > 1 then (hi:Int) else 1).toNat,?_,?_⟩
     ·show R.ok (D.int (if (hi:Int) > 1 then (hi:Int) else 1)) _=_
      rw [show dg (if (hi:Int) > 1 then (hi:Int) else 1).toNat=D.int (if (hi:Int) > 1 then (hi:Int) else 1) from af D.int (by split<;>omega)]
     ·split<;>omega
    obtain ⟨s,o4,k4,w4,n4,e4,P4⟩:=ih o3 (N+1+1+1) (p / m) (x-1) P3 (by omega) (bG (Nat.div_le_self _ _) hp)
    have dv:a8a (dg p) (dg m) [o3,.lst [.int (x-1)]]=.ok (dg (p / m)) [o3,.lst [.int (x-1)]]:=(div_ii ⟨by omega,by omega⟩).trans (by rw [<-Int.natCast_ediv])
    refine Res.tr (af toR (qx (ag (ifT (by walk_at "x")) (ag (lw (by walk_at "x")) (ag (lw (a1j (c7 rfl) (ie (c7 rfl) (dz _ _ _) acb) (EVT.aae e3))) (j9 (PAP.aof (PAP.di (dz _ _ _) (PAP.di (PAP.aof (PAP.di (c7 rfl) (PAP.di (c7 rfl) (PAP.di (ie (c7 rfl) (dz _ _ _) subn) (PAP.di (ie (c7 rfl) (a1j (dz _ _ _) (c7 rfl) hm) dv) (PAP.di (c7 rfl) EVT.lz))))) (b16 e4)) (PAP.di (c7 rfl) (PAP.di (c7 rfl) EVT.lz)))) b37))))))) ?_
    refine ⟨.tim s lo hi,o4,[],by rw [sd,pn,show x-1-(pn s:Int)=x-((1+pn s:Nat):Int) by omega];rfl,⟨by omega,by omega,k4⟩,?_,by rw [Nd];exact n4,P4.up (by omega)⟩
    rw [wt];exact bG (cU mw.2 w4) (Nat.mul_div_le p m)
   ·refine Res.tr (af toR (ifN (by walk_at "x"))) ?_
    obtain ⟨q,o2,e2,q1,P2⟩:=dw (m:=8) P1 (by omega) (by decide) (by decide)
    obtain ⟨k,k1,k6,hk⟩:=ix8 q (by omega) [o2,.lst [.int (x-1)],.lst []]
    have nl:MI.uw [] [o1,.lst [.int (x-1)]]=.ok (.ref 2) [o1,.lst [.int (x-1)],.lst []]:=aC (jf (by simp))
    refine Res.tr (af toR (lw (PAP.aof EVT.lz nl))) ?_;have t8:MI.yh [.int 1,.int 2,.int 2,.int 3,.int 3,.int 4,.int 5,.int 6] [o1,.lst [.int (x-1)],.lst []]=.ok (.tup [.int 1,.int 2,.int 2,.int 3,.int 3,.int 4,.int 5,.int 6]) [o1,.lst [.int (x-1)],.lst []]:=by unfold MI.yh;rw [aC (jf (by simp))]
    have it:sRg a6i (ak (s2 gIx (sA MI.yh (ak (sC (.int 1)) (ak (sC (.int 2)) (ak (sC (.int 2)) (ak (sC (.int 3)) (ak (sC (.int 3)) (ak (sC (.int 4)) (ak (sC (.int 5)) (ak (sC (.int 6)) dq))))))))) (sA (je false 2 SRC.cz) (ak (sV 0) (ak (sC (.int 8)) dq)))) dq) [some (.ref 0),some (.str (S tg)),some (dg (d+1+1)),some (dg p),some (.ref 1),some (dg r),none,none,some (.ref 2),none,none] [o1,.lst [.int (x-1)],.lst []]=.ok ⟨(List.range k).map dg,λ_=>True⟩ [o2,.lst [.int (x-1)],.lst []]:=by
     unfold sRg;rw [arg1 (ie (PAP.aof (PAP.di (dz _ _ _) (PAP.di (dz _ _ _) (PAP.di (dz _ _ _) (PAP.di (dz _ _ _) (PAP.di (dz _ _ _) (PAP.di (dz _ _ _) (PAP.di (dz _ _ _) (PAP.di (dz _ _ _) EVT.lz)))))))) t8) (a1j (c7 rfl) (dz _ _ _) (EVT.aae e2)) hk),fu];exact ap9 _ (jf (by omega))
    refine Res.tr (af toR (a3q it)) ?_;obtain ⟨τ',h',e3,ss,o3,t9,t10,rfl,rfl,P3,ks,ws,ns,sl,s1⟩:=a08 (g:=kN 9) (b:=xn SRC.cz n6 (gw n) (aj 5)) dg
     (λpre τ h=>∃(ss:List Sh) (o':O) (t9 t10:Option D),τ=[some (.ref 0),some (.str (S tg)),some (dg (d+1+1)),some (dg (p-wts ss)),some (.ref 1),some (dg r),none,none,some (.ref 2),t9,t10]/\h=[o',.lst [.int (x-1-pns ss)],.lst (ss.map sd)]/\Src o' (N+2+pre.length*bnd (d+1))/\(∀s∈ss,a3s tg (d+1) s)/\wts ss<=p/\Nds ss/\ss.length<=pre.length/\(1<=pre.length->1<=ss.length))
     (List.range k) [some (.ref 0),some (.str (S tg)),some (dg (d+1+1)),some (dg p),some (.ref 1),some (dg r),none,none,some (.ref 2),none,none] [o2,.lst [.int (x-1)],.lst []] (by
      rintro pre i post τ h al ⟨ss,o',t9,t10,rfl,rfl,P',ks,ws,ns,sl,s1⟩
      have hl:pre.length<k:=by
       have:=af List.length al
       simp at this;omega
      have kb:(pre.length+1)*bnd (d+1)<=6*bnd (d+1):=dP _ (by omega)
      rw [dI] at kb;refine ⟨_,_,rfl,?_⟩;show ∃τ2 h2,xn SRC.cz n6 (gw n) (aj 5) [some (.ref 0),some (.str (S tg)),some (dg (d+1+1)),some (dg (p-wts ss)),some (.ref 1),some (dg r),none,none,some (.ref 2),some (dg i),t10] [o',.lst [.int (x-1-pns ss)],.lst (ss.map sd)]=.nx τ2 h2/\_;unfold xn
      by_cases room:0<x-1-(pns ss:Int)
      ·obtain ⟨s,o5,k5,w5,n5,e5,P5⟩:=ih o' _ (p-wts ss) (x-1-pns ss) P' (by omega) (by omega)
       have c1:=wz (d+1) 5 (by omega) s k5
       have sb:MI.ach (dg (p-wts ss)) (dg (wt s)) [o5,.lst [.int (x-1-pns ss-pn s)],.lst (ss.map sd)]=.ok (dg (p-wts (ss++[s]))) [o5,.lst [.int (x-1-pns ss-pn s)],.lst (ss.map sd)]:=by
        rw [yg,ady,show ((p-wts ss:Nat):Int)-(wt s:Nat)=((p-(wts ss+wt s):Nat):Int) by omega]
       refine ⟨_,_,ag (ifT (by walk_at "x")) (ag (lw (by walk_at "x")) (ag (yf (ac3 rfl (qg (c7 rfl) (c1 _)) sb)) (a6e (c7 rfl) rfl (PAP.di (c7 rfl) EVT.lz) (af5 (i:=2) rfl (axd (by simp;omega)))))),ss++[s],o5,some (dg i),some (sd s),rfl,?_,?_,?_,?_,?_,?_,?_⟩
       ·rw [bB,aka];show [o5,O.lst [.int (x-1-pns ss-pn s)],.lst (ss.map sd++[sd s])]=_;rw [show x-1-(pns ss:Int)-(pn s:Int)=x-1-((pns ss+pn s:Nat):Int) by omega]
        rfl
       ·rw [ar,aG,dI,<-cG];exact P5
       ·intro u hu
        rcases bA.mp hu with hu|hu
        ·exact ks u hu
        ·rw [aB.mp hu];exact k5
       ·rw [ady];omega
       ·exact akb ns n5
       ·rw [ar,ar,aG,aG];omega
       ·intro _;rw [ar,aG];omega
      ·refine ⟨_,_,ifF (by walk_at "x"),ss,o',some (dg i),t10,rfl,rfl,P'.up ?_,ks,ws,ns,?_,?_⟩
       ·rw [ar,aG,dI];omega
       ·rw [ar];omega
       ·intro _
        by_cases z:1<=pre.length
        ·exact s1 z
        ·exfalso
         have:ss.length=0:=by omega
         rw [gW.mp this,pns] at room;omega) ⟨[],o2,none,none,by rw [wts];rfl,by rw [pns];simp,by simpa using P2,by simp,by rw [wts];omega,by rw [Nds];trivial,by simp,by simp⟩
    rw [bF] at P3 sl s1;have kb:k*bnd (d+1)<=6*bnd (d+1):=dP _ k6;refine Res.tr (af (λz=>toR (MI.thn z _)) e3) ?_;rw [a8q];have tp:qy [.ref 2] [o3,.lst [.int (x-1-pns ss)],.lst (ss.map sd)]=.ok (.tup (ss.map sd)) [o3,.lst [.int (x-1-pns ss)],.lst (ss.map sd)]:=asl rfl;have xe:x-1-(pns ss:Int)=x-((1+pns ss:Nat):Int):=by omega
    by_cases h7:r<7
    ·have g1:a8a (dg r) (.int 7) [o3,.lst [.int (x-1-pns ss)],.lst (ss.map sd)]=.ok (dg 0) [o3,.lst [.int (x-1-pns ss)],.lst (ss.map sd)]:=(div_ii ⟨by decide,by decide⟩).trans (by rw [show (r:Int) / 7=((0:Nat):Int) by omega])
     refine Res.tr (af toR (j9 (a1j (ie (a1j (dz _ _ _) (dz _ _ _) a5r) (ie (c7 rfl) (dz _ _ _) g1) (agz (j:=0) rfl)) (qg (c7 rfl) tp) a5r))) ?_;exact ⟨.row ss,o3,[.lst (ss.map sd)],by rw [sd,uo,pn,xe];rfl,⟨by omega,ks⟩,by rw [wt];exact ws,by rw [Nd];exact ns,P3.up (by omega)⟩
    ·have g1:a8a (dg r) (.int 7) [o3,.lst [.int (x-1-pns ss)],.lst (ss.map sd)]=.ok (dg 1) [o3,.lst [.int (x-1-pns ss)],.lst (ss.map sd)]:=(div_ii ⟨by decide,by decide⟩).trans (by rw [show (r:Int) / 7=((1:Nat):Int) by omega])
     refine Res.tr (af toR (j9 (a1j (ie (a1j (dz _ _ _) (dz _ _ _) a5r) (ie (c7 rfl) (dz _ _ _) g1) (agz (j:=1) rfl)) (qg (c7 rfl) tp) a5r))) ?_;exact ⟨.eit ss,o3,[.lst (ss.map sd)],by rw [sd,uo,pn,xe];rfl,⟨s1 (by omega),by omega,ks⟩,by rw [wt];exact ws,by rw [Nd];exact ns,P3.up (by omega)⟩
theorem aag{tg:List Nat}(t1:1<=tg.length)(t6:tg.length<=6)(nd:tg.Nodup):∀(d n:Nat),d<=4->d<=n->Drawn tg (n+1) (d+1)
 |0,n,_,_=>a91 t1 t6 nd (by omega) λz=>absurd z (by omega)
 |d+1,0,_,h=>absurd h (by omega)
 |d+1,n+1,h,h'=>a91 t1 t6 nd h λ_=>aag t1 t6 nd d n (by omega) (by omega)
def az:List Nat:=("abcdefghijklmnopqrstuvwxyz" : Str).cps.toList
def nx(x:List Nat)(a f j:Nat):List Nat:=x.set a (az[(f+j)%26]?.getD 0)
open Classical in
noncomputable def tk(w:List Nat)(s:Sh):Bool:=decide (En w 5 s 0 w.length)
mutual
theorem afe{tg:List Nat}:∀{d:Nat} {s:Sh},a3s tg d s->pur (2*d) (sd s)=true
 |0,_,k=>k.elim
 |d+1,.one sg,_=>by rw [sd,show 2*(d+1)=2*d+1+1 by omega];rfl
 |d+1,.row ps,k=>by
  rw [sd,show 2*(d+1)=2*d+1+1 by omega]
  show ((true && ((sds ps).all (pur (2*d)) && true))=true);rw [ae0 k.2];rfl
 |d+1,.eit ps,k=>by
  rw [sd,show 2*(d+1)=2*d+1+1 by omega]
  show ((true && ((sds ps).all (pur (2*d)) && true))=true);rw [ae0 k.2.2];rfl
 |d+1,.many p,k=>by
  rw [sd,show 2*(d+1)=2*d+1+1 by omega]
  show ((true && (pur (2*d+1) (sd p) && true))=true);rw [aig (by omega) (afe (d:=d) (s:=p) k)];rfl
 |d+1,.tim p lo hi,k=>by
  rw [sd,show 2*(d+1)=2*d+1+1 by omega]
  show ((true && (pur (2*d+1) (sd p) && (pur (2*d+1) (dg lo) && (pur (2*d+1) (dg hi) && true))))=true);rw [aig (by omega) (afe (d:=d) (s:=p) k.2.2)];rfl
theorem ae0{tg:List Nat}:∀{d:Nat} {ps:List Sh},(∀p∈ps,a3s tg d p)->(sds ps).all (pur (2*d))=true
 |_,[],_=>by rw [sds];rfl
 |d,p::ps,k=>by
  rw [sds,dH,afe (k p aR),ae0 λq hq=>k q (aL _ hq)];rfl
end
end DRW
namespace K11
open L2 MI AT HND EVX SPR
open SHD
open PAP hiding di a3a a3u o6 a00 aof
open DRW (wt wts)
mutual
def pt:Sh->Pt
 |.one _=>asb
 |.row ps=>ajx (pts ps)
 |.eit ps=>ajy (pts ps)
 |.many p=>ay8 (pt p)
 |.tim p lo hi=>atd (pt p) lo hi
def pts:List Sh->List Pt
 |[]=>[]
 |p::ps=>pt p::pts ps
end
theorem a3t:∀l:List Sh,pts l=l.map pt
 |[]=>by rw [pts];rfl
 |p::l=>by rw [pts,a3t l];rfl
mutual
theorem a4y:∀s:Sh,(pt s).w=wt s
 |.one _=>by rw [pt,wt];rfl
 |.row ps=>by rw [pt,wt];exact ae1 ps
 |.eit ps=>by rw [pt,wt];exact ae1 ps
 |.many p=>by rw [pt,wt];exact a4y p
 |.tim p lo hi=>by rw [pt,wt,<-a4y p];rfl
theorem ae1:∀l:List Sh,sw (pts l)=wts l
 |[]=>by rw [pts,wts];rfl
 |p::l=>by rw [pts,wts,sw,a4y p,ae1 l]
end
mutual
theorem a8f:∀s:Sh,(pt s).Ok
 |.one _=>by rw [pt];exact ax0
 |.row ps=>by rw [pt];exact ax1 (akc ps)
 |.eit ps=>by rw [pt];exact ax2 (akc ps)
 |.many p=>by rw [pt];exact ax3 (a8f p)
 |.tim p lo hi=>by rw [pt];exact ax4 (a8f p) lo hi
theorem akc:∀l:List Sh,∀x∈pts l,x.Ok
 |[],x,h=>by rw [pts] at h;cases h
 |p::l,x,h=>by
  rw [pts] at h
  rcases aD.mp h with rfl|h
  ·exact a8f p
  ·exact akc l x h
end
def laid:Sh->List Sh
 |.one _=>[]
 |.row ps=>ps
 |.eit ps=>ps
 |.many p=>[p]
 |.tim p _ hi=>List.replicate hi p
noncomputable def bz:SF:=km a2w 1
theorem asw(x:D):bz [x] []=toR (a2w [some x] []):=by
 unfold bz;rw [iy];rfl
theorem ae2(p:Sh):∀n,sds (List.replicate n p)=List.replicate n (sd p)
 |0=>by rw [List.replicate_zero,sds];rfl
 |n+1=>by rw [aS,sds,ae2 p n];rfl
theorem aah{tg:List Nat}{d:Nat}{s:Sh}(k:a3s tg (d+1) s)(n1:∀sg,s≠.one sg):Pu bz 1 [sd s] (.tup (sds (laid s))):=by
 refine Pu.of rfl (by simp [qj]) (r:=.ok (.tup (sds (laid s))) []) ?_ (jb (gk (a2l _)) (by simp)) (gk (a2l _))
 rw [asw];unfold a2w
 match s,k with
 |.one sg,_=>exact absurd rfl (n1 sg)
 |.row ps,k =>
  rw [sd,laid];exact af toR (qx (ag (ifT (tof (ie (ie (c7 rfl) (dz _ _ _) SHD.ix0) (a1j (dz _ _ _) (dz _ _ _) a5r) (DRW.a2m _ _)))) (j9 (ie (c7 rfl) (dz _ _ _) SHD.ix1))))
 |.eit ps,k =>
  rw [sd,laid];exact af toR (qx (ag (ifT (tof (ie (ie (c7 rfl) (dz _ _ _) SHD.ix0) (a1j (dz _ _ _) (dz _ _ _) a5r) (DRW.a2m _ _)))) (j9 (ie (c7 rfl) (dz _ _ _) SHD.ix1))))
 |.many p,k =>
  rw [sd,laid];refine ag (af toR (ifN (tof (ie (ie (c7 rfl) (dz _ _ _) SHD.ix0) (a1j (dz _ _ _) (dz _ _ _) a5r) (DRW.a2m _ _))))) ?_;refine af toR (qx (ag (ifT (by walk_at "x")) (j9 ?_)))
  rw [sds,sds];exact qg (ie (c7 rfl) (dz _ _ _) SHD.ix1) a3a
 |.tim p lo hi,k =>
  rw [sd,laid];refine ag (af toR (ifN (tof (ie (ie (c7 rfl) (dz _ _ _) SHD.ix0) (a1j (dz _ _ _) (dz _ _ _) a5r) (DRW.a2m _ _))))) ?_;refine ag (af toR (ifN (by walk_at "x"))) ?_
  refine af toR (j9 ?_);rw [ae2];exact ie (qg (ie (c7 rfl) (dz _ _ _) SHD.ix1) a3a) (ie (c7 rfl) (dz _ _ _) SHD.ix3) (b29 (by have:=k.2.1;omega))
theorem aai{tg:List Nat}{d:Nat}{s:Sh}(k:a3s tg (d+1) s):(∀p∈laid s,a3s tg d p)/\(laid s).length<=6:=by
 match s,k with
 |.one sg,k=>exact ⟨λp h=>(by cases h),aU _⟩
 |.row ps,k=>exact ⟨k.2,k.1⟩
 |.eit ps,k=>exact ⟨k.2.2,k.2.1⟩
 |.many p,k=>exact ⟨λq h=>by rw [aB.mp h];exact k,by show 1<=6;decide⟩
 |.tim p lo hi,k=>exact ⟨λq h=>by rw [eW h];exact k.2.2,by rw [laid,cX];have:=k.2.1;omega⟩
noncomputable def aq:Nat->SF
 |0=>λ_ _=>.no
 |n+1=>km (zu (aq n)) 1
theorem a81:∀l:List Sh,(l.filter λp => !(pt p).e).isEmpty=aE (pts l)
 |[]=>by rw [pts];rfl
 |p::l=>by
  rw [pts,aE,<-a81 l,List.filter_cons]
  cases (pt p).e<;>simp
theorem acd:∀l:List Sh,(!(l.filter λp=>(pt p).e).isEmpty)=oE (pts l)
 |[]=>by rw [pts];rfl
 |p::l=>by
  rw [pts,oE,<-acd l,List.filter_cons]
  cases (pt p).e<;>simp
theorem ae3{tg:List Nat}{d:Nat}{ps:List Sh}(kp:∀p∈ps,a3s tg d p)(hd:d<=5)(h:Hd):ag3 false (.rol (sds ps)) (.rol []) h=.ok (.bl ps.isEmpty) h/\ag3 true (.rol (sds ps)) (.rol []) h=.ok (.bl (!ps.isEmpty)) h:=by
 have p1:(sds ps).all (pur 59)=true:=by
  rw [bE]
  intro x hx
  rw [uo] at hx;obtain ⟨p,hp,rfl⟩:=c8.mp hx;exact aig (by omega) (DRW.afe (kp p hp))
 have e:abd (sds ps) []=ps.isEmpty:=by cases ps<;>(rw [sds];rfl)
 have l1:∀xs,yt (.rol xs) h=some xs:=λ_=>rfl;unfold ag3;rw [l1,l1];simp only [p1,e,List.all_nil,and_self,dS,bT,eN]
theorem a92{α:Type}(g:α->D)(Q:α->Bool)(xs:List α){fi:SI}{c:ST}{fe:SE}{ix:List Nat}{τ:Sd}{h:Hd}(e:fi τ h=.ok ⟨xs.map g,λ_=>True⟩ h)(z:xs.length<=1000)(cl:∀x∈xs,MI.clo 0 (g x))(ch:∀u∈h,xj 0 u)
  (st:∀x∈xs,c (some (g x)::frs' ix τ) h=.ok (Q x) h) (sf:∀x∈xs,fe (some (g x)::frs' ix τ) h=.ok (g x) h):sZ (ut fi MI.t1 c fe ix) τ h=.ok (.rol ((xs.filter Q).map g)) h:=by
 have ff:∀ys:List α,ys.filterMap (λx=>if Q x=true then some (g x) else none)=(ys.filter Q).map g:=λys=>by
  induction ys with
  |nil=>rfl
  |cons y ys ih=>cases q:Q y<;>simp [q,ih]
 refine EVT.anj (h1:=h) ?_ rfl (gf λx hx=>cl x ((cV.mp hx).1)) ch;rw [<-ff];refine ac2 g _ xs e (jf (by omega)) λx hx=>?_
 rw [asj,st x hx,fu]
 cases Q x with
 |false=>rfl
 |true =>
  show (fe (some (g x)::frs' ix τ) h).bind _=_;rw [sf x hx,fu];rfl
theorem anp(n:Nat)(x:D):aq (n+1) [x] []=toR (zu (aq n) [some x] []):=by
 show km (zu (aq n)) 1 [x] []=_;rw [iy];rfl
theorem a4u{tg:List Nat}:∀(d n:Nat),d<=n->d<=5->∀s,a3s tg d s->Pu (aq n) 1 [sd s] (.bl (pt s).e)
 |0,_,_,_,_,k=>k.elim
 |d+1,0,h,_,_,_=>absurd h (by omega)
 |d+1,n+1,h,h5,s,k=>by
  have ih:=a4u (tg:=tg) d n (by omega) (by omega)
  refine Pu.of rfl (by simp [qj]) (r:=.ok (.bl (pt s).e) []) ?_ (jb (kj _) (by simp)) (kj _)
  rw [anp];unfold zu
  match s,k with
  |.one sg,k =>
   rw [sd,pt];exact af toR (qx (ag (ifT (by walk_at "x")) (j9 (dz _ _ _))))
  |.row ps,k =>
   rw [sd,pt];refine ag (af toR (ifN (by walk_at "x"))) ?_
   have z:sZ (ut (sIt (s2 gIx (sV 0) (sC (.int 1)))) MI.t1 (a0l (aq n)) (a3c (aq n)) []) [some (.tup [.str "row",.tup (sds ps)])] []=.ok (.rol ((ps.filter λp => !(pt p).e).map sd)) []:=by
    refine a92 sd _ ps (a8e (ie (c7 rfl) (dz _ _ _) SHD.ix1) (by rw [uo];rfl)) (by have:=k.1;omega) (λp _=>qj p) (by simp) (λp hp=>?_) λp _=>c7 rfl
    have c1:=ih p (k.2 p hp) [];unfold a0l
    cases q:(pt p).e with
    |true=>rw [q] at c1;exact a4x (o7 (qg (c7 rfl) c1) (j6 _))
    |false=>rw [q] at c1;exact aad (o7 (qg (c7 rfl) c1) (j6 _))
   refine af toR (qx (ag (ifT (by walk_at "x")) (j9 (ie z (EVT.qi EVT.lz rfl gq (by simp) (by simp)) ?_))))
   rw [<-uo];refine ag (ae3 (tg:=tg) (d:=d) (λp hp=>k.2 p ((cV.mp hp).1)) (by omega) []).1 ?_
   rw [a81];rfl
  |.eit ps,k =>
   rw [sd,pt];refine ag (af toR (ifN (by walk_at "x"))) ?_
   refine ag (af toR (ifN (by walk_at "x"))) ?_
   have z:sZ (ut (sIt (s2 gIx (sV 0) (sC (.int 1)))) MI.t1 (a3e (aq n)) (a3d (aq n)) []) [some (.tup [.str "either",.tup (sds ps)])] []=.ok (.rol ((ps.filter λp=>(pt p).e).map sd)) []:=by
    refine a92 sd _ ps (a8e (ie (c7 rfl) (dz _ _ _) SHD.ix1) (by rw [uo];rfl)) (by have:=k.2.1;omega) (λp _=>qj p) (by simp) (λp hp=>?_) λp _=>c7 rfl
    exact o7 (qg (c7 rfl) (ih p (k.2.2 p hp) [])) (j6 _)
   refine af toR (qx (ag (ifT (by walk_at "x")) (j9 (ie z (EVT.qi EVT.lz rfl gq (by simp) (by simp)) ?_))))
   rw [<-uo];refine ag (ae3 (tg:=tg) (d:=d) (λp hp=>k.2.2 p ((cV.mp hp).1)) (by omega) []).2 ?_
   rw [acd];rfl
  |.many p,k =>
   rw [sd,pt];refine ag (af toR (ifN (by walk_at "x"))) ?_
   refine ag (af toR (ifN (by walk_at "x"))) ?_
   refine ag (af toR (ifN (by walk_at "x"))) ?_
   exact af toR (j9 (EVT.azu (by walk_at "x")))
  |.tim p lo hi,k =>
   rw [sd,pt];have c1:=ih p k.2.2 [];refine ag (af toR (ifN (by walk_at "x"))) ?_
   refine ag (af toR (ifN (by walk_at "x"))) ?_
   refine ag (af toR (ifN (by walk_at "x"))) ?_
   refine af toR (j9 (EVT.azv (by walk_at "x") ?_))
   by_cases q:lo=0
   ·subst q;exact EVT.azu (by walk_at "x")
   ·refine ag (EVT.azv (ie (ie (c7 rfl) (dz _ _ _) SHD.ix2) (dz _ _ _) (a1s (by omega))) (qg (ie (c7 rfl) (dz _ _ _) SHD.ix1) c1)) ?_
    show R.ok (D.bl (pt p).e) _=R.ok (D.bl (lo == 0 || (pt p).e)) _
    rw [bM.mpr q,ia]
noncomputable def bj:Nat->SF
 |0=>λ_ _=>.no
 |n+1=>km (ye (bj n) (aq 5) bz (DRW.aj 5)) 4
theorem akd(n:Nat)(x y z:D):bj (n+1) [x,y,z] []=toR (ye (bj n) (aq 5) bz (DRW.aj 5) [some x,some y,some z,none] []):=by
 show km (ye (bj n) (aq 5) bz (DRW.aj 5)) 4 [x,y,z] []=_;rw [iy];rfl
theorem cl3(s:Sh)(a p:Nat):∀y∈[sd s,dg a,dg p],MI.clo 0 y:=λy hy=>by
 simp only [aD,bg,eh] at hy
 rcases hy with rfl|rfl|rfl
 ·exact qj _
 ·exact du _
 ·exact du _
theorem afg(a b:Nat)(h:Hd):a0j (dg a) (dg b) h=.ok (dg (a+b)) h:=rfl
theorem a4v{fa fp fw:SE}{τ:Sd}{h:Hd}{a p w:Nat}(e1:fa τ h=.ok (dg a) h)(e2:fp τ h=.ok (dg p) h)(e3:fw τ h=.ok (dg (a+w)) h) :
  sT (sCh gLt gLe fa fp fw) τ h=.ok (decide (a<p) && decide (p<=a+w)) h:=by
 refine tof ?_;unfold sCh;rw [e1,fu,e2,fu];have l:gLt (dg a) (dg p) h=.ok (.bl (decide (a<p))) h:=by
  show R.ok (D.bl (decide ((a:Int)<(p:Int)))) h=_
  congr 2;simp
 rw [l,fu]
 cases q:decide (a<p) with
 |false=>rfl
 |true =>
  show (fw τ h).bind _=_;rw [e3,fu];show R.ok (D.bl (decide ((p:Int)<=((a+w:Nat):Int)))) h=_
  congr 2;simp only [Int.ofNat_le,ic]
section
variable{x:D}{ne:Bool}{p n:Nat}
structure Prt (n:Nat) (p:Nat) (q:Sh):Prop where
 b:∀a,Pu (bj n) 3 [sd q,dg a,dg p] (.bl ((pt q).B a p))
 e:Pu (aq 5) 1 [sd q] (.bl (pt q).e)
 w:Pu (DRW.aj 5) 1 [sd q] (dg (wt q))
theorem a82(hx:∀τ h,τ[0]? = some (some x)->s2 hNe (s2 gIx (sV 0) (sC (.int 0))) (sC (.str "either")) τ h=.ok (.bl ne) h):∀(ps:List Sh) (a:Nat) (t3:Option D),(∀q∈ps,Prt n p q)->
  MI.thn (forL (λ_=>True) (kN 3) (pq (bj n) (aq 5) bz (DRW.aj 5)) (sds ps) [some x,some (dg a),some (dg p),t3] []) (oh (sC (.bl false)))=.rt (.bl (if ne=true then sB (pts ps) a p else oB (pts ps) a p)) []
 |[],a,t3,_=>by
  rw [sds,a1c,pts]
  cases ne<;>exact j9 (dz _ _ _)
 |q::ps,a,t3,c=>by
  have ⟨c1,c2,c3⟩:=c q (by simp)
  have ih:=a82 hx ps (a+wt q) (some (sd q)) λy hy=>c y (by simp [hy])
  have c1:=c1 a [];have c2:=c2 [];have c3:=c3 [];rw [sds,xu _ _ _ _ _ [some x,some (dg a),some (dg p),some (sd q)] _ [] rfl];unfold pq;have go:ab5 1 a0j (sA (je false 1 (DRW.aj 5)) (ak (sV 3) dq)) [some x,some (dg a),some (dg p),some (sd q)] []=.nx [some x,some (dg (a+wt q)),some (dg p),some (sd q)] []:=ac3 rfl (qg (c7 rfl) c3) (afg _ _ _);rw [pts]
  cases hb:(pt q).B a p with
  |true =>
   rw [hb] at c1;rw [qx (ag (ifT (o7 (ang (c7 rfl) (c7 rfl) (c7 rfl) c1) (j6 _))) (j9 (dz _ _ _)))]
   cases ne<;>simp [sB,oB,hb,trn,MI.thn]
  |false =>
   rw [hb] at c1;rw [ifN (o7 (ang (c7 rfl) (c7 rfl) (c7 rfl) c1) (j6 _))]
   cases ne with
   |false =>
    rw [ifN (a8x (tof (hx _ _ rfl))),go,aep];rw [pq] at ih;rw [ih];simp [oB,hb,a4y]
   |true =>
    cases he:(pt q).e with
    |true =>
     rw [he] at c2;rw [ifN (aac (tof (hx _ _ rfl)) (a4x (o7 (qg (c7 rfl) c2) (j6 _)))),go,aep];rw [pq] at ih;rw [ih];simp [sB,hb,he,a4y]
    |false =>
     rw [he] at c2;rw [qx (ag (ifT (aac (tof (hx _ _ rfl)) (aad (o7 (qg (c7 rfl) c2) (j6 _))))) (j9 (dz _ _ _)))];simp [sB,hb,he,trn,MI.thn]
end
theorem a83{tg:List Nat}:∀(d n:Nat),d<=n->d<=5->∀s,a3s tg d s->∀a p,Pu (bj n) 3 [sd s,dg a,dg p] (.bl ((pt s).B a p))
 |0,_,_,_,_,k,_,_=>k.elim
 |d+1,0,h,_,_,_,_,_=>absurd h (by omega)
 |d+1,n+1,h,h5,s,k,a,p=>by
  have ih:=a83 (tg:=tg) d n (by omega) (by omega)
  refine Pu.of rfl (cl3 _ _ _) (r:=.ok (.bl ((pt s).B a p)) []) ?_ (jb (kj _) (by simp)) (kj _)
  rw [akd];unfold ye;have c3:=DRW.wz (tg:=tg) (d+1) 5 h5 s k [];have rg:sT (sCh gLt gLe (sV 1) (sV 2) (s2 iu (sV 1) (sA (je false 1 (DRW.aj 5)) (ak (sV 0) dq)))) [some (sd s),some (dg a),some (dg p),none] []=.ok (decide (a<p) && decide (p<=a+wt s)) []:=a4v (c7 rfl) (c7 rfl) (ie (c7 rfl) (qg (c7 rfl) c3) DRW.ah0)
  cases q:(decide (a<p) && decide (p<=a+wt s)) with
  |false =>
   rw [q] at rg;have:(pt s).B a p=false:=by
    cases z:(pt s).B a p with
    |false=>rfl
    |true =>
     have:=(a8f s).b a p z
     rw [a4y] at this;simp [this] at q
   rw [this];exact af toR (qx (ag (ifT (aad rg)) (j9 (dz _ _ _))))
  |true =>
   rw [q] at rg;refine ag (af toR (ifN (a4x rg))) ?_;have lp:(∀sg,s≠.one sg)->∀ne,(∀τ h,τ[0]? = some (some (sd s))->s2 hNe (s2 gIx (sV 0) (sC (.int 0))) (sC (.str "either")) τ h=.ok (.bl ne) h)->toR (iz (a6m (sIt (sA (je false 1 bz) (ak (sV 0) dq))) (kN 3) (pq (bj n) (aq 5) bz (DRW.aj 5))) (oh (sC (.bl false))) [some (sd s),some (dg a),some (dg p),none] [])=.ok (.bl (if ne=true then sB (pts (laid s)) a p else oB (pts (laid s)) a p)) []:=λn1 ne hx=>by
    rw [a3q (a8e (qg (c7 rfl) (aah k n1 [])) rfl),a82 hx (laid s) a none λq hq=>?_]
    ·rfl
    ·have kq:=(aai k).1 q hq;exact ⟨λa=>ih q kq a p,a4u d 5 (by omega) (by omega) q kq,DRW.wz d 5 (by omega) q kq⟩
   match s,k with
   |.one sg,k =>
    rw [sd,pt];rw [wt] at q;refine ag (af toR (qx (ag (ifT (by walk_at "x")) (j9 (dz _ _ _))))) ?_
    show R.ok (D.bl true) _=R.ok (D.bl (p == a+1)) _;simp only [aZ,cP] at q;rw [eB.mpr (show p=a+1 by omega)]
   |.row ps,k =>
    have:=lp (λ_ z=>by cases z) true λτ h e=>by rw [sd] at e;exact ie (ie (c7 e) (dz _ _ _) SHD.ix0) (dz _ _ _) rfl
    rw [sd,pt] at *;exact ag (af toR (ifN (by walk_at "x"))) this
   |.eit ps,k =>
    have:=lp (λ_ z=>by cases z) false λτ h e=>by rw [sd] at e;exact ie (ie (c7 e) (dz _ _ _) SHD.ix0) (dz _ _ _) rfl
    rw [sd,pt] at *;exact ag (af toR (ifN (by walk_at "x"))) this
   |.many p',k =>
    have:=lp (λ_ z=>by cases z) true λτ h e=>by rw [sd] at e;exact ie (ie (c7 e) (dz _ _ _) SHD.ix0) (dz _ _ _) rfl
    rw [sd,pt] at *;refine ag (af toR (ifN (by walk_at "x"))) (this.trans ?_)
    rw [laid,pts,pts,aC rfl,sB,sB,eD,bS];rfl
   |.tim p' lo hi,k =>
    have:=lp (λ_ z=>by cases z) true λτ h e=>by rw [sd] at e;exact ie (ie (c7 e) (dz _ _ _) SHD.ix0) (dz _ _ _) rfl
    rw [sd,pt] at *;refine ag (af toR (ifN (by walk_at "x"))) (this.trans ?_)
    rw [laid,a3t,c9,aC rfl];rfl
def enl:Nat->List Sh->List D
 |_,[]=>[]
 |i,q::qs=>.tup [dg i,sd q]::enl (i+1) qs
theorem apd:∀(i:Nat) (ps:List Sh),((List.range' i (sds ps).length).zip (sds ps)).map (λp=>D.tup [.int (p.1:Nat),p.2])=enl i ps
 |_,[]=>by rw [sds];rfl
 |i,q::ps=>by
  have ih:=apd (i+1) ps;rw [sds,aF,List.range'_succ,List.zip_cons_cons,bp,ih];rfl
theorem axi{τ:Sd}{h:Hd}{f:SE}{ps:List Sh}(e:f τ h=.ok (.tup (sds ps)) h):ad5 f τ h=.ok ⟨enl 0 ps,λ_=>True⟩ h:=by
 unfold ad5;rw [e,fu];show R.ok (⟨((List.range (sds ps).length).zip (sds ps)).map λp=>.tup [.int (p.1:Nat),p.2],λ_=>True⟩:Itm) h=_;rw [List.range_eq_range',apd]
noncomputable def bu:Nat->SF
 |0=>λ_ _=>.no
 |n+1=>km (a0t (aq 5) (bu n) bz (DRW.aj 5)) 7
theorem asx(n:Nat)(x y z:D):bu (n+1) [x,y,z] []=toR (a0t (aq 5) (bu n) bz (DRW.aj 5) [some x,some y,some z,none,none,none,none] []):=by
 show km (a0t (aq 5) (bu n) bz (DRW.aj 5)) 7 [x,y,z] []=_;rw [iy];rfl
def gE(ov:Nat->Bool):Nat->List Sh->Nat->Nat->Bool
 |_,[],_,_=>false
 |i,q::qs,a,p=>((pt q).E a p && (aE (pts qs) || ov i)) || gE ov (i+1) qs (a+wt q) p
theorem ape{ov:Nat->Bool}:∀{qs:List Sh} {i a p:Nat},p<=a->gE ov i qs a p=false
 |[],_,_,_,_=>rfl
 |q::qs,i,a,p,h=>by
  rw [gE,ape (qs:=qs) (by omega)]
  cases z:(pt q).E a p with
  |false=>rfl
  |true=>have:=(a8f q).e a p z;omega
theorem ake:∀(qs:List Sh) (i a p:Nat),gE (λ_=>false) i qs a p=sE (pts qs) a p
 |[],_,_,_=>by rw [pts];rfl
 |q::qs,i,a,p=>by rw [gE,pts,sE,ake qs,a4y,bS]
theorem apf:∀(qs:List Sh) (i a p:Nat),gE (λ_=>true) i qs a p=oEn (pts qs) a p
 |[],_,_,_=>by rw [pts];rfl
 |q::qs,i,a,p=>by rw [gE,pts,oEn,apf qs,a4y,Bool.or_true,fT]
theorem apg{lo:Nat}:∀(qs:List Sh) (i a p:Nat),gE (λi=>decide (lo<=i+1)) i qs a p=tE lo i (pts qs) a p
 |[],_,_,_=>by rw [pts];rfl
 |q::qs,i,a,p=>by rw [gE,pts,tE,apg qs,a4y,Bool.or_comm (aE (pts qs))]
structure PrE (n:Nat) (p:Nat) (q:Sh):Prop where
 b:∀a,Pu (bu n) 3 [sd q,dg a,dg p] (.bl ((pt q).E a p))
 e:Pu (aq 5) 1 [sd q] (.bl (pt q).e)
 w:Pu (DRW.aj 5) 1 [sd q] (dg (wt q))
theorem ace{tg:List Nat}{d n p:Nat}{x:D}{ov:Nat->Bool}(ht:∀i τ h,τ[0]? = some (some x)->τ[4]? = some (some (dg i))->sOr (a7a (sT (s2 hEq (s2 gIx (sV 0) (sC (.int 0))) (sC (.str "times")))) (sT (s2 gGe (s2 iu (sV 4) (sC (.int 1))) (s2 gIx (sV 0) (sC (.int 2)))))) (sT (s2 hEq (s2 gIx (sV 0) (sC (.int 0))) (sC (.str "either")))) τ h=.ok (ov i) h)
  (hd:d<=5) (all:List Sh) (la:all.length<=6) (ka:∀q∈all,a3s tg d q) (c:∀q∈all,PrE n p q):∀(qs:List Sh) (i a:Nat) (t4 t5 t6:Option D),all.drop i=qs->a<p->p<=a+wts qs->
  forL (λ_=>True) (ali 2 (a5g (kN 4) (a5g (kN 5) aod))) (ug (aq 5) (bu n) bz (DRW.aj 5)) (enl i qs) [some x,some (dg a),some (dg p),some (.tup (sds all)),t4,t5,t6] []=.rt (.bl (gE ov i qs a p)) []
 |[],i,a,t4,t5,t6,_,h1,h2=>by rw [wts] at h2;omega
 |q::qs,i,a,t4,t5,t6,dr,h1,h2=>by
  have mq:q∈all:=fR (i:=i) (by rw [dr];simp)
  have dr':all.drop (i+1)=qs:=by rw [<-List.drop_drop,dr];rfl
  have ms:∀y∈qs,y∈all:=λy hy=>fR (i:=i+1) (by rw [dr'];exact hy)
  have ⟨c1,c2,c3⟩:=c q mq;have c1:=c1 a [];have c3:=c3 [];have ih:=ace ht hd all la ka c qs (i+1) (a+wt q) (some (dg i)) (some (sd q)) t6 dr';rw [enl,xu _ _ _ _ _ [some x,some (dg a),some (dg p),some (.tup (sds all)),some (dg i),some (sd q),t6] _ [] rfl];rw [wts] at h2;have rg:sT (sCh gLt gLe (sV 1) (sV 2) (s2 iu (sV 1) (sA (je false 1 (DRW.aj 5)) (ak (sV 5) dq)))) [some x,some (dg a),some (dg p),some (.tup (sds all)),some (dg i),some (sd q),t6] []=.ok (decide (a<p) && decide (p<=a+wt q)) []:=a4v (c7 rfl) (c7 rfl) (ie (c7 rfl) (qg (c7 rfl) c3) DRW.ah0)
  rw [dk h1,ic] at rg
  by_cases hp:p<=a+wt q
  ·rw [dk hp] at rg;have sl:a8p (sV 3) (oS (s2 iu (sV 4) (sC (.int 1)))) oN [some x,some (dg a),some (dg p),some (.tup (sds all)),some (dg i),some (sd q),t6] []=.ok (.tup (sds qs)) []:=by
    have:=adt (c7 (i:=3) rfl) (adq (ie (c7 (i:=4) rfl) (dz _ _ _) (rfl:iu (dg i) (.int 1) []=.ok (dg (i+1)) []))) EVT.adv (PAP.zy (sds all) (i+1) []) (τ:=[some x,some (dg a),some (dg p),some (.tup (sds all)),some (dg i),some (sd q),t6])
    rw [this,uo,<-List.map_drop,dr',<-uo]
   have z:sZ (ut (sIt (a8p (sV 3) (oS (s2 iu (sV 4) (sC (.int 1)))) oN)) MI.t1 (yw (aq 5) (bu n) bz (DRW.aj 5)) (a1h (aq 5) (bu n) bz (DRW.aj 5)) []) [some x,some (dg a),some (dg p),some (.tup (sds all)),some (dg i),some (sd q),t6] []=.ok (.rol ((qs.filter λp => !(pt p).e).map sd)) []:=by
    refine a92 sd _ qs (a8e sl (by rw [uo];rfl)) (by have:=af List.length dr';rw [aW] at this;omega) (λp _=>qj p) (by simp) (λy hy=>?_) λp _=>c7 rfl
    have c2:=(c y (ms y hy)).e [];unfold yw
    cases w:(pt y).e with
    |true=>rw [w] at c2;exact a4x (o7 (qg (c7 rfl) c2) (j6 _))
    |false=>rw [w] at c2;exact aad (o7 (qg (c7 rfl) c2) (j6 _))
   have lo:s2 (ag3 false) (sZ (ut (sIt (a8p (sV 3) (oS (s2 iu (sV 4) (sC (.int 1)))) oN)) MI.t1 (yw (aq 5) (bu n) bz (DRW.aj 5)) (a1h (aq 5) (bu n) bz (DRW.aj 5)) [])) (sZ (sA uw dq)) [some x,some (dg a),some (dg p),some (.tup (sds all)),some (dg i),some (sd q),t6] []=.ok (.bl (aE (pts qs))) []:=by
    refine ie z (EVT.qi EVT.lz rfl gq (by simp) (by simp)) ?_
    rw [<-uo];refine ag (ae3 (tg:=tg) (d:=d) (λy hy=>ka y (ms y (cV.mp hy).1)) hd []).1 ?_;rw [a81]
   rw [gE,ape hp,bS];have fin:∀l:Bool,oh (a0y (sV 6) (sA (je false 3 (bu n)) (ak (sV 5) (ak (sV 1) (ak (sV 2) dq))))) [some x,some (dg a),some (dg p),some (.tup (sds all)),some (dg i),some (sd q),some (.bl l)] []=.rt (.bl ((pt q).E a p && l)) []:=λl=>by
    cases l with
    |true=>rw [fT];exact j9 (ak3 (c7 rfl) (ang (c7 rfl) (c7 rfl) (c7 rfl) c1))
    |false=>rw [eD];exact j9 (axg (c7 rfl))
   unfold ug;have o:=ht i [some x,some (dg a),some (dg p),some (.tup (sds all)),some (dg i),some (sd q),some (.bl (aE (pts qs)))] [] rfl rfl;rw [qx (d:=.bl ((pt q).E a p && (aE (pts qs) || ov i))) (h1:=[]) (ag (ifT rg) (ag (lw lo) ?_))]
   ·rfl
   ·cases w:ov i with
    |false=>rw [w] at o;rw [bS];exact ag (ifN o) (fin _)
    |true=>rw [w] at o;rw [Bool.or_true];exact ag (yf (ag (ifT o) rfl)) (fin true)
  ·rw [br hp] at rg;unfold ug;rw [ifN rg,ac3 rfl (qg (c7 rfl) c3) (afg _ _ _),aep];unfold ug at ih;refine ag (ih (by omega) (by omega)) ?_
   have:(pt q).E a p=false:=by
    cases w:(pt q).E a p with
    |false=>rfl
    |true=>have:=(a8f q).e a p w;rw [a4y] at this;omega
   rw [gE,this,eL,ia]
section
variable{c1 c2:ST}{f g:SE}{τ:Sd}{h:Hd}{a b:Bool}
theorem axj(e:c1 τ h=.ok a h)(e':c2 τ h=.ok b h):a7a c1 c2 τ h=.ok (a && b) h:=by
 cases a with
 |false=>exact a8x e
 |true=>exact aac e e'
theorem orB(e:c1 τ h=.ok a h)(e':c2 τ h=.ok b h):sOr c1 c2 τ h=.ok (a || b) h:=by
 cases a with
 |false=>exact orF e e'
 |true=>exact orT e
theorem asy(e:f τ h=.ok (.bl a) h)(e':g τ h=.ok (.bl b) h):a0y f g τ h=.ok (.bl (a && b)) h:=by
 cases a with
 |false=>exact axg e
 |true=>exact ak3 e e'
theorem azy(e:f τ h=.ok (.bl a) h)(e':g τ h=.ok (.bl b) h):aao f g τ h=.ok (.bl (a || b)) h:=by
 cases a with
 |false=>exact EVT.azv e e'
 |true=>exact EVT.azu e
end
theorem ae4{tg:List Nat}:∀(d n:Nat),d<=n->d<=5->∀s,a3s tg d s->∀a p,Pu (bu n) 3 [sd s,dg a,dg p] (.bl ((pt s).E a p))
 |0,_,_,_,_,k,_,_=>k.elim
 |d+1,0,h,_,_,_,_,_=>absurd h (by omega)
 |d+1,n+1,h,h5,s,k,a,p=>by
  have ih:=ae4 (tg:=tg) d n (by omega) (by omega)
  refine Pu.of rfl (cl3 _ _ _) (r:=.ok (.bl ((pt s).E a p)) []) ?_ (jb (kj _) (by simp)) (kj _)
  rw [asx];unfold a0t;have c3:=DRW.wz (tg:=tg) (d+1) 5 h5 s k [];have rg:sT (sCh gLt gLe (sV 1) (sV 2) (s2 iu (sV 1) (sA (je false 1 (DRW.aj 5)) (ak (sV 0) dq)))) [some (sd s),some (dg a),some (dg p),none,none,none,none] []=.ok (decide (a<p) && decide (p<=a+wt s)) []:=a4v (c7 rfl) (c7 rfl) (ie (c7 rfl) (qg (c7 rfl) c3) DRW.ah0)
  cases q:(decide (a<p) && decide (p<=a+wt s)) with
  |false =>
   rw [q] at rg;have:(pt s).E a p=false:=by
    cases z:(pt s).E a p with
    |false=>rfl
    |true =>
     have:=(a8f s).e a p z
     rw [a4y] at this;simp [this] at q
   rw [this];exact af toR (qx (ag (ifT (aad rg)) (j9 (dz _ _ _))))
  |true =>
   rw [q] at rg;simp only [aZ,cP] at q;refine ag (af toR (ifN (a4x rg))) ?_;have lp:(∀sg,s≠.one sg)->wts (laid s)=wt s->∀ov:Nat->Bool,(∀i τ h,τ[0]? = some (some (sd s))->τ[4]? = some (some (dg i))->sOr (a7a (sT (s2 hEq (s2 gIx (sV 0) (sC (.int 0))) (sC (.str "times")))) (sT (s2 gGe (s2 iu (sV 4) (sC (.int 1))) (s2 gIx (sV 0) (sC (.int 2)))))) (sT (s2 hEq (s2 gIx (sV 0) (sC (.int 0))) (sC (.str "either")))) τ h=.ok (ov i) h)->
     toR (iz (nu 3 (sA (je false 1 bz) (ak (sV 0) dq))) (iz (a6m (ad5 (sV 3)) (ali 2 (a5g (kN 4) (a5g (kN 5) aod))) (ug (aq 5) (bu n) bz (DRW.aj 5))) agw) [some (sd s),some (dg a),some (dg p),none,none,none,none] [])=.ok (.bl (gE ov 0 (laid s) a p)) []:=λn1 hw ov ht=>by
    rw [lw (qg (c7 rfl) (aah k n1 []))];refine ag (af toR (a3q (axi (c7 rfl)))) ?_;have l:=aai k;refine ag (af (λz=>toR (MI.thn z agw)) (ace ht (by omega) (laid s) l.2 l.1 (λq hq=>⟨λa=>ih q (l.1 q hq) a p,a4u d 5 (by omega) (by omega) q (l.1 q hq),DRW.wz d 5 (by omega) q (l.1 q hq)⟩) (laid s) 0 a none none none rfl q.1 (by rw [hw];exact q.2))) ?_
    rfl
   match s,k with
   |.one sg,k =>
    rw [sd,pt];rw [wt] at q;refine ag (af toR (qx (ag (ifT (by walk_at "x")) (j9 (dz _ _ _))))) ?_
    show R.ok (D.bl true) _=R.ok (D.bl (p == a+1)) _;rw [eB.mpr (show p=a+1 by omega)]
   |.row ps,k =>
    have:=lp (λ_ z=>by cases z) (by rw [laid,wt]) (λ_=>false) λi τ h e _=>by rw [sd] at e;exact orF (a8x (tof (ie (ie (c7 e) (dz _ _ _) SHD.ix0) (dz _ _ _) rfl))) (tof (ie (ie (c7 e) (dz _ _ _) SHD.ix0) (dz _ _ _) rfl))
    rw [ake] at this;rw [sd,pt] at *;exact ag (af toR (ifN (by walk_at "x"))) this
   |.eit ps,k =>
    have:=lp (λ_ z=>by cases z) (by rw [laid,wt]) (λ_=>true) λi τ h e _=>by rw [sd] at e;exact orF (a8x (tof (ie (ie (c7 e) (dz _ _ _) SHD.ix0) (dz _ _ _) rfl))) (tof (ie (ie (c7 e) (dz _ _ _) SHD.ix0) (dz _ _ _) rfl))
    rw [apf] at this;rw [sd,pt] at *;exact ag (af toR (ifN (by walk_at "x"))) this
   |.many p',k =>
    have:=lp (λ_ z=>by cases z) (by rw [laid,wts,wts,wt];omega) (λ_=>false) λi τ h e _=>by rw [sd] at e;exact orF (a8x (tof (ie (ie (c7 e) (dz _ _ _) SHD.ix0) (dz _ _ _) rfl))) (tof (ie (ie (c7 e) (dz _ _ _) SHD.ix0) (dz _ _ _) rfl))
    rw [ake] at this;rw [sd,pt] at *;refine ag (af toR (ifN (by walk_at "x"))) (this.trans ?_)
    rw [laid,pts,pts,sE,sE,aE,fT,bS];rfl
   |.tim p' lo hi,k =>
    have:=lp (λ_ z=>by cases z) (by rw [<-ae1,laid,a3t,c9,a8w,a4y,wt]) (λi=>decide (lo<=i+1)) λi τ h e e4=>by
     rw [sd] at e;refine ag (orB (a:=true && decide (((lo:Nat):Int)<=((i+1:Nat):Int))) (b:=false) (axj (tof (ie (ie (c7 e) (dz _ _ _) SHD.ix0) (dz _ _ _) rfl)) (tof (ie (ie (c7 e4) (dz _ _ _) rfl) (ie (c7 e) (dz _ _ _) SHD.ix2) (rfl:gGe (dg (i+1)) (dg lo) h=.ok (.bl (decide (((lo:Nat):Int)<=((i+1:Nat):Int)))) h)))) (tof (ie (ie (c7 e) (dz _ _ _) SHD.ix0) (dz _ _ _) rfl))) ?_;show R.ok _ _=R.ok _ _
     congr 1
     simp
     omega
    rw [apg] at this;rw [sd,pt] at *;refine ag (af toR (ifN (by walk_at "x"))) (this.trans ?_)
    rw [laid,a3t,c9];rfl
noncomputable def bw:Nat->SF
 |0=>λ_ _=>.no
 |n+1=>km (vz (bj 5) (aq 5) (bu 5) (bw n) bz (DRW.aj 5)) 8
theorem agr(n:Nat)(x y z u:D):bw (n+1) [x,y,z,u] []=toR (vz (bj 5) (aq 5) (bu 5) (bw n) bz (DRW.aj 5) [some x,some y,some z,some u,none,none,none,none] []):=by
 show km (vz (bj 5) (aq 5) (bu 5) (bw n) bz (DRW.aj 5)) 8 [x,y,z,u] []=_;rw [iy];rfl
def fH(mn ne:Bool)(p o:Nat):Bool->List Sh->Nat->Bool
 |_,[],_=>false
 |b,q::qs,a=>(pt q).F a p o || (mn && ((pt q).E a p && (pt q).B a o)) || (b && (pt q).B a o) || fH mn ne p o ((b && (pt q).e) || (ne && (pt q).E a p)) qs (a+wt q)
theorem akf{p o:Nat}:∀(qs:List Sh) (b:Bool) (a:Nat),fH false true p o b qs a=(sF (pts qs) a p o || (b && sB (pts qs) a o))
 |[],b,a=>by rw [pts];cases b<;>rfl
 |q::qs,b,a=>by
  rw [fH,pts,sF,sB,akf qs,a4y]
  cases (pt q).F a p o<;>cases b<;>cases (pt q).B a o<;>cases (pt q).e<;>cases (pt q).E a p<;>cases sF (pts qs) (a+wt q) p o<;>cases sB (pts qs) (a+wt q) o<;>rfl
theorem aph{p o:Nat}:∀(qs:List Sh) (a:Nat),fH false false p o false qs a=oF (pts qs) a p o
 |[],a=>by rw [pts];rfl
 |q::qs,a=>by rw [fH,pts,oF,a4y];simp only [eL,bS];rw [aph qs]
structure PrF (n:Nat) (p o:Nat) (q:Sh):Prop where
 f:∀a,Pu (bw n) 4 [sd q,dg a,dg p,dg o] (.bl ((pt q).F a p o))
 b:∀a,Pu (bj 5) 3 [sd q,dg a,dg o] (.bl ((pt q).B a o))
 n:∀a,Pu (bu 5) 3 [sd q,dg a,dg p] (.bl ((pt q).E a p))
 e:Pu (aq 5) 1 [sd q] (.bl (pt q).e)
 w:Pu (DRW.aj 5) 1 [sd q] (dg (wt q))
theorem axk{c:ST}{τ:Sd}{h:Hd}{t y:Bool}{i:Nat}(e:c τ h=.ok t h)(hy:τ[i]? = some (some (.bl y))):sIf c (nu i (sC (.bl true))) sNx τ h=.nx (τ.set i (some (.bl (y || t)))) h:=by
 cases t with
 |true=>rw [ifT e,Bool.or_true];rfl
 |false =>
  rw [ifF e,bS];show Fl.nx τ h=_
  congr 1
  obtain ⟨l,z⟩:=av.mp hy;rw [<-z,List.set_getElem_self]
theorem a6f{n p o:Nat}{x:D}{mn ne:Bool}(hm:∀τ h,τ[0]? = some (some x)->s2 hEq (s2 gIx (sV 0) (sC (.int 0))) (sC (.str "many")) τ h=.ok (.bl mn) h)
  (hx:∀τ h,τ[0]? = some (some x)->s2 hNe (s2 gIx (sV 0) (sC (.int 0))) (sC (.str "either")) τ h=.ok (.bl ne) h):∀(ps:List Sh) (a:Nat) (y b:Bool) (t6 t7:Option D),(∀q∈ps,PrF n p o q)->
  ∃a' b' t6' t7',forL (λ_=>True) (kN 6) (uy (bj 5) (aq 5) (bu 5) (bw n) bz (DRW.aj 5)) (sds ps) [some x,some (dg a),some (dg p),some (dg o),some (.bl y),some (.bl b),t6,t7] []=.nx [some x,some (dg a'),some (dg p),some (dg o),some (.bl (y || fH mn ne p o b ps a)),some (.bl b'),t6',t7'] []
 |[],a,y,b,t6,t7,_=>⟨a,b,t6,t7,by rw [sds,a1c,fH,bS]⟩
 |q::ps,a,y,b,t6,t7,c=>by
  have ⟨c1,c2,c3,c4,c5⟩:=c q (by simp)
  have c1:=c1 a [];have c2:=c2 a [];have c3:=c3 a [];have c4:=c4 [];have c5:=c5 [];obtain ⟨a',b',t6',t7',ih⟩:=a6f hm hx ps (a+wt q) (((y || (pt q).F a p o) || (mn && ((pt q).E a p && (pt q).B a o))) || (b && (pt q).B a o)) ((b && (pt q).e) || (ne && (pt q).E a p)) (some (sd q)) (some (dg (wt q))) λz hz=>c z (by simp [hz])
  refine ⟨a',b',t6',t7',?_⟩;rw [sds,xu _ _ _ _ _ [some x,some (dg a),some (dg p),some (dg o),some (.bl y),some (.bl b),some (sd q),t7] _ [] rfl];rw [show (y || fH mn ne p o b (q::ps) a)=((((y || (pt q).F a p o) || (mn && ((pt q).E a p && (pt q).B a o))) || (b && (pt q).B a o)) || fH mn ne p o ((b && (pt q).e) || (ne && (pt q).E a p)) ps (a+wt q)) by rw [fH];simp only [fV]]
  rw [<-ih]
  conv=>lhs;unfold uy
  refine ag (af (λz=>trn z _) (lw (qg (c7 rfl) c5))) ?_;have r1:∀y':Bool,sT (sCh gLt gLe (sV 1) (sV 2) (s2 iu (sV 1) (sV 7))) [some x,some (dg a),some (dg p),some (dg o),some (.bl y'),some (.bl b),some (sd q),some (dg (wt q))] []=.ok (decide (a<p) && decide (p<=a+wt q)) []:=λ_=>a4v (c7 rfl) (c7 rfl) (ie (c7 (i:=1) rfl) (c7 (i:=7) rfl) DRW.ah0);have r2:∀y':Bool,sT (sCh gLt gLe (sV 1) (sV 3) (s2 iu (sV 1) (sV 7))) [some x,some (dg a),some (dg p),some (dg o),some (.bl y'),some (.bl b),some (sd q),some (dg (wt q))] []=.ok (decide (a<o) && decide (o<=a+wt q)) []:=λ_=>a4v (c7 rfl) (c7 rfl) (ie (c7 (i:=1) rfl) (c7 (i:=7) rfl) DRW.ah0)
  have st1:sIf (a7a (sT (sCh gLt gLe (sV 1) (sV 2) (s2 iu (sV 1) (sV 7)))) (sT (sCh gLt gLe (sV 1) (sV 3) (s2 iu (sV 1) (sV 7))))) (nu 4 (aao (sV 4) (sA (je false 4 (bw n)) (ak (sV 6) (ak (sV 1) (ak (sV 2) (ak (sV 3) dq))))))) sNx [some x,some (dg a),some (dg p),some (dg o),some (.bl y),some (.bl b),some (sd q),some (dg (wt q))] []=.nx [some x,some (dg a),some (dg p),some (dg o),some (.bl (y || (pt q).F a p o)),some (.bl b),some (sd q),some (dg (wt q))] []:=by
   have rr:=axj (r1 y) (r2 y)
   cases w:((decide (a<p) && decide (p<=a+wt q)) && (decide (a<o) && decide (o<=a+wt q))) with
   |true =>
    rw [w] at rr;refine ag (ifT rr) ?_;have:aao (sV 4) (sA (je false 4 (bw n)) (ak (sV 6) (ak (sV 1) (ak (sV 2) (ak (sV 3) dq))))) [some x,some (dg a),some (dg p),some (dg o),some (.bl y),some (.bl b),some (sd q),some (dg (wt q))] []=.ok (.bl (y || (pt q).F a p o)) []:=azy (c7 rfl) (PAP.aof (PAP.di (c7 rfl) (PAP.di (c7 (i:=1) rfl) (PAP.di (c7 (i:=2) rfl) (PAP.di (c7 (i:=3) rfl) EVT.lz)))) c1)
    unfold nu;rw [this];rfl
   |false =>
    rw [w] at rr;refine ag (ifF rr) ?_;have:(pt q).F a p o=false:=by
     cases z:(pt q).F a p o with
     |false=>rfl
     |true =>
      have:=(a8f q).f a p o z
      rw [a4y] at this;simp [this] at w
    rw [this,bS];rfl
  refine ag (af (λz=>trn z _) (yf st1)) ?_;refine ag (af (λz=>trn z _) (yf (axk (i:=4) (t:=mn && ((pt q).E a p && (pt q).B a o)) (axj (tof (hm _ _ rfl)) (axj (o7 (ang (c7 rfl) (c7 rfl) (c7 rfl) c3) (j6 _)) (o7 (ang (c7 rfl) (c7 rfl) (c7 rfl) c2) (j6 _)))) rfl))) ?_;refine ag (af (λz=>trn z _) (yf (axk (i:=4) (t:=b && (pt q).B a o) (axj (o7 (c7 rfl) (j6 _)) (o7 (ang (c7 rfl) (c7 rfl) (c7 rfl) c2) (j6 _))) rfl))) ?_;refine ag (af (λz=>trn z _) (lw (azy (asy (c7 rfl) (qg (c7 rfl) c4)) (asy (hx _ _ rfl) (ang (c7 rfl) (c7 rfl) (c7 rfl) c3))))) ?_
  refine ag (af (λz=>trn z _) (ac3 rfl (c7 (i:=7) rfl) (afg _ _ _))) ?_;rfl
theorem cl4(s:Sh)(a p o:Nat):∀y∈[sd s,dg a,dg p,dg o],MI.clo 0 y:=λy hy=>by
 simp only [aD,bg,eh] at hy
 rcases hy with rfl|rfl|rfl|rfl
 ·exact qj _
 ·exact du _
 ·exact du _
 ·exact du _
theorem a93{tg:List Nat}:∀(d n:Nat),d<=n->d<=5->∀s,a3s tg d s->∀a p o,Pu (bw n) 4 [sd s,dg a,dg p,dg o] (.bl ((pt s).F a p o))
 |0,_,_,_,_,k,_,_,_=>k.elim
 |d+1,0,h,_,_,_,_,_,_=>absurd h (by omega)
 |d+1,n+1,h,h5,s,k,a,p,o=>by
  have ih:=a93 (tg:=tg) d n (by omega) (by omega)
  refine Pu.of rfl (cl4 _ _ _ _) (r:=.ok (.bl ((pt s).F a p o)) []) ?_ (jb (kj _) (by simp)) (kj _)
  rw [agr];unfold vz;have lp:(∀sg,s≠.one sg)->∀mn ne:Bool,(∀τ h,τ[0]? = some (some (sd s))->s2 hEq (s2 gIx (sV 0) (sC (.int 0))) (sC (.str "many")) τ h=.ok (.bl mn) h)->(∀τ h,τ[0]? = some (some (sd s))->s2 hNe (s2 gIx (sV 0) (sC (.int 0))) (sC (.str "either")) τ h=.ok (.bl ne) h)->
    toR (iz (nu 4 (sC (.bl false))) (iz (nu 5 (sC (.bl false))) (iz (a6m (sIt (sA (je false 1 bz) (ak (sV 0) dq))) (kN 6) (uy (bj 5) (aq 5) (bu 5) (bw n) bz (DRW.aj 5))) (oh (sV 4)))) [some (sd s),some (dg a),some (dg p),some (dg o),none,none,none,none] [])=.ok (.bl (fH mn ne p o false (laid s) a)) []:=λn1 mn ne hm hx=>by
   rw [lw (dz _ _ _),lw (dz _ _ _)];refine ag (af toR (a3q (a8e (qg (c7 rfl) (aah k n1 [])) rfl))) ?_;have l:=aai k;obtain ⟨a',b',t6,t7,e⟩:=a6f (n:=n) (p:=p) (o:=o) hm hx (laid s) a false false none none λq hq=>⟨λa=>ih q (l.1 q hq) a p o,λa=>a83 d 5 (by omega) (by omega) q (l.1 q hq) a o,λa=>ae4 d 5 (by omega) (by omega) q (l.1 q hq) a p,a4u d 5 (by omega) (by omega) q (l.1 q hq),DRW.wz d 5 (by omega) q (l.1 q hq)⟩
   refine ag (af (λz=>toR (MI.thn z (oh (sV 4)))) e) ?_;exact af toR (j9 (c7 rfl))
  match s,k with
  |.one sg,k =>
   rw [sd,pt];exact af toR (qx (ag (ifT (by walk_at "x")) (j9 (dz _ _ _))))
  |.row ps,k =>
   have:=lp (λ_ z=>by cases z) false true (λτ h e=>by rw [sd] at e;exact ie (ie (c7 e) (dz _ _ _) SHD.ix0) (dz _ _ _) rfl) λτ h e=>by rw [sd] at e;exact ie (ie (c7 e) (dz _ _ _) SHD.ix0) (dz _ _ _) rfl
   rw [akf,eL,bS] at this;rw [sd,pt] at *;exact ag (af toR (ifN (by walk_at "x"))) this
  |.eit ps,k =>
   have:=lp (λ_ z=>by cases z) false false (λτ h e=>by rw [sd] at e;exact ie (ie (c7 e) (dz _ _ _) SHD.ix0) (dz _ _ _) rfl) λτ h e=>by rw [sd] at e;exact ie (ie (c7 e) (dz _ _ _) SHD.ix0) (dz _ _ _) rfl
   rw [aph] at this;rw [sd,pt] at *;exact ag (af toR (ifN (by walk_at "x"))) this
  |.many p',k =>
   have:=lp (λ_ z=>by cases z) true true (λτ h e=>by rw [sd] at e;exact ie (ie (c7 e) (dz _ _ _) SHD.ix0) (dz _ _ _) rfl) λτ h e=>by rw [sd] at e;exact ie (ie (c7 e) (dz _ _ _) SHD.ix0) (dz _ _ _) rfl
   rw [laid,fH,fH,eL,bS,bS,ic] at this;rw [sd,pt] at *;exact ag (af toR (ifN (by walk_at "x"))) this
  |.tim p' lo hi,k =>
   have:=lp (λ_ z=>by cases z) false true (λτ h e=>by rw [sd] at e;exact ie (ie (c7 e) (dz _ _ _) SHD.ix0) (dz _ _ _) rfl) λτ h e=>by rw [sd] at e;exact ie (ie (c7 e) (dz _ _ _) SHD.ix0) (dz _ _ _) rfl
   rw [akf,eL,bS,laid,a3t,c9] at this;rw [sd,pt] at *;exact ag (af toR (ifN (by walk_at "x"))) this
mutual
def mk:Sh->List (List Nat)
 |.one s=>[s]
 |.row ps=>mks ps
 |.eit ps=>mks ps
 |.many p=>mk p
 |.tim p _ hi=>(List.replicate hi (mk p)).flatten
def mks:List Sh->List (List Nat)
 |[]=>[]
 |p::ps=>mk p++mks ps
end
theorem a2y:∀l:List Sh,mks l=(l.map mk).flatten
 |[]=>by rw [mks];rfl
 |p::l=>by rw [mks,a2y l];rfl
mutual
theorem a84:∀s:Sh,(mk s).length=wt s
 |.one _=>by rw [mk,wt];rfl
 |.row ps=>by rw [mk,wt];exact a85 ps
 |.eit ps=>by rw [mk,wt];exact a85 ps
 |.many p=>by rw [mk,wt];exact a84 p
 |.tim p lo hi=>by rw [mk,wt,List.length_flatten,c9,a84 p,List.sum_replicate_nat]
theorem a85:∀l:List Sh,(mks l).length=wts l
 |[]=>by rw [mks,wts];rfl
 |p::l=>by rw [mks,wts,ar,a84 p,a85 l]
end
theorem akg(s:Sh)(n1:∀sg,s≠.one sg):mks (laid s)=mk s:=by
 match s with
 |.one sg=>exact absurd rfl (n1 sg)
 |.row ps=>rw [laid,mk]
 |.eit ps=>rw [laid,mk]
 |.many p=>rw [laid,mk,mks,mks,b9]
 |.tim p lo hi=>rw [laid,mk,a2y,c9]
abbrev sgD(l:List (List Nat)):List D:=l.map λz=>D.str (S z)
noncomputable def dj:Nat->SF
 |0=>λ_ _=>.no
 |n+1=>km (zx bz (dj n)) 3
theorem anq(n:Nat)(x:D):dj (n+1) [x] []=toR (zx bz (dj n) [some x,none,none] []):=by
 show km (zx bz (dj n)) 3 [x] []=_;rw [iy];rfl
theorem a0f(l:List (List Nat)):clos 0 (sgD l):=gf λ_ _=>gj _
theorem afh{tg:List Nat}:∀(d n:Nat),d<=n->∀s,a3s tg d s->wt s<=1000->Pu (dj n) 1 [sd s] (.rol (sgD (mk s)))
 |0,_,_,_,k,_=>k.elim
 |d+1,0,h,_,_,_=>absurd h (by omega)
 |d+1,n+1,h,s,k,hw=>by
  have ih:=afh (tg:=tg) d n (by omega)
  refine Pu.of rfl (by simp [qj]) (r:=.ok (.ref 0) [.lst (sgD (mk s))]) ?_ (a6r (ay _) rfl (a0f _) (by simp)) (lq (a0f _))
  rw [anq];unfold zx;have lp:(∀sg,s≠.one sg)->toR (iz (nu 1 (sA uw dq)) (iz (a6m (sIt (sA (je false 1 bz) (ak (sV 0) dq))) (kN 2) (a0m bz (dj n))) (oh (sV 1))) [some (sd s),none,none] [])=.ok (.ref 0) [.lst (sgD (mk s))]:=λn1=>by
   have l:=aai k;rw [lw (ayf rfl:sA uw dq [some (sd s),none,none] []=.ok (.ref 0) [.lst []])];refine ag (af toR (a3q (a8e (qg (c7 rfl) (aah k n1 _)) rfl))) ?_;obtain ⟨τ',h',e,⟨t2,rfl⟩,rfl⟩:=a08 (g:=kN 2) (b:=a0m bz (dj n)) sd (λpre τ h=>(∃t2:Option D,τ=[some (sd s),some (.ref 0),t2])/\h=[.lst (sgD (mks pre))]) (laid s) [some (sd s),some (.ref 0),none] [.lst []]
    (by
     rintro pre q post τ h al ⟨⟨t2,rfl⟩,rfl⟩
     have hq:q∈laid s:=by rw [al];simp
     have ln:(mks (pre++[q])).length<=1000:=by
      have e1:=af (λl=>(mks l).length) al;simp only [akg s n1,a84,a85] at e1;have:wts (pre++q::post)=wts (pre++[q])+wts post:=by
       have z:∀(u v:List Sh),wts (u++v)=wts u+wts v:=λu v=>by
        induction u with
        |nil=>rw [dC,wts];omega
        |cons y u ih=>rw [bJ,wts,wts,ih];omega
       rw [show pre++q::post=(pre++[q])++post by simp,z]
      rw [a85];omega
     have mq:mks (pre++[q])=mks pre++mk q:=by rw [a2y,a2y,bB,List.flatten_append];simp
     have wq:wt q<=1000:=by rw [mq,ar,a84] at ln;omega
     refine ⟨_,_,rfl,_,_,ac3 rfl (qg (c7 rfl) (ih q (l.1 q hq) wq _)) (an6 rfl rfl (jf (by rw [mq,ar] at ln;simp only [ax];omega))),⟨_,rfl⟩,?_⟩
     rw [mq];show [O.lst (sgD (mks pre)++sgD (mk q))]=_;rw [<-bB])
    ⟨⟨_,rfl⟩,by rw [mks];rfl⟩
   rw [uo];refine ag (af (λz=>toR (MI.thn z (oh (sV 1)))) e) ?_;rw [akg s n1];exact af toR (j9 (c7 rfl))
  match s,k with
  |.one sg,k =>
   rw [sd,mk];exact af toR (qx (ag (ifT (by walk_at "x")) (j9 (qg (ie (c7 rfl) (dz _ _ _) SHD.ix1) rfl))))
  |.row ps,k =>
   have:=lp λ_ z=>by cases z
   rw [sd] at *;exact ag (af toR (ifN (by walk_at "x"))) this
  |.eit ps,k =>
   have:=lp λ_ z=>by cases z
   rw [sd] at *;exact ag (af toR (ifN (by walk_at "x"))) this
  |.many p',k =>
   have:=lp λ_ z=>by cases z
   rw [sd] at *;exact ag (af toR (ifN (by walk_at "x"))) this
  |.tim p' lo hi,k =>
   have:=lp λ_ z=>by cases z
   rw [sd] at *;exact ag (af toR (ifN (by walk_at "x"))) this
abbrev KP:List Str:=["signs","firsts","pairs","lasts","empty"]
abbrev prD(p:Nat×Nat):D:=.tup [dg p.1,dg p.2]
abbrev pD(sg:List (List Nat))(fs:List Nat)(ps:List (Nat×Nat))(ls:List Nat)(e:Bool):D:=.ins "Patch" KP [.rol (sgD sg),.rol (fs.map dg),.rol (ps.map prD),.rol (ls.map dg),.bl e]
theorem a6g{a b c d e:D}{h:Hd}:qw "Patch" "signs" (.ins "Patch" KP [a,b,c,d,e]) h=.ok a h:=rfl
theorem a4w{a b c d e:D}{h:Hd}:qw "Patch" "firsts" (.ins "Patch" KP [a,b,c,d,e]) h=.ok b h:=rfl
theorem a94{a b c d e:D}{h:Hd}:qw "Patch" "pairs" (.ins "Patch" KP [a,b,c,d,e]) h=.ok c h:=rfl
theorem a3i{a b c d e:D}{h:Hd}:qw "Patch" "lasts" (.ins "Patch" KP [a,b,c,d,e]) h=.ok d h:=rfl
theorem a95{a b c d e:D}{h:Hd}:qw "Patch" "empty" (.ins "Patch" KP [a,b,c,d,e]) h=.ok e h:=rfl
noncomputable def bh:SF:=km a0c 6
theorem a5s{k:Str}{fo fe:SE}{τ:Sd}{h:Hd}{i:Nat}{y:D}{fs:List (Str×D)}(e1:fe τ h=.ok y h)(e2:fo τ h=.ok (.ref i) h)(e3:h[i]? = some (.ins "Patch" fs))(z:fs.length<1000):a8c "Patch" k fo fe τ h=.nx τ (h.set i (.ins "Patch" (aci k y fs))):=by
 unfold a8c;rw [e1];show (fo τ h).fl _=_;rw [e2];show (match h[i]? with|some (.ins c' fs)=>if c' = "Patch"/\fs.length<1000 then Fl.nx τ (h.set i (.ins "Patch" (aci k y fs))) else .no|_=>.no)=_
 rw [e3];exact aC ⟨rfl,z⟩
theorem aaj{h:Hd}{i:Nat}{o u:O}(e:h[i]? = some o):(h.set i u)[i]? = some u:=by
 obtain ⟨l,_⟩:=av.mp e;rw [cb l]
theorem asz{a b c d e:D}{h:Hd}{i:Nat}(hi:h[i]? = some (.ins "Patch" [])):bh [.ref i,a,b,c,d,e] h=.ok .non (h.set i (.ins "Patch" (KP.zip [a,b,c,d,e]))):=by
 unfold bh;rw [iy];show toR (a0c [some (.ref i),some a,some b,some c,some d,some e] h)=_;unfold a0c;rw [yf (a5s (c7 rfl) (c7 rfl) hi (by show 0<1000;omega))]
 have h1:=aaj (u:=.ins "Patch" (aci "signs" a [])) hi;rw [yf (a5s (c7 rfl) (c7 rfl) h1 (by show 1<1000;omega))]
 have h2:=aaj (u:=.ins "Patch" (aci "firsts" b (aci "signs" a []))) h1;rw [yf (a5s (c7 rfl) (c7 rfl) h2 (by show 2<1000;omega))]
 have h3:=aaj (u:=.ins "Patch" (aci "pairs" c (aci "firsts" b (aci "signs" a [])))) h2;rw [yf (a5s (c7 rfl) (c7 rfl) h3 (by show 3<1000;omega))]
 have h4:=aaj (u:=.ins "Patch" (aci "lasts" d (aci "pairs" c (aci "firsts" b (aci "signs" a []))))) h3;rw [a5s (c7 rfl) (c7 rfl) h4 (by show 4<1000;omega)]
 simp only [List.set_set];rfl
theorem akh{a b c d e:D}{h:Hd}:a2f "Patch" 5 bh [a,b,c,d,e] h=.ok (.ref h.length) (h++[.ins "Patch" (KP.zip [a,b,c,d,e])]):=by
 unfold a2f;rw [aC (show [a,b,c,d,e].length=5 from rfl),asz (i:=h.length) (by simp)]
 simp
theorem five{f1 f2 f3 f4 f5:SE}{τ:Sd}{h:Hd}{a b c d e:D}(e1:f1 τ h=.ok a h)(e2:f2 τ h=.ok b h)(e3:f3 τ h=.ok c h)(e4:f4 τ h=.ok d h)(e5:f5 τ h=.ok e h):ak f1 (ak f2 (ak f3 (ak f4 (ak f5 dq)))) τ h=.ok [a,b,c,d,e] h :=
 PAP.di e1 (PAP.di e2 (PAP.di e3 (PAP.di e4 (PAP.di e5 EVT.lz))))
theorem axl{ka:SA}{τ:Sd}{h:Hd}{a b c d e:D}(ek:ka τ h=.ok [a,b,c,d,e] h)(cl:clos 0 [a,b,c,d,e])(ch:∀u∈h,xj 0 u):sZ (sA (a2f "Patch" 5 bh) ka) τ h=.ok (.ins "Patch" KP [a,b,c,d,e]) h:=by
 have ea:sA (a2f "Patch" 5 bh) ka τ h=.ok (.ref h.length) (h++[.ins "Patch" (KP.zip [a,b,c,d,e])]):=PAP.aof ek akh;unfold sZ;rw [ea];have cl':clos h.length [a,b,c,d,e]:=xm (aU _) cl;have z:=a3p (n:=h.length) (d:=.ref h.length) (d':=.ins "Patch" KP [a,b,c,d,e]) (h1:=h++[.ins "Patch" (KP.zip [a,b,c,d,e])]) ?_ ?_
 ·rw [z];simp
 ·show a1q h.length _ (19+1) _=_;rw [a1q,aQ (by simp only [MI.clo];omega)]
  show (match (h++[O.ins "Patch" (KP.zip [a,b,c,d,e])])[h.length]? with|some (.lst xs)=>_|some (.dK kvs)=>_|some (.dT kvs)=>_|some (.ins c kvs)=>_|none=>_)=_
  rw [aH (ay _),Nat.sub_self];show (a0x (a1q h.length _ 19) [a,b,c,d,e]).map (D.ins "Patch" KP)=_;rw [a9t (f:=a1q h.length (h++[O.ins "Patch" (KP.zip [a,b,c,d,e])]) 19) λx hx=>a6q (k:=18) ((jr.mp cl') x hx)];rfl
 ·intro o ho
  simp only [List.take_left'] at ho;exact a3o (aU _) (ch o (by simpa using ho))
theorem axm(sg:List (List Nat))(fs:List Nat)(ps:List (Nat×Nat))(ls:List Nat)(e:Bool):MI.clo 0 (pD sg fs ps ls e):=by
 simp only [MI.clo,MI.clos,and_true];exact ⟨a0f _,gf λ_ _=>du _,gf λ_ _=>gk (bx (du _) (bx (du _) gq)),gf λ_ _=>du _⟩
theorem aki{c:ST}{fe:SE}{x:D}{rd:Sd}{h:Hd}{α:Type}(g F:α->D):∀(ys:List α) (zs:List D),zs.length+ys.length<=1000000->(∀y∈ys,c (some x::some (g y)::rd) h=.ok true h/\fe (some x::some (g y)::rd) h=.ok (F y) h)->ajv (λ_=>True) c fe x rd (ys.map g) zs h=.ok (zs++ys.map F) h
 |[],zs,_,_=>by rw [dZ,ajv,aC True.intro,dZ,b9]
 |y::ys,zs,hz,st=>by
  obtain ⟨e1,e2⟩:=st y (by simp)
  rw [aF] at hz;rw [bp,ajv,aC True.intro,e1,fu,aC rfl,e2,fu,aC (jf (by omega)),aki g F ys (zs++[F y]) (by rw [ar];show zs.length+1+ys.length<=_;omega) λy hy=>st y (by simp [hy])]
  rw [cL];rfl
def prod(xs ys:List Nat):List (Nat×Nat):=xs.flatMap λx=>ys.map λy=>(x,y)
theorem a2z(xs ys:List Nat):(prod xs ys).length=xs.length*ys.length:=by
 unfold prod
 induction xs with
 |nil=>simp
 |cons x xs ih=>rw [List.flatMap_cons,ar,ih,ax,aF,dI];omega
theorem aak{xs ys:List Nat}{p q:Nat}:(p,q)∈prod xs ys↔p∈xs/\q∈ys:=by
 unfold prod;simp only [List.mem_flatMap,c8,ib]
 constructor
 ·rintro ⟨x,hx,y,hy,rfl,rfl⟩;exact ⟨hx,hy⟩
 ·rintro ⟨hx,hy⟩;exact ⟨p,hx,q,hy,rfl,rfl⟩
theorem afi{fj:SI}{rd:Sd}{h:Hd}{ys:List Nat}(e:∀x:Nat,fj (some (dg x)::none::rd) h=.ok ⟨ys.map dg,λ_=>True⟩ h):∀(xs:List Nat) (zs:List D),zs.length+xs.length*ys.length<=1000000->a7y (λ_=>True) fj an7 (sA yh (ak (sV 0) (ak (sV 1) dq))) rd (xs.map dg) zs h=.ok (zs++(prod xs ys).map prD) h
 |[],zs,_=>by rw [dZ,a7y,aC True.intro];show _=R.ok (zs++[]) h;rw [b9]
 |x::xs,zs,hz=>by
  rw [aF,dI] at hz;rw [bp,a7y,aC True.intro,e x,fu];have:=aki (c:=an7) (fe:=sA yh (ak (sV 0) (ak (sV 1) dq))) (x:=dg x) (rd:=rd) (h:=h) dg (λy=>prD (x,y)) ys zs (by omega) λy _=>⟨rfl,PAP.aof (PAP.di (c7 rfl) (PAP.di (c7 rfl) EVT.lz)) a5r⟩
  show (ajv (λ_=>True) an7 _ (dg x) rd (ys.map dg) zs h).bind _=_;rw [this,fu,afi e xs _ (by rw [ar,ax];omega)]
  unfold prod;rw [List.flatMap_cons,bB,cL,e8];rfl
theorem at3{fi fj:SI}{ix:List Nat}{τ:Sd}{h:Hd}{xs ys:List Nat}(e1:fi τ h=.ok ⟨xs.map dg,λ_=>True⟩ h)(e2:∀x:Nat,fj (some (dg x)::none::frs' ix τ) h=.ok ⟨ys.map dg,λ_=>True⟩ h)(z:xs.length*ys.length<=1000000):adc fi fj an7 (sA yh (ak (sV 0) (ak (sV 1) dq))) ix τ h=.ok (.ref h.length) (h++[.lst ((prod xs ys).map prD)]):=by
 unfold adc;rw [e1,fu];show (a7y (λ_=>True) fj an7 _ (frs' ix τ) (xs.map dg) [] h).bind _=_;rw [afi e2 xs [] (by simpa using z)]
 rfl
theorem a86(ps:List (Nat×Nat)):clos 0 (ps.map prD):=gf λ_ _=>gk (bx (du _) (bx (du _) gq))
theorem jk(ps:List Nat):clos 0 (ps.map dg):=gf λ_ _=>du _
theorem api{fi fj:SI}{ix:List Nat}{τ:Sd}{h:Hd}{xs ys:List Nat}(e1:fi τ h=.ok ⟨xs.map dg,λ_=>True⟩ h)(e2:∀x:Nat,fj (some (dg x)::none::frs' ix τ) h=.ok ⟨ys.map dg,λ_=>True⟩ h)(z:xs.length*ys.length<=1000000)(ch:∀u∈h,xj 0 u):sZ (adc fi fj an7 (sA yh (ak (sV 0) (ak (sV 1) dq))) ix) τ h=.ok (.rol ((prod xs ys).map prD)) h :=
 EVT.anj (at3 e1 e2 z) rfl (a86 _) ch
end K11
namespace K11
open L2 MI AT HND EVX SPR
open SHD
open PAP hiding di a3a a3u o6 a00 aof
open DRW (wt wts)
structure Pa where
 sg:List (List Nat)
 fs:List Nat
 ps:List (Nat×Nat)
 ls:List Nat
 e:Bool
abbrev pd(u:Pa):D:=pD u.sg u.fs u.ps u.ls u.e
def jn(u v:Pa):Pa:=⟨u.sg++v.sg,if u.e then u.fs++v.fs else u.fs,u.ps++prod u.ls v.fs++v.ps,if v.e then u.ls++v.ls else v.ls,u.e && v.e⟩
def again(u:Pa):Pa:=⟨u.sg,u.fs,u.ps++prod u.ls u.fs,u.ls,true⟩
structure Sm (u:Pa):Prop where
 sg:u.sg.length<=100
 fs:u.fs.length<=100
 ls:u.ls.length<=100
 ps:u.ps.length<=100000
theorem a0g(u:Pa):MI.clo 0 (pd u):=axm _ _ _ _ _
theorem azz(u:Pa):∀y∈[pd u],MI.clo 0 y:=λy hy=>by
 obtain rfl:=aB.mp hy;exact a0g u
theorem b38(u v:Pa):∀y∈[pd u,pd v],MI.clo 0 y:=λy hy=>by
 rcases aD.mp hy with rfl|hy
 ·exact a0g u
 ·exact azz v y hy
theorem at4{c:ST}{f g:SE}{τ:Sd}{h:Hd}{b:Bool}{xs ys:List Nat}(ec:c τ h=.ok b h)(e1:f τ h=.ok (.rol (xs.map dg)) h)(e2:g τ h=.ok (.rol (ys.map dg)) h):aed c f g τ h=.ok (.rol ((if b then xs else ys).map dg)) h:=by
 cases b with
 |true=>exact EVT.b34 ec e1
 |false=>exact EVT.b35 ec e2
theorem b17{f g:SE}{τ:Sd}{xs ys:List Nat}(e1:f τ []=.ok (.rol (xs.map dg)) [])(e2:g τ []=.ok (.rol (ys.map dg)) [])(z:xs.length+ys.length<=1000000):sZ (s2 iu f g) τ []=.ok (.rol ((xs++ys).map dg)) []:=by
 rw [bB];exact EVT.uv e1 e2 rfl (jk _) (jk _) EVT.iw (by simpa using z)
theorem b00{f g:SE}{τ:Sd}{xs ys:List (Nat×Nat)}(e1:f τ []=.ok (.rol (xs.map prD)) [])(e2:g τ []=.ok (.rol (ys.map prD)) [])(z:xs.length+ys.length<=1000000):sZ (s2 iu f g) τ []=.ok (.rol ((xs++ys).map prD)) []:=by
 rw [bB];exact EVT.uv e1 e2 rfl (a86 _) (a86 _) EVT.iw (by simpa using z)
theorem b39{f g:SE}{τ:Sd}{xs ys:List (List Nat)}(e1:f τ []=.ok (.rol (sgD xs)) [])(e2:g τ []=.ok (.rol (sgD ys)) [])(z:xs.length+ys.length<=1000000):sZ (s2 iu f g) τ []=.ok (.rol (sgD (xs++ys))) []:=by
 have:sgD (xs++ys)=sgD xs++sgD ys:=bB
 rw [this];exact EVT.uv e1 e2 rfl (a0f _) (a0f _) EVT.iw (by simpa using z)
theorem axn{f1 f2 f3 f4 f5:SE}{τ:Sd}{u:Pa}(e1:f1 τ []=.ok (.rol (sgD u.sg)) [])(e2:f2 τ []=.ok (.rol (u.fs.map dg)) [])(e3:f3 τ []=.ok (.rol (u.ps.map prD)) [])(e4:f4 τ []=.ok (.rol (u.ls.map dg)) [])(e5:f5 τ []=.ok (.bl u.e) []):sZ (sA (a2f "Patch" 5 bh) (ak f1 (ak f2 (ak f3 (ak f4 (ak f5 dq)))))) τ []=.ok (pd u) [] :=
 axl (five e1 e2 e3 e4 e5) (bx (lq (a0f _)) (bx (lq (jk _)) (bx (lq (a86 _)) (bx (lq (jk _)) (bx (kj _) gq))))) EVT.iw
noncomputable def m8:SF:=km (a6t bh) 5
theorem acf{u v:Pa}(hu:Sm u)(hv:Sm v):Pu m8 2 [pd u,pd v] (pd (jn u v)):=by
 obtain ⟨a1,a2,a3,a4⟩:=hu;obtain ⟨b1,b2,b3,b4⟩:=hv;have pl:(prod u.ls v.fs).length<=10000:=by rw [a2z];exact cU a3 b2
 refine Pu.of rfl (b38 u v) (r:=.ok (pd (jn u v)) []) ?_ (jb (a0g _) EVT.iw) (a0g _);unfold m8;rw [iy];show toR (a6t bh [some (pd u),some (pd v),none,none,none] [])=_;unfold a6t;rw [lw (at4 (o7 (wj (c7 rfl) a95) (j6 _)) (b17 (wj (c7 rfl) a4w) (wj (c7 rfl) a4w) (by omega)) (wj (c7 rfl) a4w))]
 refine ag (af toR (lw (at4 (o7 (wj (c7 rfl) a95) (j6 _)) (b17 (wj (c7 rfl) a3i) (wj (c7 rfl) a3i) (by omega)) (wj (c7 rfl) a3i)))) ?_
 refine ag (af toR (lw (api (xs:=u.ls) (ys:=v.fs) (a8e (wj (c7 rfl) a3i) rfl) (λx=>a8e (wj (c7 rfl) a4w) rfl) (by rw [<-a2z];omega) EVT.iw))) ?_
 exact af toR (j9 (axn (u:=jn u v) (b39 (wj (c7 rfl) a6g) (wj (c7 rfl) a6g) (by omega)) (c7 rfl) (b00 (b00 (wj (c7 rfl) a94) (c7 rfl) (by omega)) (wj (c7 rfl) a94) (by rw [ar];omega)) (c7 rfl) (asy (wj (c7 rfl) a95) (wj (c7 rfl) a95))))
noncomputable def m9:SF:=km (yu bh) 2
theorem anr{u:Pa}(hu:Sm u):Pu m9 1 [pd u] (pd (again u)):=by
 obtain ⟨a1,a2,a3,a4⟩:=hu;have pl:(prod u.ls u.fs).length<=10000:=by rw [a2z];exact cU a3 a2
 refine Pu.of rfl (azz u) (r:=.ok (pd (again u)) []) ?_ (jb (a0g _) EVT.iw) (a0g _);unfold m9;rw [iy];show toR (yu bh [some (pd u),none] [])=_;unfold yu;refine ag (af toR (lw (api (xs:=u.ls) (ys:=u.fs) (a8e (wj (c7 rfl) a3i) rfl) (λx=>a8e (wj (c7 rfl) a4w) rfl) (by rw [<-a2z];omega) EVT.iw))) ?_
 exact af toR (j9 (axn (u:=again u) (wj (c7 rfl) a6g) (wj (c7 rfl) a4w) (b00 (wj (c7 rfl) a94) (c7 rfl) (by omega)) (wj (c7 rfl) a3i) (dz _ _ _)))
structure PW (k:Nat) (x:Pt) (a:Nat) (u:Pa):Prop where
 n:u.sg.length=x.w
 e:u.e=x.e
 f:∀p,p∈u.fs↔x.B a p=true
 l:∀p,p∈u.ls↔x.E a p=true
 s:∀p q,(p,q)∈u.ps↔x.F a p q=true
 lf:u.fs.length<=x.w
 ll:u.ls.length<=x.w
 lp:u.ps.length<=k*(x.w*x.w)
theorem PW.sm{k:Nat}{x:Pt}{a:Nat}{u:Pa}(w:PW k x a u)(hk:k<=10)(hw:x.w<=100):Sm u :=
 ⟨by rw [w.n];exact hw,bG w.lf hw,bG w.ll hw,bG w.lp (cU hk (cU hw hw))⟩
theorem sq(k a b:Nat)(hk:1<=k):k*(a*a)+a*b+k*(b*b)<=k*((a+b)*(a+b)):=by
 have e:(a+b)*(a+b)=a*a+a*b+(a*b+b*b):=by rw [Nat.add_mul,gY,gY,eU b a]
 have:a*b<=k*(a*b):=Nat.le_mul_of_pos_left _ hk
 rw [e,gY,gY,gY];omega
theorem apj{u v:Pa}{k a b:Nat}(hk:1<=k)(h1:u.ps.length<=k*(a*a))(h2:v.ps.length<=k*(b*b))(h3:u.ls.length<=a)(h4:v.fs.length<=b):(jn u v).ps.length<=k*((a+b)*(a+b)):=by
 have:=sq k a b hk
 have:(prod u.ls v.fs).length<=a*b:=by rw [a2z];exact cU h3 h4
 show (u.ps++prod u.ls v.fs++v.ps).length<=_;rw [ar,ar];omega
theorem b01{k:Nat}(hk:1<=k){xs:List Pt}{x:Pt}{a:Nat}{u v:Pa}(hu:PW k (ajx xs) a u)(hv:PW k x (a+sw xs) v):PW k (ajx (xs++[x])) a (jn u v) where
 n:=by show (u.sg++v.sg).length=sw (xs++[x]);rw [ar,hu.n,hv.n,a0v];rfl
 e:=by show (u.e && v.e)=aE (xs++[x]);rw [hu.e,hv.e,ajz];rfl
 f:=λp=>by
  have h1:=hu.f p;have h2:=hv.f p;have he:=hu.e;show p∈(if u.e then u.fs++v.fs else u.fs)↔sB (xs++[x]) a p=true
  rw [ak0]
  change _↔sB xs a p=true at h1
  change u.e=aE xs at he
  rw [<-he]
  cases u.e<;>simp [h1,h2]
 l:=λp=>by
  have h1:=hu.l p;have h2:=hv.l p;have he:=hv.e;show p∈(if v.e then u.ls++v.ls else v.ls)↔sE (xs++[x]) a p=true
  rw [ap3]
  change _↔sE xs a p=true at h1
  rw [<-he]
  cases v.e<;>simp [h1,h2]
 s:=λp q=>by
  have h1:=hu.s p q;have h2:=hv.s p q;have h3:=hu.l p;have h4:=hv.f q;show (p,q)∈u.ps++prod u.ls v.fs++v.ps↔sF (xs++[x]) a p q=true
  change _↔sF xs a p q=true at h1
  change _↔sE xs a p=true at h3
  rw [ap4,bA,bA,aak,h1,h2,h3,h4];simp
 lf:=by
  have h1:=hu.lf;have h2:=hv.lf;show (if u.e then u.fs++v.fs else u.fs).length<=sw (xs++[x])
  change _<=sw xs at h1
  rw [a0v]
  cases u.e<;>simp<;>omega
 ll:=by
  have h1:=hu.ll;have h2:=hv.ll;show (if v.e then u.ls++v.ls else v.ls).length<=sw (xs++[x])
  change _<=sw xs at h1
  rw [a0v]
  cases v.e<;>simp<;>omega
 lp:=by
  show (jn u v).ps.length<=k*(sw (xs++[x])*sw (xs++[x]));rw [a0v];exact apj hk hu.lp hv.lp hu.ll hv.lf
theorem ant{k:Nat}{x:Pt}{a:Nat}{u:Pa}(h:PW k x a u):PW (k+1) (ay8 x) a (again u) where
 n:=h.n
 e:=rfl
 f:=h.f
 l:=h.l
 s:=λp q=>by
  show (p,q)∈u.ps++prod u.ls u.fs↔(x.F a p q || (x.E a p && x.B a q))=true
  rw [bA,aak,h.s,h.l,h.f];simp
 lf:=h.lf
 ll:=h.ll
 lp:=by
  have:(prod u.ls u.fs).length<=x.w*x.w:=by rw [a2z];exact cU h.ll h.lf
  have:=h.lp
  show (u.ps++prod u.ls u.fs).length<=(k+1)*(x.w*x.w);rw [ar,dI];omega
theorem PW.up{k:Nat}{x:Pt}{a:Nat}{u:Pa}(h:PW k x a u):PW (k+1) x a u:={h with lp:=bG h.lp (dP _ (i7 k))}
def PWs(k:Nat):List Pt->Nat->List Pa->Prop
 |[],_,[]=>True
 |x::xs,a,u::us=>PW k x a u/\PWs k xs (a+x.w) us
 |_,_,_=>False
end K11
namespace K11
open L2 MI AT HND EVX SPR
open SHD
open PAP hiding di a3a a3u o6 a00 aof
open DRW (wt wts)
noncomputable def jl:SF:=km (vy bh m8) 3
theorem acg{k a:Nat}(hk:1<=k)(hk':k<=10){L:D}:∀(us:List Pa) (xs ys:List Pt) (u0:Pa) (t2:Option D),PW k (ajx ys) a u0->PWs k xs (a+sw ys) us->sw ys+sw xs<=100->∃t2' u',forL (λ_=>True) (kN 2) (qz bh m8) (us.map pd) [some L,some (pd u0),t2] []=.nx [some L,some (pd u'),t2'] []/\PW k (ajx (ys++xs)) a u'/\u'.sg=u0.sg++(us.map Pa.sg).flatten
 |[],[],ys,u0,t2,h0,_,_=>⟨t2,u0,by rw [dZ,a1c],by rw [b9];exact h0,by simp⟩
 |[],_::_,_,_,_,_,h,_=>h.elim
 |_::_,[],_,_,_,_,h,_=>h.elim
 |u::us,x::xs,ys,u0,t2,h0,h,hw=>by
  obtain ⟨h1,h2⟩:=h;rw [sw] at hw;have h0':=b01 hk h0 h1;obtain ⟨t2',u',e,w,g⟩:=acg hk hk' us xs (ys++[x]) (jn u0 u) (some (pd u)) h0' (by rw [a0v,<-cG];exact h2) (by rw [a0v];omega)
  refine ⟨t2',u',?_,by rw [cL] at w;exact w,by rw [g];simp [jn]⟩
  rw [bp,xu _ _ _ _ _ [some L,some (pd u0),some (pd u)] _ [] rfl,<-e];have:qz bh m8 [some L,some (pd u0),some (pd u)] []=.nx [some L,some (pd (jn u0 u)),some (pd u)] []:=by
   unfold qz nu;rw [a1j (c7 rfl) (c7 rfl) (acf (h0.sm hk' (show sw ys<=100 by omega)) (h1.sm hk' (by omega)) [])]
   rfl
  rw [this];rfl
theorem afj(us:List Pa):clos 0 (us.map pd):=gf λu _=>a0g u
theorem b1a(us:List Pa):∀y∈[D.rol (us.map pd)],MI.clo 0 y:=λy hy=>by
 obtain rfl:=aB.mp hy;exact lq (afj us)
def pa0(e:Bool):Pa:=⟨[],[],[],[],e⟩
theorem at5{τ:Sd}:sZ (sA uw dq) τ []=.ok (.rol []) []:=EVT.qi EVT.lz rfl gq EVT.iw (by simp)
theorem axo{τ:Sd}{e:Bool}:sZ (sA (a2f "Patch" 5 bh) (ak (sZ (sA uw dq)) (ak (sZ (sA uw dq)) (ak (sZ (sA uw dq)) (ak (sZ (sA uw dq)) (ak (sC (.bl e)) dq)))))) τ []=.ok (pd (pa0 e)) []:=axn (u:=pa0 e) at5 at5 at5 at5 (dz _ _ _)
theorem b3a(k a:Nat):PW k (ajx []) a (pa0 true):=⟨rfl,rfl,λp=>by simp [pa0,ajx,sB],λp=>by simp [pa0,ajx,sE],λp q=>by simp [pa0,ajx,sF],aU _,aU _,aU _⟩
theorem ags{k a:Nat}(hk:1<=k)(hk':k<=10){us:List Pa}{xs:List Pt}(h:PWs k xs a us)(hw:sw xs<=100):∃u,Pu jl 1 [.rol (us.map pd)] (pd u)/\PW k (ajx xs) a u/\u.sg=(us.map Pa.sg).flatten:=by
 obtain ⟨t2',u',e,w,g⟩:=acg (a:=a) hk hk' (L:=.rol (us.map pd)) us xs [] (pa0 true) none (b3a k a) h (by rw [sw];omega)
 refine ⟨u',Pu.of rfl (b1a us) (r:=.ok (pd u') []) ?_ (jb (a0g _) EVT.iw) (a0g _),w,g⟩;unfold jl;rw [iy];show toR (vy bh m8 [some (.rol (us.map pd)),none,none] [])=_;unfold vy;rw [lw axo];refine ag (af toR (a3q (a8e (c7 rfl) rfl))) ?_;refine ag (af (λz=>toR (MI.thn z (oh (sV 1)))) e) ?_;exact af toR (j9 (c7 rfl))
def tS(lo m:Nat)(xs:List Pt):Pt:=⟨sw xs,eT lo m xs,sB xs,tE lo m xs,sF xs⟩
def sure(c:Bool)(u:Pa):Pa:={u with e:=c || u.e}
theorem axp{k lo m r a:Nat}(hk:1<=k){x:Pt}{u v:Pa}(hu:PW k x a u)(hv:PW k (tS lo (m+1) (List.replicate r x)) (a+x.w) v):PW k (tS lo m (List.replicate (r+1) x)) a (sure (decide (lo<=m)) (jn u v)):=by
 rw [aS];exact {
  n:=by show (u.sg++v.sg).length=sw (x::List.replicate r x);rw [ar,hu.n,hv.n,sw];rfl
  e:=by show (decide (lo<=m) || (u.e && v.e))=eT lo m (x::List.replicate r x);rw [hu.e,hv.e,eT];rfl
  f:=λp=>by
   have h1:=hu.f p;have h2:=hv.f p;have he:=hu.e;show p∈(if u.e then u.fs++v.fs else u.fs)↔sB (x::List.replicate r x) a p=true
   change _↔sB (List.replicate r x) (a+x.w) p=true at h2
   rw [sB,<-he]
   cases u.e<;>simp [h1,h2]
  l:=λp=>by
   have h1:=hu.l p;have h2:=hv.l p;have he:=hv.e;show p∈(if v.e then u.ls++v.ls else v.ls)↔tE lo m (x::List.replicate r x) a p=true
   change _↔tE lo (m+1) (List.replicate r x) (a+x.w) p=true at h2
   change v.e=eT lo (m+1) (List.replicate r x) at he
   rw [ax5] at he;rw [tE,<-he]
   cases v.e<;>simp [h1,h2]
  s:=λp q=>by
   have h1:=hu.s p q;have h2:=hv.s p q;have h3:=hu.l p;have h4:=hv.f q;show (p,q)∈u.ps++prod u.ls v.fs++v.ps↔sF (x::List.replicate r x) a p q=true
   change _↔sF (List.replicate r x) (a+x.w) p q=true at h2
   change _↔sB (List.replicate r x) (a+x.w) q=true at h4
   rw [sF,bA,bA,aak,h1,h2,h3,h4];simp
  lf:=by
   have h1:=hu.lf;have h2:=hv.lf;show (if u.e then u.fs++v.fs else u.fs).length<=sw (x::List.replicate r x)
   change _<=sw (List.replicate r x) at h2
   rw [sw]
   cases u.e<;>simp<;>omega
  ll:=by
   have h1:=hu.ll;have h2:=hv.ll;show (if v.e then u.ls++v.ls else v.ls).length<=sw (x::List.replicate r x)
   change _<=sw (List.replicate r x) at h2
   rw [sw]
   cases v.e<;>simp<;>omega
  lp:=by
   show (jn u v).ps.length<=k*(sw (x::List.replicate r x)*sw (x::List.replicate r x));rw [sw];exact apj hk hu.lp hv.lp hu.ll hv.lf}
end K11
namespace K11
open L2 MI AT HND EVX SPR
open SHD
open PAP hiding di a3a a3u o6 a00 aof
open DRW (wt wts)
def dn:Nat->List D
 |0=>[]
 |n+1=>dg n::dn n
theorem axq:∀n:Nat,((List.range n).map λi:Nat=>D.int ((n-1-i:Nat)))=dn n
 |0=>rfl
 |n+1=>by
  rw [List.range_succ_eq_map,bp,e8,dn,<-axq n]
  congr 1
  refine eA λi _=>?_;show D.int ((n+1-1-(i+1):Nat))=D.int ((n-1-i:Nat))
  congr 2
  omega
theorem akj{k:Nat}{x:Pt}:∀(n a:Nat) (us:List Pa),PWs k (List.replicate n x) a us->us.length=n/\∀i<n,∃u,us[i]? = some u/\PW k x (a+i*x.w) u
 |0,_,[],_=>⟨rfl,λ_ h=>absurd h (by omega)⟩
 |0,_,_::_,h=>h.elim
 |n+1,_,[],h=>by rw [aS] at h;exact h.elim
 |n+1,a,u::us,h=>by
  rw [aS] at h;obtain ⟨h1,h2⟩:=h;obtain ⟨l,al⟩:=akj n _ us h2;refine ⟨by rw [aF,l],λi hi=>?_⟩
  cases i with
  |zero=>exact ⟨u,rfl,by rw [Nat.zero_mul];exact h1⟩
  |succ i =>
   obtain ⟨v,e,w⟩:=al i (by omega)
   refine ⟨v,e,?_⟩;rw [dI,show a+(i*x.w+x.w)=a+x.w+i*x.w by omega]
   exact w
noncomputable def jg:SF:=km (ux bh m8) 4
theorem b1b{f:SE}{τ:Sd}{h:Hd}{d:D}{i:Nat}(e:f τ h=.ok d h):nu i f τ h=.nx (τ.set i (some d)) h:=by
 unfold nu;rw [e];rfl
theorem a96{k a lo:Nat}{x:Pt}(hk:1<=k)(hk':k<=10){us:List Pa}:∀(m r:Nat) (u0:Pa) (t3:Option D),PW k (tS lo m (List.replicate r x)) (a+m*x.w) u0->(m+r)*x.w<=100->(∀i<m,∃u,us[i]? = some u/\PW k x (a+i*x.w) u)->
  ∃u' t3',forL (λ_=>True) (kN 3) (qm bh m8) (dn m) [some (.rol (us.map pd)),some (dg lo),some (pd u0),t3] []=.nx [some (.rol (us.map pd)),some (dg lo),some (pd u'),t3'] []/\PW k (tS lo 0 (List.replicate (m+r) x)) a u'/\u'.sg=((us.take m).map Pa.sg).flatten++u0.sg
 |0,r,u0,t3,h0,_,_=>⟨u0,t3,by rw [dn,a1c],by rw [Nat.zero_mul] at h0;rw [gD];exact h0,by simp⟩
 |m+1,r,u0,t3,h0,hw,al=>by
  obtain ⟨u,eu,hu⟩:=al m (by omega)
  have h0':PW k (tS lo (m+1) (List.replicate r x)) (a+m*x.w+x.w) u0:=by rw [cG,<-dI];exact h0
  have hn:=axp hk hu h0';have w1:x.w<=100:=by
   have:1*x.w<=(m+1+r)*x.w:=dP _ (by omega)
   omega
  have w2:(tS lo (m+1) (List.replicate r x)).w<=100:=by
   show sw (List.replicate r x)<=100;rw [a8w];exact bG (dP _ (by omega)) hw
  obtain ⟨u',t3',e,w,g⟩:=a96 hk hk' m (r+1) _ (some (dg m)) hn (by rw [show m+(r+1)=m+1+r by omega];exact hw) λi hi=>al i (by omega)
  refine ⟨u',t3',?_,by rw [show m+(r+1)=m+1+r by omega] at w;exact w,by rw [g,List.take_succ,eu];simp [sure,jn]⟩
  rw [dn,xu _ _ _ _ _ [some (.rol (us.map pd)),some (dg lo),some (pd u0),some (dg m)] _ [] rfl,<-e];have:qm bh m8 [some (.rol (us.map pd)),some (dg lo),some (pd u0),some (dg m)] []=.nx [some (.rol (us.map pd)),some (dg lo),some (pd (sure (decide (lo<=m)) (jn u u0))),some (dg m)] []:=by
   unfold qm;have ix:s2 gIx (sV 0) (sV 3) [some (.rol (us.map pd)),some (dg lo),some (pd u0),some (dg m)] []=.ok (pd u) []:=ie (c7 rfl) (c7 rfl) (azs (by rw [bX,eu];rfl))
   refine ag (lw (a1j ix (c7 rfl) (acf (hu.sm hk' w1) (h0.sm hk' w2) []))) ?_;have ge:sT (s2 gGe (sV 3) (sV 1)) [some (.rol (us.map pd)),some (dg lo),some (pd (jn u u0)),some (dg m)] []=.ok (decide (lo<=m)) []:=by
    refine tof (ie (c7 rfl) (c7 rfl) ?_);show R.ok (D.bl (decide ((lo:Int)<=(m:Int)))) []=_
    congr 2
    exact decide_eq_decide.mpr Int.ofNat_le
   cases z:decide (lo<=m) with
   |true =>
    rw [z] at ge;refine ag (ifT ge) ?_;have:=axn (τ:=[some (.rol (us.map pd)),some (dg lo),some (pd (jn u u0)),some (dg m)]) (u:=sure true (jn u u0)) (f1:=s1 (qw "Patch" "signs") (sV 2)) (f2:=s1 (qw "Patch" "firsts") (sV 2)) (f3:=s1 (qw "Patch" "pairs") (sV 2)) (f4:=s1 (qw "Patch" "lasts") (sV 2)) (f5:=sC (.bl true)) (wj (c7 rfl) a6g) (wj (c7 rfl) a4w) (wj (c7 rfl) a94) (wj (c7 rfl) a3i) (dz _ _ _);exact b1b this
   |false =>
    rw [z] at ge;exact ifF ge
  rw [this];rfl
theorem axr{x:Pt}{lo hi:Nat}(hl:lo<=hi):tS lo 0 (List.replicate hi x)=atd x lo hi:=by
 unfold tS atd;rw [a8w,ax6 hl]
theorem anu{k a lo hi:Nat}{x:Pt}(hk:1<=k)(hk':k<=10)(hl:lo<=hi){us:List Pa}(h:PWs k (List.replicate hi x) a us)(hw:hi*x.w<=100)(hh:hi<=1000000):∃u,Pu jg 2 [.rol (us.map pd),dg lo] (pd u)/\PW k (atd x lo hi) a u/\u.sg=(us.map Pa.sg).flatten:=by
 obtain ⟨ul,al⟩:=akj hi a us h;have p0:PW k (tS lo hi (List.replicate 0 x)) (a+hi*x.w) (pa0 true):=⟨rfl,rfl,λp=>by simp [pa0,tS,sB],λp=>by simp [pa0,tS,tE],λp q=>by simp [pa0,tS,sF],aU _,aU _,aU _⟩
 obtain ⟨u',t3',e,w,g⟩:=a96 hk hk' hi 0 (pa0 true) none p0 hw al;rw [Nat.add_zero,axr hl] at w;refine ⟨u',Pu.of rfl ?_ (r:=.ok (pd u') []) ?_ (jb (a0g _) EVT.iw) (a0g _),w,by rw [g,bP (by omega)];simp [pa0]⟩
 ·intro y hy
  rcases aD.mp hy with rfl|hy
  ·exact lq (afj us)
  ·obtain rfl:=aB.mp hy;exact du _
 unfold jg;rw [iy];show toR (ux bh m8 [some (.rol (us.map pd)),some (dg lo),none,none] [])=_;unfold ux;rw [lw axo];have it:=aw4 (f:=sA a2p (ak (sV 0) dq)) (τ:=[some (.rol (us.map pd)),some (dg lo),some (pd (pa0 true)),none]) (h:=[]) (n:=hi) (qg (c7 rfl) (by show R.ok (dg (us.map pd).length) []=_;rw [ax,ul])) (jf hh)
 rw [axq] at it;refine ag (af toR (a3q it)) ?_;refine ag (af (λz=>toR (MI.thn z (oh (sV 2)))) e) ?_;exact af toR (j9 (c7 rfl))
end K11
namespace K11
open L2 MI AT HND EVX SPR
open SHD
open PAP hiding di a3a a3u o6 a00 aof
open DRW (wt wts)
def oj(u v:Pa):Pa:=⟨u.sg++v.sg,u.fs++v.fs,u.ps++v.ps,u.ls++v.ls,u.e || v.e⟩
def hQ(a b c d:List D)(e:Bool):Hd:=[.lst a,.lst b,.lst c,.lst d,.ins "Patch" [("signs",.ref 0),("firsts",.ref 1),("pairs",.ref 2),("lasts",.ref 3),("empty",.bl e)]]
abbrev hO(u:Pa):Hd:=hQ (sgD u.sg) (u.fs.map dg) (u.ps.map prD) (u.ls.map dg) u.e
theorem aal{h:Hd}{i:Nat}{xs ys:List D}(e:h[i]? = some (.lst xs))(z:xs.length+ys.length<=1000000):a7k (.ref i) [.rol ys] h=.ok .non (h.set i (.lst (xs++ys))):=by
 show (match h[i]?,yt (.rol ys) h with|some (.lst xs),some ys=>if xs.length+ys.length<=LINE then R.ok D.non (h.set i (.lst (xs++ys))) else .no|_,_=>.no)=_
 rw [e];exact aC (jf z)
theorem anv{L:D}{u v:Pa}(hu:Sm u)(hv:Sm v):uf bh [some L,some (.ref 4),some (pd v)] (hO u)=.nx [some L,some (.ref 4),some (pd v)] (hO (oj u v)):=by
 obtain ⟨a1,a2,a3,a4⟩:=hu;obtain ⟨b1,b2,b3,b4⟩:=hv;unfold uf
 generalize hA:sgD u.sg=A
 generalize hB:u.fs.map dg=B
 generalize hC:u.ps.map prD=C
 generalize hD:u.ls.map dg=E
 have lA:A.length<=100:=by rw [<-hA];simpa using a1
 have lB:B.length<=100:=by rw [<-hB];simpa using a2
 have lC:C.length<=100000:=by rw [<-hC];simpa using a4
 have lE:E.length<=100:=by rw [<-hD];simpa using a3
 have s1:yr (sML a7k (s1 (qw "Patch" "signs") (sV 1)) (ak (s1 (qw "Patch" "signs") (sV 2)) dq)) [some L,some (.ref 4),some (pd v)] (hQ A B C E u.e)=.nx [some L,some (.ref 4),some (pd v)] (hQ (A++sgD v.sg) B C E u.e) :=
  a6e (wj (c7 rfl) (rfl:qw "Patch" "signs" (.ref 4) (hQ A B C E u.e)=.ok (.ref 0) _)) rfl (PAP.di (wj (c7 rfl) a6g) EVT.lz) (aal rfl (by rw [ax];omega))
 have s2:yr (sML a7k (MI.s1 (qw "Patch" "firsts") (sV 1)) (ak (MI.s1 (qw "Patch" "firsts") (sV 2)) dq)) [some L,some (.ref 4),some (pd v)] (hQ (A++sgD v.sg) B C E u.e)=.nx [some L,some (.ref 4),some (pd v)] (hQ (A++sgD v.sg) (B++v.fs.map dg) C E u.e) :=
  a6e (wj (c7 rfl) (rfl:qw "Patch" "firsts" (.ref 4) (hQ (A++sgD v.sg) B C E u.e)=.ok (.ref 1) _)) rfl (PAP.di (wj (c7 rfl) a4w) EVT.lz) (aal rfl (by rw [ax];omega))
 have s3:yr (sML a7k (MI.s1 (qw "Patch" "pairs") (sV 1)) (ak (MI.s1 (qw "Patch" "pairs") (sV 2)) dq)) [some L,some (.ref 4),some (pd v)] (hQ (A++sgD v.sg) (B++v.fs.map dg) C E u.e)=.nx [some L,some (.ref 4),some (pd v)] (hQ (A++sgD v.sg) (B++v.fs.map dg) (C++v.ps.map prD) E u.e) :=
  a6e (wj (c7 rfl) (rfl:qw "Patch" "pairs" (.ref 4) (hQ (A++sgD v.sg) (B++v.fs.map dg) C E u.e)=.ok (.ref 2) _)) rfl (PAP.di (wj (c7 rfl) a94) EVT.lz) (aal rfl (by rw [ax];omega))
 have s4:yr (sML a7k (MI.s1 (qw "Patch" "lasts") (sV 1)) (ak (MI.s1 (qw "Patch" "lasts") (sV 2)) dq)) [some L,some (.ref 4),some (pd v)] (hQ (A++sgD v.sg) (B++v.fs.map dg) (C++v.ps.map prD) E u.e)=.nx [some L,some (.ref 4),some (pd v)] (hQ (A++sgD v.sg) (B++v.fs.map dg) (C++v.ps.map prD) (E++v.ls.map dg) u.e) :=
  a6e (wj (c7 rfl) (rfl:qw "Patch" "lasts" (.ref 4) (hQ (A++sgD v.sg) (B++v.fs.map dg) (C++v.ps.map prD) E u.e)=.ok (.ref 3) _)) rfl (PAP.di (wj (c7 rfl) a3i) EVT.lz) (aal rfl (by rw [ax];omega))
 have s5:a8c "Patch" "empty" (sV 1) (aao (MI.s1 (qw "Patch" "empty") (sV 1)) (MI.s1 (qw "Patch" "empty") (sV 2))) [some L,some (.ref 4),some (pd v)] (hQ (A++sgD v.sg) (B++v.fs.map dg) (C++v.ps.map prD) (E++v.ls.map dg) u.e)=.nx [some L,some (.ref 4),some (pd v)] (hQ (A++sgD v.sg) (B++v.fs.map dg) (C++v.ps.map prD) (E++v.ls.map dg) (u.e || v.e)) :=
  (a5s (i:=4) (y:=.bl (u.e || v.e)) (fs:=[("signs",.ref 0),("firsts",.ref 1),("pairs",.ref 2),("lasts",.ref 3),("empty",.bl u.e)]) (azy (wj (c7 rfl) (rfl:qw "Patch" "empty" (.ref 4) (hQ (A++sgD v.sg) (B++v.fs.map dg) (C++v.ps.map prD) (E++v.ls.map dg) u.e)=.ok (.bl u.e) _)) (wj (c7 rfl) a95)) (c7 rfl) rfl (by show 5<1000;omega)).trans rfl
 have hO':hO u=hQ A B C E u.e:=by show hQ (sgD u.sg) (u.fs.map dg) (u.ps.map prD) (u.ls.map dg) u.e=_;rw [hA,hB,hC,hD]
 rw [hO',yf s1,yf s2,yf s3,yf s4,s5];show _=Fl.nx _ (hQ (sgD (u.sg++v.sg)) ((u.fs++v.fs).map dg) ((u.ps++v.ps).map prD) ((u.ls++v.ls).map dg) (u.e || v.e))
 rw [show sgD (u.sg++v.sg)=sgD u.sg++sgD v.sg from bB,bB,bB,bB,hA,hB,hC,hD]
theorem b02{k:Nat}(hk:1<=k){xs:List Pt}{x:Pt}{a:Nat}{u v:Pa}(hu:PW k (ajy xs) a u)(hv:PW k x (a+sw xs) v):PW k (ajy (xs++[x])) a (oj u v) where
 n:=by show (u.sg++v.sg).length=sw (xs++[x]);rw [ar,hu.n,hv.n,a0v];rfl
 e:=by show (u.e || v.e)=oE (xs++[x]);rw [hu.e,hv.e,ap2];rfl
 f:=λp=>by
  have h1:=hu.f p;have h2:=hv.f p;show p∈u.fs++v.fs↔oB (xs++[x]) a p=true
  change _↔oB xs a p=true at h1
  rw [ap5,bA,h1,h2,bL]
 l:=λp=>by
  have h1:=hu.l p;have h2:=hv.l p;show p∈u.ls++v.ls↔oEn (xs++[x]) a p=true
  change _↔oEn xs a p=true at h1
  rw [ak1,bA,h1,h2,bL]
 s:=λp q=>by
  have h1:=hu.s p q;have h2:=hv.s p q;show (p,q)∈u.ps++v.ps↔oF (xs++[x]) a p q=true
  change _↔oF xs a p q=true at h1
  rw [ap6,bA,h1,h2,bL]
 lf:=by
  have h1:=hu.lf;have h2:=hv.lf;show (u.fs++v.fs).length<=sw (xs++[x])
  change _<=sw xs at h1
  rw [a0v,ar];omega
 ll:=by
  have h1:=hu.ll;have h2:=hv.ll;show (u.ls++v.ls).length<=sw (xs++[x])
  change _<=sw xs at h1
  rw [a0v,ar];omega
 lp:=by
  have h1:=hu.lp;have h2:=hv.lp;show (u.ps++v.ps).length<=k*(sw (xs++[x])*sw (xs++[x]))
  change _<=k*(sw xs*sw xs) at h1
  have:=sq k (sw xs) x.w hk
  rw [a0v,ar];omega
noncomputable def ju:SF:=km (xq bh) 3
theorem afk{k a:Nat}(hk:1<=k)(hk':k<=10){L:D}:∀(us:List Pa) (xs ys:List Pt) (u0:Pa) (t2:Option D),PW k (ajy ys) a u0->PWs k xs (a+sw ys) us->sw ys+sw xs<=100->∃t2' u',forL (λ_=>True) (kN 2) (uf bh) (us.map pd) [some L,some (.ref 4),t2] (hO u0)=.nx [some L,some (.ref 4),t2'] (hO u')/\PW k (ajy (ys++xs)) a u'/\u'.sg=u0.sg++(us.map Pa.sg).flatten
 |[],[],ys,u0,t2,h0,_,_=>⟨t2,u0,by rw [dZ,a1c],by rw [b9];exact h0,by simp⟩
 |[],_::_,_,_,_,_,h,_=>h.elim
 |_::_,[],_,_,_,_,h,_=>h.elim
 |u::us,x::xs,ys,u0,t2,h0,h,hw=>by
  obtain ⟨h1,h2⟩:=h;rw [sw] at hw;have h0':=b02 hk h0 h1;obtain ⟨t2',u',e,w,g⟩:=afk hk hk' us xs (ys++[x]) (oj u0 u) (some (pd u)) h0' (by rw [a0v,<-cG];exact h2) (by rw [a0v];omega)
  refine ⟨t2',u',?_,by rw [cL] at w;exact w,by rw [g];simp [oj]⟩
  rw [bp,xu _ _ _ _ _ [some L,some (.ref 4),some (pd u)] _ (hO u0) rfl,<-e,anv (h0.sm hk' (show sw ys<=100 by omega)) (h1.sm hk' (by omega))]
  rfl
theorem axs(u:Pa):a8n 0 (.ok (.ref 4) (hO u))=.ok (pd u) []:=by
 refine a3p (n:=0) ?_ (by simp)
 show a1q 0 _ (19+1) _=_;rw [a1q,aQ (by simp only [MI.clo];omega)]
 show (a0x (a1q 0 (hO u) 19) [.ref 0,.ref 1,.ref 2,.ref 3,.bl u.e]).map (D.ins "Patch" KP)=_;have e0:a1q 0 (hO u) 19 (.ref 0)=some (.rol (sgD u.sg)):=a4d (k:=17) (aU _) rfl (a0f _);have e1:a1q 0 (hO u) 19 (.ref 1)=some (.rol (u.fs.map dg)):=a4d (k:=17) (aU _) rfl (jk _);have e2:a1q 0 (hO u) 19 (.ref 2)=some (.rol (u.ps.map prD)):=a4d (k:=17) (aU _) rfl (a86 _);have e3:a1q 0 (hO u) 19 (.ref 3)=some (.rol (u.ls.map dg)):=a4d (k:=17) (aU _) rfl (jk _);have e4:a1q 0 (hO u) 19 (.bl u.e)=some (.bl u.e):=a6q (k:=18) (kj _)
 simp only [a0x,e0,e1,e2,e3,e4];rfl
theorem akk{k a:Nat}(hk:1<=k)(hk':k<=10){us:List Pa}{xs:List Pt}(h:PWs k xs a us)(hw:sw xs<=100):∃u,Pu ju 1 [.rol (us.map pd)] (pd u)/\PW k (ajy xs) a u/\u.sg=(us.map Pa.sg).flatten:=by
 have p0:PW k (ajy []) a (pa0 false):=⟨rfl,rfl,λp=>by simp [pa0,ajy,oB],λp=>by simp [pa0,ajy,oEn],λp q=>by simp [pa0,ajy,oF],aU _,aU _,aU _⟩
 obtain ⟨t2',u',e,w,g⟩:=afk (a:=a) hk hk' (L:=.rol (us.map pd)) us xs [] (pa0 false) none p0 h (by rw [sw];omega)
 refine ⟨u',Pu.of rfl (b1a us) (r:=.ok (.ref 4) (hO u')) ?_ (axs u') (a0g _),w,g⟩;unfold ju;rw [iy];show toR (xq bh [some (.rol (us.map pd)),none,none] [])=_;unfold xq;have m:sA (a2f "Patch" 5 bh) (ak (sA uw dq) (ak (sA uw dq) (ak (sA uw dq) (ak (sA uw dq) (ak (sC (.bl false)) dq))))) [some (.rol (us.map pd)),none,none] []=.ok (.ref 4) (hO (pa0 false)):=by
  refine PAP.aof (h1:=[.lst [],.lst [],.lst [],.lst []]) (ds:=[.ref 0,.ref 1,.ref 2,.ref 3,.bl false]) ?_ ?_
  ·rfl
  ·rw [akh];rfl
 rw [lw m];refine ag (af toR (a3q (a8e (c7 rfl) rfl))) ?_;refine ag (af (λz=>toR (MI.thn z (oh (sV 1)))) e) ?_;exact af toR (j9 (c7 rfl))
end K11
namespace K11
open L2 MI AT HND EVX SPR
open SHD
open PAP hiding di a3a a3u o6 a00 aof
open DRW (wt wts)
noncomputable def aam(F:SF):SF:=km (yc F) 6
def ayh(F:SF)(k:Nat)(q:Sh):Prop:=∀a,∃u,Pu F 2 [sd q,dg (a+1)] (pd u)/\PW k (pt q) a u/\u.sg=mk q
theorem a6h{F:SF}{k:Nat}{x y:D}:∀(ps:List Sh) (a:Nat) (us0:List Pa) (t4 t5:Option D),us0.length+ps.length<=1000->(∀q∈ps,ayh F k q)->
  ∃(us:List Pa) (a':Nat) (t4' t5':Option D),forL (λ_=>True) (kN 4) (vq F) (sds ps) [some x,some y,some (.ref 0),some (dg (a+1)),t4,t5] [.lst (us0.map pd)]=.nx [some x,some y,some (.ref 0),some (dg a'),t4',t5'] [.lst ((us0++us).map pd)]/\PWs k (pts ps) a us/\us.map Pa.sg=ps.map mk
 |[],a,us0,t4,t5,_,_=>⟨[],a+1,t4,t5,by rw [sds,a1c,b9],by rw [pts];exact True.intro,rfl⟩
 |q::ps,a,us0,t4,t5,hl,al=>by
  obtain ⟨u,pu,w,g⟩:=al q (by simp) a
  rw [aF] at hl;obtain ⟨us,a',t4',t5',e,ws,gs⟩:=a6h (x:=x) (y:=y) ps (a+(pt q).w) (us0++[u]) (some (sd q)) (some (pd u)) (by rw [ar];show us0.length+1+ps.length<=1000;omega) λq hq=>al q (by simp [hq])
  refine ⟨u::us,a',t4',t5',?_,by rw [pts];exact ⟨w,ws⟩,by rw [bp,bp,g,gs]⟩
  rw [sds,xu _ _ _ _ _ [some x,some y,some (.ref 0),some (dg (a+1)),some (sd q),t5] _ [.lst (us0.map pd)] rfl];rw [show us0++u::us=us0++[u]++us by simp,<-e]
  have:vq F [some x,some y,some (.ref 0),some (dg (a+1)),some (sd q),t5] [.lst (us0.map pd)]=.nx [some x,some y,some (.ref 0),some (dg (a+(pt q).w+1)),some (sd q),some (pd u)] [.lst ((us0++[u]).map pd)]:=by
   unfold vq;refine ag (lw (a1j (c7 rfl) (c7 rfl) (pu _))) ?_;refine ag (yf (a6e (c7 rfl) rfl (PAP.di (c7 rfl) EVT.lz) (af5 rfl (by have:=jf (n:=us0.length+1) (by omega);rw [ax];omega)))) ?_
   refine ag (ac3 rfl (qg (wj (c7 rfl) a6g) EVT.yq) (afg _ _ _)) ?_;have:a+1+(sgD u.sg).length=a+(pt q).w+1:=by rw [ax,w.n];omega
   rw [this,bB];rfl
  rw [this];rfl
theorem a5t{F:SF}{k:Nat}{x:D}{ps:List Sh}(cx:MI.clo 0 x)(it:∀h,aks x h=.ok ⟨sds ps,λ_=>True⟩ h)(a:Nat)(hl:ps.length<=1000)(al:∀q∈ps,ayh F k q):∃us:List Pa,Pu (aam F) 2 [x,dg (a+1)] (.rol (us.map pd))/\PWs k (pts ps) a us/\us.map Pa.sg=ps.map mk:=by
 obtain ⟨us,a',t4',t5',e,ws,gs⟩:=a6h (x:=x) (y:=dg (a+1)) ps a [] none none (by simpa using hl) al
 refine ⟨us,Pu.of rfl ?_ (r:=.ok (.ref 0) [.lst (us.map pd)]) ?_ (a6r (ay _) rfl (afj _) (by simp)) (lq (afj _)),ws,gs⟩
 ·intro y hy
  rcases aD.mp hy with rfl|hy
  ·exact cx
  ·obtain rfl:=aB.mp hy;exact du _
 unfold aam;rw [iy];show toR (yc F [some x,some (dg (a+1)),none,none,none,none] [])=_;unfold yc;rw [lw (ayf rfl:sA uw dq [some x,some (dg (a+1)),none,none,none,none] []=.ok (.ref 0) [.lst []])];refine ag (af toR (lw (c7 rfl))) ?_;refine ag (af toR (a3q (a8e (c7 rfl) (it _)))) ?_;refine ag (af (λz=>toR (MI.thn z (oh (sV 2)))) e) ?_;exact af toR (j9 (c7 rfl))
theorem PWs.up{k:Nat}:∀{xs:List Pt} {a:Nat} {us:List Pa},PWs k xs a us->PWs (k+1) xs a us
 |[],_,[],_=>True.intro
 |[],_,_::_,h=>h.elim
 |_::_,_,[],h=>h.elim
 |_::_,_,_::_,h=>⟨h.1.up,PWs.up h.2⟩
mutual
noncomputable def j5:Nat->SF
 |0=>λ_ _=>.no
 |n+1=>km (ue bh m9 jl (j5 n) ju jg (my n)) 2
noncomputable def my:Nat->SF
 |0=>λ_ _=>.no
 |n+1=>km (yc (j5 n)) 6
end
theorem anw(n:Nat)(x y:D):j5 (n+1) [x,y] []=toR (ue bh m9 jl (j5 n) ju jg (my n) [some x,some y] []):=by
 rw [j5,iy];rfl
theorem apk{ps:List Sh}(h:Hd):aks (.tup (sds ps)) h=.ok ⟨sds ps,λ_=>True⟩ h:=rfl
theorem axt{ps:List Sh}(h:Hd):aks (.rol (sds ps)) h=.ok ⟨sds ps,λ_=>True⟩ h:=rfl
theorem b03(n:Nat)(x:D):(List.replicate n [x]).flatten=List.replicate n x:=by
 induction n with
 |zero=>rfl
 |succ n ih=>rw [aS,aS,cK,ih];rfl
theorem aan{tg:List Nat}:∀(d n:Nat),2*d<=n->d<=9->∀s,a3s tg d s->wt s<=100->ayh (j5 n) d s
 |0,_,_,_,_,k,_=>k.elim
 |d+1,0,h,_,_,_,_=>absurd h (by omega)
 |d+1,1,h,_,_,_,_=>absurd h (by omega)
 |d+1,n+2,h,h9,s,k,hw=>λa=>by
  have ih1:=aan (tg:=tg) d (n+1) (by omega) (by omega)
  have ih:=aan (tg:=tg) d n (by omega) (by omega)
  have pf:my (n+1)=aam (j5 n):=by rw [my];rfl
  have cl:∀y∈[sd s,dg (a+1)],MI.clo 0 y:=λy hy=>by
   rcases aD.mp hy with rfl|hy
   ·exact qj s
   ·obtain rfl:=aB.mp hy;exact du _
  have fin:∀u,toR (ue bh m9 jl (j5 (n+1)) ju jg (my (n+1)) [some (sd s),some (dg (a+1))] [])=.ok (pd u) []->Pu (j5 (n+2)) 2 [sd s,dg (a+1)] (pd u):=λu e=>Pu.of rfl cl (r:=.ok (pd u) []) (by rw [anw];exact e) (jb (a0g _) EVT.iw) (a0g _)
  have kids:∀{ps:List Sh},(∀q∈ps,a3s tg d q)->wts ps<=100->∀q∈ps,ayh (j5 n) d q:=by
   intro ps
   induction ps with
   |nil=>intro _ _ q hq;cases hq
   |cons p ps ih' =>
    intro ka kw q hq
    rw [wts] at kw
    rcases aD.mp hq with rfl|hq
    ·exact ih q (ka q (by simp)) (by omega)
    ·exact ih' (λq hq=>ka q (by simp [hq])) (by omega) q hq
  match s,k with
  |.one sg,k =>
   refine ⟨⟨[sg],[a+1],[],[a+1],false⟩,fin _ ?_,?_,by rw [mk]⟩
   ·unfold ue;rw [sd];refine af toR (qx (ag (ifT (by walk_at "x")) (j9 ?_)))
    exact axn (u:=⟨[sg],[a+1],[],[a+1],false⟩) (EVT.qi (PAP.di (ie (c7 rfl) (dz _ _ _) SHD.ix1) EVT.lz) rfl (a0f [sg]) EVT.iw (by simp)) (EVT.qi (PAP.di (c7 rfl) EVT.lz) rfl (jk [a+1]) EVT.iw (by simp)) at5 (EVT.qi (PAP.di (c7 rfl) EVT.lz) rfl (jk [a+1]) EVT.iw (by simp)) (dz _ _ _)
   ·rw [pt];exact ⟨rfl,rfl,λp=>by simp [asb],λp=>by simp [asb],λp q=>by simp [asb],ay _,ay _,aU _⟩
  |.row ps,k =>
   rw [wt] at hw;obtain ⟨us,pu,ws,gs⟩:=a5t (gk (a2l ps)) apk a (by have:=k.1;omega) (kids k.2 hw)
   rw [<-pf] at pu;obtain ⟨u,pu2,w,g⟩:=ags (k:=d+1) (by omega) (by omega) ws.up (by rw [ae1];exact hw)
   refine ⟨u,fin u ?_,by rw [pt];exact w,by rw [g,gs,mk,a2y]⟩
   unfold ue;rw [sd];refine ag (af toR (ifN (by walk_at "x"))) ?_
   exact af toR (qx (ag (ifT (by walk_at "x")) (j9 (qg (a1j (ie (c7 rfl) (dz _ _ _) SHD.ix1) (c7 rfl) (pu [])) (pu2 [])))))
  |.eit ps,k =>
   rw [wt] at hw;obtain ⟨us,pu,ws,gs⟩:=a5t (gk (a2l ps)) apk a (by have:=k.2.1;omega) (kids k.2.2 hw)
   rw [<-pf] at pu;obtain ⟨u,pu2,w,g⟩:=akk (k:=d+1) (by omega) (by omega) ws.up (by rw [ae1];exact hw)
   refine ⟨u,fin u ?_,by rw [pt];exact w,by rw [g,gs,mk,a2y]⟩
   unfold ue;rw [sd];refine ag (af toR (ifN (by walk_at "x"))) ?_
   refine ag (af toR (ifN (by walk_at "x"))) ?_
   exact af toR (qx (ag (ifT (by walk_at "x")) (j9 (qg (a1j (ie (c7 rfl) (dz _ _ _) SHD.ix1) (c7 rfl) (pu [])) (pu2 [])))))
  |.many p,k =>
   rw [wt] at hw;obtain ⟨u,pu,w,g⟩:=ih1 p k hw a;refine ⟨again u,fin _ ?_,by rw [pt];exact ant w,by rw [mk];exact g⟩
   unfold ue;rw [sd];refine ag (af toR (ifN (by walk_at "x"))) ?_
   refine ag (af toR (ifN (by walk_at "x"))) ?_
   refine ag (af toR (ifN (by walk_at "x"))) ?_
   exact af toR (qx (ag (ifT (by walk_at "x")) (j9 (qg (a1j (ie (c7 rfl) (dz _ _ _) SHD.ix1) (c7 rfl) (pu [])) (anr (w.sm (by omega) (by rw [a4y];exact hw)) [])))))
  |.tim p lo hi,k =>
   rw [wt] at hw;have kh:=k.2.1;have wr:wts (List.replicate hi p)<=100:=by rw [<-ae1,a3t,c9,a8w,a4y];exact hw
   obtain ⟨us,pu,ws,gs⟩:=a5t (x:=.rol (sds (List.replicate hi p))) (lq (a2l _)) axt a (by rw [cX];omega) (kids (λq hq=>by rw [eW hq];exact k.2.2) wr)
   rw [<-pf] at pu;rw [a3t,c9] at ws;obtain ⟨u,pu2,w,g⟩:=anu (k:=d+1) (by omega) (by omega) k.1 ws.up (by rw [a4y];exact hw) (by omega)
   refine ⟨u,fin u ?_,by rw [pt];exact w,by rw [g,gs,mk,c9]⟩
   unfold ue;rw [sd];refine ag (af toR (ifN (by walk_at "x"))) ?_
   refine ag (af toR (ifN (by walk_at "x"))) ?_
   refine ag (af toR (ifN (by walk_at "x"))) ?_
   refine ag (af toR (ifN (by walk_at "x"))) ?_
   have z:sZ (s2 yp (sZ (sA uw (ak (s2 gIx (sV 0) (sC (.int 1))) dq))) (s2 gIx (sV 0) (sC (.int 3)))) [some (.tup [.str "times",sd p,dg lo,dg hi]),some (dg (a+1))] []=.ok (.rol (sds (List.replicate hi p))) []:=by
    have:=EVT.a02 (k:=(hi:Nat)) (f:=sZ (sA uw (ak (s2 gIx (sV 0) (sC (.int 1))) dq))) (g:=s2 gIx (sV 0) (sC (.int 3))) (τ:=[some (.tup [.str "times",sd p,dg lo,dg hi]),some (dg (a+1))]) (h:=[]) (h1:=[]) (h2:=[]) (xs:=[sd p]) (EVT.qi (PAP.di (ie (c7 rfl) (dz _ _ _) SHD.ix1) EVT.lz) rfl (bx (qj p) gq) EVT.iw (by simp)) (ie (c7 rfl) (dz _ _ _) SHD.ix3) rfl (bx (qj p) gq) EVT.iw (by simp;omega) (by omega)
    rw [this,ae2]
    congr 2
    exact b03 hi (sd p)
   exact af toR (j9 (a1j (a1j z (c7 rfl) (pu [])) (ie (c7 rfl) (dz _ _ _) SHD.ix2) (pu2 [])))
end K11
namespace K11
open L2 MI AT HND EVX SPR
open SHD
open PAP hiding di a3a a3u o6 a00 aof
open DRW (wt wts)
open ENG (fl a4t aaf a90)
noncomputable def jw:SF:=km a6s 1
theorem a87{l:List Nat}{n:Nat}{P:Nat->Prop}(hn:n+1<=60)(ll:l.length<=4000)(mem:∀y,y∈l↔P y)(bd:∀y,P y->y<=n):Pu jw 1 [.rol (l.map dg)] (.tup ((fl n (λ_ y=>P y) 0).map dg)):=by
 obtain ⟨ts,fw,srt,m,es⟩:=anl (l:=l) (d:=.rol (l.map dg)) (h:=[]) hn (λy hy=>by have:=bd y ((mem y).mp hy);omega) ll (ak9 _ [])
 have et:ts=fl n (λ_ y=>P y) 0:=aaf fw.nd srt λy=>by
  rw [m,mem];exact ⟨λh=>⟨bd y h,h⟩,λh=>h.2⟩
 rw [et] at es;refine Pu.of rfl ?_ (r:=.ok (.tup ((fl n (λ_ y=>P y) 0).map dg)) []) ?_ (jb (gk (jk _)) EVT.iw) (gk (jk _))
 ·intro y hy;obtain rfl:=aB.mp hy;exact lq (jk _)
 unfold jw;rw [iy];show toR (a6s [some (.rol (l.map dg))] [])=_;unfold a6s;exact af toR (j9 (qg (EVT.anj (h1:=[]) (wj (c7 rfl) es) rfl (jk _) EVT.iw) SHD.qb))
noncomputable abbrev rwF(s:Sh)(p:Nat):List Nat:=fl (wt s) (λ_ q=>(pt s).F 0 p q=true) 0
noncomputable abbrev rwB(s:Sh):List Nat:=fl (wt s) (λ_ q=>(pt s).B 0 q=true) 0
noncomputable abbrev rwE(s:Sh):List Nat:=fl (wt s) (λ_ q=>(q=0/\(pt s).e=true)\/(pt s).E 0 q=true) 0
abbrev tpN(l:List Nat):D:=.tup (l.map dg)
noncomputable abbrev spD(s:Sh):D:=.tup [.tup (.str ""::sgD (mk s)),.tup (tpN (rwB s)::(List.range (wt s)).map λi=>tpN (rwF s (1+i))),tpN (rwE s)]
noncomputable def u9:SF:=km (a0d jw) 4
theorem b04{p q:Nat}{h:Hd}:hEq (dg p) (dg q) h=.ok (.bl (decide (p=q))) h:=by
 by_cases e:p=q
 ·rw [e,a1r rfl,dk rfl]
 ·rw [a1s (λz=>e (Int.ofNat_inj.mp z)),br e]
theorem anx{ps:List (Nat×Nat)}{fi:SI}{τ:Sd}{h:Hd}{p:Nat}(e:fi τ h=.ok ⟨ps.map prD,λ_=>True⟩ h)(e2:τ[2]? = some (some (dg p)))(z:ps.length<=1000)(ch:∀u∈h,xj 0 u):sZ (ut fi (tN 2) (zr jw) (a2g jw) [2]) τ h=.ok (.rol (((ps.filter λx=>x.1 == p).map Prod.snd).map dg)) h:=by
 have ff:∀ys:List (Nat×Nat),ys.filterMap (λx=>if x.1=p then some (dg x.2) else none)=((ys.filter λx=>x.1 == p).map Prod.snd).map dg:=λys=>by
  induction ys with
  |nil=>rfl
  |cons y ys ih=>by_cases q:y.1=p<;>simp [q,ih]
 refine EVT.anj (h1:=h) ?_ rfl (jk _) ch;rw [<-ff];refine ac2 prD _ ps e (jf (by omega)) λx hx=>?_
 have fr:frs' [2] τ=[some (dg p)]:=by show [(τ[2]?).join]=_;rw [e2];rfl
 rw [fr];have tn:tN 2 (prD x)=some [some (dg x.1),some (dg x.2)]:=rfl;unfold ab6;rw [tn];dsimp only;rw [show [some (dg x.1),some (dg x.2)]++[some (dg p)]=[some (dg x.1),some (dg x.2),some (dg p)] from rfl]
 have t:(zr jw) [some (dg x.1),some (dg x.2),some (dg p)] h=.ok (decide (x.1=p)) h:=tof (ie (c7 rfl) (c7 rfl) b04);rw [t,fu]
 by_cases q:x.1=p
 ·rw [dk q,aC rfl,aC q];rfl
 ·rw [br q,aQ (by simp),aQ q]
theorem at6{s:Sh}{k:Nat}{u:Pa}(hk:k<=9)(hw:wt s<=10)(w:PW k (pt s) 0 u)(g:u.sg=mk s):Pu u9 1 [pd u] (spD s):=by
 have o:=a8f s;have lp:u.ps.length<=1000:=by
  have:=w.lp
  rw [a4y] at this;have:k*(wt s*wt s)<=9*(10*10):=cU hk (cU hw hw);omega
 have ls:=w.ll;have lf:=w.lf;rw [a4y] at ls lf;have B:=a87 (n:=wt s) (P:=λq=>(pt s).B 0 q=true) (l:=u.fs) (by omega) (by omega) w.f λy h=>by have:=(o.b 0 y h).2;rw [a4y] at this;omega
 have N:∀p,Pu jw 1 [.rol (((u.ps.filter λx=>x.1 == p).map Prod.snd).map dg)] (tpN (rwF s p)):=λp=>a87 (by omega) (by rw [ax];exact bG (List.length_filter_le _ _) (by omega)) (λy=>by
  rw [<-w.s];simp only [c8,cV,eB]
  constructor
  ·rintro ⟨⟨a,b⟩,⟨h1,h2⟩,rfl⟩;cases h2;exact h1
  ·intro h;exact ⟨(p,y),⟨h,rfl⟩,rfl⟩) λy h=>by have:=(o.f 0 p y h).2.2;rw [a4y] at this;omega
 have E:Pu jw 1 [.rol ((if u.e then u.ls++[0] else u.ls).map dg)] (tpN (rwE s)):=a87 (by omega) (by cases u.e<;>simp<;>omega) (λy=>by
  have h1:=w.l y;have h2:=w.e;rw [<-h2]
  cases u.e<;>simp [h1,or_comm]) λy h=>by
   rcases h with ⟨rfl,_⟩|h
   ·omega
   ·have:=(o.e 0 y h).2;rw [a4y] at this;omega
 have cr:∀(a:Nat) (l:List Nat),clos 0 (tpN (rwB s)::l.map λi=>tpN (rwF s (a+i))):=λa l=>bx (gk (jk _)) (gf λ_ _=>gk (jk _));have cs:clos 0 (.str ""::sgD (mk s)):=bx (gj _) (a0f _);have cd:MI.clo 0 (spD s):=gk (bx (gk cs) (bx (gk (cr 1 _)) (bx (gk (jk _)) gq)));refine Pu.of rfl (azz u) (r:=.ok (spD s) [.lst (tpN (rwB s)::(List.range (wt s)).map λi=>tpN (rwF s (1+i)))]) ?_ (jb cd (by simp)) cd
 unfold u9;rw [iy];show toR (a0d jw [some (pd u),none,none,none] [])=_;unfold a0d;refine ag (af toR (lw (h1:=[.lst [tpN (rwB s)]]) (d:=.ref 0) (qg (qg (wj (c7 rfl) a4w) (B [])) rfl))) ?_;have sl:∀h,a2p [.rol (sgD u.sg)] h=.ok (dg (wt s)) h:=λh=>by rw [EVT.yq,ax,w.n,a4y]
 have it:=adi (a:=1) (n:=wt s+1) (g:=sC (.int 1)) (f:=s2 iu (sA a2p (ak (s1 (qw "Patch" "signs") (sV 0)) dq)) (sC (.int 1))) (τ:=[some (pd u),some (.ref 0),none,none]) (h:=[.lst [tpN (rwB s)]]) (dz _ _ _) (ie (qg (wj (c7 rfl) a6g) (sl _)) (dz _ _ _) (DRW.ah0 (a:=wt s) (b:=1))) (jf (by omega)) (jf (by omega))
 refine ag (af toR (a3q it)) ?_;obtain ⟨τ',h',e,⟨t2,rfl⟩,rfl⟩:=a08 (g:=kN 2) (b:=a2h jw) (λi:Nat=>D.int ((1+i:Nat))) (λpre τ h=>(∃t2:Option D,τ=[some (pd u),some (.ref 0),t2,none])/\h=[.lst (tpN (rwB s)::pre.map λi=>tpN (rwF s (1+i)))]) (List.range (wt s+1-1)) [some (pd u),some (.ref 0),none,none] [.lst [tpN (rwB s)]]
  (by
   rintro pre q post τ h al ⟨⟨t2,rfl⟩,rfl⟩
   have pl:pre.length<=20:=by
    have:=af List.length al
    rw [ar,bF] at this;omega
   refine ⟨[some (pd u),some (.ref 0),some (dg (1+q)),none],_,rfl,_,_,a6e (c7 rfl) rfl (PAP.di (qg (anx (p:=1+q) (a8e (wj (c7 rfl) a94) rfl) rfl lp ?_) (N (1+q) _)) EVT.lz) (af5 rfl ?_),⟨_,rfl⟩,?_⟩
   ·intro o ho;obtain rfl:=aB.mp ho;exact cr 1 pre
   ·have:=jf (n:=pre.length+2) (by omega)
    rw [aF,ax];omega
   ·show [O.lst ((tpN (rwB s)::pre.map λi=>tpN (rwF s (1+i)))++[tpN (rwF s (1+q))])]=_;rw [bB];rfl)
  ⟨⟨_,rfl⟩,rfl⟩
 rw [gF] at e;refine ag (af (λz=>toR (MI.thn z _)) e) ?_;have ch:∀o∈[O.lst (tpN (rwB s)::(List.range (wt s)).map λi=>tpN (rwF s (1+i)))],xj 0 o:=λo ho=>by obtain rfl:=aB.mp ho;exact cr 1 _
 generalize hH:[O.lst (tpN (rwB s)::(List.range (wt s)).map λi=>tpN (rwF s (1+i)))]=H at ch
 have zl:aed (a1n (s1 (qw "Patch" "empty") (sV 0))) (sZ (s2 iu (s1 (qw "Patch" "lasts") (sV 0)) (sZ (sA uw (ak (sC (.int 0)) dq))))) (s1 (qw "Patch" "lasts") (sV 0)) [some (pd u),some (.ref 0),t2,none] H=.ok (.rol ((if u.e then u.ls++[0] else u.ls).map dg)) H:=by
  refine at4 (o7 (wj (c7 rfl) a95) (j6 _)) ?_ (wj (c7 rfl) a3i);rw [bB];exact EVT.uv (wj (c7 rfl) a3i) (EVT.qi (PAP.di (dz _ _ _) EVT.lz) rfl (jk [0]) ch (by simp)) rfl (jk _) (jk [0]) ch (by rw [ax];show u.ls.length+1<=_;omega)
 refine ag (af toR (lw zl)) ?_;have zs:∀t3,sZ (s2 iu (sZ (sA uw (ak (sC (.str "")) dq))) (s1 (qw "Patch" "signs") (sV 0))) [some (pd u),some (.ref 0),t2,t3] H=.ok (.rol (.str ""::sgD (mk s))) H:=λt3=>by
  rw [<-g];exact EVT.uv (xs:=[.str ""]) (EVT.qi (PAP.di (dz _ _ _) EVT.lz) rfl (bx (gj _) gq) ch (by simp)) (wj (c7 rfl) a6g) rfl (bx (gj _) gq) (a0f _) ch (by rw [ax,w.n,a4y];show 1+wt s<=_;omega)
 have gt:qy [.ref 0] H=.ok (.tup (tpN (rwB s)::(List.range (wt s)).map λi=>tpN (rwF s (1+i)))) H:=by rw [<-hH];rfl
 exact af toR (j9 (PAP.aof (PAP.di (qg (zs _) SHD.qb) (PAP.di (qg (c7 rfl) gt) (PAP.di (qg (c7 rfl) (E H)) EVT.lz))) ac6))
end K11
namespace K11
open L2 MI AT HND EVX SPR
open SHD
open PAP hiding di a3a a3u o6 a00 aof
open DRW (wt wts)
open ENG (fl a4t aaf a90)
noncomputable def p7:Nat->SF
 |0=>λ_ _=>.no
 |n+1=>km (a4i ENG.v6 (p7 n)) 2
theorem a97{tg:List Nat}:∀(d n:Nat),d<=n->∀s,a3s tg d s->Pu (p7 n) 1 [sd s] (dg (wt s))
 |0,_,_,_,k=>k.elim
 |d+1,0,h,_,_=>absurd h (by omega)
 |d+1,n+1,h,s,k=>by
  have ih:=a97 (tg:=tg) d n (by omega)
  refine Pu.of rfl (by simp [qj]) (r:=.ok (dg (wt s)) []) ?_ (jb (du _) (by simp)) (du _)
  show km (a4i ENG.v6 (p7 n)) 2 [sd s] []=_;rw [iy];show toR (a4i ENG.v6 (p7 n) [some (sd s),none] [])=_;unfold a4i;have sm:sA aif (ak (sZ (a5i (sIt (sA (je false 1 ENG.v6) (ak (sV 0) dq))) MI.t1 (a1g ENG.v6 (p7 n)) [])) dq) [some (sd s),none] []=.ok (dg (wts (ENG.kids s))) []:=by
   obtain ⟨kl,kk⟩:=ENG.ass k;have z:sZ (a5i (sIt (sA (je false 1 ENG.v6) (ak (sV 0) dq))) MI.t1 (a1g ENG.v6 (p7 n)) []) [some (sd s),none] []=.ok (.rol (((ENG.kids s).map λs=>(wt s:Int)).map D.int)) []:=by
    refine am9 ?_ (gf λ_ _=>du _) (by simp)
    rw [e8];refine a80 sd (λs=>D.int (wt s:Int)) (ENG.kids s) (a8e (qg (c7 rfl) (ENG.anm s [])) rfl) (jf (by omega)) λp hp=>?_
    rw [adk];unfold a1g;exact qg (c7 rfl) (ih p (kk p hp) [])
   refine qg z ?_;unfold aif;simp only [SRC.ints_map,DRW.adz]
  match s,k with
  |.one sg,k =>
   rw [sd,wt];exact af toR (qx (ag (ifT (by walk_at "x")) (j9 (dz _ _ _))))
  |.row ps,k =>
   rw [sd] at *;rw [wt];refine ag (af toR (ifN (by walk_at "x"))) ?_
   refine ag (af toR (lw sm)) ?_;refine ag (af toR (ifN (by walk_at "x"))) ?_
   exact af toR (j9 (c7 rfl))
  |.eit ps,k =>
   rw [sd] at *;rw [wt];refine ag (af toR (ifN (by walk_at "x"))) ?_
   refine ag (af toR (lw sm)) ?_;refine ag (af toR (ifN (by walk_at "x"))) ?_
   exact af toR (j9 (c7 rfl))
  |.many p,k =>
   rw [sd] at *;rw [wt];refine ag (af toR (ifN (by walk_at "x"))) ?_
   refine ag (af toR (lw sm)) ?_;refine ag (af toR (ifN (by walk_at "x"))) ?_
   rw [show wts (ENG.kids (.many p))=wt p by rw [ENG.kids,wts,wts];rfl]
   exact af toR (j9 (c7 rfl))
  |.tim p lo hi,k =>
   rw [sd] at *;rw [wt];refine ag (af toR (ifN (by walk_at "x"))) ?_
   refine ag (af toR (lw sm)) ?_;rw [show wts (ENG.kids (.tim p lo hi))=wt p by rw [ENG.kids,wts,wts];rfl]
   refine af toR (qx (ag (ifT (by walk_at "x")) (j9 (ie (ie (c7 rfl) (dz _ _ _) SHD.ix3) (c7 rfl) ?_))))
   have h4:=k.2.1;exact a3h.trans ((aC (.inl ⟨by omega,by omega⟩)).trans (by rw [<-i5]))
noncomputable def qp:SF:=km (a4j (j5 10) u9 (p7 5)) 1
theorem b1c{a b:Nat}{h:Hd}:gGt (dg a) (dg b) h=.ok (.bl (decide (b<a))) h:=by
 show R.ok (D.bl (decide ((b:Int)<(a:Int)))) h=_
 congr 2
 exact decide_eq_decide.mpr Int.ofNat_lt
theorem a98{tg:List Nat}{d:Nat}{s:Sh}(k:a3s tg d s)(h5:d<=5):(10<wt s->∃h,qp [sd s] []=.ex "TooHeavy" h)/\(wt s<=10->qp [sd s] []=.ok (spD s) []):=by
 have e:qp [sd s] []=toR (a4j (j5 10) u9 (p7 5) [some (sd s)] []):=by
  unfold qp;rw [iy];rfl
 have c:sT (s2 gGt (sA (je false 1 (p7 5)) (ak (sV 0) dq)) (sC (.int 10))) [some (sd s)] []=.ok (decide (10<wt s)) []:=tof (ie (qg (c7 rfl) (a97 d 5 h5 s k [])) (dz _ _ _) (b1c (b:=10)))
 constructor
 ·intro hw
  rw [dk hw] at c;refine ⟨[],?_⟩;rw [e];unfold a4j;rw [vo,ifT c];rfl
 ·intro hw
  rw [br (by omega)] at c
  rw [e];unfold a4j;obtain ⟨u,pu,w,g⟩:=aan d 10 (by omega) (by omega) s k (by omega) 0
  refine ag (af toR (ifN c)) ?_;exact af toR (j9 (qg (a1j (c7 rfl) (dz _ _ _) (pu [])) (at6 (by omega) hw w g [])))
end K11
namespace K11
open L2 MI AT HND EVX SPR
open SHD
open PAP hiding di a3a a3u o6 a00 aof
open DRW (wt wts)
open ENG (fl a4t aaf a90)
theorem at7{w:Nat}{Q:Nat->Bool}{R:Nat->Prop}(m:∀y,R y↔0<y/\y<=w/\Q y=true):((List.range w).filter λi=>Q (1+i)).map (1+·)=fl w (λ_ y=>R y) 0:=by
 refine aaf ?_ ?_ λy=>?_
 ·exact List.Pairwise.map _ (λa b h=>by omega) (eK _ List.nodup_range)
 ·exact List.Pairwise.map _ (λa b h=>by omega) (eK _ fB)
 ·rw [m];simp only [c8,cV,dM]
  constructor
  ·rintro ⟨i,⟨h1,h2⟩,rfl⟩;exact ⟨by omega,by omega,by omega,h2⟩
  ·rintro ⟨h1,h2,h3,h4⟩;exact ⟨y-1,⟨by omega,by rw [show 1+(y-1)=y by omega];exact h4⟩,by omega⟩
theorem ae5{w:Nat}{Q:Nat->Bool}{c:ST}{fe f:SE}{ix:List Nat}{τ:Sd}{h:Hd}(e:f τ h=.ok (dg (w+1)) h)(hw:w<=100)(ch:∀u∈h,xj 0 u)
  (st:∀p:Nat,c (some (dg p)::frs' ix τ) h=.ok (Q p) h) (sf:∀p:Nat,fe (some (dg p)::frs' ix τ) h=.ok (dg p) h):sZ (ut (sRg a5h (ak (sC (.int 1)) (ak f dq))) MI.t1 c fe ix) τ h=.ok (.rol ((((List.range w).filter λi=>Q (1+i)).map (1+·)).map dg)) h:=by
 rw [e8];have it:=adi (a:=1) (n:=w+1) (g:=sC (.int 1)) (f:=f) (τ:=τ) (h:=h) (dz _ _ _) e (jf (by omega)) (jf (by omega))
 rw [gF] at it;exact a92 (λi:Nat=>dg (1+i)) (λi=>Q (1+i)) (List.range w) it (by rw [bF];omega) (λ_ _=>du _) ch (λi _=>st (1+i)) λi _=>sf (1+i)
theorem axu{τ:Sd}{h:Hd}{g:SS}:MI.thn (.nx τ h) g=g τ h:=rfl
noncomputable def a03:SF:=km (a4l (bj 5) (aq 5) (bu 5) (bw 5) (dj 5) (DRW.aj 5)) 5
theorem axv{tg:List Nat}{d:Nat}{s:Sh}(k:a3s tg d s)(h5:d<=5)(hw:wt s<=10):Pu a03 1 [sd s] (spD s):=by
 have o:=a8f s;have pB:((List.range (wt s)).filter λi=>(pt s).B 0 (1+i)).map (1+·)=rwB s:=at7 λy=>⟨λh=>by have:=o.b 0 y h;rw [a4y] at this;exact ⟨this.1,by omega,h⟩,λh=>h.2.2⟩
 have pF:∀p,((List.range (wt s)).filter λi=>(pt s).F 0 p (1+i)).map (1+·)=rwF s p:=λp=>at7 λy=>⟨λh=>by have:=(o.f 0 p y h).2;rw [a4y] at this;exact ⟨this.1,by omega,h⟩,λh=>h.2.2⟩
 have pE:((List.range (wt s)).filter λi=>(pt s).E 0 (1+i)).map (1+·)=fl (wt s) (λ_ q=>(pt s).E 0 q=true) 0:=at7 λy=>⟨λh=>by have:=o.e 0 y h;rw [a4y] at this;exact ⟨this.1,by omega,h⟩,λh=>h.2.2⟩
 have pE':(if (pt s).e=true then [0]++fl (wt s) (λ_ q=>(pt s).E 0 q=true) 0 else fl (wt s) (λ_ q=>(pt s).E 0 q=true) 0)=rwE s:=by
  have n0:∀y,y∈fl (wt s) (λ_ q=>(pt s).E 0 q=true) 0->0<y:=λy h=>(o.e 0 y (a4t.mp h).2).1
  cases ee:(pt s).e with
  |false =>
   rw [aQ (by simp)]
   exact ENG.asq λe _=>by rw [ee];simp
  |true =>
   rw [aC rfl];refine aaf (dR.mpr ⟨λh=>absurd (n0 0 h) (by omega),ENG.asp⟩) (gC.mpr ⟨λy _=>aU y,ENG.adw⟩) λy=>?_
   rw [fL,aD,a4t,ee]
   constructor
   ·rintro (rfl|⟨h1,h2⟩)
    ·exact ⟨aU _,.inl ⟨rfl,rfl⟩⟩
    ·exact ⟨h1,.inr h2⟩
   ·rintro ⟨h1,⟨rfl,_⟩|h2⟩
    ·exact .inl rfl
    ·exact .inr ⟨h1,h2⟩
 have cr:∀l:List Nat,clos 0 (tpN (rwB s)::l.map λi=>tpN (rwF s (1+i))):=λl=>bx (gk (jk _)) (gf λ_ _=>gk (jk _));have cs:clos 0 (.str ""::sgD (mk s)):=bx (gj _) (a0f _);have cd:MI.clo 0 (spD s):=gk (bx (gk cs) (bx (gk (cr _)) (bx (gk (jk _)) gq)));have cB:=λa p=>a83 d 5 h5 h5 s k a p;have cE:=λa p=>ae4 d 5 h5 h5 s k a p;have cF:=λa p q=>a93 d 5 h5 h5 s k a p q;have cM:=afh d 5 h5 s k (by omega)
 have cW:=DRW.wz d 5 h5 s k;have c0:=a4u d 5 h5 h5 s k;refine Pu.of rfl (by simp [qj]) (r:=.ok (spD s) [.lst (tpN (rwB s)::(List.range (wt s)).map λi=>tpN (rwF s (1+i)))]) ?_ (jb cd (by simp)) cd
 unfold a03;rw [iy];show toR (a4l (bj 5) (aq 5) (bu 5) (bw 5) (dj 5) (DRW.aj 5) [some (sd s),none,none,none,none] [])=_;unfold a4l;refine ag (af toR (lw (qg (c7 rfl) (cW [])))) ?_;have zB:=ae5 (w:=wt s) (Q:=λp=>(pt s).B 0 p) (c:=a67 (bj 5) (aq 5) (bu 5) (bw 5) (dj 5) (DRW.aj 5)) (fe:=a66 (bj 5) (aq 5) (bu 5) (bw 5) (dj 5) (DRW.aj 5)) (f:=s2 iu (sV 1) (sC (.int 1))) (ix:=[0]) (τ:=[some (sd s),some (dg (wt s)),none,none,none]) (h:=[]) (ie (c7 rfl) (dz _ _ _) (DRW.ah0 (a:=wt s) (b:=1))) (by omega) EVT.iw (λp=>o7 (ang (c7 rfl) (dz _ _ _) (c7 rfl) (cB 0 p [])) (j6 _)) (λp=>c7 rfl)
 rw [pB] at zB;refine ag (af toR (lw (h1:=[.lst [tpN (rwB s)]]) (d:=.ref 0) (qg (qg zB SHD.qb) rfl))) ?_;have it:=adi (a:=1) (n:=wt s+1) (g:=sC (.int 1)) (f:=s2 iu (sV 1) (sC (.int 1))) (τ:=[some (sd s),some (dg (wt s)),some (.ref 0),none,none]) (h:=[.lst [tpN (rwB s)]]) (dz _ _ _) (ie (c7 rfl) (dz _ _ _) (DRW.ah0 (a:=wt s) (b:=1))) (jf (by omega)) (jf (by omega))
 refine ag (af toR (a3q it)) ?_;obtain ⟨τ',h',e,⟨t3,rfl⟩,rfl⟩:=a08 (g:=kN 3) (b:=a6a (bj 5) (aq 5) (bu 5) (bw 5) (dj 5) (DRW.aj 5)) (λi:Nat=>D.int ((1+i:Nat))) (λpre τ h=>(∃t3:Option D,τ=[some (sd s),some (dg (wt s)),some (.ref 0),t3,none])/\h=[.lst (tpN (rwB s)::pre.map λi=>tpN (rwF s (1+i)))]) (List.range (wt s+1-1)) [some (sd s),some (dg (wt s)),some (.ref 0),none,none] [.lst [tpN (rwB s)]]
  (by
   rintro pre q post τ h al ⟨⟨t3,rfl⟩,rfl⟩
   have pl:pre.length<=20:=by
    have:=af List.length al
    rw [ar,bF] at this;omega
   have ch:∀o∈[O.lst (tpN (rwB s)::pre.map λi=>tpN (rwF s (1+i)))],xj 0 o:=λo ho=>by obtain rfl:=aB.mp ho;exact cr pre
   have zF:=ae5 (w:=wt s) (Q:=λp=>(pt s).F 0 (1+q) p) (c:=a69 (bj 5) (aq 5) (bu 5) (bw 5) (dj 5) (DRW.aj 5)) (fe:=a68 (bj 5) (aq 5) (bu 5) (bw 5) (dj 5) (DRW.aj 5)) (f:=s2 iu (sV 1) (sC (.int 1))) (ix:=[0,3]) (τ:=[some (sd s),some (dg (wt s)),some (.ref 0),some (dg (1+q)),none]) (h:=[O.lst (tpN (rwB s)::pre.map λi=>tpN (rwF s (1+i)))]) (ie (c7 rfl) (dz _ _ _) (DRW.ah0 (a:=wt s) (b:=1))) (by omega) ch (λp=>o7 (PAP.aof (PAP.di (c7 rfl) (PAP.di (dz _ _ _) (PAP.di (c7 rfl) (PAP.di (c7 rfl) EVT.lz)))) (cF 0 (1+q) p _)) (j6 _)) (λp=>c7 rfl)
   rw [pF] at zF;refine ⟨[some (sd s),some (dg (wt s)),some (.ref 0),some (dg (1+q)),none],_,rfl,_,_,a6e (c7 rfl) rfl (PAP.di (qg zF SHD.qb) EVT.lz) (af5 rfl ?_),⟨_,rfl⟩,?_⟩
   ·have:=jf (n:=pre.length+2) (by omega)
    rw [aF,ax];omega
   ·show [O.lst ((tpN (rwB s)::pre.map λi=>tpN (rwF s (1+i)))++[tpN (rwF s (1+q))])]=_;rw [bB];rfl)
  ⟨⟨_,rfl⟩,rfl⟩
 rw [gF] at e;refine ag (af (λz=>toR (MI.thn z _)) e) ?_;have ch:∀o∈[O.lst (tpN (rwB s)::(List.range (wt s)).map λi=>tpN (rwF s (1+i)))],xj 0 o:=λo ho=>by obtain rfl:=aB.mp ho;exact cr _
 generalize hH:[O.lst (tpN (rwB s)::(List.range (wt s)).map λi=>tpN (rwF s (1+i)))]=H at ch
 have zE:=ae5 (w:=wt s) (Q:=λp=>(pt s).E 0 p) (c:=a6c (bj 5) (aq 5) (bu 5) (bw 5) (dj 5) (DRW.aj 5)) (fe:=a6b (bj 5) (aq 5) (bu 5) (bw 5) (dj 5) (DRW.aj 5)) (f:=s2 iu (sV 1) (sC (.int 1))) (ix:=[0]) (τ:=[some (sd s),some (dg (wt s)),some (.ref 0),t3,none]) (h:=H) (ie (c7 rfl) (dz _ _ _) (DRW.ah0 (a:=wt s) (b:=1))) (by omega) ch (λp=>o7 (ang (c7 rfl) (dz _ _ _) (c7 rfl) (cE 0 p _)) (j6 _)) (λp=>c7 rfl)
 rw [pE] at zE;rw [axu,lw zE];have st:sIf (a1n (sA (je false 1 (aq 5)) (ak (sV 0) dq))) (nu 4 (sZ (s2 iu (sZ (sA uw (ak (sC (.int 0)) dq))) (sV 4)))) sNx [some (sd s),some (dg (wt s)),some (.ref 0),t3,some (.rol ((fl (wt s) (λ_ q=>(pt s).E 0 q=true) 0).map dg))] H=.nx [some (sd s),some (dg (wt s)),some (.ref 0),t3,some (.rol ((rwE s).map dg))] H:=by
  have c:=o7 (qg (c7 rfl) (c0 H)) (j6 (pt s).e) (f:=sA (je false 1 (aq 5)) (ak (sV 0) dq)) (τ:=[some (sd s),some (dg (wt s)),some (.ref 0),t3,some (.rol ((fl (wt s) (λ_ q=>(pt s).E 0 q=true) 0).map dg))]);rw [<-pE']
  cases ee:(pt s).e with
  |false =>
   rw [ee] at c;exact ifF c
  |true =>
   rw [ee] at c;refine ag (ifT c) (b1b ?_);have fll:=a90 (n:=wt s) (a:=0) (R:=λ_ q=>(pt s).E 0 q=true);exact EVT.uv (xs:=[dg 0]) (ys:=(fl (wt s) (λ_ q=>(pt s).E 0 q=true) 0).map dg) (EVT.qi (PAP.di (dz _ _ _) EVT.lz) rfl (jk [0]) ch (by simp)) (c7 rfl) rfl (jk [0]) (jk _) ch (by rw [ax];show 1+_<=_;omega)
 refine ag (af toR (yf st)) ?_;have zs:sZ (s2 iu (sZ (sA uw (ak (sC (.str "")) dq))) (sA (je false 1 (dj 5)) (ak (sV 0) dq))) [some (sd s),some (dg (wt s)),some (.ref 0),t3,some (.rol ((rwE s).map dg))] H=.ok (.rol (.str ""::sgD (mk s))) H :=
  EVT.uv (xs:=[.str ""]) (EVT.qi (PAP.di (dz _ _ _) EVT.lz) rfl (bx (gj _) gq) ch (by simp)) (qg (c7 rfl) (cM H)) rfl (bx (gj _) gq) (a0f _) ch (by rw [ax,a84];show 1+wt s<=_;omega)
 have gt:qy [.ref 0] H=.ok (.tup (tpN (rwB s)::(List.range (wt s)).map λi=>tpN (rwF s (1+i)))) H:=by rw [<-hH];rfl
 exact af toR (j9 (PAP.aof (PAP.di (qg zs SHD.qb) (PAP.di (qg (c7 rfl) gt) (PAP.di (qg (c7 rfl) SHD.qb) EVT.lz))) ac6))
end K11
namespace K11
open L2 MI AT HND EVX SPR
open SHD
open PAP hiding di a3a a3u o6 a00 aof
open DRW (wt wts)
open ENG (fl a4t aaf a90)
theorem at8:∀(n:Nat) (d:D),pur n d=true->eqD d d=true:=by
 intro n
 induction n with
 |zero=>intro d h;cases d<;>first|(simp [eqD];done)|(cases h;done)
 |succ n ih =>
  intro d h
  cases d with
  |tup xs =>
   simp only [pur,bE] at h;simp only [eqD]
   induction xs with
   |nil=>rfl
   |cons x xs ih2 =>
    simp only [abd,aZ];exact ⟨ih x (h x (aR ..)),ih2 λy hy=>h y (aL _ hy)⟩
  |_=>first|(simp [eqD];done)|(cases h;done)
theorem akl(n:Nat)(l:List Nat):pur (n+1) (tpN l)=true:=by
 rw [pur,bE]
 intro x hx
 obtain ⟨y,_,rfl⟩:=c8.mp hx
 cases n<;>rfl
theorem akm(s:Sh):pur 60 (spD s)=true:=by
 have e1:pur 59 (.tup (.str ""::sgD (mk s)))=true:=by
  rw [pur,bE]
  intro x hx
  rcases aD.mp hx with rfl|hx
  ·rfl
  ·obtain ⟨y,_,rfl⟩:=c8.mp hx;rfl
 have e2:pur 59 (.tup (tpN (rwB s)::(List.range (wt s)).map λi=>tpN (rwF s (1+i))))=true:=by
  rw [pur,bE]
  intro x hx
  rcases aD.mp hx with rfl|hx
  ·exact akl 57 _
  ·obtain ⟨y,_,rfl⟩:=c8.mp hx;exact akl 57 _
 rw [pur,dH,e1,dH,e2,dH,akl 58];rfl
theorem akn(h:Hd):ag3 false (.rol []) (.rol []) h=.ok (.bl true) h:=by
 have l1:∀xs,yt (.rol xs) h=some xs:=λ_=>rfl;unfold ag3;rw [l1];simp [abd]
theorem iT{xs:List D}{h:Hd}:a2d [.tup xs,.ty "tuple"] h=.ok (.bl true) h:=by simp [a2d,aqn,tyD,alq]
theorem iI{n:Nat}{h:Hd}:a2d [dg n,.ty "int"] h=.ok (.bl true) h:=by simp [a2d,aqn,tyD,alq]
theorem iB{n:Nat}{h:Hd}:a2d [dg n,.ty "bool"] h=.ok (.bl false) h:=by simp [a2d,aqn,tyD,alq]
theorem iS{s:Str}{h:Hd}:a2d [.str s,.ty "str"] h=.ok (.bl true) h:=by simp [a2d,aqn,tyD,alq]
noncomputable def o9:SF:=km a4k 2
theorem apl{d:D}(c:MI.clo 0 d):∀y∈[d],MI.clo 0 y:=λy hy=>by obtain rfl:=aB.mp hy;exact c
theorem apm(l:List Nat):Pu o9 1 [tpN l] (.bl true):=by
 refine Pu.of rfl (apl (gk (jk _))) (r:=.ok (.bl true) []) ?_ (jb (kj _) EVT.iw) (kj _);unfold o9;rw [iy];show toR (a4k [some (tpN l),none] [])=_;unfold a4k;refine ag (af toR (ifN (a4x (o7 (a1j (c7 rfl) (dz _ _ _) iT) (j6 _))))) ?_;refine ag (af toR (a3q (a8e (c7 rfl) rfl))) ?_;obtain ⟨τ',h',e,⟨t1,rfl⟩,rfl⟩:=a08 (g:=kN 1) (b:=a2i) dg (λ_ τ h=>(∃t1:Option D,τ=[some (tpN l),t1])/\h=[]) l [some (tpN l),none] []
  (by
   rintro pre q post τ h al ⟨⟨t1,rfl⟩,rfl⟩
   refine ⟨[some (tpN l),some (dg q)],[],rfl,_,_,?_,⟨some (dg q),rfl⟩,rfl⟩;unfold a2i;exact ifF (orF (a4x (o7 (a1j (c7 rfl) (dz _ _ _) iI) (j6 _))) (o7 (a1j (c7 rfl) (dz _ _ _) iB) (j6 _))))
  ⟨⟨_,rfl⟩,rfl⟩
 refine ag (af (λz=>toR (MI.thn z _)) e) ?_;exact af toR (j9 (dz _ _ _))
noncomputable def jo:SF:=km a1i 1
theorem anz(l:List (List Nat))(z:l.length<=500):Pu jo 1 [.tup (.str ""::sgD l)] (.bl true):=by
 have cl:clos 0 (.str ""::sgD l):=bx (gj _) (a0f _);refine Pu.of rfl (apl (gk cl)) (r:=.ok (.bl true) []) ?_ (jb (kj _) EVT.iw) (kj _);unfold jo;rw [iy];show toR (a1i [some (.tup (.str ""::sgD l))] [])=_;unfold a1i;have f:=a92 (λx:D=>x) (λ_=>false) (.str ""::sgD l) (fi:=sIt (sV 0)) (c:=a3g) (fe:=a3f) (ix:=[]) (τ:=[some (.tup (.str ""::sgD l))]) (h:=[]) (by rw [List.map_id'];exact a8e (c7 rfl) rfl) (by rw [aF,ax];omega) (λx hx=>jr.mp cl x hx) EVT.iw (λx hx=>by
   obtain ⟨s,rfl⟩:∃s,x=.str s:=by
    rcases aD.mp hx with rfl|hx
    ·exact ⟨_,rfl⟩
    ·obtain ⟨y,_,rfl⟩:=c8.mp hx;exact ⟨_,rfl⟩
   exact a4x (o7 (a1j (c7 rfl) (dz _ _ _) iS) (j6 _))) (λx _=>c7 rfl)
 have e0:(List.filter (λ_:D=>false) (.str ""::sgD l)).map (λx=>x)=[]:=by simp
 rw [e0] at f;exact af toR (j9 (ak3 (a1j (c7 rfl) (dz _ _ _) iT) (ie f at5 (akn []))))
noncomputable def uc:SF:=km (a0e o9 jo) 1
theorem ako(s:Sh):MI.clo 0 (spD s):=gk (bx (gk (bx (gj _) (a0f _))) (bx (gk (bx (gk (jk _)) (gf λ_ _=>gk (jk _)))) (bx (gk (jk _)) gq)))
theorem akp{s:Sh}(hw:wt s<=10):Pu uc 1 [spD s] (.bl true):=by
 refine Pu.of rfl (apl (ako s)) (r:=.ok (.bl true) []) ?_ (jb (kj _) EVT.iw) (kj _);unfold uc;rw [iy];show toR (a0e o9 jo [some (spD s)] [])=_;unfold a0e;have cr:clos 0 (tpN (rwB s)::(List.range (wt s)).map λi=>tpN (rwF s (1+i))):=bx (gk (jk _)) (gf λ_ _=>gk (jk _));refine ag (af toR (ifN (orF (a4x (o7 (a1j (c7 rfl) (dz _ _ _) iT) (j6 _))) (tof (ie (qg (c7 rfl) EVT.a01) (dz _ _ _) (a3r rfl)))))) ?_;refine ag (af toR (ifN (orF (a4x (o7 (qg (ie (c7 rfl) (dz _ _ _) SHD.ix0) (anz (mk s) (by rw [a84];omega) [])) (j6 _))) (orF (a4x (o7 (qg (ie (c7 rfl) (dz _ _ _) SHD.ix2) (apm _ [])) (j6 _))) (a4x (o7 (a1j (ie (c7 rfl) (dz _ _ _) SHD.ix1) (dz _ _ _) iT) (j6 _))))))) ?_
 have f:=a92 (λx:D=>x) (λ_=>false) (tpN (rwB s)::(List.range (wt s)).map λi=>tpN (rwF s (1+i))) (fi:=sIt (s2 gIx (sV 0) (sC (.int 1)))) (c:=a2k o9 jo) (fe:=a2j o9 jo) (ix:=[]) (τ:=[some (spD s)]) (h:=[]) (by rw [List.map_id'];exact a8e (ie (c7 rfl) (dz _ _ _) SHD.ix1) rfl) (by rw [aF,ax,bF];omega) (λx hx=>jr.mp cr x hx) EVT.iw (λx hx=>by
   obtain ⟨l,rfl⟩:∃l,x=tpN l:=by
    rcases aD.mp hx with rfl|hx
    ·exact ⟨_,rfl⟩
    ·obtain ⟨y,_,rfl⟩:=c8.mp hx;exact ⟨_,rfl⟩
   exact a4x (o7 (qg (c7 rfl) (apm l [])) (j6 _))) (λx _=>c7 rfl)
 have e0:(List.filter (λ_:D=>false) (tpN (rwB s)::(List.range (wt s)).map λi=>tpN (rwF s (1+i)))).map (λx=>x)=[]:=by simp
 rw [e0] at f;exact af toR (j9 (ie f at5 (akn [])))
noncomputable def qt:SF:=km (yx qp) 3
theorem agt{tg:List Nat}{d:Nat}{s:Sh}(k:a3s tg d s)(h5:d<=5)(hw:10<wt s):Pu qt 1 [sd s] (.bl true):=by
 obtain ⟨h1,ex⟩:=(a98 k h5).1 hw;refine Pu.of rfl (apl (qj s)) (r:=.ok (.bl true) []) ?_ (jb (kj _) EVT.iw) (kj _);unfold qt;rw [iy];show toR (yx qp [some (sd s),none,none] [])=_;unfold yx;rw [lw (dz _ _ _)];have x1:yr (sA (a7m 1 qp) (qA (ak (sV 0) dq))) [some (sd s),some (.bl false),none] []=.ex "TooHeavy" []:=axf ((b31 (qof (PAP.di (c7 rfl) EVT.lz))).trans (asm rfl (apl (qj s)) ex));have x2:iz (nu 1 (a0y (agx 2 a2v) (agx 2 a0b))) (sIf (a1n (agx 2 j8)) agw sNx) [some (sd s),some (.bl false),some (.exc "TooHeavy")] []=.nx [some (sd s),some (.bl true),some (.exc "TooHeavy")] []:=by
  refine ag (lw (ak3 (aso rfl (aC rfl)) (aso rfl (aC rfl)))) ?_;exact ifF (o7 (aso rfl (aC rfl)) (j6 _))
 refine ag (af toR (yf (axe x1 (dk rfl) x2))) ?_;exact af toR (j9 (c7 rfl))
noncomputable def qd:SF:=km (a2x a03 uc qt (DRW.aj 5) qp) 2
theorem ae6{tg:List Nat}{d:Nat}{s:Sh}(k:a3s tg d s)(h5:d<=5):Pu qd 1 [sd s] (.bl true):=by
 refine Pu.of rfl (apl (qj s)) (r:=.ok (.bl true) []) ?_ (jb (kj _) EVT.iw) (kj _);unfold qd;rw [iy];show toR (a2x a03 uc qt (DRW.aj 5) qp [some (sd s),none] [])=_;unfold a2x;have c:sT (s2 gGt (sA (je false 1 (DRW.aj 5)) (ak (sV 0) dq)) (sC (.int 10))) [some (sd s),none] []=.ok (decide (10<wt s)) []:=tof (ie (qg (c7 rfl) (DRW.wz d 5 h5 s k [])) (dz _ _ _) (b1c (b:=10)))
 by_cases hw:10<wt s
 ·rw [dk hw] at c;exact af toR (qx (ag (ifT c) (j9 (qg (c7 rfl) (agt k h5 hw [])))))
 ·have hw':wt s<=10:=by omega
  rw [br hw] at c;refine ag (af toR (ifN c)) ?_;have er:=(a98 k h5).2 hw';have ps:Pu qp 1 [sd s] (spD s):=Pu.of rfl (apl (qj s)) er (jb (ako s) EVT.iw) (ako s);refine ag (af toR (lw (qg (c7 rfl) (asn (apl (qj s)) er ps)))) ?_;refine af toR (j9 (ak3 (qg (c7 rfl) (akp hw' [])) (ie (c7 rfl) (qg (c7 rfl) (axv k h5 hw' [])) ?_)));unfold hEq;rw [aC ⟨akm s,akm s⟩,at8 60 _ (akm s)]
end K11
namespace K11
open L2 MI AT HND EVX SPR
open SHD
open PAP hiding di a3a a3u o6 a00 aof
open DRW (wt wts dw)
open ENG (fl a4t aaf a90)
noncomputable def ao0:SF:=km (an8 SRC.cz (DRW.gw 5) SRC.jy qd SRC.mj) 7
theorem axw(ns:List Int):∃h',ao0 [.scr (ns.map D.int)] []=.ok (.bl true) h':=by
 obtain ⟨o,P,es⟩:=SRC.ak5 ns [];obtain ⟨r,o1,e1,rb,P1⟩:=dw (m:=5) P (by omega) (by decide) (by decide)
 obtain ⟨m,hm,gm⟩:∃m:Nat,m<=40/\∀h,gIx (.tup [.int 10,.int 10,.int 10,.int 10,.int 40]) (dg r) h=.ok (dg m) h:=by
  have:r=0\/r=1\/r=2\/r=3\/r=4:=by omega
  rcases this with rfl|rfl|rfl|rfl|rfl
  ·exact ⟨10,by omega,λh=>agz rfl⟩
  ·exact ⟨10,by omega,λh=>agz rfl⟩
  ·exact ⟨10,by omega,λh=>agz rfl⟩
  ·exact ⟨10,by omega,λh=>agz rfl⟩
  ·exact ⟨40,by omega,λh=>agz rfl⟩
 obtain ⟨tg,o2,T,e2,P2⟩:=SRC.ak6 P1 (by omega)
 obtain ⟨t1,t6,nd⟩:1<=tg.length/\tg.length<=6/\tg.Nodup:=⟨T.lo,T.hi,T.nd⟩;have b5:bnd 5=3361400:=by decide
 obtain ⟨s1,o3,k1,w1,_,d1,P3⟩:=DRW.aag t1 t6 nd 4 4 (by omega) (by omega) o2 _ 10 24 P2 (by rw [b5];omega) (by omega)
 obtain ⟨r2,o4,e4,rb2,P4⟩:=dw (m:=5) P3 (by rw [b5];omega) (by decide) (by decide)
 have bd:=apc (d:=r2+1) (e:=5) (by omega)
 rw [b5] at bd;obtain ⟨s2,o5,k2,w2,_,d2,P5⟩:=DRW.aag t1 t6 nd r2 4 (by omega) (by omega) o4 _ m 24 P4 (by rw [b5];omega) (by omega)
 have nl:∀H:Hd,MI.uw [.int 24] H=.ok (.ref H.length) (H++[.lst [.int 24]]):=λH=>aC (jf (by simp))
 have ea:=d1 0 1 [o2,.lst [.int 24]] (by omega) rfl rfl
 have eb:=d2 0 2 [o4,.lst [.int (24-DRW.pn s1)],.lst [.int 24]] (by omega) rfl rfl
 let H:Hd:=[o5,.lst [.int (24-DRW.pn s1)],.lst [.int (24-DRW.pn s2)]]
 have tl:∀s∈[s1,s2,s1],Pu qd 1 [sd s] (.bl true):=λs hs=>by
  simp only [aD,bg,eh] at hs
  rcases hs with rfl|rfl|rfl
  ·exact ae6 k1 (by omega)
  ·exact ae6 k2 (by omega)
  ·exact ae6 k1 (by omega)
 obtain ⟨τ',h',e7,⟨t6',rfl⟩,rfl⟩:=a08 (g:=kN 6) (b:=aa3 SRC.cz (DRW.gw 5) SRC.jy qd SRC.mj) sd (λ_ τ h=>(∃t6:Option D,τ=[some (.scr (ns.map D.int)),some (.ref 0),some (dg m),some (.str (S tg)),some (sd s1),some (sd s2),t6])/\h=H) [s1,s2,s1] [some (.scr (ns.map D.int)),some (.ref 0),some (dg m),some (.str (S tg)),some (sd s1),some (sd s2),none] H
  (by
   rintro pre q post τ h al ⟨⟨t6,rfl⟩,rfl⟩
   have hq:q∈[s1,s2,s1]:=by rw [al];simp
   refine ⟨[some (.scr (ns.map D.int)),some (.ref 0),some (dg m),some (.str (S tg)),some (sd s1),some (sd s2),some (sd q)],_,rfl,_,_,?_,⟨some (sd q),rfl⟩,rfl⟩;unfold aa3;exact ifF (a4x (o7 (qg (c7 rfl) (tl q hq _)) (j6 _))))
  ⟨⟨_,rfl⟩,rfl⟩
 refine ⟨H,?_⟩;unfold ao0;rw [iy];show toR (an8 SRC.cz (DRW.gw 5) SRC.jy qd SRC.mj [some (.scr (ns.map D.int)),none,none,none,none,none,none] [])=_;unfold an8;refine ag (af toR (lw (qg (c7 rfl) es))) ?_;have tp:∀(τ:Sd) (h:Hd),sA MI.yh (ak (sC (.int 10)) (ak (sC (.int 10)) (ak (sC (.int 10)) (ak (sC (.int 10)) (ak (sC (.int 40)) dq))))) τ h=.ok (.tup [.int 10,.int 10,.int 10,.int 10,.int 40]) h:=λτ h=>PAP.aof (five (dz _ _ _) (dz _ _ _) (dz _ _ _) (dz _ _ _) (dz _ _ _)) (aC (jf (by simp)))
 refine ag (af toR (lw (ie (tp _ _) (a1j (c7 rfl) (dz _ _ _) (EVT.aae e1)) (gm _)))) ?_;refine ag (af toR (lw (qg (c7 rfl) (EVT.aae e2)))) ?_;refine ag (af toR (lw (d:=sd s1) (h1:=[o3,.lst [.int (24-DRW.pn s1)]]) (PAP.aof (PAP.di (c7 rfl) (PAP.di (c7 rfl) (PAP.di (dz _ _ _) (PAP.di (dz _ _ _) (PAP.di (PAP.aof (PAP.di (dz _ _ _) EVT.lz) (nl _)) EVT.lz))))) ea))) ?_;have a2:∀h:Hd,iu (.int 1) (dg r2) h=.ok (dg (r2+1)) h:=λh=>(DRW.ah0 (a:=1)).trans (by rw [Nat.add_comm])
 refine ag (af toR (lw (d:=sd s2) (h1:=H) (PAP.aof (PAP.di (c7 rfl) (PAP.di (c7 rfl) (PAP.di (ie (dz _ _ _) (a1j (c7 rfl) (dz _ _ _) (EVT.aae e4)) (a2 _)) (PAP.di (c7 rfl) (PAP.di (PAP.aof (PAP.di (dz _ _ _) EVT.lz) (nl _)) EVT.lz))))) eb))) ?_;refine ag (af toR (a3q (a8e (PAP.aof (PAP.di (c7 rfl) (PAP.di (c7 rfl) (PAP.di (c7 rfl) EVT.lz))) ac6) rfl))) ?_;refine ag (af (λz=>toR (MI.thn z _)) e7) ?_;exact af toR (j9 (dz _ _ _))
end K11
namespace L2
open PySem.W PyProof.Rows
theorem at9{K:Frag}{C:Addr}(q:excIn K C [.type "ValueError",.type "Exception",.type "BaseException",.type "object"] "ValueError.__new__" = true):XCls K C:=by
 unfold excIn at q
 split at q
 ·rename_i dd cd sl lo
  split at q
  ·rename_i C' bm k0 k1 k2 k3 n k5 mo ss;simp only [aZ,eB,Bool.not_eq_true'] at q;obtain ⟨⟨⟨⟨⟨e1,e2⟩,nd⟩,tl⟩,no⟩,ni⟩:=q;subst e1 e2;cases cd
   dsimp only at mo nd no ni;subst mo nd;obtain ⟨l⟩:=sl;simp only at ss;subst ss;exact ⟨_,_,_,_,bm,_,_,_,_,_,dd,k0,k1,k2,k3,k5,lo,no,ni,tl⟩
  ·cases q
 ·cases q
end L2
namespace K11
open L2 MI
section
variable{P:Program}{w:World}{K:PySem.W.Frag}{mg:Str->Option Value}{base:Heap}{f:Addr}{fd:FuncData}
theorem d_2{f_2:Addr}{e_2:FuncData}(Fu_2:Fun K "weight" "weight" (top 12) f_2 e_2)(mk_2:mg "weight" = some (.ref f_2))(kp_2:PySem.W.keepIn K (.ref f_2)=true)(bd_2:Binds K e_2 ["shape"] [])(M:Nm mg){a_1:Addr}{d_1:FuncData}(D_1:Dn P w K mg base 1 "inner" ["shape"] (m5 K 1 (ENG.v6)) a_1 d_1):∀n:Nat,Dn P w K mg base (n+1) "weight" ["shape"] (m5 K 1 (K11.p7 n)) f_2 e_2:=by
 intro n
 induction n with
 |zero=>exact ⟨a8b (ps:=["shape"]),mk_2,kp_2,bd_2⟩
 |succ n ih =>
  have e:n+1+1=n+1+1:=by omega
  rw [e];have s_weight:=ih;exact ⟨a0q Fu_2 b0v (m_2 M D_1 (by omega) s_weight (by omega)),mk_2,kp_2,bd_2⟩
theorem d_6{f_6:Addr}{e_6:FuncData}(Fu_6:Fun K "patch_of" "patch_of" (top 17) f_6 e_6)(mk_6:mg "patch_of" = some (.ref f_6))(kp_6:PySem.W.keepIn K (.ref f_6)=true)(bd_6:Binds K e_6 ["shape","at"] []){f_7:Addr}{e_7:FuncData}(Fu_7:Fun K "patches_of" "patches_of" (top 18) f_7 e_7)(mk_7:mg "patches_of" = some (.ref f_7))(kp_7:PySem.W.keepIn K (.ref f_7)=true)(bd_7:Binds K e_7 ["shapes","at"] [])(M:Nm mg){C_Patch:Addr}(Q_Patch:CK K mg "Patch" C_Patch ["signs","firsts","pairs","lasts","empty"]){f_3:Addr}{e_3:FuncData}(D_3:Di P w K mg base 1 "Patch" C_Patch ["signs","firsts","pairs","lasts","empty"] ["self","signs","firsts","pairs","lasts","empty"] 5 K11.bh f_3 e_3){a_11:Addr}{d_11:FuncData}(D_11:Dn P w K mg base 3 "patch_again" ["patch"] (m5 K 1 (K11.m9)) a_11 d_11){a_9:Addr}{d_9:FuncData}(D_9:Dn P w K mg base 4 "patch_in_turn" ["patches"] (m5 K 1 (K11.jl)) a_9 d_9){a_10:Addr}{d_10:FuncData}(D_10:Dn P w K mg base 3 "patch_of_one" ["patches"] (m5 K 1 (K11.ju)) a_10 d_10){a_12:Addr}{d_12:FuncData}(D_12:Dn P w K mg base 4 "patch_of_times" ["copies","low"] (m5 K 2 (K11.jg)) a_12 d_12):∀n:Nat,Dn P w K mg base (n+4) "patch_of" ["shape","at"] (m5 K 2 (K11.j5 n)) f_6 e_6/\Dn P w K mg base (n+4) "patches_of" ["shapes","at"] (m5 K 2 (K11.my n)) f_7 e_7:=by
 intro n
 induction n with
 |zero=>exact ⟨⟨a8b (ps:=["shape","at"]),mk_6,kp_6,bd_6⟩,⟨a8b (ps:=["shapes","at"]),mk_7,kp_7,bd_7⟩⟩
 |succ n ih =>
  have e:n+1+4=n+4+1:=by omega
  rw [e];obtain ⟨s_patch_of,s_patches_of⟩:=ih;exact ⟨⟨a0q Fu_6 b0z (m_6 Q_Patch D_3 (by omega) D_11 (by omega) D_9 (by omega) s_patch_of (by omega) D_10 (by omega) D_12 (by omega) s_patches_of (by omega)),mk_6,kp_6,bd_6⟩,⟨a0q Fu_7 b11 (m_7 M Q_Patch s_patch_of (by omega)),mk_7,kp_7,bd_7⟩⟩
theorem acj{f_18:Addr}{e_18:FuncData}(Fu_18:Fun K "_law_weight" "_law_weight" (top 30) f_18 e_18)(mk_18:mg "_law_weight" = some (.ref f_18))(kp_18:PySem.W.keepIn K (.ref f_18)=true)(bd_18:Binds K e_18 ["_law_shape_here"] [])(M:Nm mg):∀n:Nat,Dn P w K mg base (n+0) "_law_weight" ["_law_shape_here"] (m5 K 1 (DRW.aj n)) f_18 e_18:=by
 intro n
 induction n with
 |zero=>exact ⟨a8b (ps:=["_law_shape_here"]),mk_18,kp_18,bd_18⟩
 |succ n ih =>
  have e:n+1+0=n+0+1:=by omega
  rw [e];have s_law_weight:=ih;exact ⟨a0q Fu_18 awh (b2k M s_law_weight (by omega)),mk_18,kp_18,bd_18⟩
theorem b05{f_19:Addr}{e_19:FuncData}(Fu_19:Fun K "_law_shape" "_law_shape" (top 31) f_19 e_19)(mk_19:mg "_law_shape" = some (.ref f_19))(kp_19:PySem.W.keepIn K (.ref f_19)=true)(bd_19:Binds K e_19 ["_law_left","_law_tongue_here","_law_deep","_law_purse","_law_room"] [])(M:Nm mg){a_14:Addr}{d_14:FuncData}(D_14:Dn P w K mg base 1 "_law_draw" ["_law_left","_law_many"] (m5 K 2 (SRC.cz)) a_14 d_14){a_17:Addr}{d_17:FuncData}(D_17:Dn P w K mg base 2 "_law_ones" ["_law_left","_law_tongue_here"] (m5 K 2 (DRW.n6)) a_17 d_17){a_18:Addr}{acj:FuncData}(D_18:Dn P w K mg base 5 "_law_weight" ["_law_shape_here"] (m5 K 1 (DRW.aj 5)) a_18 acj):∀n:Nat,Dn P w K mg base (n+5) "_law_shape" ["_law_left","_law_tongue_here","_law_deep","_law_purse","_law_room"] (m5 K 5 (DRW.gw n)) f_19 e_19:=by
 intro n
 induction n with
 |zero=>exact ⟨a8b (ps:=["_law_left","_law_tongue_here","_law_deep","_law_purse","_law_room"]),mk_19,kp_19,bd_19⟩
 |succ n ih =>
  have e:n+1+5=n+5+1:=by omega
  rw [e];have s_law_shape:=ih;exact ⟨a0q Fu_19 awi (b2l M D_14 (by omega) D_17 (by omega) s_law_shape (by omega) D_18 (by omega)),mk_19,kp_19,bd_19⟩
theorem ah1{f_20:Addr}{e_20:FuncData}(Fu_20:Fun K "_law_empty" "_law_empty" (top 32) f_20 e_20)(mk_20:mg "_law_empty" = some (.ref f_20))(kp_20:PySem.W.keepIn K (.ref f_20)=true)(bd_20:Binds K e_20 ["_law_shape_here"] [])  : ∀n:Nat,Dn P w K mg base (n+0) "_law_empty" ["_law_shape_here"] (m5 K 1 (K11.aq n)) f_20 e_20:=by
 intro n
 induction n with
 |zero=>exact ⟨a8b (ps:=["_law_shape_here"]),mk_20,kp_20,bd_20⟩
 |succ n ih =>
  have e:n+1+0=n+0+1:=by omega
  rw [e];have s_law_empty:=ih;exact ⟨a0q Fu_20 awj (b2m s_law_empty (by omega)),mk_20,kp_20,bd_20⟩
theorem ate{f_22:Addr}{e_22:FuncData}(Fu_22:Fun K "_law_begins" "_law_begins" (top 34) f_22 e_22)(mk_22:mg "_law_begins" = some (.ref f_22))(kp_22:PySem.W.keepIn K (.ref f_22)=true)(bd_22:Binds K e_22 ["_law_shape_here","_law_at","_law_place"] []){a_20:Addr}{ah1:FuncData}(D_20:Dn P w K mg base 5 "_law_empty" ["_law_shape_here"] (m5 K 1 (K11.aq 5)) a_20 ah1){a_21:Addr}{d_21:FuncData}(D_21:Dn P w K mg base 1 "_law_laid" ["_law_shape_here"] (m5 K 1 (K11.bz)) a_21 d_21){a_18:Addr}{acj:FuncData}(D_18:Dn P w K mg base 5 "_law_weight" ["_law_shape_here"] (m5 K 1 (DRW.aj 5)) a_18 acj):∀n:Nat,Dn P w K mg base (n+5) "_law_begins" ["_law_shape_here","_law_at","_law_place"] (m5 K 3 (K11.bj n)) f_22 e_22:=by
 intro n
 induction n with
 |zero=>exact ⟨a8b (ps:=["_law_shape_here","_law_at","_law_place"]),mk_22,kp_22,bd_22⟩
 |succ n ih =>
  have e:n+1+5=n+5+1:=by omega
  rw [e];have s_law_begins:=ih;exact ⟨a0q Fu_22 awl (b2o s_law_begins (by omega) D_20 (by omega) D_21 (by omega) D_18 (by omega)),mk_22,kp_22,bd_22⟩
theorem atf{f_23:Addr}{e_23:FuncData}(Fu_23:Fun K "_law_ends" "_law_ends" (top 35) f_23 e_23)(mk_23:mg "_law_ends" = some (.ref f_23))(kp_23:PySem.W.keepIn K (.ref f_23)=true)(bd_23:Binds K e_23 ["_law_shape_here","_law_at","_law_place"] [])(M:Nm mg){a_20:Addr}{ah1:FuncData}(D_20:Dn P w K mg base 5 "_law_empty" ["_law_shape_here"] (m5 K 1 (K11.aq 5)) a_20 ah1){a_21:Addr}{d_21:FuncData}(D_21:Dn P w K mg base 1 "_law_laid" ["_law_shape_here"] (m5 K 1 (K11.bz)) a_21 d_21){a_18:Addr}{acj:FuncData}(D_18:Dn P w K mg base 5 "_law_weight" ["_law_shape_here"] (m5 K 1 (DRW.aj 5)) a_18 acj):∀n:Nat,Dn P w K mg base (n+5) "_law_ends" ["_law_shape_here","_law_at","_law_place"] (m5 K 3 (K11.bu n)) f_23 e_23:=by
 intro n
 induction n with
 |zero=>exact ⟨a8b (ps:=["_law_shape_here","_law_at","_law_place"]),mk_23,kp_23,bd_23⟩
 |succ n ih =>
  have e:n+1+5=n+5+1:=by omega
  rw [e];have s_law_ends:=ih;exact ⟨a0q Fu_23 awm (b2p M D_20 (by omega) s_law_ends (by omega) D_21 (by omega) D_18 (by omega)),mk_23,kp_23,bd_23⟩
theorem b06{f_24:Addr}{e_24:FuncData}(Fu_24:Fun K "_law_follows" "_law_follows" (top 36) f_24 e_24)(mk_24:mg "_law_follows" = some (.ref f_24))(kp_24:PySem.W.keepIn K (.ref f_24)=true)(bd_24:Binds K e_24 ["_law_shape_here","_law_at","_law_place","_law_other"] []){a_22:Addr}{ate:FuncData}(D_22:Dn P w K mg base 10 "_law_begins" ["_law_shape_here","_law_at","_law_place"] (m5 K 3 (K11.bj 5)) a_22 ate){a_20:Addr}{ah1:FuncData}(D_20:Dn P w K mg base 5 "_law_empty" ["_law_shape_here"] (m5 K 1 (K11.aq 5)) a_20 ah1){a_23:Addr}{atf:FuncData}(D_23:Dn P w K mg base 10 "_law_ends" ["_law_shape_here","_law_at","_law_place"] (m5 K 3 (K11.bu 5)) a_23 atf){a_21:Addr}{d_21:FuncData}(D_21:Dn P w K mg base 1 "_law_laid" ["_law_shape_here"] (m5 K 1 (K11.bz)) a_21 d_21){a_18:Addr}{acj:FuncData}(D_18:Dn P w K mg base 5 "_law_weight" ["_law_shape_here"] (m5 K 1 (DRW.aj 5)) a_18 acj):∀n:Nat,Dn P w K mg base (n+10) "_law_follows" ["_law_shape_here","_law_at","_law_place","_law_other"] (m5 K 4 (K11.bw n)) f_24 e_24:=by
 intro n
 induction n with
 |zero=>exact ⟨a8b (ps:=["_law_shape_here","_law_at","_law_place","_law_other"]),mk_24,kp_24,bd_24⟩
 |succ n ih =>
  have e:n+1+10=n+10+1:=by omega
  rw [e];have s_law_follows:=ih;exact ⟨a0q Fu_24 awn (b2q D_22 (by omega) D_20 (by omega) D_23 (by omega) s_law_follows (by omega) D_21 (by omega) D_18 (by omega)),mk_24,kp_24,bd_24⟩
theorem b07{f_28:Addr}{e_28:FuncData}(Fu_28:Fun K "_law_marks" "_law_marks" (top 40) f_28 e_28)(mk_28:mg "_law_marks" = some (.ref f_28))(kp_28:PySem.W.keepIn K (.ref f_28)=true)(bd_28:Binds K e_28 ["_law_shape_here"] []){a_21:Addr}{d_21:FuncData}(D_21:Dn P w K mg base 1 "_law_laid" ["_law_shape_here"] (m5 K 1 (K11.bz)) a_21 d_21):∀n:Nat,Dn P w K mg base (n+1) "_law_marks" ["_law_shape_here"] (m5 K 1 (K11.dj n)) f_28 e_28:=by
 intro n
 induction n with
 |zero=>exact ⟨a8b (ps:=["_law_shape_here"]),mk_28,kp_28,bd_28⟩
 |succ n ih =>
  have e:n+1+1=n+1+1:=by omega
  rw [e];have s_law_marks:=ih;exact ⟨a0q Fu_28 awr (b2u D_21 (by omega) s_law_marks (by omega)),mk_28,kp_28,bd_28⟩
end
def ao1(K:PySem.W.Frag):Sp:=λvs H Q _=>∃(a:Addr) (ns:List Int),vs=[.ref a]/\SqF K H a (ns.map V.int)/\ns.length<=63/\∀H',Q (.bl true) H'
theorem a2e{K:PySem.W.Frag}{ι:List Addr}{H:Hp}:∀ns:List Int,Reps K ι H (ns.map V.int) (ns.map D.int)
 |[]=>.nil
 |n::ns=>.cons (.int n) (a2e ns)
theorem axx{K:PySem.W.Frag}(vs:List V)(H:Hp)(Q:VK)(E:XK)(h:ao1 K vs H Q E):m5 K 1 K11.ao0 vs H Q E:=by
 obtain ⟨a,ns,rfl,hS,hl,q⟩:=h;obtain ⟨h',e⟩:=K11.axw ns;refine ⟨rfl,[],[.scr (ns.map D.int)],[],.cons (.scr hS (a2e ns)) .nil,⟨fG,rfl,λi a o z=>by simp at z⟩,?_⟩
 rw [e]
 intro ι' H' b g r hr
 cases r
 exact q H'
theorem axy{K:PySem.W.Frag}{H:Hp}{a:Addr}{vs:List V}(hO:Only H)(hS:SqL K H a vs):SqF K H a vs:=by
 rcases hS with r|r
 ·rcases r with r|⟨o,r⟩
  ·rcases hO a with z|⟨o,xs,z⟩<;>rw [z] at r<;>cases r
  ·exact .inl ⟨o,r⟩
 ·exact .inr (.inr r)
abbrev fo(x:Str)(t:Stmt)(kV dc pm:Value)(an:Option Addr)(cd ct:Value):=PySem.W.fnOf x x (a1u t) (uh t) (dh t) .none kV dc pm an cd ct
def Df(K:PySem.W.Frag)(f:Addr)(nm:Str)(i:Nat):Prop:=∃oc od kV dc pm an cd ct sl,PySem.W.nsIn K mainGlobals nm=some (some (.ref f))/\K.lookup f=some ⟨oc,od,.func (fo nm (top i) kV dc pm an cd ct),sl⟩/\PySem.W.codeIn K cd nm=true/\PySem.W.keepIn K (.ref f)=true
theorem df{K:PySem.W.Frag}{f:Addr}{nm:Str}{i:Nat}(d:Df K f nm i):∃e,PySem.W.nsIn K mainGlobals nm=some (some (.ref f))/\Fun K nm nm (top i) f e:=by
 obtain ⟨_,_,_,_,_,_,_,_,_,a,l,c,k⟩:=d;exact ⟨_,a,ao9 l c k⟩
theorem a0w{P:Program}{w:World}{K:PySem.W.Frag}{mg:Str->Option Value}{base h:Heap}{f:Addr}{nm:Str}{i k:Nat}{F:SF}{N ps:List Str}{b:SS}(S:FnScope N ps (dh (top i)))(d:Df K f nm i)(X:K.In h)(G:h.Ns mainGlobals mg)
  (hb:∀(cdv:Value) (A:Around) (outer:List Env) (s:Shared) (H:Hp) (E:XK),Room k (A.deeper (PyProof.Rows.envOfC nm (dh (top i)) s.heap.objs.size f cdv))->MSs (agu CX0 P w K mg base N nm (dh (top i)) f cdv A outer s H E).nox X0 (uh (top i)) b)
  (h:∀(kV doc pm:Value) (an:Option Addr) (cdv ct:Value) (us:List Value),us.length=ps.length->bindArgs (PySem.W.fnOf nm nm (a1u (top i)) (uh (top i)) (dh (top i)) .none kV doc pm an cdv ct) ⟨us,[]⟩=pure (ps.zip us)) (e:F=km b N.length:=by rfl) :
  ∃fd,Dn P w K mg base (k+1) nm ps (m5 K ps.length F) f fd:=by
 obtain ⟨_,a,Fu⟩:=df d;rw [e];exact ⟨_,a0q Fu S hb,bq X G a,Fu.kp,Fu.binds h⟩
local macro_rules|`(tactic|walk_at "b") => `(tactic|(intro _ _ _ _ _ _ us hl;first|(apply b0o hl;intro _;exact rfl)|(apply b0p hl;intro _ _;exact rfl)|(apply b0q hl;intro _ _ _;exact rfl)|(apply b0r hl;intro _ _ _ _;exact rfl)|(apply b0s hl;intro _ _ _ _ _;exact rfl)|(apply b2a hl;intro _ _ _ _ _ _;exact rfl)|(apply len0 hl;exact rfl)))
theorem axz{l:PySem.W.OpenLaw}{w:World}{K:PySem.W.Frag}{h:Heap}{mg:Str->Option Value}{fa f1 f2 f3 f4 f5 f6 f7 f8 f9 f10 f11 f12 f13 f14 f15 f16 f17 f18 f19 f20 f21 f22 f23 f24 f25 f26 f27 f28 f29 f30 f31 f32:Addr}(X:K.In h)(G:h.Ns mainGlobals mg)(hfa:mg "law" = some (.ref fa))
  (d1:Df K f1 "rising" 8)
  (d2:Df K f2 "inner" 11)
  (d3:Df K f3 "weight" 12)
  (d4:Df K f4 "spread" 15)
  (d5:Df K f5 "patch_rows" 16)
  (d6:Df K f6 "patch_of" 17)
  (d7:Df K f7 "patches_of" 18)
  (d8:Df K f8 "joined" 19)
  (d9:Df K f9 "patch_in_turn" 20)
  (d10:Df K f10 "patch_of_one" 21)
  (d11:Df K f11 "patch_again" 22)
  (d12:Df K f12 "patch_of_times" 23)
  (d13:Df K f13 "_law_source" 25)
  (d14:Df K f14 "_law_draw" 26)
  (d15:Df K f15 "_law_signs" 27)
  (d16:Df K f16 "_law_tongue" 28)
  (d17:Df K f17 "_law_ones" 29)
  (d18:Df K f18 "_law_weight" 30)
  (d19:Df K f19 "_law_shape" 31)
  (d20:Df K f20 "_law_empty" 32)
  (d21:Df K f21 "_law_laid" 33)
  (d22:Df K f22 "_law_begins" 34)
  (d23:Df K f23 "_law_ends" 35)
  (d24:Df K f24 "_law_follows" 36)
  (d25:Df K f25 "_law_row" 37)
  (d26:Df K f26 "_law_texts" 38)
  (d27:Df K f27 "_law_laying" 39)
  (d28:Df K f28 "_law_marks" 40)
  (d29:Df K f29 "_law_due" 41)
  (d30:Df K f30 "_law_refused" 42)
  (d31:Df K f31 "_law_told" 43)
  (d32:Df K f32 "law" 44)
  {C1 j1:Addr} {jc1:Value} {jd1 jn1:Option Addr} {js1:Array (Option Value)} {jk1 jo1 jp1 jv1 jt1:Value}
  (q1:PySem.W.nsIn K mainGlobals "Patch" = some (some (.ref C1))) (qc1:Cls K C1) (qn1_0:NoAttr K C1 "signs") (qn1_1:NoAttr K C1 "firsts") (qn1_2:NoAttr K C1 "pairs") (qn1_3:NoAttr K C1 "lasts") (qn1_4:NoAttr K C1 "empty") (qm1:Mk K C1 j1) (jl1:K.lookup j1=some ⟨jc1,jd1,.func (PySem.W.fnOf "__init__" "Patch.__init__" (a1u (cst (top 14) 0)) (uh (cst (top 14) 0)) (dh (cst (top 14) 0)) .none jk1 jo1 jp1 jn1 jv1 jt1),js1⟩) (ji1:PySem.W.codeIn K jv1 "Patch.__init__" = true) (je1:PySem.W.keepIn K (.ref j1)=true)
  {y_TooHeavy y_ReachError y_NoBook y_NoPlace y_NoShape y_TooMany:Addr}
  (xg_TooHeavy:PySem.W.nsIn K mainGlobals "TooHeavy" = some (some (.ref y_TooHeavy)))
  (xg_ReachError:PySem.W.nsIn K mainGlobals "ReachError" = some (some (.ref y_ReachError)))
  (xg_NoBook:PySem.W.nsIn K mainGlobals "NoBook" = some (some (.ref y_NoBook)))
  (xg_NoPlace:PySem.W.nsIn K mainGlobals "NoPlace" = some (some (.ref y_NoPlace)))
  (xg_NoShape:PySem.W.nsIn K mainGlobals "NoShape" = some (some (.ref y_NoShape)))
  (xg_TooMany:PySem.W.nsIn K mainGlobals "TooMany" = some (some (.ref y_TooMany)))
  (xc_TooHeavy:XCls K y_TooHeavy)
  (xk_TooHeavy:XKit K y_TooHeavy)
  (xe_TooHeavy_ReachError:PySem.W.exmOne K (.ref y_TooHeavy) (.ref y_ReachError)=some true)
  (xi_TooHeavy_ValueError:PySem.W.kitOne K (.ref y_TooHeavy) (.type "ValueError")=some true)
  (xi_TooHeavy_TooHeavy:PySem.W.kitOne K (.ref y_TooHeavy) (.ref y_TooHeavy)=some true)
  (xi_TooHeavy_NoBook_NoPlace_NoShape_TooMany:PySem.W.kitAny K (.ref y_TooHeavy) [.ref y_NoBook,.ref y_NoPlace,.ref y_NoShape,.ref y_TooMany]=some false)
  (z1:PySem.W.nsIn K mainGlobals "ValueError" = some none) (z2:PySem.W.nsIn K mainGlobals "abs" = some none) (z3:PySem.W.nsIn K mainGlobals "bool" = some none) (z4:PySem.W.nsIn K mainGlobals "enumerate" = some none) (z5:PySem.W.nsIn K mainGlobals "int" = some none) (z6:PySem.W.nsIn K mainGlobals "isinstance" = some none) (z7:PySem.W.nsIn K mainGlobals "len" = some none) (z8:PySem.W.nsIn K mainGlobals "max" = some none) (z9:PySem.W.nsIn K mainGlobals "range" = some none) (z10:PySem.W.nsIn K mainGlobals "reversed" = some none) (z11:PySem.W.nsIn K mainGlobals "set" = some none) (z12:PySem.W.nsIn K mainGlobals "sorted" = some none) (z13:PySem.W.nsIn K mainGlobals "str" = some none) (z14:PySem.W.nsIn K mainGlobals "sum" = some none) (z15:PySem.W.nsIn K mainGlobals "tuple" = some none) {ty1:Tok} (y1:PySem.W.nsIn K mainGlobals "HEAVIEST" = some (some (.int 10 ty1))) :
  ∃fd:FuncData,(∀(s:Shared) (v:Value),BindsTo s fd ⟨[v],[]⟩ [("_law_script",v)])/\∀base:Heap,K.In base->base.Ns mainGlobals mg->FnOk l.prog w K mg base CX0 18 fa fd ["_law_script"] (ao1 K):=by
 obtain ⟨_,a3,F3⟩:=df d3;have b3:=F3.binds (ps:=["shape"]) (by walk_at "b")
 obtain ⟨_,a4,F4⟩:=df d4;have b4:=F4.binds (ps:=["shape"]) (by walk_at "b")
 obtain ⟨_,a6,F6⟩:=df d6;have b6:=F6.binds (ps:=["shape","at"]) (by walk_at "b")
 obtain ⟨_,a7,F7⟩:=df d7;have b7:=F7.binds (ps:=["shapes","at"]) (by walk_at "b")
 obtain ⟨_,a18,F18⟩:=df d18;have b18:=F18.binds (ps:=["_law_shape_here"]) (by walk_at "b")
 obtain ⟨_,a19,F19⟩:=df d19;have b19:=F19.binds (ps:=["_law_left","_law_tongue_here","_law_deep","_law_purse","_law_room"]) (by walk_at "b")
 obtain ⟨_,a20,F20⟩:=df d20;have b20:=F20.binds (ps:=["_law_shape_here"]) (by walk_at "b")
 obtain ⟨_,a22,F22⟩:=df d22;have b22:=F22.binds (ps:=["_law_shape_here","_law_at","_law_place"]) (by walk_at "b")
 obtain ⟨_,a23,F23⟩:=df d23;have b23:=F23.binds (ps:=["_law_shape_here","_law_at","_law_place"]) (by walk_at "b")
 obtain ⟨_,a24,F24⟩:=df d24;have b24:=F24.binds (ps:=["_law_shape_here","_law_at","_law_place","_law_other"]) (by walk_at "b")
 obtain ⟨_,a28,F28⟩:=df d28;have b28:=F28.binds (ps:=["_law_shape_here"]) (by walk_at "b")
 obtain ⟨_,a32,F32⟩:=df d32;have e:=hfa.symm.trans (bq X G a32);cases e
 obtain ⟨oc,od,kV32,dc32,pm32,an32,cd32,ct32,sl,rfl,lk,hc⟩:=id F32.ex;have b32:=F32.binds (ps:=["_law_script"]) (by walk_at "b")
 have M:Nm mg:=⟨bb X G z1,bb X G z2,bb X G z3,bb X G z4,bb X G z5,bb X G z6,bb X G z7,bb X G z8,bb X G z9,bb X G z10,bb X G z11,bb X G z12,bb X G z13,bb X G z14,bb X G z15⟩;have C:Cn mg:=⟨⟨_,bq X G y1⟩⟩;have Z:Xn K mg y_TooHeavy y_ReachError y_NoBook y_NoPlace y_NoShape y_TooMany:=⟨bq X G xg_TooHeavy,bq X G xg_ReachError,bq X G xg_NoBook,bq X G xg_NoPlace,bq X G xg_NoShape,bq X G xg_TooMany,xg_TooHeavy,xc_TooHeavy,xk_TooHeavy,xe_TooHeavy_ReachError,xi_TooHeavy_ValueError,xi_TooHeavy_TooHeavy,xi_TooHeavy_NoBook_NoPlace_NoShape_TooMany⟩
 refine ⟨PySem.W.fnOf "law" "law" (a1u (top 44)) (uh (top 44)) (dh (top 44)) .none kV32 dc32 pm32 an32 cd32 ct32,λs v=>.of_eq rfl,λbase _ _=>?_⟩;have Q_Patch:CK K mg "Patch" C1 ["signs","firsts","pairs","lasts","empty"]:=⟨bq X G q1,q1,qc1,λk hk=>by
  simp only [aD,bg,eh] at hk
  rcases hk with rfl|rfl|rfl|rfl|rfl
  ·exact qn1_0
  ·exact qn1_1
  ·exact qn1_2
  ·exact qn1_3
  ·exact qn1_4⟩
 have J1:=ao9 (st:=cst (top 14) 0) jl1 ji1 je1;have jb1:=J1.binds (ps:=["self","signs","firsts","pairs","lasts","empty"]) (by walk_at "b")
 have D_3:Di l.prog w K mg base 1 "Patch" C1 ["signs","firsts","pairs","lasts","empty"] ["self","signs","firsts","pairs","lasts","empty"] 5 K11.bh _ _:=⟨a0q J1 b0w (m_3 Q_Patch),jb1,qm1,Q_Patch⟩;obtain ⟨_,D_0⟩:=a0w (F:=K11.jw) (k:=0) b0t d1 X G (m_0 M) (by walk_at "b")
 obtain ⟨_,D_1⟩:=a0w (F:=ENG.v6) (k:=0) b0u d2 X G (m_1 ) (by walk_at "b")
 have D_2:=d_2 (P:=l.prog) (w:=w) (base:=base) F3 (bq X G a3) F3.kp b3 M D_1 5;obtain ⟨_,D_11⟩:=a0w (F:=K11.m9) (k:=2) awa d11 X G (b2c Q_Patch D_3 (by decide)) (by walk_at "b")
 obtain ⟨_,D_8⟩:=a0w (F:=K11.m8) (k:=2) b12 d8 X G (m_8 Q_Patch D_3 (by decide)) (by walk_at "b")
 obtain ⟨_,D_9⟩:=a0w (F:=K11.jl) (k:=3) b13 d9 X G (m_9 Q_Patch D_3 (by decide) D_8 (by decide)) (by walk_at "b")
 obtain ⟨_,D_10⟩:=a0w (F:=K11.ju) (k:=2) aw9 d10 X G (b2b Q_Patch D_3 (by decide)) (by walk_at "b")
 obtain ⟨_,D_12⟩:=a0w (F:=K11.jg) (k:=3) awb d12 X G (b2d M Q_Patch D_3 (by decide) D_8 (by decide)) (by walk_at "b")
 obtain ⟨D_6,D_7⟩:=d_6 (P:=l.prog) (w:=w) (base:=base) F6 (bq X G a6) F6.kp b6 F7 (bq X G a7) F7.kp b7 M Q_Patch D_3 D_11 D_9 D_10 D_12 10;obtain ⟨_,D_5⟩:=a0w (F:=K11.u9) (k:=1) b0y d5 X G (m_5 M Q_Patch D_0 (by decide)) (by walk_at "b")
 have D_4:DnX l.prog w K mg base 15 "spread" ["shape"] (spX K mg 1 (K11.qp)) _ _:=⟨ara F4 b0x (m_4 C Z D_6 (by decide) D_5 (by decide) D_2 (by decide)),bq X G a4,F4.kp,b4⟩
 obtain ⟨_,D_13⟩:=a0w (F:=SRC.jy) (k:=0) awc d13 X G (b2e M) (by walk_at "b")
 obtain ⟨_,D_14⟩:=a0w (F:=SRC.cz) (k:=0) awd d14 X G (b2f M) (by walk_at "b")
 obtain ⟨_,D_15⟩:=a0w (F:=SRC.lr) (k:=0) awe d15 X G (b2g ) (by walk_at "b")
 obtain ⟨_,D_16⟩:=a0w (F:=SRC.mj) (k:=1) awf d16 X G (b2h M D_14 (by decide) D_15 (by decide)) (by walk_at "b")
 obtain ⟨_,D_17⟩:=a0w (F:=DRW.n6) (k:=1) awg d17 X G (b2j M D_14 (by decide)) (by walk_at "b")
 have D_18:=acj (P:=l.prog) (w:=w) (base:=base) F18 (bq X G a18) F18.kp b18 M 5;have D_19:=b05 (P:=l.prog) (w:=w) (base:=base) F19 (bq X G a19) F19.kp b19 M D_14 D_17 D_18 5;have D_20:=ah1 (P:=l.prog) (w:=w) (base:=base) F20 (bq X G a20) F20.kp b20  5;obtain ⟨_,D_21⟩:=a0w (F:=K11.bz) (k:=0) awk d21 X G (b2n ) (by walk_at "b")
 have D_22:=ate (P:=l.prog) (w:=w) (base:=base) F22 (bq X G a22) F22.kp b22 D_20 D_21 D_18 5;have D_23:=atf (P:=l.prog) (w:=w) (base:=base) F23 (bq X G a23) F23.kp b23 M D_20 D_21 D_18 5;have D_24:=b06 (P:=l.prog) (w:=w) (base:=base) F24 (bq X G a24) F24.kp b24 D_22 D_20 D_23 D_21 D_18 5;obtain ⟨_,D_25⟩:=a0w (F:=K11.o9) (k:=0) awo d25 X G (b2r M) (by walk_at "b")
 obtain ⟨_,D_26⟩:=a0w (F:=K11.jo) (k:=0) awp d26 X G (b2s M) (by walk_at "b")
 obtain ⟨_,D_27⟩:=a0w (F:=K11.uc) (k:=1) awq d27 X G (b2t M D_25 (by decide) D_26 (by decide)) (by walk_at "b")
 have D_28:=b07 (P:=l.prog) (w:=w) (base:=base) F28 (bq X G a28) F28.kp b28 D_21 5;obtain ⟨_,D_29⟩:=a0w (F:=K11.a03) (k:=15) aws d29 X G (b2v M D_22 (by decide) D_20 (by decide) D_23 (by decide) D_24 (by decide) D_28 (by decide) D_18 (by decide)) (by walk_at "b")
 obtain ⟨_,D_30⟩:=a0w (F:=K11.qt) (k:=15) awt d30 X G (b2w M Z D_4 (by decide)) (by walk_at "b")
 obtain ⟨_,D_31⟩:=a0w (F:=K11.qd) (k:=16) awu d31 X G (b2x D_29 (by decide) D_27 (by decide) D_30 (by decide) D_18 (by decide) D_4 (by decide)) (by walk_at "b")
 have D_32:Dn l.prog w K mg base 18 "law" ["_law_script"] (m5 K 1 (K11.ao0)) _ _:=⟨a0q F32 awv (b2y D_14 (by decide) D_19 (by decide) D_13 (by decide) D_31 (by decide) D_16 (by decide)),bq X G a32,F32.kp,b32⟩
 exact D_32.ok.imp axx
theorem walk{l:PySem.W.OpenLaw}{q:Program}{loose:List Str}{XP:(Str->Option Value)->Heap->Prop}{YP:World->Heap->Prop}{d:DefRec}{K:Params->PySem.W.Frag}(hn:l.most=some 63)(hdf:d.params.defaults=[])
  (hY:∀(w:World) (h:Heap),YP w h->(K w.params).In h)
  (F:∀(w:World) (mg:Str->Option Value) (fa:Addr) (h:Heap),(K w.params).In h->h.Ns mainGlobals mg->mg d.name=some (.ref fa)->
   ∃fd:FuncData,(∀(s:Shared) (u:Value),BindsTo s fd ⟨[u],[]⟩ [("_law_script",u)])/\∀base:Heap,(K w.params).In base->base.Ns mainGlobals mg->FnOk l.prog w (K w.params) mg base CX0 18 fa fd ["_law_script"] (ao1 (K w.params))) :
  PySem.W.WalkO q loose XP YP l.row.toRowW d [] (λf vs=>PySem.call f vs) :=
 L2.aqa (n:=63) (k:=18) (x := "_law_script") (CX:=λ_=>CX0) (sp:=λw=>ao1 (K w.params)) hn (by decide) hdf ⟨rfl,by decide,by decide,rfl⟩ hY F (λ_ _ a ns hl hO hS=>⟨a,ns,rfl,axy hO hS,hl,λ_=>rfl⟩) λ_ _ _ _ _ z=>z
end K11
open PySem.W PyProof.Rows
local macro_rules|`(tactic|o_head $H) => `(tactic|refine PySem.W.holds_open (q:=K11.hq) (loose:=K11.hl) (Xt:=fun _=>true) (XP:=fun _ _=>True) (Yf:=Hook.obs $H) (Ya:=Hook.val $H) (YP:=Hook.says $H) (N:=20000) ?hl (Hook.of $H) (Hook.keeps $H) (fun _ _=>trivial) (fun _ _ _ _ _=>trivial) (by rfl) (by rfl) (by rfl) (fun _ _=>recFacts_nil rfl) (by rfl) (by assumption) (by decide +kernel) ⟨rfl,rfl,rfl,rfl,rfl,by decide +kernel⟩ ?hw ?hc)
set_option maxRecDepth 100000 in
set_option maxHeartbeats 0 in
theorem PySem.Challenge.cw_nearreach_k11_spreads_holds : PySem.Challenge.rw_nearreach_k11_spreads.Holds := by
 w_on;refine holds_law K11.said fun said=>?_;o_head (kHook K11.A.heap_1 [2,3,15,22,23,24,25,28,35,36,37,40,47,48,49,52,59,60,61,64,71,72,73,76,83,84,85,88,90,91,93,94,95,97,98,100,101,102,105,106,114,116,117,119,120,121,122,123,124,125,128,130,131,133,134,135,138,139,140,142,143,145,146,147,149,150,152,153,154,157,158,159,161,162,164,165,166,168,169,171,172,173,176,177,178,180,181,183,184,185,188,189,190,192,193,195,196,197,199,200,202,203,204,206,207,209,210,211,213,214,216,217,218,221,222,223,225,226,228,229,230,233,234,235,237,238,240,241,242,244,245,247,248,249,252,253,254,256,257,259,260,261,263,264,266,267,268,271,272,273,276,277,278,280,281,283,284,285,288,289,290,292,293,295,296,297,299,300,302,303,304,306,307,309,310] (fun _=>by kernel_rfl))
 (case hw=>w_witness2)
 (case hl=>exact K11.hlok)
 k_fill
 refine K11.walk (l:=PySem.Challenge.rw_nearreach_k11_spreads) rfl rfl (fun w h Y=>PySem.W.kIn_of Y) ?F
 case F =>
  intro w mg fa h KX G hmg
  refine' K11.axz KX G hmg ?_ ?_ ?_ ?_ ?_ ?_ ?_ ?_ ?_ ?_ ?_ ?_ ?_ ?_ ?_ ?_ ?_ ?_ ?_ ?_ ?_ ?_ ?_ ?_ ?_ ?_ ?_ ?_ ?_ ?_ ?_ ?_ ?q1 ?qc1 ?qn1_0 ?qn1_1 ?qn1_2 ?qn1_3 ?qn1_4 ?qm1 ?jl1 ?ji1 ?je1 ?xg_TooHeavy ?xg_ReachError ?xg_NoBook ?xg_NoPlace ?xg_NoShape ?xg_TooMany ?xc_TooHeavy ?xk_TooHeavy ?xe_TooHeavy_ReachError ?xi_TooHeavy_ValueError ?xi_TooHeavy_TooHeavy ?xi_TooHeavy_NoBook_NoPlace_NoShape_TooMany ?_ ?_ ?_ ?_ ?_ ?_ ?_ ?_ ?_ ?_ ?_ ?_ ?_ ?_ ?_ ?y1
  all_goals first | k_is | exact ⟨_,_,_,_,_,_,_,_,_,by k_is,by k_is,by k_is,by k_is⟩ | skip
  try (case q1=>k_is)
  try (case qm1=>constructor<;>first | k_is | kernel_rfl)
  try (case jl1=>k_is)
  try (case ji1=>k_is)
  try (case je1=>k_is)
  try (case qc1=>constructor<;>first | k_is | kernel_rfl)
  try (case qn1_0=>unfold L2.NoAttr;kernel_rfl)
  try (case qn1_1=>unfold L2.NoAttr;kernel_rfl)
  try (case qn1_2=>unfold L2.NoAttr;kernel_rfl)
  try (case qn1_3=>unfold L2.NoAttr;kernel_rfl)
  try (case qn1_4=>unfold L2.NoAttr;kernel_rfl)
  (case xc_TooHeavy=>exact L2.at9 (by kernel_rfl))
  (case xk_TooHeavy=>constructor<;>first | k_is | kernel_rfl)
  (case xe_TooHeavy_ReachError=>kernel_rfl)
  (case xi_TooHeavy_ValueError=>kernel_rfl)
  (case xi_TooHeavy_TooHeavy=>kernel_rfl)
  (case xi_TooHeavy_NoBook_NoPlace_NoShape_TooMany=>kernel_rfl)
  try (case y1=>k_is)
