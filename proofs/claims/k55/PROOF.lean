import PyProof.Rows.All
import Wide.All
import OpenK.AllK
import Wide.FinOn
import Lean
import PyProof.EqAt
import PyProof.EqKinds
import PyProof.TupleCall
import PyProof.ListStr
import PyProof.TupleOfStr
import PyProof.ConsumeWalk
import PyProof.SliceStr2
import PyProof.CompUse
import PyProof.Rows.SetFrom
import PyProof.SetRoads
import PyProof.StrLawsIn
import PyProof.Rows.StrIndexOr
import PyProof.Rows.StrJoin2
import PyProof.Rows.SumAny
import PyProof.WalkInts
import PyProof.SeqI3
import PyProof.Draws
import PyProof.ZipIter
import PyProof.EnumMake
import Wide.Txt2
import PyProof.Rows.SortWalk
import PyProof.ListRange
import PyProof.Rows.Range3
import KE.KStateDown
import PyProof.ReprRoads
import PyProof.CallFns
import KE.KTryDeep
import PyProof.ExcBaseAll.ValueError
import KE.KTryMore
import KE.KIsNot
import PyProof.ExcAttrAll.ValueError
import PyProof.NsDelKeeps
import PySem.SetOps
import PyProof.SetScanFacts
import PyProof.Walks
import PyProof.CollectWalk
import KE.KRevIter
import PyProof.CollectIter
import PyProof.WalksS
import KE.IntBitsLaws
import PyProof.WalksMore
import PySem.Challenge.RW_nearreach_k55_rooms_with_a_kind_ahead
set_option Elab.async false
set_option linter.all false
set_option maxRecDepth 100000
set_option maxHeartbeats 4000000
section
open PySem PySem.W PyProof.Rows
theorem K55.said:PySem.Challenge.rw_nearreach_k55_rooms_with_a_kind_ahead.wellSaid=true:=by kernel_rfl
noncomputable def K55.hq:Program:=view PySem.Challenge.pw_nearreach_k55_rooms_with_a_kind_ahead [PySem.Challenge.pw_nearreach_k55_rooms_with_a_kind_ahead.main.body.length - 1]
noncomputable def K55.hl:List Str:=PySem.Challenge.pw_nearreach_k55_rooms_with_a_kind_ahead.boundNames
local macro_rules | `(tactic| o_head $H) => `(tactic| refine PySem.W.holds_open (q:=K55.hq) (loose:=K55.hl) (Xt:=fun _=>true) (XP:=fun _ _=>True) (Yf:=Hook.obs $H) (Ya:=Hook.val $H) (YP:=Hook.says $H) (N:=20000) ?hl (Hook.of $H) (Hook.keeps $H) (fun _ _=>trivial) (fun _ _ _ _ _=>trivial) (by rfl) (by rfl) (by rfl) (fun _ _=>recFacts_nil rfl) (by rfl) (by assumption) (by decide +kernel) ⟨rfl,rfl,rfl,rfl,rfl,by decide +kernel⟩ ?hw ?hc)
set_option maxRecDepth 100000 in
set_option maxHeartbeats 0 in
theorem K55.A (hyp:∀ p:Prop,p):PySem.Challenge.rw_nearreach_k55_rooms_with_a_kind_ahead.Holds:=by
 w_on;refine holds_law K55.said fun said=>?_;k_head
 all_goals exact hyp _
set_option maxRecDepth 100000 in
set_option maxHeartbeats 0 in
theorem K55.hlok:LeftO PySem.Challenge.rw_nearreach_k55_rooms_with_a_kind_ahead.row.prog K55.hq K55.hl (fun _=>true) (Hook.obs (kHook K55.A.heap_1 [2,3,15,17,18,20,21,22,24,25,27,28,29,32,33,34,41,42,43,44,47,54,55,56,59,66,67,68,71,78,79,80,83,90,91,92,95,102,103,104,107,114,115,116,119,126,127,128,131,134,135,136,138,139,141,142,143,145,146,148,149,150,152,153,155,156,157,159,160,162,163,164,167,168,169,171,172,174,175,176,178,179,181,182,183,186,187,188,190,191,193,194,195,197,198,200,201,202,204,205,207,208,209,212,213,214,217,218,219,222,223,224,227,228,229,231,232,234,235,236,238,239,241,242,243,245,246,248,249,250,253,254,255,257,258,260,261,262,264,265,267,268,269,271,272,274,275,276,279,280,281,284,285,286,288,289,291,292,293,295,296,298,299,300,302,303,305,306] (fun _=>by kernel_rfl))) (Hook.val (kHook K55.A.heap_1 [2,3,15,17,18,20,21,22,24,25,27,28,29,32,33,34,41,42,43,44,47,54,55,56,59,66,67,68,71,78,79,80,83,90,91,92,95,102,103,104,107,114,115,116,119,126,127,128,131,134,135,136,138,139,141,142,143,145,146,148,149,150,152,153,155,156,157,159,160,162,163,164,167,168,169,171,172,174,175,176,178,179,181,182,183,186,187,188,190,191,193,194,195,197,198,200,201,202,204,205,207,208,209,212,213,214,217,218,219,222,223,224,227,228,229,231,232,234,235,236,238,239,241,242,243,245,246,248,249,250,253,254,255,257,258,260,261,262,264,265,267,268,269,271,272,274,275,276,279,280,281,284,285,286,288,289,291,292,293,295,296,298,299,300,302,303,305,306] (fun _=>by kernel_rfl))) 20000:=by
 intro w
 kernel_rfl
end
abbrev Fg:=PySem.W.Frag
def ae:=@List.getElem?_eq_getElem
def af:=@List.getElem?_eq_some_iff
def ag:=@PySem.Heap.get?_push_of_some
def ah:=@List.length_append
def ai:=@List.length_map
def ar:=@PySem.wpAny_bind
def av:=@List.length_singleton
def aw:=@List.mem_singleton
def ax:=@List.size_toArray
def ay:=@Int.eq_ofNat_of_zero_le
def aH:=@Eq.trans
def aI:=@Nat.le_refl
def aJ:=@List.getElem?_append_left
def aK:=@List.mem_cons_of_mem
def aL:=@List.getElem?_append_right
def aM:=@List.getElem?_map
def aN:=@List.mem_of_getElem?
def aO:=@if_pos
def aP:=@Option.map_eq_some_iff
def aQ:=@List.mem_cons_self
def aR:=@List.mem_cons
def aS:=@PySem.wpAny_pure
def aT:=@List.length_take
def aU:=@congrArg
def aV:=@PySem.Heap.lt_size
def aW:=@PySem.Heap.get?_push_size
def aX:=@List.length_range
def aY:=@List.getElem_mem
def aZ:=@Nat.lt_of_lt_of_le
def bb:=@List.length_drop
def bg:=@List.not_mem_nil
def bo:=@List.mem_append
def bp:=@decide_eq_false
def bq:=@Nat.zero_le
def br:=@Bool.false_ne_true
def bA:=@List.map_append
def bB:=@List.length_cons
def bC:=@PySem.F.slot_list_append
def bD:=@PySem.F.type_list_append
def bE:=@if_neg
def bF:=@PyProof.Rows.slot_tuple_getitem
def bG:=@List.mem_map
def bH:=@PySem.PassesOwn.never
def bI:=@List.map_cons
def bJ:=@List.append_nil
def bK:=@PySem.W.mg_none_of
def bL:=@decide_eq_true
def bM:=@List.take_of_length_le
def bN:=@List.all_eq_true
def bO:=@Option.some.inj
def bP:=@List.map_map
def bQ:=@List.getElem?_eq_none
def bR:=@Nat.ne_of_lt
def bS:=@List.mem_range
def bT:=@List.mem_append_right
def bU:=@PySem.W.kia_one
def bV:=@Bool.and_eq_true
def bW:=@List.mem_or_eq_of_mem_set
def bX:=@Nat.le_trans
def bY:=@List.mem_of_mem_take
def bZ:=@List.getElem?_set_self
def cb:=@List.drop_eq_nil_of_le
def cn:=@PySem.W.mg_of
def cp:=@List.filterMap_cons
def cq:=@PySem.mem_of_lookup
def cw:=@List.replicate_succ
def cy:=@List.getElem?_range
def cA:=@PySem.wpAny_callSpecial?_slot
def cB:=@List.nodup_append
def cC:=@List.getElem?_set_ne
def cD:=@List.getElem?_of_mem
def cE:=@or_false
def cF:=@beq_eq_false_iff_ne
def cG:=@List.length_reverse
def cH:=@PySem.wpAny_mono
def cI:=@PySem.wpAny_newObj_type
def cJ:=@PyProof.Rows.callWith_type1
def cL:=@PySem.wpAny_field
def cM:=@Nat.lt_irrefl
def cN:=@PySem.Heap.size_push
def cO:=@List.pairwise_iff_getElem
def cP:=@List.length_set
def cQ:=@PySem.wpAny_Call_Name_kw
def cS:=@List.mem_append_left
def cT:=@PySem.wpAny_truthy_bool
def cU:=@Array.length_toList
def cV:=@List.nil_append
def cW:=@PySem.F.slot_int_rmul
def cZ:=@List.map_congr_left
def d0:=@PySem.F.slot_tuple_iterator_next
def da:=@PySem.wpAny_call_entry
def de:=@PySem.call_meets
def dk:=@List.all_cons
def dn:=@Bool.false_eq_true
def dv:=@List.dropLast_eq_take
def dA:=@Int.emod_lt_of_pos
def dB:=@PySem.wpAny_binaryOp_repeat_ref
def dC:=@List.drop_eq_getElem_cons
def dD:=@Array.getElem?_eq_getElem
def dE:=@List.mem_filter
def dF:=@PySem.wpAny_passesOwn
def dG:=@List.nodup_cons
def dH:=@Int.toNat_natCast
def dI:=@List.flatten_cons
def dJ:=@List.append_assoc
def dM:=@List.range_succ
def dN:=@not_true_eq_false
def dO:=@Option.map_some
def dP:=@PySem.wpAny_holding
def dQ:=@List.getElem?_replicate
def dR:=@if_true
def dS:=@List.length_eq_zero_iff
def dU:=@Option.getD_some
def dW:=@List.cons_append
def dX:=@PySem.wpAny_setField_rec
def dY:=@List.map_singleton
def dZ:=@List.zip_cons_cons
def e7:=@PySem.wpAny_execs_nil
def e8:=@List.length_replicate
def e9:=@List.map_nil
def eh:=@Int.emod_nonneg
def ei:=@List.length_filter_le
def eD:=@List.reverse_cons
def eE:=@decide_eq_true_eq
def eF:=@List.ext_getElem?
def eG:=@List.getElem?_zip_eq_some
def eH:=@PySem.wpAny_seqItems
def eI:=@List.take_zero
def eJ:=@List.nodup_nil
def eK:=@List.filter_cons
def eL:=@PySem.typeIs_int
def eM:=@Nat.mul_comm
def eN:=@List.eq_of_mem_replicate
def eO:=@List.of_mem_zip
def eP:=@PySem.AutoListH.list___mul___list_int_3
def eQ:=@List.getElem?_drop
def eR:=@Nat.min_eq_left
def eS:=@Bool.or_eq_true
def eT:=@List.getElem?_take
def eU:=@Nat.eq_zero_or_pos
def eV:=@PyProof.Rows.entry_tuple_getitem
def eW:=@PySem.Heap.get?_update_other
def eX:=@PySem.sizeLine_eq
def eY:=@PySem.F.args_int_rmul_2
def eZ:=@PyProof.Rows.args_tuple_getitem
def ff:=@PySem.Str.length_append
def fg:=@Bool.false_and
def fh:=@Nat.mul_le_mul
def fk:=@Nat.succ_pos
def fq:=@List.getElem?_reverse
def ft:=@PySem.F.slot_str_find
def fv:=@PySem.F.type_str_find
def fw:=@PySem.F.slot_int_index
def fz:=@PySem.F.entry_int_rmul
def fA:=@PyProof.Rows.slot_str_getitem
def fB:=@Nat.min_eq_right
def fD:=@PySem.F.slot_tuple_mul
def fE:=@beq_self_eq_true
def fF:=@PySem.Calls.evalArgs_plain
def fG:=@List.reverse_reverse
def fH:=@List.mem_of_mem_drop
def fI:=@PySem.evalPart_none
def fJ:=@PySem.F.args_tuple_iterator_next_1
def fK:=@Bool.true_and
def fL:=@PySem.F.fills_int_mul
def fM:=@PySem.F.entry_tuple_iterator_next
def fN:=@PySem.F.slot_zip_next
def fO:=@List.getElem_of_mem
def fP:=@List.length_nil
def fQ:=@PySem.F.attrBase_ValueError
def fR:=@List.reverse_append
def fS:=@Int.fdiv_eq_ediv_of_nonneg
def fT:=@PyProof.Rows.tupleItemsOf_
def fU:=@PySem.F.excBase_ValueError
def fV:=@List.mem_filterMap
def fW:=@if_false
def fX:=@PySem.Heap.IsSliceOf.new
def fY:=@List.all_map
def fZ:=@List.map_replicate
def g7:=@Ne.symm
def g9:=@PySem.wpAny_pyIter_list
def gc:=@PySem.W.kitx_dict
def gi:=@Option.isSome_iff_exists
def gp:=@List.getElem?_take_of_lt
def gs:=@PySem.F.args_tuple_add_2
def gu:=@PySem.wpAny_sequenceKey
def gv:=@PySem.slot_list_getitem
def gA:=@PySem.typeIs_str
def gB:=@PySem.StrLaws.found_one
def gC:=@PySem.wpAny_standAt
def gD:=@PySem.F.entry_tuple_add
def gE:=@PySem.evalPart_some
def gF:=@List.any_cons
def gG:=@List.getElem?_cons_zero
def gH:=@PySem.wpAny_attempt
def gI:=@PySem.wpAny_execs_cons
def gJ:=@PySem.noFill_tuple_add
def gK:=@PySem.Around.in1_units
def gL:=@PySem.codeAny_mono
def gM:=@Int.ediv_one
def gN:=@PySem.wpAny_typeOf
def gO:=@PySem.seqIndex_neg
def gP:=@Nat.succ.inj
def gQ:=@List.length_zip
def gR:=@decide_false
def gS:=@List.map_set
def gT:=@List.drop_zero
def gU:=@Bool.and_false
def gV:=@PySem.wpAny_Slice
def gW:=@PySem.seqIndex_of
def gX:=@Nat.le_succ
def gY:=@Nat.mod_mul
def gZ:=@Bool.or_false
def hG:=@List.take_nil
def hJ:=@Bool.false_or
def hR:=@beq_iff_eq
open PySem PySem.Spec
namespace L2
open PyProof.Rows
abbrev Key:=Sum Int Str
def asf:Key->Value->Bool
 |.inl k,v=>Value.isInt k v
 |.inr x,v=>Value.isStrOf x v
def b0e(w:World):Key->Int
 |.inl k=>hashInt k
 |.inr x=>hashStr w x
theorem ou:∀{k:Key} {v:Value},asf k v=true->(∃i t,k=Sum.inl i/\v=Value.int i t)\/(∃x t,k=Sum.inr x/\v=Value.str x t)
 |.inl i,v,h=>by
  obtain⟨t,e⟩:=Value.isInt_shape (k:=i) (v:=v) h;exact .inl ⟨i,t,rfl,e⟩
 |.inr x,v,h=>by
  obtain⟨t,e⟩:=Value.isStrOf_shape (x:=x) (v:=v) h;exact .inr ⟨x,t,rfl,e⟩
theorem ash(a b:Int):decide ((Sum.inl a:Key)=Sum.inl b)=(a == b):=by
 by_cases e:a=b
 ·subst e;simp
 ·have h:¬ (Sum.inl a:Key)=Sum.inl b:=λq=>e (Sum.inl.inj q);rw[bp h];exact(cF.mpr e).symm
theorem asi(a b:Str):decide ((Sum.inr a:Key)=Sum.inr b)=decide (a=b):=by
 by_cases e:a=b
 ·subst e;simp
 ·have h:¬ (Sum.inr a:Key)=Sum.inr b:=λq=>e (Sum.inr.inj q);rw[bp h,bp e]
theorem asj(a:Int)(b:Str):decide ((Sum.inl a:Key)=Sum.inr b)=false:=bp (λq=>nomatch q)
theorem asl(a:Str)(b:Int):decide ((Sum.inr a:Key)=Sum.inl b)=false:=bp (λq=>nomatch q)
def a6h(prog:Program)(w:World):PySem.KeyKind prog w Key where
 is:=asf
 hash:=b0e w
 inj:=λv a b ha hb=>by
  rcases ou ha with⟨i,t,rfl,rfl⟩|⟨x,t,rfl,rfl⟩
  ·rcases ou hb with⟨j,u,rfl,e⟩|⟨y,u,rfl,e⟩
   ·injection e with e1 _;rw[e1]
   ·exact nomatch e
  ·rcases ou hb with⟨j,u,rfl,e⟩|⟨y,u,rfl,e⟩
   ·exact nomatch e
   ·injection e with e1 _;rw[e1]
 byValue:=λk v h=>by
  rcases ou h with⟨i,t,rfl,rfl⟩|⟨x,t,rfl,rfl⟩<;>rfl
 pyHash:=λhv h=>by
  rcases ou hv with⟨i,t,rfl,rfl⟩|⟨x,t,rfl,rfl⟩
  ·exact wpAny_pyHash_int h
  ·exact wpAny_pyHash_str h
 eqBool:=λhu hv h=>by
  rcases ou hu with⟨i,t,rfl,rfl⟩|⟨x,t,rfl,rfl⟩
  ·rcases ou hv with⟨j,u,rfl,rfl⟩|⟨y,u,rfl,rfl⟩
   ·rw[ash]at h;exact wpAny_eqBool_int h
   ·rw[asj]at h;exact SeqAt.EqAt.int_str i t y u _ _ _ _ h
  ·rcases ou hv with⟨j,u,rfl,rfl⟩|⟨y,u,rfl,rfl⟩
   ·rw[asl]at h;exact SeqAt.EqAt.str_int x t j u _ _ _ _ h
   ·rw[asi]at h;exact wpAny_eqBool_str h
 «strs»:=λk x t v h=>by
  rcases ou h with⟨i,u,rfl,e⟩|⟨y,u,rfl,e⟩
  ·exact nomatch e
  ·injection e with e1 _
   subst e1
   cases v<;>rfl
inductive V where
 |non|bl (b:Bool)|int (i:Int)|str (x:Str)|byt (b:Array UInt8)|flt (b:UInt64)|ref (a:Addr)|ty (n:String)
 deriving DecidableEq
def RelV:V->Value->Prop
 |.non,u=>u=Value.none
 |.bl b,u=>u=Value.bool b
 |.int i,u=>∃t,u=Value.int i t
 |.str x,u=>∃t,u=Value.str x t
 |.byt b,u=>∃t,u=Value.bytes b t
 |.flt b,u=>∃t,u=Value.float b t
 |.ref a,u=>u=Value.ref a
 |.ty n,u=>u=Value.type n
abbrev Vals:List V->List Value->Prop:=Paired RelV
theorem Vals.length(r:Vals xs us):xs.length=us.length:=Paired.length r
theorem Vals.get:∀{xs:List V} {us:List Value} {i:Nat} {x:V},Vals xs us->xs[i]? = some x->∃u,us[i]? = some u/\RelV x u
 |_,_,_,_,.nil,e=>by simp at e
 |_,_,0,_,.cons r _,e=>by simp at e;subst e;exact⟨_,rfl,r⟩
 |_,_,i+1,x,.cons _ t,e=>by
  obtain⟨u,h1,h2⟩:=Vals.get (i:=i) (x:=x) t (by simpa using e)
  exact⟨u,by simpa using h1,h2⟩
theorem Vals.set(r:RelV x u):∀{xs:List V} {us:List Value} (i:Nat),Vals xs us->Vals (xs.set i x) (us.set i u)
 |_,_,_,.nil=>.nil
 |_,_,0,.cons _ t=>.cons r t
 |_,_,i+1,.cons q t=>.cons q (Vals.set r i t)
theorem Vals.append:∀{xs ys:List V} {us ws:List Value},Vals xs us->Vals ys ws->Vals (xs++ys) (us++ws)
 |_,_,_,_,.nil,s=>s
 |_,_,_,_,.cons r t,s=>.cons r (Vals.append t s)
theorem Vals.take:∀{xs:List V} {us:List Value} (n:Nat),Vals xs us->Vals (xs.take n) (us.take n)
 |_,_,0,_=>.nil
 |_,_,_+1,.nil=>.nil
 |_,_,n+1,.cons r t=>.cons r (Vals.take n t)
theorem Vals.drop:∀{xs:List V} {us:List Value} (n:Nat),Vals xs us->Vals (xs.drop n) (us.drop n)
 |_,_,0,r=>r
 |_,_,_+1,.nil=>.nil
 |_,_,n+1,.cons _ t=>Vals.drop n t
def RelO:Option V->Option Value->Prop
 |some v,some u=>RelV v u
 |none,none=>True
 |_,_=>False
def KV{κ:Type}:List (κ×V)->List (κ×Value)->Prop:=Paired λ(p:κ×V) (q:κ×Value)=>p.1=q.1/\RelV p.2 q.2
def kV:Key->V
 |.inl i=>.int i
 |.inr x=>.str x
inductive HO where
 |lst (xs:List V)
 |tup (xs:List V)
 |dK (kvs:List (Key×V))|dT (kvs:List (List Key×V))
 |set (S:Int->Bool) (n:Nat)
 |ins (C dx:Addr) (fs:List (Str×V))
 |own (x:Addr)
 |xd (fs:List (Str×V))
 |met (f x:Addr)
 |rng (lo hi:Int)
 |frz (o:Obj) (u:HO)
 |tbl (ps:Array Value)
 |ext (φ:Heap->Prop)
abbrev Hp:=Addr->Option HO
def upd(H:Hp)(a:Addr)(o:HO):Hp:=λb=>if b=a then some o else H b
theorem qp:upd H a o a=some o:=by unfold upd;rw[aO rfl]
theorem jg(h:b≠a):upd H a o b=H b:=by unfold upd;rw[bE h]
theorem j8{H:Hp}{a b:Addr}{o:HO}(h:H a=some o)(h':H b=none):a≠b:=by
 intro e;subst e;rw[h]at h';cases h'
section
variable(P:Program)(w:World)
def ObjOk(H:Hp)(h:Heap)(a:Addr):HO->Prop
 |.lst xs=>xs.length<=sizeLine/\∃(its:List Value) (n:Nat),Vals xs its/\h.get? a=some {cls:=.type "list",data:=.seq its.toArray n}
 |.tup xs=>xs.length<=sizeLine/\∃its:List Value,Vals xs its/\IsTup h a its.toArray
 |.dK kvs=>kvs.length<=sizeLine/\(a == sysModules)=false/\∃vs,KV kvs vs/\h.DictOf (a6h P w) a vs
 | .dT kvs=>kvs.length<=sizeLine/\(a == sysModules)=false/\∃xs:List (List Key×Addr×Value),
   Paired (λ(p:List Key×V) (q:List Key×Addr×Value)=>p.1=q.1/\H q.2.1=some (.tup (p.1.map kV))/\RelV p.2 q.2.2) kvs xs /\
   ∃o es ep,h.get? a=some o/\o.ExactDict/\o.data=.dict es ep/\es.toList=xs.map (entryOfKey (tupleKind (a6h P w)))/\(xs.map (·.1)).Nodup
 |.set S n=>h.SetOf (intKind P w) a S n
 | .ins C dx fs=>H dx=some (.own a)/\fs.length<=1000/\dx≠a/\h.get? a=some (PySem.W.instObj C dx) /\
   ∃mA,h.Ns1 dx mA/\(∀f,RelO (fs.lookup f) (mA f))/\PySem.Within mA (fs.map (·.1))
 |.own _=>∃o,h.get? a=some o
 |.xd fs=>∃mA,h.Ns1 a mA/\∀f,RelO (fs.lookup f) (mA f)
 |.rng lo hi=>∃t u v,h.get? a=some {cls:=.type "range",data:=.fields #[.int lo t,.int hi u,.int 1 v]}
 |.frz o u=>h.get? a=some o/\ObjOk H h a u
 |.tbl ps=>h.get? a=some {cls:=.none,data:=.fields ps}
 |.met f x=>h.get? a=some (PySem.W.methodObj (.ref f) (.ref x))
 |.ext φ=>φ h/\(∃o,h.get? a=some o)/\∀h1 h2:Heap,φ h1->(∀o,h1.get? a=some o->h2.get? a=some o)->φ h2
def HOk(H:Hp)(h:Heap):Prop:=∀a o,H a=some o->ObjOk P w H h a o
end
section
variable{P:Program}{w:World}{H H':Hp}{h h':Heap}{a:Addr}{o:HO}
theorem ObjOk.lt(x:ObjOk P w H h a o):a<h.objs.size:=by
 cases o with
 |lst xs=>obtain⟨_,_,_,_,e⟩:=x;exact aV e
 |tup xs=>obtain⟨_,_,_,p⟩:=x;exact p.lt
 |dK kvs=>obtain⟨_,_,_,_,o,_,_,e,_⟩:=x;exact aV e
 |dT kvs=>obtain⟨_,_,_,_,o,_,_,e,_⟩:=x;exact aV e
 |set S n=>obtain⟨o,_,_,_,e,_⟩:=x;exact aV e
 |ins C dx fs=>obtain⟨_,_,_,e,_⟩:=x;exact aV e
 |own y=>obtain⟨_,e⟩:=x;exact aV e
 |xd fs=>obtain⟨_,⟨_,_,_,e,_⟩,_⟩:=x;exact aV e
 |rng lo hi=>obtain⟨_,_,_,e⟩:=x;exact aV e
 |frz ob u=>obtain⟨e,_⟩:=x;exact aV e
 |tbl ps=>exact aV (show h.get? a=some _ from x)
 |met f y=>exact aV (show h.get? a=some _ from x)
 |ext φ=>obtain⟨_,⟨_,e⟩,_⟩:=x;exact aV e
theorem Paired.mapP{α β:Type}{F G:α->β->Prop}:∀{l₁:List α} {l₂:List β},Paired F l₁ l₂->(∀a b,F a b->G a b)->Paired G l₁ l₂
 |_,_,.nil,_=>.nil
 |_,_,.cons r t,f=>.cons (f _ _ r) (Paired.mapP t f)
theorem ObjOk.stay(x:ObjOk P w H h a o)(k:∀b u,(b=a\/H b=some (.own a))->h.get? b=some u->h'.get? b=some u)
  (ho:∀b,H b=some (.own a)->H' b=some (.own a)) (ht:∀b xs,H b=some (.tup xs)->H' b=some (.tup xs)):ObjOk P w H' h' a o:=by
 induction o with
 |lst xs=>obtain⟨z,its,n,r,e⟩:=x;exact⟨z,its,n,r,k _ _ (.inl rfl) e⟩
 |tup xs=>obtain⟨z,its,r,ob,e,c⟩:=x;exact⟨z,its,r,ob,k _ _ (.inl rfl) e,c⟩
 |dK kvs=>obtain⟨z,y,vs,r,ob,es,ep,e,c⟩:=x;exact⟨z,y,vs,r,ob,es,ep,k _ _ (.inl rfl) e,c⟩
 |dT kvs =>
  obtain⟨z,y,xs,r,ob,es,ep,e,c⟩:=x;exact⟨z,y,xs,Paired.mapP r λp q z=>⟨z.1,ht _ _ z.2.1,z.2.2⟩,ob,es,ep,k _ _ (.inl rfl) e,c⟩
 |set S n=>obtain⟨ob,es,ep,t,e,c⟩:=x;exact⟨ob,es,ep,t,k _ _ (.inl rfl) e,c⟩
 |ins C dx fs =>
  obtain⟨d,z,ne,e,mA,⟨od,es,ep,e2,c⟩,r⟩:=x;exact⟨ho _ d,z,ne,k _ _ (.inl rfl) e,mA,⟨od,es,ep,k _ _ (.inr d) e2,c⟩,r⟩
 |own y=>obtain⟨ob,e⟩:=x;exact⟨ob,k _ _ (.inl rfl) e⟩
 |xd fs=>obtain⟨mA,⟨od,es,ep,e,c⟩,r⟩:=x;exact⟨mA,⟨od,es,ep,k _ _ (.inl rfl) e,c⟩,r⟩
 |rng lo hi=>obtain⟨t,u,v,e⟩:=x;exact⟨t,u,v,k _ _ (.inl rfl) e⟩
 |frz ob u ih=>obtain⟨e,q⟩:=x;exact⟨k _ _ (.inl rfl) e,ih q⟩
 |tbl ps =>
  have e:h.get? a=some {cls:=.none,data:=.fields ps}:=x;show h'.get? a=some {cls:=.none,data:=.fields ps};exact k a _ (.inl rfl) e
 |met f y =>
  have e:h.get? a=some (PySem.W.methodObj (.ref f) (.ref y)):=x;show h'.get? a=some (PySem.W.methodObj (.ref f) (.ref y));exact k a _ (.inl rfl) e
 |ext φ=>obtain⟨p,⟨o,e⟩,st⟩:=x;exact⟨st _ _ p λo q=>k _ _ (.inl rfl) q,⟨o,k _ _ (.inl rfl) e⟩,st⟩
theorem HOk.lt(x:HOk P w H h)(e:H a=some o):a<h.objs.size:=(x a o e).lt
theorem HOk.fresh(x:HOk P w H h)(e:h.objs.size<=a):H a=none:=by
 cases q:H a with
 |none=>rfl
 |some u=>exact absurd (aZ (x.lt q) e) (cM _)
theorem HOk.kept(x:HOk P w H h)(k:∀b u,h.get? b=some u->h'.get? b=some u):HOk P w H h':=λa o e =>
 (x a o e).stay (λb u _ q=>k b u q) (λ_ q=>q) λ_ _ q=>q
theorem HOk.laid(x:HOk P w H h)(k:∀b u,h.get? b=some u->h'.get? b=some u)(hp:h.objs.size<=a)(new:ObjOk P w (upd H a o) h' a o):HOk P w (upd H a o) h':=λb u e=>by
 have hn:=x.fresh hp
 by_cases hb:b=a
 ·subst hb;rw[qp]at e;cases e;exact new
 ·rw[jg hb]at e;exact(x b u e).stay (λc v _ q=>k c v q) (λc q=>by rw[jg (j8 q hn)];exact q) λc xs q=>by rw[jg (j8 q hn)];exact q
end
def Rd(H:Hp)(a:Addr)(u:HO):Prop:=H a=some u\/∃o,H a=some (.frz o u)
theorem Rd.of(h:H a=some u):Rd H a u:=.inl h
theorem Rd.ok(r:Rd H a u)(x:HOk P w H h):ObjOk P w H h a u:=by
 rcases r with r|⟨o,r⟩
 ·exact x a u r
 ·obtain⟨_,q⟩:=x a _ r;exact q
def Mut:Option HO->Prop
 |some (.lst _)=>True
 |some (.dK _)=>True
 |some (.dT _)=>True
 |some (.set _ _)=>True
 |some (.ins _ _ _)=>True
 |some (.ext _)=>True
 |_=>False
section
variable{P:Program}{w:World}{H:Hp}{h h':Heap}{x e:Addr}{o':HO}
theorem HOk.write(ok:HOk P w H h)(mu:Mut (H x))(he:e=x\/H e=some (.own x))(k:∀b u,b≠e->h.get? b=some u->h'.get? b=some u)(heo:∃u,h'.get? e=some u)
  (new:ObjOk P w (upd H x o') h' x o'):HOk P w (upd H x o') h':=λb u q=>by
 have nown:∀c y,H c=some (.own y)->c≠x:=λc y r z=>by subst z;rw[r]at mu;exact mu
 have ntup:∀c xs,H c=some (.tup xs)->c≠x:=λc xs r z=>by subst z;rw[r]at mu;exact mu
 by_cases hb:b=x
 ·subst hb;rw[qp]at q;cases q;exact new
 ·rw[jg hb]at q
  by_cases hbe:b=e
  ·have q':H b=some (.own x):=by
    rcases he with z|z
    ·exact absurd (hbe.trans z) hb
    ·rw[hbe];exact z
   rw[q]at q';cases q'
   obtain⟨v,hv⟩:=heo;exact⟨v,by rw[hbe];exact hv⟩
  ·refine(ok b u q).stay (λc v hc r=>k c v ?_ r) (λc r=>by rw[jg (nown c b r)];exact r) λc xs r=>by rw[jg (ntup c xs r)];exact r
   rcases hc with rfl|hc
   ·exact hbe
   ·rintro rfl
    rcases he with z|z
    ·exact nown c b hc z
    ·rw[hc]at z;cases z;exact hb rfl
end
structure Un (fs ex:List Addr) (H H':Hp) (h h':Heap):Prop where
 keep:∀b o,h.get? b=some o->H b=none->b∉fs->b∉ex->h'.get? b=some o
 slot:∀b o,h.get? b=some o->H b=none->b∈fs->b∉ex->∃sl,h'.get? b=some {o with slots:=sl}
 free:∀b o,h.get? b=some o->H b=none->b∉ex->H' b=none
 there:∀b o,h.get? b=some o->b∉ex->∃o',h'.get? b=some o'
 tups:∀b xs,H b=some (.tup xs)->H' b=some (.tup xs)
 frzs:∀b o u,H b=some (.frz o u)->H' b=some (.frz o u)
 tbls:∀b ps,H b=some (.tbl ps)->∃more,H' b=some (.tbl (ps++more))
section
variable{fs fs' ex ex':List Addr}{H H1 H2:Hp}{h h1 h2 h':Heap}{a x e:Addr}{o:HO}
theorem Un.any(u:Un fs ex H H1 h h1)(q:h.get? b=some ob)(n:H b=none)(hx:b∉ex):∃sl,h1.get? b=some {ob with slots:=sl}:=by
 by_cases hb:b∈fs
 ·exact u.slot b ob q n hb hx
 ·exact⟨ob.slots,u.keep b ob q n hb hx⟩
theorem Un.kept(k:∀b u,h.get? b=some u->h'.get? b=some u):Un fs ex H H h h' :=
 ⟨λb ob q _ _ _=>k b ob q,λb ob q _ _ _=>⟨ob.slots,k b ob q⟩,λ_ _ _ n _=>n,λb ob q _=>⟨ob,k b ob q⟩,λ_ _ q=>q,λ_ _ _ q=>q,λ_ ps q=>⟨#[],by rw[q];simp⟩⟩
theorem Un.refl:Un fs ex H H h h:=Un.kept λ_ _ q=>q
theorem Un.laid(k:∀b u,h.get? b=some u->h'.get? b=some u)(hp:h.objs.size<=a)(hn:H a=none):Un fs ex H (upd H a o) h h' where
 keep:=λb u q _ _ _=>k b u q
 slot:=λb u q _ _ _=>⟨u.slots,k b u q⟩
 free:=λb u q n _=>by rw[jg (bR (aZ (aV q) hp))];exact n
 there:=λb u q _=>⟨u,k b u q⟩
 tups:=λb xs q=>by rw[jg (j8 q hn)];exact q
 frzs:=λb u xs q=>by rw[jg (j8 q hn)];exact q
 tbls:=λb ps q=>⟨#[],by rw[jg (j8 q hn),q];simp⟩
theorem Un.write(mu:Mut (H x))(he:e=x\/H e=some (.own x))(k:∀b u,b≠e->h.get? b=some u->h'.get? b=some u)(heo:∃u,h'.get? e=some u):Un fs ex H (upd H x o) h h':=by
 have hx:∀b,H b=none->b≠x:=λb n z=>by subst z;rw[n]at mu;exact mu
 have hb:∀b,H b=none->b≠e:=λb n z=>by
  subst z
  rcases he with r|r
  ·exact hx b n r
  ·rw[n]at r;cases r
 have hm:∀b u,H b=some u->¬ Mut (some u)->b≠x:=λb u q nm z=>by subst z;rw[q]at mu;exact nm mu
 refine⟨λb u q n _ _=>k b u (hb b n) q,λb u q n _ _=>⟨u.slots,k b u (hb b n) q⟩,λb u q n _=>by rw[jg (hx b n)];exact n,λb u q _=>?_,
  λb xs q=>by rw[jg (hm b _ q λz=>z)];exact q,λb u xs q=>by rw[jg (hm b _ q λz=>z)];exact q,λb ps q=>⟨#[],by rw[jg (hm b _ q λz=>z),q];simp⟩⟩
 by_cases hbe:b=e
 ·subst hbe;exact heo
 ·exact⟨u,k b u hbe q⟩
end
def trk(h:Heap)(H:Hp):List Addr:=(List.range h.objs.size).filter λa=>(H a).isSome
def ak0(h:Heap)(H:Hp):Heap:=PySem.W.hideAll h (trk h H)
theorem ag0(h:Heap)(H:Hp):(ak0 h H).objs.size=h.objs.size:=PySem.W.hideAll_size _ _
theorem ak1{h:Heap}(e:h.get? b=some o)(n:H b=none):(ak0 h H).get? b=some o :=
 PySem.W.hideAll_get _ e λhm=>by
  have q:(H b).isSome=true:=(dE.mp hm).2;rw[n]at q;simp at q
theorem aot(e:(ak0 h H).get? b=some o):h.get? b=some o/\H b=none:=by
 have e':h.get? b=some o:=PySem.W.of_hideAll (trk h H) e;refine⟨e',?_⟩
 cases q:H b with
 |none=>rfl
 |some x =>
  have hm:b∈trk h H:=dE.mpr ⟨bS.mpr (aV e'),by simp[q]⟩
  have z:(ak0 h H).get? b=none:=PySem.W.hideAll_none (trk h H) hm;rw[z]at e;cases e
def aou(g h:Heap)(L:Addr):List (Addr×Obj):=(List.range h.objs.size).filterMap λa=>if a=L\/(g.get? a).isSome=true then none else (h.get? a).map λo=>(a,o)
def aF(g h:Heap)(L d:Addr):List (Addr×Obj):=(aou g h L).filter λp=>decide (p.1≠d)
structure Mod (K:Fg) (mg:Str->Option Value) (base:Heap):Prop where
 kin:K.In base
 glob:base.Ns mainGlobals mg
 blt:∃mb,base.Ns builtinsNs mb/\∀x:Str,x ≠ "__name__"->mb x=bootBuiltins x
 nolimit:base.NoLimit
structure Cx where
 prog:Program
 w:World
 K:Fg
 mg:Str->Option Value
 base:Heap
 A:Around
 N:List Str
 s₀:Shared
 H₀:Hp
 env:Env
 outer:List Env
 stack:List Env
 ex:List Addr
 fn:Str->Bool
 calm:Bool
 pn:List (Addr×Obj)
 xe:Value->Shared->Prop
def frs(l:List Env):List Addr:=l.filterMap (·.frame)
abbrev Cx.fs(X:Cx):List Addr:=frs X.outer
def Vis(sc:Scope)(x:Str):Prop:=sc.names.lookup x=some .local\/sc.names.lookup x=some .cell\/sc.names.lookup x=some .free
def Loc(sc:Scope)(x:Str):Prop:=sc.names.lookup x=some .local\/sc.names.lookup x=some .cell
def Look(env:Env)(h:Heap)(m:Str->Option Value)(x:Str)(u:Value):Prop :=
 (env.kindOf x=some .local/\m x=some u)\/((env.kindOf x=some .cell\/env.kindOf x=some .free)/\∃c,env.cells.lookup x=some c/\h.IsCell c (some u))
structure Cx.Ok (X:Cx):Prop where
 mod:Mod X.K X.mg X.base
 kind:X.env.scope.kind=.function
 glob:X.env.globals=mainGlobals
 blt:X.env.builtins=builtinsNs
 above:X.s₀.heap.objs.size<=X.env.locals
 inj:∀x y c,X.env.cells.lookup x=some c->X.env.cells.lookup y=some c->x=y
 has:∀x,(X.env.kindOf x=some .cell\/X.env.kindOf x=some .free)->∃c,X.env.cells.lookup x=some c
 cab:∀x c,X.fn x=true->X.env.cells.lookup x=some c->X.s₀.heap.objs.size<=c
 hd:X.calm=true->X.A.handled=none
 frames:X.A.frames=some X.stack
 stk:X.stack=X.outer\/(X.stack=X.env::X.outer/\X.env.frame=some X.env.locals)
 exf:∀b∈X.ex,b≠X.env.locals/\∀x c,X.env.cells.lookup x=some c->c≠b
 bs:∀b o,X.base.get? b=some o->X.s₀.heap.get? b=some o/\X.H₀ b=none
 bsz:X.base.objs.size<=X.s₀.heap.objs.size
 noex:∀b o,X.base.get? b=some o->b∉X.ex
 exfs:∀b∈X.ex,b∉X.fs
 funs:X.s₀.heap.FunFrames X.base X.outer
 frf:∀b∈X.fs,X.H₀ b=none
structure Inv (X:Cx) (aA:List (Addr×Obj)) (σ:List (Option V)) (H:Hp) (s:Shared):Prop where
 ok:X.Ok
 os:s.os=X.s₀.os
 bare:AllBare s.gens
 base:Un X.fs X.ex X.H₀ H X.s₀.heap s.heap
 loc:∃m,s.heap.Ns X.env.locals m/\∀(i:Nat) (x:Str) (v:V),X.N[i]? = some x->σ[i]? = some (some v)->Vis X.env.scope x->∃u,RelV v u/\Look X.env s.heap m x u
 cell:∀x c,X.env.cells.lookup x=some c->∃v,s.heap.IsCell c v
 free:H X.env.locals=none
 freeC:∀x c,X.env.cells.lookup x=some c->H c=none
 pin:∀p∈X.pn++aA,s.heap.get? p.1=some p.2/\H p.1=none/\p.1≠X.env.locals/\p.1∉X.fs/\∀v,p.2.data≠.cell v
 hok:HOk X.prog X.w H s.heap
 len:σ.length=X.N.length
section
variable{X:Cx}{aA:List (Addr×Obj)}{σ:List (Option V)}{H H':Hp}{s:Shared}{h':Heap}
theorem Cx.Ok.nofr(ok:X.Ok)(e:X.base.get? b=some o):b∉X.fs:=λhb=>by
 have:=(ok.funs.mem hb).1
 rw[e]at this;cases this
theorem Inv.bs(I:Inv X aA σ H s):∀b o,X.base.get? b=some o->s.heap.get? b=some o/\H b=none:=λb o e =>
 ⟨I.base.keep b o (I.ok.bs b o e).1 (I.ok.bs b o e).2 (I.ok.nofr e) (I.ok.noex b o e),I.base.free b o (I.ok.bs b o e).1 (I.ok.bs b o e).2 (I.ok.noex b o e)⟩
theorem Inv.bk(I:Inv X aA σ H s):∀b o,X.base.get? b=some o->s.heap.get? b=some o:=λb o e=>(I.bs b o e).1
theorem Inv.mod(I:Inv X aA σ H s):Mod X.K X.mg X.base:=I.ok.mod
theorem Inv.kIn(I:Inv X aA σ H s):X.K.In s.heap:=I.ok.mod.kin.keeps I.bk
theorem Inv.fr(I:Inv X aA σ H s):∃m,Fr X.base X.env.locals s.heap m :=
 let ⟨m,hn,_⟩:=I.loc
 ⟨m,hn,I.bk,bX I.ok.bsz I.ok.above⟩
theorem Inv.lt(I:Inv X aA σ H s):X.env.locals<s.heap.objs.size:=let ⟨_,hn,_⟩:=I.loc;hn.lt
theorem Inv.sz(I:Inv X aA σ H s):X.s₀.heap.objs.size<=s.heap.objs.size:=bX I.ok.above (Nat.le_of_lt I.lt)
theorem Inv.nofs(I:Inv X aA σ H s)(h:s.heap.objs.size<=a):a∉X.fs:=λhb=>by
 obtain⟨_,o,ho,_⟩:=I.ok.funs.mem hb;exact absurd (aZ (aV ho) (bX I.sz h)) (cM _)
theorem Inv.cne(I:Inv X aA σ H s):∀x c,X.env.cells.lookup x=some c->c≠X.env.locals:=λx c e z=>by
 obtain⟨v,o,ho,hd⟩:=I.cell x c e;obtain⟨m,⟨o',es,ep,ho',hd',_⟩,_⟩:=I.loc;rw[z,ho']at ho;cases ho;rw[hd']at hd;cases hd
theorem Inv.funs(I:Inv X aA σ H s):s.heap.FunFrames X.base X.outer:=by
 have all:∀(l:List Env),(∀b∈frs l,b∈X.fs)->X.s₀.heap.FunFrames X.base l->s.heap.FunFrames X.base l:=by
  intro l
  induction l with
  |nil=>intro _ _;trivial
  |cons env r ih =>
   intro hs hl
   obtain⟨hk,⟨L,o,hf,hn,ho,hd⟩,hr⟩:=hl;have hL:L∈X.fs:=hs L (by unfold frs;rw[cp,hf];exact aQ)
   obtain⟨sl,e⟩:=I.base.slot L o ho (I.ok.frf L hL) hL λz=>I.ok.exfs L z hL;exact⟨hk,⟨L,_,hf,hn,e,hd⟩,ih (λb hb=>hs b (by unfold frs;rw[cp,hf];exact aK _ hb)) hr⟩
 exact all X.outer (λ_ hb=>hb) I.ok.funs
theorem Inv.stack(I:Inv X aA σ H s):s.heap.FunFrames X.base X.stack:=by
 rcases I.ok.stk with e|⟨e,hf⟩
 ·rw[e];exact I.funs
 ·rw[e];obtain⟨m,hn,_⟩:=I.loc;refine .cons (by rw[I.ok.kind];decide) hf hn ?_ I.funs
  exact Heap.get?_none_of_le (bX I.ok.bsz I.ok.above)
theorem Inv.stkSub(I:Inv X aA σ H s):∀b∈frs X.stack,b∈X.env.locals::X.fs:=λb hb=>by
 rcases I.ok.stk with e|⟨e,hf⟩
 ·rw[e]at hb;exact aK _ hb
 ·rw[e]at hb;unfold frs at hb;rw[cp,hf]at hb;exact hb
theorem Inv.stkFree(I:Inv X aA σ H s):∀b∈frs X.stack,H b=none:=λb hb=>by
 rcases aR.mp (I.stkSub b hb) with e|hb
 ·rw[e];exact I.free
 ·obtain⟨_,o,ho,_⟩:=I.ok.funs.mem hb;exact I.base.free b o ho (I.ok.frf b hb) λz=>I.ok.exfs b z hb
theorem Inv.step{g':Array GenState}{t':Nat}{d':Drawn}{ch:List Addr}(I:Inv X aA σ H s)
  (hch:∀b∈ch,(b∈X.ex\/X.s₀.heap.objs.size<=b)/\b≠X.env.locals/\(∀x c,X.env.cells.lookup x=some c->c≠b)/\∀p∈X.pn++aA,p.1≠b)
  (keep:∀b o,b≠X.env.locals->b∉X.fs->b∉ch->s.heap.get? b=some o->H b=none->h'.get? b=some o)
  (slot:∀b o,b≠X.env.locals->b∈X.fs->b∉ch->s.heap.get? b=some o->H b=none->∃sl,h'.get? b=some {o with slots:=sl}) (free:∀b o,b∉ch->s.heap.get? b=some o->H b=none->H' b=none)
  (there:∀b o,b∉ch->s.heap.get? b=some o->∃o',h'.get? b=some o')
  (tups:∀b xs,H b=some (.tup xs)->H' b=some (.tup xs)) (frzs:∀b o u,H b=some (.frz o u)->H' b=some (.frz o u)) (tbls:∀b ps,H b=some (.tbl ps)->∃more,H' b=some (.tbl (ps++more)))
  (ns:∀m,s.heap.Ns X.env.locals m->h'.Ns X.env.locals m) (hok:HOk X.prog X.w H' h') (hg:AllBare g') :
  Inv X aA σ H' {s with heap:=h',gens:=g',drawn:=d',toks:=t' }:=by
 have neL:∀b o,X.s₀.heap.get? b=some o->b≠X.env.locals:=λb o e=>bR (aZ (aV e) I.ok.above);have neC:∀b o,X.s₀.heap.get? b=some o->b∉X.ex->b∉ch:=λb o e hx hb=>by
  rcases(hch b hb).1 with z|z
  ·exact hx z
  ·exact absurd (aZ (aV e) z) (cM _)
 have cellK:∀x c,X.env.cells.lookup x=some c->∀v,s.heap.IsCell c v->h'.IsCell c v:=λx c e v ⟨o,ho,hd⟩=>by
  have nch:c∉ch:=λz=>(hch c z).2.2.1 x c e rfl
  by_cases hc:c∈X.fs
  ·obtain⟨sl,q⟩:=slot c o (I.cne x c e) hc nch ho (I.freeC x c e);exact⟨_,q,hd⟩
  ·exact⟨o,keep c o (I.cne x c e) hc nch ho (I.freeC x c e),hd⟩
 refine⟨I.ok,I.os,hg,⟨λb o e n hb hx=>?_,λb o e n hb hx=>?_,λb o e n hx=>?_,λb o e hx=>?_,λb xs e=>tups b xs (I.base.tups b xs e),λb o xs e=>frzs b o xs (I.base.frzs b o xs e),λb ps e=>?_⟩,?_,λx c e=>?_,?_,λx c e=>?_,λp hp=>?_,hok,I.len⟩
 ·exact keep b o (neL b o e) hb (neC b o e hx) (I.base.keep b o e n hb hx) (I.base.free b o e n hx)
 ·obtain⟨sl,e1⟩:=I.base.slot b o e n hb hx;obtain⟨sl',e2⟩:=slot b _ (neL b o e) hb (neC b o e hx) e1 (I.base.free b o e n hx);exact⟨sl',e2⟩
 ·obtain⟨o',e1⟩:=I.base.there b o e hx;exact free b o' (neC b o e hx) e1 (I.base.free b o e n hx)
 ·obtain⟨o',e1⟩:=I.base.there b o e hx;exact there b o' (neC b o e hx) e1
 ·obtain⟨m1,e1⟩:=I.base.tbls b ps e;obtain⟨m2,e2⟩:=tbls b _ e1;exact⟨m1++m2,by rw[e2,Array.append_assoc]⟩
 ·obtain⟨m,hn,hl⟩:=I.loc;refine⟨m,ns m hn,λi x v e1 e2 e3=>?_⟩;obtain⟨u,r,l⟩:=hl i x v e1 e2 e3;refine⟨u,r,?_⟩
  rcases l with l|⟨k,c,e,z⟩
  ·exact .inl l
  ·exact .inr ⟨k,c,e,cellK x c e _ z⟩
 ·obtain⟨v,z⟩:=I.cell x c e;exact⟨v,cellK x c e v z⟩
 ·obtain⟨m,⟨o,_,_,ho,_⟩,_⟩:=I.loc;exact free _ o (λz=>(hch _ z).2.1 rfl) ho I.free
 ·obtain⟨v,o,ho,hd⟩:=I.cell x c e;exact free c o (λz=>(hch c z).2.2.1 x c e rfl) ho (I.freeC x c e)
 ·obtain⟨e,n,ne,nf,d⟩:=I.pin p hp;have nch:p.1∉ch:=λz=>(hch p.1 z).2.2.2 p hp rfl;exact⟨keep p.1 p.2 ne nf nch e n,free p.1 p.2 nch e n,ne,nf,d⟩
theorem Inv.un{t':Nat}(I:Inv X aA σ H s)(u:Un X.fs [] H H' s.heap h')(hok:HOk X.prog X.w H' h'):Inv X aA σ H' {s with heap:=h',toks:=t' }:=by
 obtain⟨m,⟨o,es,ep,ho,r⟩,_⟩:=id I.loc;obtain⟨sl,hL⟩:=u.any ho I.free (by simp)
 exact I.step (g':=s.gens) (d':=s.drawn) (ch:=[]) (λ_ z=>nomatch z) (λb o _ hb _ e n=>u.keep b o e n hb (by simp)) (λb o _ hb _ e n=>u.slot b o e n hb (by simp)) (λb o _ e n=>u.free b o e n (by simp)) (λb o _ e=>u.there b o e (by simp)) u.tups u.frzs u.tbls (λm' hm=>by
  obtain⟨o',es',ep',ho',r'⟩:=hm;rw[ho]at ho';cases ho'
  exact⟨_,es',ep',hL,r'⟩) hok I.bare
theorem Inv.call{g':Array GenState}{t':Nat}{d':Drawn}{ch:List Addr}(I:Inv X aA σ H s)(u:Un (frs X.stack) ch H H' s.heap h')(hok:HOk X.prog X.w H' h')(hg:AllBare g')
  (hch:∀b∈ch,(b∈X.ex\/X.s₀.heap.objs.size<=b)/\b≠X.env.locals/\(∀x c,X.env.cells.lookup x=some c->c≠b)/\∀p∈X.pn++aA,p.1≠b) :
  Inv X aA σ H' {s with heap:=h',gens:=g',drawn:=d',toks:=t' }:=by
 obtain⟨m,⟨o,es,ep,ho,r⟩,_⟩:=id I.loc;obtain⟨sl,hL⟩:=u.any ho I.free λz=>(hch _ z).2.1 rfl;exact I.step (ch:=ch) hch (λb o hL hb hc e n=>u.keep b o e n (λz=>(aR.mp (I.stkSub b z)).elim hL hb) hc) (λb o _ _ hc e n=>u.any e n hc) (λb o hc e n=>u.free b o e n hc) (λb o hc e=>u.there b o e hc) u.tups u.frzs u.tbls (λm' hm=>by
  obtain⟨o',es',ep',ho',r'⟩:=hm;rw[ho]at ho';cases ho'
  exact⟨_,es',ep',hL,r'⟩) hok hg
theorem Inv.turned{t':Nat}{it:Addr}(I:Inv X aA σ H s)(k:∀b o,b≠it->s.heap.get? b=some o->h'.get? b=some o)(hn:H it=none)(hL:it≠X.env.locals)
  (h1:it∈X.ex\/X.s₀.heap.objs.size<=it) (h2:∀x c,X.env.cells.lookup x=some c->c≠it) (h3:∀p∈X.pn++aA,p.1≠it):Inv X aA σ H {s with heap:=h',toks:=t' }:=by
 have nit:∀b u,H b=some u->b≠it:=λb u e z=>by rw[z,hn]at e;cases e
 refine I.step (g':=s.gens) (d':=s.drawn) (ch:=[it]) (λb hb=>?_) (λb o _ _ hc e _=>k b o (λz=>hc (by simp[z])) e) (λb o _ _ hc e _=>⟨o.slots,k b o (λz=>hc (by simp[z])) e⟩) (λ_ _ _ _ n=>n)
  (λb o hc e=>⟨o,k b o (λz=>hc (by simp[z])) e⟩) (λ_ _ e=>e) (λ_ _ _ e=>e) (λb ps e=>⟨#[],by rw[e];simp⟩) (λm hm=>?_) (λb u e=>?_) I.bare
 ·have e:b=it:=by simpa using hb
  subst e;exact⟨h1,hL,h2,h3⟩
 ·obtain⟨o,es,ep,ho,r⟩:=hm;exact⟨o,es,ep,k _ o (g7 hL) ho,r⟩
 ·refine(I.hok b u e).stay (λc v hc q=>k c v ?_ q) (λ_ q=>q) λ_ _ q=>q
  rcases hc with z|z
  ·rw[z];exact nit b u e
  ·exact nit c _ z
theorem Inv.tok(I:Inv X aA σ H s)(t:Nat):Inv X aA σ H {s with toks:=t}:=I.un (h':=s.heap) (t':=t) Un.refl I.hok
theorem Inv.kept(I:Inv X aA σ H s)(k:∀b u,s.heap.get? b=some u->h'.get? b=some u):Inv X aA σ H {s with heap:=h',toks:=t' }:=I.un (Un.kept k) (I.hok.kept k)
theorem Inv.laid(I:Inv X aA σ H s)(k:∀b u,s.heap.get? b=some u->h'.get? b=some u)(hp:s.heap.objs.size<=a)(new:ObjOk X.prog X.w (upd H a o) h' a o) :
  Inv X aA σ (upd H a o) {s with heap:=h',toks:=t' }:=I.un (Un.laid k hp (I.hok.fresh hp)) (I.hok.laid k hp new)
theorem Inv.write(I:Inv X aA σ H s)(mu:Mut (H x))(he:e=x\/H e=some (.own x))(k:∀b u,b≠e->s.heap.get? b=some u->h'.get? b=some u)(heo:∃u,h'.get? e=some u)
  (new:ObjOk X.prog X.w (upd H x o) h' x o):Inv X aA σ (upd H x o) {s with heap:=h',toks:=t' }:=I.un (Un.write mu he k heo) (I.hok.write mu he k heo new)
theorem Inv.weak{σ':List (Option V)}(I:Inv X aA σ H s)(hl:σ'.length=σ.length)(w:∀(i:Nat) v,σ'[i]? = some (some v)->σ[i]? = some (some v)):Inv X aA σ' H s :=
 ⟨I.ok,I.os,I.bare,I.base,let ⟨m,hn,hl'⟩:=I.loc; ⟨m,hn,λi x v e1 e2 e3=>hl' i x v e1 (w i v e2) e3⟩,I.cell,I.free,I.freeC,I.pin,I.hok,hl.trans I.len⟩
theorem Inv.pins_of(I:Inv X aA σ H s)(h:∀p∈pins',s.heap.get? p.1=some p.2/\H p.1=none/\p.1≠X.env.locals/\p.1∉X.fs/\∀v,p.2.data≠.cell v):Inv X pins' σ H s :=
 ⟨I.ok,I.os,I.bare,I.base,I.loc,I.cell,I.free,I.freeC,λp hp=>(bo.mp hp).elim (λz=>I.pin p (cS _ z)) (h p),I.hok,I.len⟩
theorem a8i{N:List Str}(hN:N.Nodup){i j:Nat}(a:N[i]? = some x)(b:N[j]? = some x):i=j:=by
 obtain⟨h1,e1⟩:=af.mp a;obtain⟨h2,e2⟩:=af.mp b;exact(List.getElem_inj hN).mp (e1.trans e2.symm)
abbrev Hf(X:Cx)(x:Str):Prop:=X.fn x=true\/X.env.scope.names.lookup x=some .local
theorem aa2{i:Nat}(I:Inv X aA σ H s)(hN:X.N.Nodup)(hi:X.N[i]? = some x)(hx:Loc X.env.scope x)(r:RelV v u)
  (h:∀s',Inv X aA (σ.set i (some v)) H s'->(∃a,Heap.SameBut a s.heap s'.heap/\(a=X.env.locals\/X.env.cells.lookup x=some a))->Q () s') (hf:Hf X x:=by first|exact .inl rfl|exact .inr rfl|assumption):wpAny M A (storeName X.env x u) Q E s:=by
 obtain⟨m,hn,hl⟩:=id I.loc;have hcls:(X.env.scope.kind == .class || (X.env.scope.kind == .module && X.env.locals != X.env.globals))=false:=by rw[I.ok.kind];rfl
 have hiσ:i<σ.length:=by rw[I.len];exact(af.mp hi).1
 have cne:=I.cne;have tracked:∀{a:Addr} {h':Heap},(∃o,s.heap.get? a=some o/\H a=none)->Heap.SameBut a s.heap h'->HOk X.prog X.w H h':=λ{a h'} ha hs b ob e=>by
  obtain⟨_,_,hfree⟩:=ha;refine(I.hok b ob e).stay (λc w' hc q=>(hs.2 c ?_).trans q) (λ_ q=>q) λ_ _ q=>q
  rintro rfl
  rcases hc with rfl|hc
  ·rw[hfree]at e;cases e
  ·rw[hfree]at hc;cases hc
 rcases hx with hk|hk
 ·refine wpAny_storeName_local hk hn (λh' hn' hs=>?_) hcls;obtain⟨oL,_,_,hoL,_⟩:=id hn;refine h _ ⟨I.ok,I.os,I.bare,⟨λb o e n hb hx=>?_,λb o e n hb hx=>?_,I.base.free,λb o e hx=>?_,I.base.tups,I.base.frzs,I.base.tbls⟩,⟨_,hn',λj y v' e1 e2 e3=>?_⟩,λy c e=>?_,I.free,I.freeC,λp hp=>?_,tracked ⟨oL,hoL,I.free⟩ hs,by simpa using I.len⟩ ⟨_,hs,.inl rfl⟩
  ·exact(hs.2 b (bR (aZ (aV e) I.ok.above))).trans (I.base.keep b o e n hb hx)
  ·obtain⟨sl,e1⟩:=I.base.slot b o e n hb hx;exact⟨sl,(hs.2 b (bR (aZ (aV e) I.ok.above))).trans e1⟩
  ·obtain⟨o',e1⟩:=I.base.there b o e hx;exact⟨o',(hs.2 b (bR (aZ (aV e) I.ok.above))).trans e1⟩
  ·by_cases hj:j=i
   ·subst hj;rw[hi]at e1;cases e1
    rw[bZ hiσ]at e2;cases e2
    exact⟨u,r,.inl ⟨hk,by simp⟩⟩
   ·rw[cC (g7 hj)]at e2;obtain⟨u',r',q⟩:=hl j y v' e1 e2 e3;refine⟨u',r',?_⟩
    rcases q with⟨k,e⟩|⟨k,c,e,z⟩
    ·refine .inl ⟨k,?_⟩;have:y≠x:=λe=>hj (a8i hN e1 (e ▸ hi));simp[this,e]
    ·exact .inr ⟨k,c,e,z.sameBut hs (cne y c e)⟩
  ·obtain⟨w',z⟩:=I.cell y c e;exact⟨w',z.sameBut hs (cne y c e)⟩
  ·obtain⟨e,n,ne,nf,d⟩:=I.pin p hp;exact⟨(hs.2 p.1 ne).trans e,n,ne,nf,d⟩
 ·have hfn:X.fn x=true:=by
   rcases hf with z|z
   ·exact z
   ·rw[z]at hk;cases hk
  obtain⟨c,hc⟩:=I.ok.has x (.inl hk);obtain⟨w',z⟩:=I.cell x c hc;refine wpAny_storeName_cell I.ok.kind hk hc z (λh' hc' hs=>?_);obtain⟨oc,hoc,hocd⟩:=id z;refine h {s with heap:=h' } ⟨I.ok,I.os,I.bare,⟨λb o e n hb hx=>?_,λb o e n hb hx=>?_,I.base.free,λb o e hx=>?_,I.base.tups,I.base.frzs,I.base.tbls⟩,⟨m,hn.sameBut hs (g7 (cne x c hc)),λj y v' e1 e2 e3=>?_⟩,λy c' e=>?_,I.free,I.freeC,λp hp=>?_,tracked ⟨oc,hoc,I.freeC x c hc⟩ hs,by simpa using I.len⟩ ⟨c,hs,.inr hc⟩
  ·exact(hs.2 b (bR (aZ (aV e) (I.ok.cab x c hfn hc)))).trans (I.base.keep b o e n hb hx)
  ·obtain⟨sl,e1⟩:=I.base.slot b o e n hb hx;exact⟨sl,(hs.2 b (bR (aZ (aV e) (I.ok.cab x c hfn hc)))).trans e1⟩
  ·obtain⟨o',e1⟩:=I.base.there b o e hx;exact⟨o',(hs.2 b (bR (aZ (aV e) (I.ok.cab x c hfn hc)))).trans e1⟩
  ·by_cases hj:j=i
   ·subst hj;rw[hi]at e1;cases e1
    rw[bZ hiσ]at e2;cases e2
    exact⟨u,r,.inr ⟨.inl hk,c,hc,hc'⟩⟩
   ·rw[cC (g7 hj)]at e2;obtain⟨u',r',q⟩:=hl j y v' e1 e2 e3;refine⟨u',r',?_⟩
    rcases q with q|⟨k,c',e,z'⟩
    ·exact .inl q
    ·refine .inr ⟨k,c',e,z'.sameBut hs ?_⟩
     rintro rfl
     exact hj (a8i hN e1 (I.ok.inj _ _ _ e hc ▸ hi))
  ·by_cases hcc:c'=c
   ·subst hcc;exact⟨_,hc'⟩
   ·obtain⟨w2,z2⟩:=I.cell y c' e;exact⟨w2,z2.sameBut hs hcc⟩
  ·obtain⟨e,n,ne,nf,d⟩:=I.pin p hp;refine⟨(hs.2 p.1 ?_).trans e,n,ne,nf,d⟩
   intro q
   rw[q,hoc]at e;have q':oc=p.2:=bO e;exact d w' (by rw[<-q'];exact hocd)
theorem a5x(I:Inv X aA σ H s)(hN:X.N.Nodup)(hi:X.N[i]? = some x)(hx:Loc X.env.scope x)(r:RelV v u)
  (h:∀s',Inv X aA (σ.set i (some v)) H s'->Q () s') (hf:Hf X x:=by first|exact .inl rfl|exact .inr rfl|assumption):wpAny M A (storeName X.env x u) Q E s :=
 aa2 I hN hi hx r (λs' I' _=>h s' I') hf
theorem Inv.call'{s':Shared}(I:Inv X aA σ H s)(ho:s'.os=s.os)(u:Un (frs X.stack) ch H H' s.heap s'.heap)(hok:HOk X.prog X.w H' s'.heap)(hg:AllBare s'.gens)
  (hch:∀b∈ch,(b∈X.ex\/X.s₀.heap.objs.size<=b)/\b≠X.env.locals/\(∀x c,X.env.cells.lookup x=some c->c≠b)/\∀p∈X.pn++aA,p.1≠b):Inv X aA σ H' s':=by
 obtain⟨h',g',d',t',o'⟩:=s';have e:o'=s.os:=ho;subst e;exact I.call (g':=g') (t':=t') (d':=d') u hok hg hch
end
abbrev XK:=Value->Option Addr->Hp->Prop
abbrev St:=List (Option V)
abbrev VK:=V->Hp->Prop
abbrev TE:=St->Hp->VK->Prop
abbrev TT:=St->Hp->(Bool->Hp->Prop)->Prop
abbrev TA:=St->Hp->(List V->Hp->Prop)->Prop
structure Ends where
 nx:St->Hp->Prop
 rt:VK
 bk:St->Hp->Prop:=λ_ _=>False
 ct:St->Hp->Prop:=λ_ _=>False
abbrev TS:=Ends->St->Hp->Prop
def EP(X:Cx)(aA:List (Addr×Obj))(σ:St)(Q:VK)(u:Value)(s':Shared):Prop:=∃v H',Inv X aA σ H' s'/\RelV v u/\Q v H'
def TP(X:Cx)(aA:List (Addr×Obj))(σ:St)(Q:Bool->Hp->Prop)(b:Bool)(s':Shared):Prop:=∃H',Inv X aA σ H' s'/\Q b H'
def AP(X:Cx)(aA:List (Addr×Obj))(σ:St)(Q:List V->Hp->Prop)(us:List Value)(s':Shared):Prop:=∃vs H',Inv X aA σ H' s'/\Vals vs us/\Q vs H'
def SP(X:Cx)(aA:List (Addr×Obj))(D:Ends)(f:Flow)(s':Shared):Prop :=
 match f with
 |.next=>∃σ' H',Inv X aA σ' H' s'/\D.nx σ' H'
 |.brk=>∃σ' H',Inv X aA σ' H' s'/\D.bk σ' H'
 |.cont=>∃σ' H',Inv X aA σ' H' s'/\D.ct σ' H'
 |.ret u=>∃v σ' H',Inv X aA σ' H' s'/\RelV v u/\D.rt v H'
def PE(X:Cx)(e:Expr)(t:TE):Prop :=
 ∀(aA:List (Addr×Obj)) (s:Shared) (σ:St) (H:Hp) (Q:VK),Inv X aA σ H s->t σ H Q->wpAny (model X.prog X.w) X.A (eval e X.env) (EP X aA σ Q) X.xe s
def PT(X:Cx)(e:Expr)(t:TT):Prop :=
 ∀(aA:List (Addr×Obj)) (s:Shared) (σ:St) (H:Hp) (Q:Bool->Hp->Prop),Inv X aA σ H s->t σ H Q->wpAny (model X.prog X.w) X.A (isTrue e X.env (eval e X.env)) (TP X aA σ Q) X.xe s
def PW(X:Cx)(e:Expr)(t:TT):Prop :=
 ∀(whole:Sem Value) (aA:List (Addr×Obj)) (s:Shared) (σ:St) (H:Hp) (Q:Bool->Hp->Prop),Inv X aA σ H s->t σ H Q->wpAny (model X.prog X.w) X.A (isTrue e X.env whole) (TP X aA σ Q) X.xe s
theorem PW.pt(h:PW X e t):PT X e t:=h _
def PA(X:Cx)(es:List Expr)(t:TA):Prop :=
 ∀(pos:Pos) (aA:List (Addr×Obj)) (s:Shared) (σ:St) (H:Hp) (Q:List V->Hp->Prop),Inv X aA σ H s->t σ H Q->wpAny (model X.prog X.w) X.A (spliced (backTo pos (starEach es X.env))) (AP X aA σ Q) X.xe s
def PS(X:Cx)(st:Stmt)(t:TS):Prop :=
 ∀(aA:List (Addr×Obj)) (s:Shared) (σ:St) (H:Hp) (D:Ends),Inv X aA σ H s->t D σ H->wpAny (model X.prog X.w) X.A (exec st X.env) (SP X aA D) X.xe s
def PSs(X:Cx)(st:List Stmt)(t:TS):Prop :=
 ∀(aA:List (Addr×Obj)) (s:Shared) (σ:St) (H:Hp) (D:Ends),Inv X aA σ H s->t D σ H->wpAny (model X.prog X.w) X.A (execs st X.env) (SP X aA D) X.xe s
theorem thn{α:Type}{t:Sem α}{Q Q':α->Shared->Prop}{M:Model}{A:Around}{E:Value->Shared->Prop}{s:Shared}(h:wpAny M A t Q E s)(hQ:∀a s,Q a s->Q' a s):wpAny M A t Q' E s:=cH h hQ λ_ _ x=>x
section
variable{X:Cx}
def b0f(i:Nat):TE:=λσ H Q=>∃v,σ[i]? = some (some v)/\Q v H
def tC(v:V):TE:=λ_ H Q=>Q v H
theorem ag1(hN:X.N[i]? = some x)(hv:Vis X.env.scope x)(hd:(x == ("__debug__" : Str))=false:=by decide)(hcd:(x == ("__classdict__" : Str))=false:=by decide):PE X (.Name x pos) (b0f i):=by
 intro aA s σ H Q I h
 obtain⟨v,e,h⟩:=h;obtain⟨m,hn,hl⟩:=I.loc;obtain⟨u,r,l⟩:=hl i x v hN e hv;have fin:EP X aA σ Q u s:=⟨v,H,I,r,h⟩
 rcases l with⟨hk,hm⟩|⟨hk,c,hc,hcell⟩
 ·exact wpAny_Name (wpAny_loadName_local I.ok.kind hk hn hm fin) hd
 ·rcases hk with hk|hk
  ·exact wpAny_Name (wpAny_loadName_cell I.ok.kind hk hc hcell fin) hd
  ·exact wpAny_Name (wpAny_loadName_free I.ok.kind hk hc hcell fin hcd) hd
theorem asm{i j pos}:PE X (.Constant (.int i) j pos) (tC (.int i)):=λ_ _ _ H _ I h=>wpAny_Constant_int ⟨.int i,H,I.tok _,⟨_,rfl⟩,h⟩
theorem axo{b j pos}:PE X (.Constant (.bool b) j pos) (tC (.bl b)):=λ_ _ _ H _ I h=>Constant_bool ⟨.bl b,H,I,rfl,h⟩
theorem asn{j pos}:PE X (.Constant .none j pos) (tC .non):=λ_ _ _ H _ I h=>Constant_none ⟨.non,H,I,rfl,h⟩
theorem aso{x j pos}:PE X (.Constant (.str x) j pos) (tC (.str x)):=λ_ _ _ H _ I h=>Calls.Constant_str ⟨.str x,H,I.tok _,⟨_,rfl⟩,h⟩
def Gl(X:Cx)(x:Str):Prop:=X.env.kindOf x=some .globalImplicit
theorem a4s(I:Inv X aA σ H s)(hg:Gl X x)(hm:X.mg x=some u)(h:Q u s)
  (hd:(x == ("__debug__" : Str))=false:=by decide):wpAny (model X.prog X.w) X.A (eval (.Name x pos) X.env) Q E s :=
 Calls.Name_function_global I.ok.kind hg (Calls.loadGlobal_global (by rw[I.ok.glob];exact I.mod.glob.keeps I.bk) hm h) hd
theorem a6i(I:Inv X aA σ H s)(hg:Gl X x)(hm:X.mg x=none)(hv:bootBuiltins x=some u)(h:Q u s)
  (hn:x ≠ "__name__":=by decide) (hd:(x == ("__debug__" : Str))=false:=by decide):wpAny (model X.prog X.w) X.A (eval (.Name x pos) X.env) Q E s:=by
 obtain⟨mb,h1,h2⟩:=I.mod.blt;exact Calls.Name_function_global I.ok.kind hg (Calls.loadGlobal_builtin (by rw[I.ok.glob];exact I.mod.glob.keeps I.bk) hm (by rw[I.ok.blt];exact h1.keeps I.bk) ((h2 x hn).trans hv) h) hd
theorem a3c(hg:Gl X x)(hm:X.mg x=some u)(r:RelV v u)(hd:(x == ("__debug__" : Str))=false:=by decide):PE X (.Name x pos) (tC v) :=
 λ_ _ _ H _ I h=>a4s I hg hm ⟨v,H,I,r,h⟩ hd
theorem ag2(hg:Gl X x)(hm:X.mg x=none)(hv:bootBuiltins x=some u)(r:RelV v u)(hn:x ≠ "__name__":=by decide)(hd:(x == ("__debug__" : Str))=false:=by decide):PE X (.Name x pos) (tC v) :=
 λ_ _ _ H _ I h=>a6i I hg hm hv ⟨v,H,I,r,h⟩ hn hd
variable{a b:Expr}{ta tb:TE}{pos:Pos}
variable{tA tB':TT}{aF:List Expr}
def b0g(t u:TT):TT:=λσ H Q=>t σ H λc H1=>if c=true then u σ H1 Q else Q false H1
def tOr(t u:TT):TT:=λσ H Q=>t σ H λc H1=>if c=true then Q true H1 else u σ H1 Q
def b0h(t:TT):TT:=λσ H Q=>t σ H λc H1=>Q (!c) H1
theorem aov(ha:PT X a tA):PW X (.BoolOp .And [a] pos) tA:=by
 intro wh aA s σ H Q I h
 refine isTrue_and (thn (ha aA s σ H Q I h) λc s1 e=>?_)
 cases c with
 |true=>exact isTrue_and_nil e
 |false=>exact e
theorem asp(ha:PT X a tA):PW X (.BoolOp .Or [a] pos) tA:=by
 intro wh aA s σ H Q I h
 refine isTrue_or (thn (ha aA s σ H Q I h) λc s1 e=>?_)
 cases c with
 |false=>exact isTrue_or_nil e
 |true=>exact e
theorem asq(ha:PT X a tA)(hb:PW X (.BoolOp .And (b::aF) pos) tB'):PW X (.BoolOp .And (a::b::aF) pos) (b0g tA tB'):=by
 intro wh aA s σ H Q I h
 refine isTrue_and (thn (ha aA s σ H _ I h) λc s1 ⟨H1,I1,q1⟩=>?_)
 cases c with
 |true=>exact hb wh aA s1 σ H1 Q I1 q1
 |false=>exact⟨H1,I1,q1⟩
theorem axp(ha:PT X a tA)(hb:PW X (.BoolOp .Or (b::aF) pos) tB'):PW X (.BoolOp .Or (a::b::aF) pos) (tOr tA tB'):=by
 intro wh aA s σ H Q I h
 refine isTrue_or (thn (ha aA s σ H _ I h) λc s1 ⟨H1,I1,q1⟩=>?_)
 cases c with
 |true=>exact⟨H1,I1,q1⟩
 |false=>exact hb wh aA s1 σ H1 Q I1 q1
theorem asr(ha:PT X a tA):PT X (.UnaryOp .Not a pos) (b0h tA):=by
 intro aA s σ H Q I h
 exact isTrue_not (ha aA s σ H (λc H1=>Q (!c) H1) I h)
def axq(ta tb:TE):TE:=λσ H Q=>ta σ H λx H1=>∃c,x=.bl c/\if c=true then tb σ H1 Q else Q (.bl false) H1
def b0i(ta tb:TE):TE:=λσ H Q=>ta σ H λx H1=>∃c,x=.bl c/\if c=true then Q (.bl true) H1 else tb σ H1 Q
def axr(ta:TE):TE:=λσ H Q=>ta σ H λx H1=>∃c,x=.bl c/\Q (.bl (!c)) H1
theorem ass{op}(h:PE X a t):PE X (.BoolOp op [a] pos) t:=λaA s σ H Q I hw=>BoolOp_one (h aA s σ H Q I hw)
theorem asu(ha:PE X a ta)(hb:PE X (.BoolOp .And (b::aF) pos) tb):PE X (.BoolOp .And (a::b::aF) pos) (axq ta tb):=by
 intro aA s σ H Q I h
 refine BoolOp_and (thn (ha aA s σ H _ I h) λv s1 ⟨x,H1,I1,r1,q1⟩=>?_);obtain⟨c,rfl,q1⟩:=q1;cases r1
 refine cT ?_
 cases c with
 |true=>exact hb aA s1 σ H1 Q I1 q1
 |false=>exact⟨.bl false,H1,I1,rfl,q1⟩
theorem axs(ha:PE X a ta)(hb:PE X (.BoolOp .Or (b::aF) pos) tb):PE X (.BoolOp .Or (a::b::aF) pos) (b0i ta tb):=by
 intro aA s σ H Q I h
 refine BoolOp_or (thn (ha aA s σ H _ I h) λv s1 ⟨x,H1,I1,r1,q1⟩=>?_);obtain⟨c,rfl,q1⟩:=q1;cases r1
 refine cT ?_
 cases c with
 |false=>exact hb aA s1 σ H1 Q I1 q1
 |true=>exact⟨.bl true,H1,I1,rfl,q1⟩
theorem asv(ha:PE X a ta):PE X (.UnaryOp .Not a pos) (axr ta):=by
 intro aA s σ H Q I h
 refine UnaryOp_ (thn (ha aA s σ H _ I h) λv s1 ⟨x,H1,I1,r1,q1⟩=>?_);obtain⟨c,rfl,q1⟩:=q1;cases r1
 exact not_of (cT ⟨.bl (!c),H1,I1,rfl,q1⟩)
def tIf(t:TT)(ta tb:TE):TE:=λσ H Q=>t σ H λc H1=>if c=true then ta σ H1 Q else tb σ H1 Q
theorem ak2{c:Expr}(hc:PT X c tA)(ha:PE X a ta)(hb:PE X b tb):PE X (.IfExp c a b pos) (tIf tA ta tb):=by
 intro aA s σ H Q I h
 refine wpAny_IfExp (thn (hc aA s σ H _ I h) λd s1 ⟨H1,I1,q1⟩=>?_)
 cases d with
 |true=>exact ha aA s1 σ H1 Q I1 q1
 |false=>exact hb aA s1 σ H1 Q I1 q1
end
def SqL(K:Fg)(H:Hp)(a:Addr)(xs:List V):Prop :=
 Rd H a (.lst xs) \/
  ∃(o:Obj) (its:Array Value) (n:Nat),K.lookup a=some o/\o.cls=.type "list"/\o.dict=none/\o.data=.seq its n/\its.size<=sizeLine/\Vals xs its.toList
def SqT(K:Fg)(H:Hp)(a:Addr)(xs:List V):Prop :=
 Rd H a (.tup xs) \/
  ∃(o:Obj) (its:Array Value) (n:Nat),K.lookup a=some o/\o.cls=.type "tuple"/\o.data=.seq its n/\its.size<=sizeLine/\Vals xs its.toList
def b0j:Value->Option V
 |.none=>some .non
 |.bool b=>some (.bl b)
 |.int i _=>some (.int i)
 |.str x _=>some (.str x)
 |.bytes b _=>some (.byt b)
 |.float b _=>some (.flt b)
 |.ref a=>some (.ref a)
 |.type n=>some (.ty n)
 |_=>none
theorem RelV.abs(r:RelV x u):b0j u=some x:=by
 cases x with
 |non=>cases r;rfl
 |bl _=>cases r;rfl
 |int _=>obtain⟨t,rfl⟩:=r;rfl
 |str _=>obtain⟨t,rfl⟩:=r;rfl
 |byt _=>obtain⟨t,rfl⟩:=r;rfl
 |flt _=>obtain⟨t,rfl⟩:=r;rfl
 |ref _=>cases r;rfl
 |ty _=>cases r;rfl
theorem RelV.inj(r:RelV x u)(q:RelV y u):x=y:=bO (r.abs.symm.trans q.abs)
theorem Vals.inj:∀{xs ys:List V} {us:List Value},Vals xs us->Vals ys us->xs=ys
 |_,_,_,.nil,.nil=>rfl
 |_,_,_,.cons r t,.cons r' t'=>by rw[r.inj r',Vals.inj t t']
section
variable{X:Cx}{aA:List (Addr×Obj)}{σ:St}{H:Hp}{s:Shared}{a:Addr}{xs ys:List V}
theorem SqL.of{K:Fg}(h:H a=some (.lst xs)):SqL K H a xs:=.inl (.inl h)
theorem SqT.of{K:Fg}(h:H a=some (.tup xs)):SqT K H a xs:=.inl (.inl h)
theorem Inv.list(I:Inv X aA σ H s)(h:SqL X.K H a xs):∃its:List Value,Vals xs its/\PlainL s.heap a its.toArray/\xs.length<=sizeLine:=by
 rcases h with h|⟨o,its,n,hk,hc,hd,hs,hz,r⟩
 ·obtain⟨z,its,n,r,e⟩:=h.ok I.hok;exact⟨its,r,⟨_,n,e,rfl,rfl,rfl⟩,z⟩
 ·refine⟨its.toList,r,⟨o,n,I.kIn a o hk,hc,hd,by simpa using hs⟩,?_⟩
  have e:=r.length;simp only[cU]at e;omega
theorem Inv.tuple(I:Inv X aA σ H s)(h:SqT X.K H a xs):∃its:List Value,Vals xs its/\IsTup s.heap a its.toArray/\xs.length<=sizeLine:=by
 rcases h with h|⟨o,its,n,hk,hc,hs,hz,r⟩
 ·obtain⟨z,its,r,p⟩:=h.ok I.hok;exact⟨its,r,p,z⟩
 ·refine⟨its.toList,r,⟨o,I.kIn a o hk,hc,n,by simpa using hs⟩,?_⟩
  have e:=r.length;simp only[cU]at e;omega
theorem Inv.list_inj(I:Inv X aA σ H s)(h:SqL X.K H a xs)(h':SqL X.K H a ys):xs=ys:=by
 obtain⟨its,r,⟨o,n,e,_,_,d⟩,_⟩:=I.list h;obtain⟨its',r',⟨o',n',e',_,_,d'⟩,_⟩:=I.list h';rw[e]at e';cases e'
 rw[d]at d'
 injection d' with d1 _
 have:its=its':=by simpa using aU Array.toList d1
 subst this;exact r.inj r'
theorem Inv.tuple_inj(I:Inv X aA σ H s)(h:SqT X.K H a xs)(h':SqT X.K H a ys):xs=ys:=by
 obtain⟨its,r,⟨o,e,_,n,d⟩,_⟩:=I.tuple h;obtain⟨its',r',⟨o',e',_,n',d'⟩,_⟩:=I.tuple h';rw[e]at e';cases e'
 rw[d]at d'
 injection d' with d1 _
 have:its=its':=by simpa using aU Array.toList d1
 subst this;exact r.inj r'
end
abbrev Cx.wish(X:Cx)(E:Value->Shared->Prop):Cx:={X with xe:=E}
abbrev Cx.nox(X:Cx):Cx:=X.wish λ_ _=>False
theorem Cx.Ok.wish{X:Cx}(ok:X.Ok)(E:Value->Shared->Prop):(X.wish E).Ok :=
 ⟨ok.mod,ok.kind,ok.glob,ok.blt,ok.above,ok.inj,ok.has,ok.cab,ok.hd,ok.frames,ok.stk,ok.exf,ok.bs,ok.bsz,ok.noex,ok.exfs,ok.funs,ok.frf⟩
theorem Cx.Ok.unwish{X:Cx}(ok:(X.wish E).Ok):X.Ok :=
 ⟨ok.mod,ok.kind,ok.glob,ok.blt,ok.above,ok.inj,ok.has,ok.cab,ok.hd,ok.frames,ok.stk,ok.exf,ok.bs,ok.bsz,ok.noex,ok.exfs,ok.funs,ok.frf⟩
section
variable{X:Cx}{aA:List (Addr×Obj)}{σ:St}{H:Hp}{s:Shared}{E:Value->Shared->Prop}
theorem Inv.wish(I:Inv X aA σ H s)(E:Value->Shared->Prop):Inv (X.wish E) aA σ H s:=⟨I.ok.wish E,I.os,I.bare,I.base,I.loc,I.cell,I.free,I.freeC,I.pin,I.hok,I.len⟩
theorem Inv.unwish(I:Inv (X.wish E) aA σ H s):Inv X aA σ H s:=⟨I.ok.unwish,I.os,I.bare,I.base,I.loc,I.cell,I.free,I.freeC,I.pin,I.hok,I.len⟩
theorem SP.unwish(h:SP (X.wish E) aA D f s'):SP X aA D f s':=by
 cases f with
 |next=>obtain⟨σ',H',I,q⟩:=h;exact⟨σ',H',I.unwish,q⟩
 |brk=>obtain⟨σ',H',I,q⟩:=h;exact⟨σ',H',I.unwish,q⟩
 |cont=>obtain⟨σ',H',I,q⟩:=h;exact⟨σ',H',I.unwish,q⟩
 |ret u=>obtain⟨v,σ',H',I,r,q⟩:=h;exact⟨v,σ',H',I.unwish,r,q⟩
theorem PSs.nox{st:List Stmt}{t:TS}(h:PSs X.nox st t):PSs X st t:=λaA s σ H D I hw =>
 cH (h aA s σ H D (I.wish _) hw) (λ_ _ q=>q.unwish) λ_ _ z=>False.elim z
end
section
variable{X:Cx}{st:Stmt}{aF:List Stmt}{t u:TS}{e:Expr}{te:TE}{pos:Pos}
def axt:TS:=λD σ H=>D.nx σ H
def b0k(t u:TS):TS:=λD σ H=>t {D with nx:=u D} σ H
theorem aow:PSs X [] axt:=λ_ _ σ H _ I h=>e7 ⟨σ,H,I,h⟩
theorem ak3(h1:PS X st t)(h2:PSs X aF u):PSs X (st::aF) (b0k t u):=by
 intro aA s σ H D I h
 refine gI (thn (h1 aA s σ H {D with nx:=u D} I h) λf s1 q=>?_)
 cases f with
 |next =>
  obtain⟨σ',H',I',q⟩:=q;exact h2 aA s1 σ' H' D I' q
 |ret v=>exact q
 |brk=>exact q
 |cont=>exact q
theorem aox(h1:PS X st t):PSs X [st] t:=by
 intro aA s σ H D I h
 refine gI (thn (h1 aA s σ H D I h) λf s1 q=>?_)
 cases f with
 |next=>exact e7 q
 |ret v=>exact q
 |brk=>exact q
 |cont=>exact q
theorem Inv.quiet(I:Inv X aA σ H s):interactive X.env=false:=by simp[interactive,I.ok.kind]
def axu(te:TE):TS:=λD σ H=>te σ H λ_ H1=>D.nx σ H1
theorem aoy(he:PE X e te)(hs:swapsWith e none pos.line X.env=pure false:=by rfl):PS X (.Expr e pos) (axu te):=by
 intro aA s σ H D I h
 exact wpAny_Expr_any (thn (he aA s σ H _ I h) λv s1 ⟨x,H1,I1,r1,q1⟩=>⟨σ,H1,I1,q1⟩) I.quiet hs
def b0l(te:TE):TS:=λD σ H=>te σ H D.rt
theorem asw(he:PE X e te):PS X (.Return (some e) pos) (b0l te):=by
 intro aA s σ H D I h
 exact wpAny_Return_some (thn (he aA s σ H _ I h) λv s1 ⟨x,H1,I1,r1,q1⟩=>⟨x,σ,H1,I1,r1,q1⟩)
def b0m(c:TT)(t u:TS):TS:=λD σ H=>c σ H λb H1=>if b=true then t D σ H1 else u D σ H1
theorem axv{c:Expr}{a b:List Stmt}{tc:TT}(hc:PT X c tc)(ha:PSs X a t)(hb:PSs X b u):PS X (.If c a b pos) (b0m tc t u):=by
 intro aA s σ H D I h
 refine wpAny_If (thn (hc aA s σ H _ I h) λd s1 ⟨H1,I1,q1⟩=>?_)
 cases d with
 |true=>exact ha aA s1 σ H1 D I1 q1
 |false=>exact hb aA s1 σ H1 D I1 q1
end
abbrev TG:=V->St->Hp->(St->Hp->Prop)->Prop
abbrev TGs:=List V->St->Hp->(St->Hp->Prop)->Prop
def PG(X:Cx)(target:Expr)(t:TG):Prop :=
 ∀(aA:List (Addr×Obj)) (s:Shared) (σ:St) (H:Hp) (v:V) (u:Value) (Q:St->Hp->Prop),Inv X aA σ H s->RelV v u->t v σ H Q->
  wpAny (model X.prog X.w) X.A (assign target X.env u) (λ_ s'=>∃σ' H',Inv X aA σ' H' s'/\Q σ' H') X.xe s
def PGs(X:Cx)(ts:List Expr)(t:TGs):Prop :=
 ∀(aA:List (Addr×Obj)) (s:Shared) (σ:St) (H:Hp) (vs:List V) (us:List Value) (Q:St->Hp->Prop),Inv X aA σ H s->Vals vs us->t vs σ H Q->
  wpAny (model X.prog X.w) X.A (assignInOrder ((assignEach ts X.env).map (·.2)) us) (λ_ s'=>∃σ' H',Inv X aA σ' H' s'/\Q σ' H') X.xe s
abbrev asx:=V->V->V->Hp->(Hp->Prop)->Prop
def axw(X:Cx)(t:asx):Prop :=
 ∀(aA:List (Addr×Obj)) (s:Shared) (σ:St) (H:Hp) (o i v:V) (ov iv u:Value) (Q:Hp->Prop),Inv X aA σ H s->RelV o ov->RelV i iv->RelV v u->t o i v H Q->
  wpAny (model X.prog X.w) X.A (setItem ov iv u) (λ_ s'=>∃H',Inv X aA σ H' s'/\Q H') X.xe s
abbrev TIp:=V->V->Hp->VK->Prop
def PIp(X:Cx)(op:Operator)(t:TIp):Prop :=
 ∀(aA:List (Addr×Obj)) (s:Shared) (σ:St) (H:Hp) (x y:V) (v u:Value) (Q:VK),Inv X aA σ H s->RelV x v->RelV y u->t x y H Q->
  wpAny (model X.prog X.w) X.A (inplaceOp op v u) (EP X aA σ Q) X.xe s
section
variable{X:Cx}{pos:Pos}
def a7f(i:Nat):TG:=λv σ H Q=>Q (σ.set i (some v)) H
theorem abu(hN:X.N.Nodup)(hi:X.N[i]? = some x)(hx:Loc X.env.scope x)(hf:Hf X x:=by first|exact .inl rfl|exact .inr rfl|assumption):PG X (.Name x pos) (a7f i):=by
 intro aA s σ H v u Q I r h
 exact wpAny_assign_Name (a5x I hN hi hx r (λs' I'=>⟨_,H,I',h⟩) hf)
def azc:TGs:=λvs σ H Q=>vs=[]/\Q σ H
def ak4(t:TG)(u:TGs):TGs:=λvs σ H Q=>∃v r,vs=v::r/\t v σ H λσ' H'=>u r σ' H' Q
theorem abv:PGs X [] azc:=by
 intro aA s σ H vs us Q I r h
 obtain⟨e,h⟩:=h;subst e;cases r
 exact assignInOrder_nil ⟨σ,H,I,h⟩
theorem a3o{e:Expr}{es:List Expr}{t:TG}{u:TGs}(h1:PG X e t)(h2:PGs X es u)
  (hs:(assignEach (e::es) X.env).map (·.2)=assign e X.env::(assignEach es X.env).map (·.2):=by rfl):PGs X (e::es) (ak4 t u):=by
 intro aA s σ H vs us Q I r h
 obtain⟨v,vr,e1,h⟩:=h;subst e1
 cases r with
 |cons r rr =>
  rw[hs];refine assignInOrder_cons (thn (h1 aA s σ H _ _ _ I r h) λ_ s1 ⟨σ1,H1,I1,q1⟩=>?_);exact h2 aA s1 σ1 H1 _ _ Q I1 rr q1
def ur(K:Fg)(n:Nat)(t:TGs):TG:=λv σ H Q=>∃a xs,v=.ref a/\SqT K H a xs/\xs.length=n/\t xs σ H Q
theorem ag3(hc:X.calm=true)(h:PGs X es t)
  (hn:(assignEach es X.env).length=n:=by rfl) (hst:(assignEach es X.env).findIdx? (·.1)=none:=by rfl):PG X (.Tuple es k pos) (ur X.K n t):=by
 intro aA s σ H v u Q I r hw
 obtain⟨a,xs,e1,hq,hl,hw⟩:=hw;subst e1;cases r
 obtain⟨its,rv,ht,hz⟩:=I.tuple hq;refine assign_Tuple_tuple (I.ok.hd hc) ht (by simp[hn,<-hl,rv.length]) hst λh' hx=>?_
 have I1:Inv X aA σ H {s with heap:=h' }:=I.kept (t':=s.toks) λb o e=>hx b o (bR (aV e)) e
 exact h aA _ σ H xs _ Q I1 (by simpa using rv) hw
def a9z(to ti:TE)(t:asx):TG:=λv σ H Q=>to σ H λo H1=>ti σ H1 λi H2=>t o i v H2 λH3=>Q σ H3
theorem asy{o i:Expr}{to ti:TE}{t:asx}(ho:PE X o to)(hi:PE X i ti)(hs:axw X t)
  (ha:∀v,assign (.Subscript o i pos) X.env v=(do
   let ov <-holding [v] (eval o X.env)
   let iv <-holding [v,ov] (eval i X.env)
   standAt pos
   holding [v,ov,iv] (setItem ov iv v)
   release [v,ov,iv] []):=by intro _;rfl):PG X (.Subscript o i pos) (a9z to ti t):=by
 intro aA s σ H v u Q I r h
 rw[ha];refine ar (dP (thn (ho aA s σ H _ I h) λov s1 ⟨x,H1,I1,r1,q1⟩=>?_));refine ar (dP (thn (hi aA s1 σ H1 _ I1 q1) λiv s2 ⟨y,H2,I2,r2,q2⟩=>?_));refine ar (gC (ar (dP (thn (hs aA s2 σ H2 x y v ov iv u _ I2 r1 r2 r q2) λ_ s3 ⟨H3,I3,q3⟩=>?_))));exact wpAny_release ⟨σ,H3,I3,q3⟩
def ax9(te:TE)(g:TG):TS:=λD σ H=>te σ H λx H1=>g x σ H1 D.nx
theorem an4{tg e:Expr}{te:TE}{g:TG}(he:PE X e te)(hg:PG X tg g)(hs:swapsWithSole [tg] e pos.line X.env=pure false:=by rfl)(hw:swappedStores [tg] e X.env=pure none:=by rfl)
  (h1:(assignEach [tg] X.env).map (·.2)=[assign tg X.env]:=by rfl):PS X (.Assign [tg] e pos) (ax9 te g):=by
 intro aA s σ H D I h
 refine wpAny_Assign_stores (thn (he aA s σ H _ I h) λv s1 ⟨x,H1,I1,r1,q1⟩=>?_) hs hw;rw[h1];exact thn (hg aA s1 σ H1 x v _ I1 r1 q1) λ_ s2 q=>q
theorem asz{i:Nat}{x:Str}{e:Expr}{te:TE}{pos':Pos}(hN:X.N.Nodup)(hi:X.N[i]? = some x)(hx:Loc X.env.scope x)(he:PE X e te)(hs:swapsWith e (some (.Name x pos')) pos.line X.env=pure false:=by rfl)(hf:Hf X x:=by first|exact .inl rfl|exact .inr rfl|assumption) :
  PS X (.Assign [.Name x pos'] e pos) (ax9 te (a7f i)):=by
 intro aA s σ H D I h
 refine wpAny_Assign_Name (thn (he aA s σ H _ I h) λv s1 ⟨y,H1,I1,r1,q1⟩=>?_) hs;exact a5x I1 hN hi hx r1 (λs2 I2=>⟨_,H1,I2,q1⟩) hf
def b0n(i:Nat)(te:TE)(ti:TIp):TS:=λD σ H=>∃x,σ[i]? = some (some x)/\te σ H λy H1=>ti x y H1 λz H2=>D.nx (σ.set i (some z)) H2
theorem at5{i:Nat}{x:Str}{e:Expr}{te:TE}{op:Operator}{ti:TIp}{pos':Pos}(hN:X.N.Nodup)(hi:X.N[i]? = some x)(hx:Loc X.env.scope x)(he:PE X e te)(ho:PIp X op ti)(hf:Hf X x:=by first|exact .inl rfl|exact .inr rfl|assumption) :
  PS X (.AugAssign (.Name x pos') op e pos) (b0n i te ti):=by
 intro aA s σ H D I h
 obtain⟨v,e1,h⟩:=h;obtain⟨m,hn,hl⟩:=I.loc;have vis:Vis X.env.scope x:=by rcases hx with k|k;exact .inl k;exact .inr (.inl k)
 obtain⟨u,r,l⟩:=hl i x v hi e1 vis;refine wpAny_AugAssign_Name ?_;have go:wpAny (model X.prog X.w) X.A (eval e X.env) (λw s₂=>wpAny (model X.prog X.w) X.A (inplaceOp op u w) (λr s₃=>wpAny (model X.prog X.w) X.A (storeName X.env x r) (λ_=>SP X aA D .next) X.xe s₃) X.xe s₂) X.xe s:=by
  refine thn (he aA s σ H _ I h) ?_
  rintro w s1 ⟨y,H1,I1,r1,q1⟩
  refine thn (ho aA s1 σ H1 v y u w _ I1 r r1 q1) ?_
  rintro z s2 ⟨zv,H2,I2,r2,q2⟩
  exact a5x I2 hN hi hx r2 (λs3 I3=>⟨_,H2,I3,q2⟩) hf
 rcases l with⟨hk,hm⟩|⟨hk,c,hc,hcell⟩
 ·exact wpAny_loadName_local I.ok.kind hk hn hm go
 ·rcases hk with hk|hk
  ·exact wpAny_loadName_cell I.ok.kind hk hc hcell go
  ·rcases hx with k|k
   ·have:X.env.scope.names.lookup x=some .free:=hk
    rw[k]at this;cases this
   ·have:X.env.scope.names.lookup x=some .free:=hk
    rw[k]at this;cases this
def axx(to ti te:TE)(tget:V->V->Hp->VK->Prop)(tip:TIp)(tset:asx):TS:=λD σ H=>to σ H λo H1=>ti σ H1 λi H2=>tget o i H2 λx H3=>te σ H3 λy H4=>tip x y H4 λz H5=>tset o i z H5 λH6=>D.nx σ H6
def azd(X:Cx)(t:V->V->Hp->VK->Prop):Prop :=
 ∀(aA:List (Addr×Obj)) (s:Shared) (σ:St) (H:Hp) (o i:V) (ov iv:Value) (Q:VK),Inv X aA σ H s->RelV o ov->RelV i iv->t o i H Q->
  wpAny (model X.prog X.w) X.A (getItem ov iv) (EP X aA σ Q) X.xe s
theorem aoz{o i e:Expr}{to ti te:TE}{tget:V->V->Hp->VK->Prop}{tip:TIp}{tset:asx}{op:Operator}{tpos:Pos}(ho:PE X o to)(hi:PE X i ti)(hg:azd X tget)(he:PE X e te)(hp:PIp X op tip)(hs:axw X tset)
  (ha:∀ov iv new,augStore i ov iv new=(do holding [new,ov,iv] (setItem ov iv new);release [new,ov,iv] [];pure .next):=by intros;rfl):PS X (.AugAssign (.Subscript o i tpos) op e pos) (axx to ti te tget tip tset):=by
 intro aA s σ H D I h
 refine wpAny_AugAssign_SubscriptAny (thn (ho aA s σ H _ I h) λov s1 ⟨x1,H1,I1,r1,q1⟩=>?_) ha;refine thn (hi aA s1 σ H1 _ I1 q1) ?_
 rintro iv s2 ⟨x2,H2,I2,r2,q2⟩
 refine thn (hg aA s2 σ H2 x1 x2 ov iv _ I2 r1 r2 q2) ?_
 rintro old s3 ⟨x3,H3,I3,r3,q3⟩
 refine thn (he aA s3 σ H3 _ I3 q3) ?_
 rintro v s4 ⟨x4,H4,I4,r4,q4⟩
 refine thn (hp aA s4 σ H4 x3 x4 old v _ I4 r3 r4 q4) ?_
 rintro new s5 ⟨x5,H5,I5,r5,q5⟩
 exact thn (hs aA s5 σ H5 x1 x2 x5 ov iv new _ I5 r1 r2 r5 q5) λ_ s6 ⟨H6,I6,q6⟩=>⟨σ,H6,I6,q6⟩
end
section
variable{X:Cx}{pos:Pos}
def at6(c:TT)(tb:TS):TS:=λD σ H=>∃W:Nat->St->Hp->Prop,(∃m,W m σ H)/\∀m σ H,W m σ H->
 c σ H λb H1=>if b=true then ∃N:St->Hp->Prop,(∀σ' H',N σ' H'->∃m',m'<m/\W m' σ' H')/\tb {D with nx:=N,ct:=N,bk:=D.nx} σ H1 else D.nx σ H1
theorem ak5{c:Expr}{body:List Stmt}{tc:TT}{tb:TS}(hp:PassesOwn (model X.prog X.w) X.A X.env X.xe)(hc:PT X c tc)(hb:PSs X body tb):PS X (.While c body [] pos) (at6 tc tb):=by
 intro aA s σ H D I h
 obtain⟨W,⟨m0,w0⟩,turn⟩:=h;refine wpAny_While (codeAny_whileLoop (λn s'=>∃σ' H',Inv X aA σ' H' s'/\W n σ' H') ?_ m0 ⟨σ,H,I,w0⟩)
 rintro n s1 ⟨σ1,H1,I1,w1⟩
 refine dF hp (thn (hc aA s1 σ1 H1 _ I1 (turn n σ1 H1 w1)) λb s2 ⟨H2,I2,q2⟩=>?_)
 cases b with
 |true =>
  obtain⟨N,hN,q2⟩:=q2;rw[aO rfl];refine dF hp (thn (hb aA s2 σ1 H2 _ I2 q2) λf s3 q3=>?_)
  cases f with
  |next =>
   obtain⟨σ3,H3,I3,n3⟩:=q3;obtain⟨m',hm,w3⟩:=hN σ3 H3 n3;exact⟨m',hm,σ3,H3,I3,w3⟩
  |cont =>
   obtain⟨σ3,H3,I3,n3⟩:=q3;obtain⟨m',hm,w3⟩:=hN σ3 H3 n3;exact⟨m',hm,σ3,H3,I3,w3⟩
  |brk=>exact q3
  |ret v=>exact q3
 |false =>
  rw[bE br];exact e7 ⟨σ1,H2,I2,q2⟩
end
structure It where
 go:Nat->Hp->Prop
 yld:Nat->Hp->V->Hp->Prop
 stop:Nat->Hp->Prop
def aa3(X:Cx)(aA:List (Addr×Obj))(H:Hp)(b:Addr):Prop :=
 H b=none/\b≠X.env.locals/\b∉X.fs/\(b∈X.ex\/X.s₀.heap.objs.size<=b)/\(∀x c,X.env.cells.lookup x=some c->c≠b)/\∀p∈X.pn++aA,p.1≠b
theorem Inv.fpOk(I:Inv X aA σ H s)(hb:s.heap.objs.size<=b)(hn:H' b=none):aa3 X aA H' b:=by
 refine⟨hn,Nat.ne_of_gt (aZ I.lt hb),I.nofs hb,.inr (bX I.sz hb),λx c e z=>?_,λp hp z=>?_⟩
 ·obtain⟨v,q⟩:=I.cell x c e;exact absurd (aZ q.lt (by rw[z];exact hb)) (cM _)
 ·exact absurd (aZ (aV (I.pin p hp).1) (by rw[z];exact hb)) (cM _)
structure Turn (P:Program) (w:World) (K:Fg) (tg:Expr) (J:It) (fp:List Addr) (it:Addr) (tn:Nat->Heap->Prop):Prop where
 mem:it∈fp
 obj:∀i h,tn i h->∀b∈fp,∃o,h.get? b=some o/\∀v,o.data≠.cell v
 keep:∀i h h',tn i h->(∀b∈fp,∀o,h.get? b=some o->h'.get? b=some o)->tn i h'
 item:∀(X:Cx),X.prog=P->X.w=w->X.K=K->X.calm=true->∀(i:Nat) (aA:List (Addr×Obj)) (s:Shared) (σ:St) (H:Hp) (E:Value->Shared->Prop),Inv X aA σ H s->(∀b∈fp,aa3 X aA H b)->tn i s.heap->J.go i H->
  wpAny (model P w) X.A (pyNext (.ref it)) (λr s1=>∃u,r=some u /\
   wpAny (model P w) X.A (letOwnedTupleGo tg (.ref it) u) (λ_ s2=>∃x H',Inv X aA σ H' s2/\RelV x u/\J.yld i H x H'/\tn (i+1) s2.heap/\∀b∈fp,H' b=none) E s1) E s
 done:∀(X:Cx),X.prog=P->X.w=w->X.K=K->X.calm=true->∀(i:Nat) (aA:List (Addr×Obj)) (s:Shared) (σ:St) (H:Hp) (E:Value->Shared->Prop),Inv X aA σ H s->(∀b∈fp,aa3 X aA H b)->tn i s.heap->J.stop i H->
  wpAny (model P w) X.A (pyNext (.ref it)) (λr s1=>r=none/\Inv X aA σ H s1) E s
 self:∀(A:Around) (i:Nat) (s:Shared) (Q:Value->Shared->Prop) (E:Value->Shared->Prop),tn i s.heap->Q (.ref it) s->wpAny (model P w) A (pyIter (.ref it)) Q E s
abbrev TI:=St->Hp->(It->Hp->Prop)->Prop
def PIE(X:Cx)(aA:List (Addr×Obj))(σ:St)(tg:Expr)(R:It->Hp->Prop)(itv:Value)(s2:Shared):Prop :=
 ∃(it:Addr) (fp:List Addr) (tn:Nat->Heap->Prop) (J:It) (H':Hp),itv=.ref it/\Inv X aA σ H' s2/\Turn X.prog X.w X.K tg J fp it tn/\tn 0 s2.heap/\(∀b∈fp,aa3 X aA H' b)/\R J H'
def PI(X:Cx)(tg aE:Expr)(wi:TI):Prop :=
 ∀(aA:List (Addr×Obj)) (s:Shared) (σ:St) (H:Hp) (R:It->Hp->Prop),Inv X aA σ H s->wi σ H R->
  wpAny (model X.prog X.w) X.A (eval aE X.env) (λv s1=>wpAny (model X.prog X.w) X.A (pyIter v) (PIE X aA σ tg R) X.xe s1) X.xe s
theorem ak6{s:Shared}(ho:s.heap.get? it=some o)(hc:o.cls=.type n)(hd:o.data=.fields vs)
  (hn:["enumerate", "zip", "dict_itemiterator", "dict_reverseitemiterator", "odict_iterator", "itertools.zip_longest", "itertools.pairwise"].contains n=false) (hQ:Q () s):wpAny M A (letOwnedTupleGo tg (.ref it) u) Q E s:=by
 unfold letOwnedTupleGo
 cases tg<;>first
  |exact aS hQ
  | (cases u<;>first
    |exact aS hQ
    | (refine ar (wpAny_load ho ?_)
       rw[hc,hd];show wpAny M A (if (["enumerate", "zip", "dict_itemiterator", "dict_reverseitemiterator", "odict_iterator", "itertools.zip_longest", "itertools.pairwise"].contains n && vs[0]? == some (rawInt _))=true then _ else _) Q E s
       rw[bE (by intro h;rw[hn,fg]at h;cases h)]
       exact aS hQ))
def Itl(K:Fg)(a:Addr):It :=
 ⟨λi H=>∃xs x,SqL K H a xs/\xs[i]? = some x,λi H x H'=>H'=H/\∀xs,SqL K H a xs->xs[i]? = some x,λi H=>∃xs,SqL K H a xs/\xs.length<=i⟩
def Itt(K:Fg)(a:Addr):It :=
 ⟨λi H=>∃xs x,SqT K H a xs/\xs[i]? = some x,λi H x H'=>H'=H/\∀xs,SqT K H a xs->xs[i]? = some x,λi H=>∃xs,SqT K H a xs/\xs.length<=i⟩
def Itr(lo:Int)(n:Nat):It:=⟨λi _=>i<n,λi H x H'=>H'=H/\x=.int (lo+i),λi _=>n<=i⟩
theorem ag4{P:Program}{w:World}{K:Fg}{tg:Expr}(a it:Addr):Turn P w K tg (Itl K a) [it] it (λi h=>h.IsListIter it a i) where
 mem:=by simp
 obj:=λi h st b hb=>by
  have e:b=it:=by simpa using hb
  subst e;obtain⟨o,e,c,d⟩:=st;exact⟨o,e,λv z=>by rw[d]at z;cases z⟩
 keep:=λi h h' st k=>st.at λo e=>k it (by simp) o e
 item:=by
  intro X hP hw hK hc i aA s σ H E I hf st hg
  subst hP hw hK;obtain⟨xs,x,hq,hx⟩:=hg;obtain⟨its,rv,p,hz⟩:=I.list hq;obtain⟨u,hu,ru⟩:=rv.get hx;obtain⟨f0,f1,f2,f3,f4,f5⟩:=hf it (by simp)
  refine wpAny_pyNext_list_item st p.isList (x:=u) (by simpa using hu) λh' st' sb=>?_
  have I1:Inv X aA σ H {s with heap:=h' }:=I.turned (t':=s.toks) (λb o hb e=>(sb.2 b hb).trans e) f0 f1 f3 f4 f5
  obtain⟨o,e,c,d⟩:=id st';exact⟨u,rfl,ak6 (s:={s with heap:=h' }) e c d (by decide) ⟨x,H,I1,ru,⟨rfl,λys hy=>by rw[I.list_inj hy hq];exact hx⟩,st',λb hb=>(hf b hb).1⟩⟩
 done:=by
  intro X hP hw hK hc i aA s σ H E I hf st hg
  subst hP hw hK;obtain⟨xs,hq,hx⟩:=hg;obtain⟨its,rv,p,hz⟩:=I.list hq;obtain⟨f0,f1,f2,f3,f4,f5⟩:=hf it (by simp)
  have hl:=rv.length;exact wpAny_pyNext_list_end (I.ok.hd hc) st p.isList (by simp;omega) λh' eb=>⟨rfl,I.turned (t':=s.toks) (λb o hb e=>eb b o hb e) f0 f1 f3 f4 f5⟩
 self:=λ_ _ _ _ _ st h=>wpAny_pyIter_listiter st h
theorem aeu{P:Program}{w:World}{K:Fg}{tg:Expr}(a it:Addr):Turn P w K tg (Itt K a) [it] it (λi h=>h.IsTupleIter it a i) where
 mem:=by simp
 obj:=λi h st b hb=>by
  have e:b=it:=by simpa using hb
  subst e;obtain⟨o,e,c,d⟩:=st;exact⟨o,e,λv z=>by rw[d]at z;cases z⟩
 keep:=λi h h' st k=>st.at λo e=>k it (by simp) o e
 item:=by
  intro X hP hw hK hc i aA s σ H E I hf st hg
  subst hP hw hK;obtain⟨xs,x,hq,hx⟩:=hg;obtain⟨its,rv,p,hz⟩:=I.tuple hq;obtain⟨u,hu,ru⟩:=rv.get hx;obtain⟨f0,f1,f2,f3,f4,f5⟩:=hf it (by simp)
  refine wpAny_pyNext_tuple_item st (show s.heap.IsTuple a its.toArray from p) (x:=u) (by simpa using hu) λh' st' sb=>?_
  have I1:Inv X aA σ H {s with heap:=h' }:=I.turned (t':=s.toks) (λb o hb e=>(sb.2 b hb).trans e) f0 f1 f3 f4 f5
  obtain⟨o,e,c,d⟩:=id st';exact⟨u,rfl,ak6 (s:={s with heap:=h' }) e c d (by decide) ⟨x,H,I1,ru,⟨rfl,λys hy=>by rw[I.tuple_inj hy hq];exact hx⟩,st',λb hb=>(hf b hb).1⟩⟩
 done:=by
  intro X hP hw hK hc i aA s σ H E I hf st hg
  subst hP hw hK;obtain⟨xs,hq,hx⟩:=hg;obtain⟨its,rv,p,hz⟩:=I.tuple hq;obtain⟨f0,f1,f2,f3,f4,f5⟩:=hf it (by simp)
  have hl:=rv.length;exact wpAny_pyNext_tuple_end (I.ok.hd hc) st (show s.heap.IsTuple a its.toArray from p) (by simp;omega) λh' eb=>⟨rfl,I.turned (t':=s.toks) (λb o hb e=>eb b o hb e) f0 f1 f3 f4 f5⟩
 self:=λ_ _ _ _ _ st h=>wpAny_pyIter_tupleiter st h
theorem aev{P:Program}{w:World}{K:Fg}{tg:Expr}(it:Addr)(lo:Int)(n:Nat):Turn P w K tg (Itr lo n) [it] it (λi h=>IsRangeIter h it (lo+(i:Nat)*1) ((n:Int)-(i:Nat)) 1) where
 mem:=by simp
 obj:=λi h st b hb=>by
  have e:b=it:=by simpa using hb
  subst e;exact⟨_,st,λv z=>by
   have z':Data.fields _=Data.cell v:=z
   cases z'⟩
 keep:=λi h h' st k=>k it (by simp) _ st
 item:=by
  intro X hP hw hK hc i aA s σ H E I hf st hg
  subst hP hw hK;obtain⟨f0,f1,f2,f3,f4,f5⟩:=hf it (by simp)
  have W:=Walks.range (prog:=X.prog) (w:=X.w) (I.ok.hd hc) it lo 1 n;refine W.item i s _ _ hg st λv h' tk hv st' kk=>?_;obtain⟨t,rfl⟩:=hv;have I1:Inv X aA σ H {s with heap:=h',toks:=tk}:=I.turned (λb o hb e=>kk b o (by simpa using hb) e) f0 f1 f3 f4 f5
  refine⟨_,rfl,ak6 (s:={s with heap:=h',toks:=tk}) (n := "range_iterator") st' rfl rfl (by decide) ⟨.int (lo+i),H,I1,⟨t,?_⟩,⟨rfl,rfl⟩,st',λb hb=>(hf b hb).1⟩⟩
  rw[Int.mul_one]
 done:=by
  intro X hP hw hK hc i aA s σ H E I hf st hg
  subst hP hw hK;obtain⟨f0,f1,f2,f3,f4,f5⟩:=hf it (by simp)
  exact wpAny_pyNext_range_end (I.ok.hd hc) st (by have:n<=i:=hg;omega) λh' eb=>⟨rfl,I.turned (t':=s.toks) (λb o hb e=>eb b o hb e) f0 f1 f3 f4 f5⟩
 self:=λ_ _ _ _ _ st h=>wpAny_pyIter_rangeiter st h
section
variable{X:Cx}{tg:Expr}
def axy(K:Fg)(tl:TE):TI:=λσ H R=>tl σ H λx H1=>∃a,x=.ref a/\(∃xs,SqL K H1 a xs)/\R (Itl K a) H1
def b0o(K:Fg)(tl:TE):TI:=λσ H R=>tl σ H λx H1=>∃a,x=.ref a/\(∃xs,SqT K H1 a xs)/\R (Itt K a) H1
theorem ag5{l:Expr}{tl:TE}(hl:PE X l tl):PI X tg l (axy X.K tl):=by
 intro aA s σ H R I h
 refine thn (hl aA s σ H _ I h) ?_
 rintro v s1 ⟨x,H1,I1,r1,q1⟩
 obtain⟨a,e,⟨xs,hq⟩,q⟩:=q1;subst e;cases r1
 obtain⟨its,rv,p,hz⟩:=I1.list hq;refine g9 p.isList ?_;refine⟨s1.heap.objs.size,[s1.heap.objs.size],_,_,H1,rfl,I1.kept (t':=s1.toks) λb o e=>ag _ e,ag4 a _,⟨_,aW _ rfl,rfl,rfl⟩,λb hb=>?_,q⟩;have e:b=s1.heap.objs.size:=by simpa using hb
 subst e;exact I1.fpOk (aI _) (I1.hok.fresh (aI _))
theorem at7{l:Expr}{tl:TE}(hl:PE X l tl):PI X tg l (b0o X.K tl):=by
 intro aA s σ H R I h
 refine thn (hl aA s σ H _ I h) ?_
 rintro v s1 ⟨x,H1,I1,r1,q1⟩
 obtain⟨a,e,⟨xs,hq⟩,q⟩:=q1;subst e;cases r1
 obtain⟨its,rv,p,hz⟩:=I1.tuple hq;refine wpAny_pyIter_tuple (show s1.heap.IsTuple a its.toArray from p) ?_
 refine⟨s1.heap.objs.size,[s1.heap.objs.size],_,_,H1,rfl,I1.kept (t':=s1.toks) λb o e=>ag _ e,aeu a _,⟨_,aW _ rfl,rfl,rfl⟩,λb hb=>?_,q⟩;have e:b=s1.heap.objs.size:=by simpa using hb
 subst e;exact I1.fpOk (aI _) (I1.hok.fresh (aI _))
theorem ad4{s:Shared}{lo hi:Int}{tk:Nat}(I:Inv X aA σ H s)(h1 : -(2^62)<=lo)(h2:lo<2^62)(h3 : -(2^62)<=hi)(h4:hi<2^62)
  (q:R (Itr lo (hi-lo).toNat) H):wpAny (model X.prog X.w) X.A (pyIter (.ref s.heap.objs.size)) (PIE X aA σ tg R) E {s with heap:=s.heap.push {cls:=.type "range",data:=.fields #[.int lo t,.int hi u,.int 1 v]},toks:=tk}:=by
 refine wpAny_pyIter_range (IsRange.new ..) (small_one h1 h2 h3 h4) ?_;have I1:Inv X aA σ H {s with heap:=s.heap.push {cls:=.type "range",data:=.fields #[.int lo t,.int hi u,.int 1 v]},toks:=tk}:=I.kept λb o e=>ag _ e
 refine⟨(s.heap.push {cls:=.type "range",data:=.fields #[.int lo t,.int hi u,.int 1 v]}).objs.size,[(s.heap.push {cls:=.type "range",data:=.fields #[.int lo t,.int hi u,.int 1 v]}).objs.size],_,_,H,rfl,
  I1.kept (t':=tk) λb o e=>ag _ e,aev _ lo (hi-lo).toNat,?_,λb hb=>?_,q⟩
 ·have e1:lo+((0:Nat):Int)*1=lo:=by simp
  have e2:(((hi-lo).toNat:Nat):Int)-((0:Nat):Int)=Builtin.Range.rangeSize lo hi 1:=by rw[rangeSize_one];split<;>omega
  show IsRangeIter _ _ (lo+((0:Nat):Int)*1) ((((hi-lo).toNat:Nat):Int)-((0:Nat):Int)) 1;rw[e1,e2];exact aW _ rfl
 ·have e:b=(s.heap.push {cls:=.type "range",data:=.fields #[.int lo t,.int hi u,.int 1 v]}).objs.size:=by simpa using hb
  subst e;exact I1.fpOk (aI _) (I1.hok.fresh (aI _))
def axz(ta:TA):TI:=λσ H R=>ta σ H λvs H1=>∃j:Int,vs=[.int j] /\ -(2^62)<=j/\j<2^62/\R (Itr 0 j.toNat) H1
def ay0(ta:TA):TI:=λσ H R=>ta σ H λvs H1=>∃i j:Int,vs=[.int i,.int j]/\(-(2^62)<=i/\i<2^62 /\ -(2^62)<=j/\j<2^62)/\R (Itr i (j-i).toNat) H1
theorem ag6{a:Expr}{ta:TA}{p pos:Pos}(hg:Gl X "range")(hm:X.mg "range" = none)(ha:PA X [a] ta)(hs:starEach [a] X.env=[(false,eval a X.env)]:=by rfl):PI X tg (.Call (.Name "range" p) [a] [] pos) (axz ta):=by
 intro aA s σ H R I h
 refine Call_ (a6i I hg hm boot_range (cJ (thn (ha pos aA s σ H _ I h) λus s1 ⟨vs,H1,I1,r1,q1⟩=>?_) hs rfl));obtain⟨j,e,q1,q2,q⟩:=q1;subst e
 cases r1 with
 |cons r rr =>
  cases rr
  obtain⟨t,rfl⟩:=r;exact call_range_1 (ad4 I1 (by omega) (by omega) q1 q2 (by simpa using q))
theorem ag7{a b:Expr}{ta:TA}{p pos:Pos}(hg:Gl X "range")(hm:X.mg "range" = none)(ha:PA X [a,b] ta)(hs:starEach [a,b] X.env=[(false,eval a X.env),(false,eval b X.env)]:=by rfl)(hs2:starEach [b] X.env=[(false,eval b X.env)]:=by rfl) :
  PI X tg (.Call (.Name "range" p) [a,b] [] pos) (ay0 ta):=by
 intro aA s σ H R I h
 refine Call_ (a6i I hg hm boot_range (cJ (thn (ha pos aA s σ H _ I h) λus s1 ⟨vs,H1,I1,r1,q1⟩=>?_) (by rw[hs,hs2]) (by rw[hs2];rfl)))
 obtain⟨i,j,e,⟨q1,q2,q3,q4⟩,q⟩:=q1;subst e
 cases r1 with
 |cons r rr =>
  cases rr with
  |cons r' rr =>
   cases rr
   obtain⟨t,rfl⟩:=r;obtain⟨t',rfl⟩:=r';exact call_range_2 (ad4 I1 q1 q2 q3 q4 q)
def b0p(wi:TI)(g:TG)(tb:TS):TS:=λD σ H=>wi σ H λJ H1=>∃W:Nat->Nat->St->Hp->Prop,(∃m,W 0 m σ H1)/\∀i m σ H,W i m σ H->
 (J.stop i H/\D.nx σ H)\/(J.go i H/\∃N:St->Hp->Prop,(∀σ' H',N σ' H'->∃m',m'<m/\W (i+1) m' σ' H')/\∀x H',J.yld i H x H'->g x σ H' λσ2 H2=>tb {D with nx:=N,ct:=N,bk:=D.nx} σ2 H2)
def a6j(fp:List Addr)(h:Heap):List (Addr×Obj):=fp.filterMap λb=>(h.get? b).map λo=>(b,o)
theorem a2k{h:Heap}(hb:b∈fp)(e:h.get? b=some o):(b,o)∈a6j fp h:=fV.mpr ⟨b,hb,by rw[e];rfl⟩
theorem ag8(hp:p∈a6j fp h):p.1∈fp/\h.get? p.1=some p.2:=by
 obtain⟨b,hb,e⟩:=fV.mp hp
 cases q:h.get? b with
 |none=>rw[q]at e;cases e
 |some o =>
  rw[q]at e;have e':(b,o)=p:=bO e;subst e';exact⟨hb,q⟩
theorem Inv.pinned(I:Inv X aA σ H s)(hf:∀b∈fp,aa3 X aA H b)(ho:∀b∈fp,∃o,s.heap.get? b=some o/\∀v,o.data≠.cell v):Inv X (aA++a6j fp s.heap) σ H s :=
 I.pins_of λp hp=>(bo.mp hp).elim (λz=>I.pin p (bT _ z)) λz=>by
  obtain⟨hb,e⟩:=ag8 z;obtain⟨f0,f1,f2,_⟩:=hf p.1 hb;obtain⟨o,e',d⟩:=ho p.1 hb;rw[e]at e';cases e'
  exact⟨e,f0,f1,f2,d⟩
theorem Inv.unpinned(I:Inv X (aA++pl) σ H s):Inv X aA σ H s:=I.pins_of λp hp=>I.pin p (bT _ (cS _ hp))
theorem at8{aE:Expr}{body:List Stmt}{wi:TI}{g:TG}{tb:TS}{pos:Pos}(hp:PassesOwn (model X.prog X.w) X.A X.env X.xe)(hc:X.calm=true)(hi:PI X tg aE wi)(hg:PG X tg g)(hb:PSs X body tb)
  (hs:∀x,foldedSetIterable aE X.env x=pure x:=by intro _;rfl):PS X (.For tg aE body [] pos) (b0p wi g tb):=by
 intro aA s σ H D I h
 refine wpAny_For (thn (hi aA s σ H _ I h) λv s1 h1=>thn h1 λitv s2 h2=>?_) hs;obtain⟨it,fp,tn,J,H2,e,I2,T,st2,f2,W,⟨m0,w0⟩,turn⟩:=h2;subst e;have stat:∀{H':Hp},(∀b∈fp,H' b=none)->∀b∈fp,aa3 X aA H' b:=λhn b hb=>⟨hn b hb,(f2 b hb).2⟩;refine codeAny_forLoop_any (λn s'=>∃i σ' H',Inv X aA σ' H' s'/\tn i s'.heap/\(∀b∈fp,H' b=none)/\W i n σ' H') ?_ m0 ⟨0,σ,H2,I2,st2,λb hb=>(f2 b hb).1,w0⟩
 rintro n s3 ⟨i,σ3,H3,I3,st3,fr3,w3⟩
 rcases turn i n σ3 H3 w3 with⟨stop,qn⟩|⟨go,N,hN,step⟩
 ·refine dF hp (thn (T.done X rfl rfl rfl hc i aA s3 σ3 H3 X.xe I3 (stat fr3) st3 stop) λr s4 ⟨hr,I4⟩=>?_);subst hr;exact e7 ⟨σ3,H3,I4,qn⟩
 ·refine dF hp (thn (T.item X rfl rfl rfl hc i aA s3 σ3 H3 X.xe I3 (stat fr3) st3 go) λr s4 ⟨u,hr,h4⟩=>?_);subst hr;refine dF hp (thn h4 λ_ s5 ⟨x,H5,I5,r5,y5,st5,fr5⟩=>?_);have I5':=I5.pinned (stat fr5) (T.obj _ _ st5);refine dF hp (thn (hg _ s5 σ3 H5 x u _ I5' r5 (step x H5 y5)) λ_ s6 ⟨σ6,H6,I6,q6⟩=>?_);refine dF hp (thn (hb _ s6 σ6 H6 _ I6 q6) λf s7 q7=>?_);have again:∀{σ7:St} {H7:Hp},Inv X (aA++a6j fp s5.heap) σ7 H7 s7->N σ7 H7->∃m,m<n/\∃i σ' H',Inv X aA σ' H' s7/\tn i s7.heap/\(∀b∈fp,H' b=none)/\W i m σ' H':=λ{σ7 H7} I7 n7=>by
   obtain⟨m',hm,w7⟩:=hN σ7 H7 n7;refine⟨m',hm,i+1,σ7,H7,I7.unpinned,T.keep _ _ _ st5 λb hb o e=>(I7.pin (b,o) (bT _ (bT _ (a2k hb e)))).1,λb hb=>?_,w7⟩;obtain⟨o,e,d⟩:=T.obj _ _ st5 b hb;exact(I7.pin (b,o) (bT _ (bT _ (a2k hb e)))).2.1
  cases f with
  |next=>obtain⟨σ7,H7,I7,n7⟩:=q7;exact again I7 n7
  |cont=>obtain⟨σ7,H7,I7,n7⟩:=q7;exact again I7 n7
  |brk=>obtain⟨σ7,H7,I7,q7⟩:=q7;exact⟨σ7,H7,I7.unpinned,q7⟩
  |ret v=>obtain⟨x7,σ7,H7,I7,r7,q7⟩:=q7;exact⟨x7,σ7,H7,I7.unpinned,r7,q7⟩
end
abbrev R2:=V->V->Hp->VK->Prop
def OpR(X:Cx)(f:Value->Value->Sem Value)(r:R2):Prop :=
 ∀(aA:List (Addr×Obj)) (s:Shared) (σ:St) (H:Hp) (x y:V) (v u:Value) (Q:VK),Inv X aA σ H s->RelV x v->RelV y u->r x y H Q->
  wpAny (model X.prog X.w) X.A (f v u) (EP X aA σ Q) X.xe s
def UnR(X:Cx)(f:Value->Sem Value)(r:V->Hp->VK->Prop):Prop :=
 ∀(aA:List (Addr×Obj)) (s:Shared) (σ:St) (H:Hp) (x:V) (v:Value) (Q:VK),Inv X aA σ H s->RelV x v->r x H Q->
  wpAny (model X.prog X.w) X.A (f v) (EP X aA σ Q) X.xe s
def CallR(X:Cx)(f:Value)(r:List V->Hp->VK->Prop):Prop :=
 ∀(aA:List (Addr×Obj)) (s:Shared) (σ:St) (H:Hp) (xs:List V) (us:List Value) (Q:VK),Inv X aA σ H s->Vals xs us->r xs H Q->
  wpAny (model X.prog X.w) X.A (call f us) (EP X aA σ Q) X.xe s
def b0q(X:Cx)(r:V->Hp->(Bool->Hp->Prop)->Prop):Prop :=
 ∀(aA:List (Addr×Obj)) (s:Shared) (σ:St) (H:Hp) (x:V) (v:Value) (Q:Bool->Hp->Prop),Inv X aA σ H s->RelV x v->r x H Q->
  wpAny (model X.prog X.w) X.A (truthy v) (TP X aA σ Q) X.xe s
def tOp(r:R2)(ta tb:TE):TE:=λσ H Q=>ta σ H λx H1=>tb σ H1 λy H2=>r x y H2 Q
def tUn(r:V->Hp->VK->Prop)(ta:TE):TE:=λσ H Q=>ta σ H λx H1=>r x H1 Q
def rI(C:Int->Int->Prop)(g:Int->Int->V):R2:=λx y H Q=>∃i j,x=.int i/\y=.int j/\C i j/\Q (g i j) H
def rI0(g:Int->Int->V):R2:=λx y H Q=>∃i j,x=.int i/\y=.int j/\Q (g i j) H
def rU(g:Int->V):V->Hp->VK->Prop:=λx H Q=>∃i,x=.int i/\Q (g i) H
section
variable{X:Cx}{a b c:Expr}{ta tb tc:TE}{pos:Pos}
theorem ay1(ha:PE X a ta)(hb:PE X b tb){aA:List (Addr×Obj)}{s:Shared}{σ:St}{H:Hp}{R:V->V->Hp->Prop}(I:Inv X aA σ H s)
  (h:ta σ H λx H1=>tb σ H1 λy H2=>R x y H2) {Q:Value->Shared->Prop} {f:Value->Value->Sem Value}
  (hf:∀v u s2 x y H2,Inv X aA σ H2 s2->RelV x v->RelV y u->R x y H2->wpAny (model X.prog X.w) X.A (f v u) Q X.xe s2) :
  wpAny (model X.prog X.w) X.A (eval a X.env) (λv s₁=>wpAny (model X.prog X.w) X.A (eval b X.env) (λu s₂=>wpAny (model X.prog X.w) X.A (f v u) Q X.xe s₂) X.xe s₁) X.xe s:=by
 refine thn (ha aA s σ H _ I h) ?_
 rintro v s1 ⟨x,H1,I1,r1,q1⟩
 refine thn (hb aA s1 σ H1 _ I1 q1) ?_
 rintro u s2 ⟨y,H2,I2,r2,q2⟩
 exact hf v u s2 x y H2 I2 r1 r2 q2
theorem ay2{op:Operator}{r:R2}(ho:OpR X (binaryOp op) r)(ha:PE X a ta)(hb:PE X b tb):PE X (.BinOp a op b pos) (tOp r ta tb):=by
 intro aA s σ H Q I h
 exact wpAny_BinOp (ay1 ha hb I h λv u s2 x y H2 I2 rx ry q=>ho aA s2 σ H2 x y v u Q I2 rx ry q)
theorem ay3{op:UnaryOp}{r:V->Hp->VK->Prop}(ho:UnR X (unaryOp op) r)(ha:PE X a ta):PE X (.UnaryOp op a pos) (tUn r ta):=by
 intro aA s σ H Q I h
 exact UnaryOp_ (thn (ha aA s σ H _ I h) λv s1 ⟨x,H1,I1,r1,q1⟩=>ho aA s1 σ H1 x v Q I1 r1 q1)
theorem opI{f:Value->Value->Sem Value}{C:Int->Int->Prop}{g:Int->Int->Int}
  (rule:∀(i j:Int) (t u:Tok) (s:Shared) (Q:Value->Shared->Prop) (E:Value->Shared->Prop),C i j->Q (.int (g i j) s.toks) {s with toks:=s.toks+1}->wpAny (model X.prog X.w) X.A (f (.int i t) (.int j u)) Q E s) :
  OpR X f (rI C λi j=>.int (g i j)):=by
 intro aA s σ H x y v u Q I rx ry h
 obtain⟨i,j,rfl,rfl,hc,q⟩:=h;obtain⟨t,rfl⟩:=rx;obtain⟨t',rfl⟩:=ry;exact rule i j t t' s _ _ hc ⟨.int (g i j),H,I.tok _,⟨_,rfl⟩,q⟩
theorem ay4{f:Value->Value->Sem Value}{g:Int->Int->Int}
  (rule:∀(i j:Int) (t u:Tok) (s:Shared) (Q:Value->Shared->Prop) (E:Value->Shared->Prop),Q (.int (g i j) s.toks) {s with toks:=s.toks+1}->wpAny (model X.prog X.w) X.A (f (.int i t) (.int j u)) Q E s) :
  OpR X f (rI0 λi j=>.int (g i j)):=by
 intro aA s σ H x y v u Q I rx ry h
 obtain⟨i,j,rfl,rfl,q⟩:=h;obtain⟨t,rfl⟩:=rx;obtain⟨t',rfl⟩:=ry;exact rule i j t t' s _ _ ⟨.int (g i j),H,I.tok _,⟨_,rfl⟩,q⟩
theorem axa{f:Value->Value->Sem Value}{g:Int->Int->Bool}
  (rule:∀(i j:Int) (t u:Tok) (s:Shared) (Q:Value->Shared->Prop) (E:Value->Shared->Prop),Q (.bool (g i j)) s->wpAny (model X.prog X.w) X.A (f (.int i t) (.int j u)) Q E s) :
  OpR X f (rI0 λi j=>.bl (g i j)):=by
 intro aA s σ H x y v u Q I rx ry h
 obtain⟨i,j,rfl,rfl,q⟩:=h;obtain⟨t,rfl⟩:=rx;obtain⟨t',rfl⟩:=ry;exact rule i j t t' s _ _ ⟨.bl (g i j),H,I,rfl,q⟩
def ay5(i j:Int):Prop:=0<j/\j<1073741824
def aze(i j:Int):Prop:=0<=j/\j<=1000000/\i.natAbs<2^64
def CMul(i j:Int):Prop:=(-(2^64)<i/\i<2^64)\/(-(2^64)<j/\j<2^64)
theorem CMul.ok(h:CMul i j):IntMulOk i j:=by
 rcases h with⟨h1,h2⟩|⟨h1,h2⟩
 ·exact .of_left (intBits_le_64 h1 h2)
 ·exact .of_right (intBits_le_64 h1 h2)
theorem at9:OpR X (binaryOp .Add) (rI0 λi j=>.int (i+j)):=ay4 λ_ _ _ _ _ _ _ q=>add_int q
theorem ata:OpR X (binaryOp .Sub) (rI0 λi j=>.int (i-j)):=ay4 λ_ _ _ _ _ _ _ q=>sub_int q
theorem an5:OpR X (binaryOp .Mult) (rI CMul λi j=>.int (i*j)):=opI λ_ _ _ _ _ _ _ hc q=>mul_int q hc.ok
theorem ap0:OpR X (binaryOp .FloorDiv) (rI ay5 λi j=>.int (i / j)):=opI λi j _ _ _ _ _ hc q=>by
 have h1:(0:Int)<j:=hc.1;have h2:j<1073741824:=hc.2;exact floordiv_int (by omega) (by rw[fS i (by omega)];exact q) (.inl (PyProof.noPylong_small (by omega)))
theorem atb:OpR X (binaryOp .Mod) (rI (λ_ j=>0<j) λi j=>.int (i%j)):=opI λi j _ _ _ _ _ hc q=>by
 have h1:(0:Int)<j:=hc;exact mod_int' (by omega) (by rw[Int.fmod_eq_emod_of_nonneg i (by omega)];exact q)
theorem atc:OpR X (binaryOp .Pow) (rI aze λi j=>.int (i^j.toNat)):=opI λ_ _ _ _ _ _ _ hc q=>pow_int_small hc.1 hc.2.1 hc.2.2 q
theorem a4t:OpR X (inplaceOp .Add) (rI0 λi j=>.int (i+j)):=ay4 λ_ _ _ _ _ _ _ q=>iadd_int q
theorem ak7:OpR X (inplaceOp .FloorDiv) (rI ay5 λi j=>.int (i / j)):=opI λi j _ _ _ _ _ hc q=>by
 have h1:(0:Int)<j:=hc.1;have h2:j<1073741824:=hc.2;exact ifloordiv_int (by omega) (by rw[fS i (by omega)];exact q) (.inl (PyProof.noPylong_small (by omega)))
theorem unI{f:Value->Sem Value}{g:Int->Int}
  (rule:∀(i:Int) (t:Tok) (s:Shared) (Q:Value->Shared->Prop) (E:Value->Shared->Prop),Q (.int (g i) s.toks) {s with toks:=s.toks+1}->wpAny (model X.prog X.w) X.A (f (.int i t)) Q E s) :
  UnR X f (rU λi=>.int (g i)):=by
 intro aA s σ H x v Q I rx h
 obtain⟨i,rfl,q⟩:=h;obtain⟨t,rfl⟩:=rx;exact rule i t s _ _ ⟨.int (g i),H,I.tok _,⟨_,rfl⟩,q⟩
theorem atd:UnR X (unaryOp .USub) (rU λi=>.int (-i)):=unI λ_ _ _ _ _ q=>neg_int q
end
section
variable{X:Cx}{a b c:Expr}{ta tb tc:TE}{pos:Pos}
theorem a5i(I:Inv X aA σ H s)(q:Q (.bl k) H)(e:k=k'):EP X aA σ Q (.bool k') s:=by
 subst e;exact⟨.bl k,H,I,rfl,q⟩
theorem a8j:OpR X (compareOp .Lt) (rI0 λi j=>.bl (decide (i<j))):=axa λ_ _ _ _ _ _ _ q=>lt_int q
theorem ap1:OpR X (compareOp .LtE) (rI0 λi j=>.bl (decide (i<=j))):=axa λ_ _ _ _ _ _ _ q=>le_int q
theorem ap2:OpR X (compareOp .Gt) (rI0 λi j=>.bl (decide (j<i))):=axa λ_ _ _ _ _ _ _ q=>gt_int q
theorem ak8:OpR X (compareOp .GtE) (rI0 λi j=>.bl (decide (j<=i))):=axa λ_ _ _ _ _ _ _ q=>ge_int q
theorem vo:OpR X (compareOp .Lt) (λx y H Q=>∃i j,x=.str i/\y=.str j/\Q (.bl (decide (i.cps.toList<j.cps.toList))) H):=by
 intro aA s σ H x y v u Q I rx ry h
 obtain⟨i,j,rfl,rfl,q⟩:=h;obtain⟨t,rfl⟩:=rx;obtain⟨t',rfl⟩:=ry;exact lt_str (a5i I q rfl)
theorem ag9:OpR X (compareOp .In) (λx y H Q=>∃i j,x=.str i/\y=.str j/\Q (.bl (!(Builtin.Str.occurrences j i 0 j.length 1).isEmpty)) H):=by
 intro aA s σ H x y v u Q I rx ry h
 obtain⟨i,j,rfl,rfl,q⟩:=h;obtain⟨t,rfl⟩:=rx;obtain⟨t',rfl⟩:=ry;exact in_str (a5i I q rfl)
theorem ate:OpR X (compareOp .Is) (λx y H Q=>y=.non/\Q (.bl (decide (x=.non))) H):=by
 intro aA s σ H x y v u Q I rx ry h
 obtain⟨rfl,q⟩:=h;cases ry
 refine is_none_gen (a5i I q ?_)
 cases x<;>first
  |(cases rx;rfl)
  |(obtain⟨t,rfl⟩:=rx;rfl)
theorem ap3:OpR X (compareOp .IsNot) (λx y H Q=>y=.non/\Q (.bl (!decide (x=.non))) H):=by
 intro aA s σ H x y v u Q I rx ry h
 obtain⟨rfl,q⟩:=h;cases ry
 refine isnot_none_gen (a5i I q ?_)
 cases x<;>first
  |(cases rx;rfl)
  |(obtain⟨t,rfl⟩:=rx;rfl)
theorem aa4:OpR X (compareOp .NotIn) (λx y H Q=>∃i j,x=.str i/\y=.str j/\Q (.bl (!(!(Builtin.Str.occurrences j i 0 j.length 1).isEmpty))) H):=by
 intro aA s σ H x y v u Q I rx ry h
 obtain⟨i,j,rfl,rfl,q⟩:=h;obtain⟨t,rfl⟩:=rx;obtain⟨t',rfl⟩:=ry;exact notIn_str (a5i I q rfl)
theorem OpR.or(h:OpR X f r)(h':OpR X f r'):OpR X f (λx y H Q=>r x y H Q\/r' x y H Q):=by
 intro aA s σ H x y v u Q I rx ry q
 rcases q with q|q
 ·exact h aA s σ H x y v u Q I rx ry q
 ·exact h' aA s σ H x y v u Q I rx ry q
theorem a5j(b:Expr)(h:op≠.In:=by decide)(h2:op≠.NotIn:=by decide):behindInMarks op b=false:=by
 have e1:(op == CmpOp.In)=false:=by cases op<;>first|rfl|exact absurd rfl h
 have e2:(op == CmpOp.NotIn)=false:=by cases op<;>first|rfl|exact absurd rfl h2
 cases b<;>simp[behindInMarks,e1,e2]
theorem ap4(ho:OpR X (compareOp op) r)(ha:PE X a ta)(hb:PE X b tb)(hm:behindInMarks op b=false):PE X (.Compare a [op] [b] pos) (tOp r ta tb):=by
 intro aA s σ H Q I h
 exact wpAny_Compare1 (ay1 ha hb I h λv u s2 x y H2 I2 rx ry q=>ho aA s2 σ H2 x y v u Q I2 rx ry q) hm
def atf(t:TE):TT:=λσ H Q=>t σ H λx H'=>∃k,x=.bl k/\Q k H'
theorem ap5{op:CmpOp}{r:R2}(ho:OpR X (compareOp op) r)(ha:PE X a ta)(hb:PE X b tb)(hm:behindInMarks op b=false):PT X (.Compare a [op] [b] pos) (atf (tOp r ta tb)):=by
 intro aA s σ H Q I h
 refine wpAny_isTrue_Compare1 (thn (ha aA s σ H _ I h) λv s1 ⟨x,H1,I1,r1,q1⟩=>thn (hb aA s1 σ H1 _ I1 q1) λu s2 ⟨y,H2,I2,r2,q2⟩ =>
  thn (ho aA s2 σ H2 x y v u _ I2 r1 r2 q2) λc s3 ⟨z,H3,I3,r3,k,e,q3⟩=>?_) hm
 subst e;cases r3
 exact cT ⟨H3,I3,q3⟩
def an6(r r':R2)(ta tb tc:TE):TE:=λσ H Q=>ta σ H λx H1=>tb σ H1 λy H2=>r x y H2 λz H3=>∃k,z=.bl k /\
 (if k=true then tc σ H3 λw' H4=>r' y w' H4 Q else Q (.bl false) H3)
theorem ak9{op op':CmpOp}{r r':R2}(ho:OpR X (compareOp op) r)(ho':OpR X (compareOp op') r')(ha:PE X a ta)(hb:PE X b tb)(hc:PE X c tc)
  (hm:lastMarks [op,op'] [b,c]=false:=by with_unfolding_all rfl):PE X (.Compare a [op,op'] [b,c] pos) (an6 r r' ta tb tc):=by
 intro aA s σ H Q I h
 refine Compare_chain (thn (ha aA s σ H _ I h) λv s1 ⟨x,H1,I1,r1,q1⟩=>chain_link (thn (hb aA s1 σ H1 _ I1 q1) λu s2 ⟨y,H2,I2,r2,q2⟩ =>
  thn (ho aA s2 σ H2 x y v u _ I2 r1 r2 q2) λd s3 ⟨z,H3,I3,r3,k,e,q3⟩=>?_)) hm
 subst e;cases r3
 refine cT ?_
 cases k with
 |false=>exact ite_ff ⟨.bl false,H3,I3,rfl,q3⟩
 |true=>exact ite_tt (chain_last (thn (hc aA s3 σ H3 _ I3 q3) λw' s4 ⟨z',H4,I4,r4,q4⟩=>ho' aA s4 σ H4 y z' u w' Q I4 r2 r4 q4))
def ay6(K:Fg)(x:V)(H:Hp)(k:Bool):Prop :=
 match x with
 |.non=>k=false
 |.bl b=>k=b
 |.int i=>k=(i != 0)
 |.str y=>y.length<=sizeLine/\k=((y.length:Int) != 0)
 |.byt y=>y.size<=sizeLine/\k=((y.size:Int) != 0)
 |.ref p=>(∃xs,SqL K H p xs/\k = !xs.isEmpty)\/(∃xs,SqT K H p xs/\k = !xs.isEmpty)\/∃kvs,H p=some (.dK kvs)/\k = !kvs.isEmpty
 |_=>False
theorem aew{κ:Type}{kvs:List (κ×V)}{vs:List (κ×Value)}(r:KV kvs vs):(!vs.isEmpty) = !kvs.isEmpty:=by
 cases r<;>rfl
theorem a7m(r:Vals xs its):(!its.toArray.isEmpty) = !xs.isEmpty:=by
 cases r<;>simp
theorem a5k:(sizeLine:Nat)<2^63:=by rw[eX];decide
theorem atg:b0q X (λx H Q=>∃k,ay6 X.K x H k/\Q k H):=by
 intro aA s σ H x v Q I rx h
 obtain⟨k,e,q⟩:=h;have hl:=a5k;have hs:sizeLine=16777216:=eX
 cases x with
 |non =>
  cases rx
  have e':k=false:=e;subst e';exact truthy_none ⟨H,I,q⟩
 |bl b =>
  cases rx
  have e':k=b:=e;subst e';exact cT ⟨H,I,q⟩
 |int i =>
  obtain⟨t,rfl⟩:=rx;have e':k=(i != 0):=e;subst e';exact PySem.P.truthy_int ⟨H,I,q⟩
 |str y =>
  obtain⟨t,rfl⟩:=rx;obtain⟨hy,e'⟩:y.length<=sizeLine/\k=((y.length:Int) != 0):=e;subst e';exact PySem.P.truthy_str (by omega) ⟨H,I.tok _,q⟩
 |byt y =>
  obtain⟨t,rfl⟩:=rx;obtain⟨hy,e'⟩:y.size<=sizeLine/\k=((y.size:Int) != 0):=e;subst e';exact PySem.W.truthy_bytes (by omega) ⟨H,I.tok _,q⟩
 |ref p =>
  cases rx
  have e':(∃xs,SqL X.K H p xs/\k = !xs.isEmpty)\/(∃xs,SqT X.K H p xs/\k = !xs.isEmpty)\/∃kvs,H p=some (.dK kvs)/\k = !kvs.isEmpty:=e
  rcases e' with⟨xs,hx,e'⟩|⟨xs,hx,e'⟩|⟨kvs,hx,e'⟩
  ·subst e';obtain⟨its,r,pl,hz⟩:=I.list hx;have aG:=r.length;exact wpAny_truthy_list pl.isList (by simp only[ax];omega) ⟨H,I.tok _,by rw[a7m r];exact q⟩
  ·subst e';obtain⟨its,r,pl,hz⟩:=I.tuple hx;have aG:=r.length;exact truthy_tuple pl (by simp only[ax];omega) ⟨H,I.tok _,by rw[a7m r];exact q⟩
  ·subst e';obtain⟨hz,hS,vs,r,m⟩:kvs.length<=sizeLine/\(p == sysModules)=false/\∃vs,KV kvs vs/\s.heap.DictOf (a6h X.prog X.w) p vs:=I.hok p _ hx;have aG:kvs.length=vs.length:=Paired.length r;exact wpAny_truthy_dict hS m (by omega) ⟨H,I.tok _,by rw[aew r];exact q⟩
 |_=>exact(show False from e).elim
theorem aka(ha:PE X a ta)(he:∀whole,isTrue a X.env whole=(do let v <-whole;standAt a.pos;holding [v] (truthy v))) :
  PT X a (λσ H Q=>ta σ H λx H'=>∃k,ay6 X.K x H' k/\Q k H'):=by
 intro aA s σ H Q I h
 exact isTrue_plain (thn (ha aA s σ H _ I h) λv s1 ⟨x,H1,I1,r1,q1⟩=>atg aA s1 σ H1 x v Q I1 r1 q1) (he _)
theorem aex:OpR X (binaryOp .Add) (λx y H Q=>∃i j,x=.str i/\y=.str j/\i.length+j.length<=sizeLine/\Q (.str (i++j)) H):=by
 intro aA s σ H x y v u Q I rx ry h
 obtain⟨i,j,rfl,rfl,hz,q⟩:=h;obtain⟨t,rfl⟩:=rx;obtain⟨t',rfl⟩:=ry;exact add_str (λt' tk=>⟨.str (i++j),H,I.tok _,⟨_,rfl⟩,q⟩) hz
theorem wz:OpR X (inplaceOp .Add) (λx y H Q=>∃i j,x=.str i/\y=.str j/\i.length+j.length<=sizeLine/\Q (.str (i++j)) H):=by
 intro aA s σ H x y v u Q I rx ry h
 obtain⟨i,j,rfl,rfl,hz,q⟩:=h;obtain⟨t,rfl⟩:=rx;obtain⟨t',rfl⟩:=ry;exact iadd_str (λt' tk=>⟨.str (i++j),H,I.tok _,⟨_,rfl⟩,q⟩) hz
theorem vals1(r:Vals [x] us):∃u,us=[u]/\RelV x u:=by
 cases r with
 |cons r1 r2=>cases r2;exact⟨_,rfl,r1⟩
theorem vals2(r:Vals [x,y] us):∃u w',us=[u,w']/\RelV x u/\RelV y w':=by
 cases r with
 |cons r1 r2 =>
  cases r2 with
  |cons r3 r4=>cases r4;exact⟨_,_,rfl,r1,r3⟩
theorem akb:CallR X (.builtin "abs") (λxs H Q=>∃i,xs=[.int i]/\Q (.int (if i<0 then -i else i)) H):=by
 intro aA s σ H xs us Q I r h
 obtain⟨i,rfl,q⟩:=h;obtain⟨u,rfl,t,rfl⟩:=vals1 r;exact call_abs_int λu tk=>⟨.int (if i<0 then -i else i),H,I.tok _,⟨_,rfl⟩,q⟩
theorem aga:CallR X (.type "int") (λxs H Q=>(∃i,xs=[.int i]/\Q (.int i) H)\/∃k,xs=[.bl k]/\Q (.int (if k then 1 else 0)) H):=by
 intro aA s σ H xs us Q I r h
 rcases h with⟨i,rfl,q⟩|⟨k,rfl,q⟩
 ·obtain⟨u,rfl,t,rfl⟩:=vals1 r;exact call_int_int ⟨.int i,H,I,⟨_,rfl⟩,q⟩
 ·obtain⟨u,rfl,r1⟩:=vals1 r;cases r1
  exact call_int_bool ⟨.int (if k then 1 else 0),H,I.tok _,⟨_,rfl⟩,q⟩
end
structure ObjM (h:Heap) (x dx C:Addr) (mA:Str->Option Value):Prop where
 obj:h.get? x=some (PySem.W.instObj C dx)
 ns:h.Ns1 dx mA
 ne:dx≠x
theorem agb{h:Heap}(n:h.Ns1 dx mA):∃od,h.get? dx=some od/\∀name,PySem.W.lookIn name od=some (mA name):=by
 obtain⟨o,es,ep,ho,hd,hk,_,hm⟩:=n;refine⟨o,ho,λname=>?_⟩;have e:=hm name;unfold nsFind findBy at e;rw[<-Array.find?_toList]at e;unfold PySem.W.lookIn;rw[hd];dsimp only
 split
 ·rename_i y q;rw[q]at e;exact aU some e
 ·rename_i q;rw[q]at e;have a:es.toList.any (·.refKey)=false:=by
   rw[List.any_eq_false]
   intro y hy
   obtain⟨z,t,hkey⟩:=hk y (Array.mem_toList_iff.mp hy);simp[DictEntry.refKey,hkey]
  have a':¬ es.toList.any (·.refKey)=true:=by rw[a];exact br
  rw[bE a'];exact aU some e
theorem ObjM.look(I:ObjM h x dx C mA):∃od,PySem.W.InstAt h x (PySem.W.instObj C dx) C (some od)/\∀name,PySem.W.lookIn name od=some (mA name) :=
 let ⟨od,ho,hl⟩:=agb I.ns
 ⟨od,⟨I.obj,rfl,rfl,ho⟩,hl⟩
section
variable{P:Program}{w:World}{H H':Hp}{h h':Heap}{a C dx:Addr}{fs fs':List (Str×V)}
theorem ap6(hok:HOk P w H h)(e:H a=some (.ins C dx fs)):∃mA,ObjM h a dx C mA/\(∀f,RelO (fs.lookup f) (mA f))/\PySem.Within mA (fs.map (·.1))/\fs.length<=1000/\H dx=some (.own a):=by
 obtain⟨d,z,ne,ob,mA,n,r,q⟩:=(show ObjOk P w H h a (.ins C dx fs) from hok a _ e)
 exact⟨mA,⟨ob,n,ne⟩,r,q,z,d⟩
end
structure Cls (K:Fg) (C:Addr):Prop where
 pg:PySem.W.plainGet K C Str.empty=true
 hd:PySem.W.hasDictIn K C=true
 po:PySem.W.plainOver K C=true
 sa:PySem.W.findIn K (.ref C) "__setattr__" = some (some (.builtin "object.__setattr__"))
theorem Cls.get{K:Fg}{C:Addr}(c:Cls K C)(f:Str):PySem.W.plainGet K C f=true:=c.pg
section
variable{X:Cx}{aA:List (Addr×Obj)}{σ:St}{H:Hp}{s:Shared}{A:Around}{E:Value->Shared->Prop}{Q:Value->Shared->Prop}{c:Value}{b:Bool}
inductive TyOf (K:Fg) (H:Hp):V->Value->Prop where
 |non:TyOf K H .non (.type "NoneType")
 |bl (x:Bool):TyOf K H (.bl x) (.type "bool")
 |int (i:Int):TyOf K H (.int i) (.type "int")
 |str (x:Str):TyOf K H (.str x) (.type "str")
 |flt (x:UInt64):TyOf K H (.flt x) (.type "float")
 |lst {a:Addr} {xs:List V} (e:H a=some (.lst xs)):TyOf K H (.ref a) (.type "list")
 |frz {a:Addr} {o:Obj} {xs:List V} (e:H a=some (.frz o (.lst xs))):TyOf K H (.ref a) (.type "list")
 |tup {a:Addr} {xs:List V} (e:H a=some (.tup xs)):TyOf K H (.ref a) (.type "tuple")
 |dK {a:Addr} {kvs:List (Key×V)} (e:H a=some (.dK kvs)):TyOf K H (.ref a) (.type "dict")
 |dT {a:Addr} {kvs:List (List Key×V)} (e:H a=some (.dT kvs)):TyOf K H (.ref a) (.type "dict")
 | ins {a C dx:Addr} {fs:List (Str×V)} (e:H a=some (.ins C dx fs)) (cl:Cls K C) (ha:PySem.W.findIn K (.ref C) "__class__" = some (some (.builtin "object.__class__")))
   (hn:PySem.W.specialIn K (.builtin "object.__class__") "__get__" = some (some (.builtin "getset_descriptor.__get__"))) (htk:PySem.W.takesIn K (.builtin "object.__class__")=some true)
   (hm:PySem.W.mroIn K C (.type "object")=some true):TyOf K H (.ref a) (.ref C)
theorem agc(I:Inv X aA σ H s)(rx:RelV x u)(ty:TyOf X.K H x t)(e:PySem.W.kitOne X.K t c=some b)(h:∀tk,Q (.bool b) {s with toks:=tk}) :
  wpAny (model X.prog X.w) A (call (.builtin "isinstance") [u,c]) Q E s:=by
 cases ty with
 |non=>cases (show u=Value.none from rx);exact bU PySem.W.kitx_none I.kIn True.intro e (λz=>nomatch z) h
 |bl y=>cases (show u=Value.bool y from rx);exact bU PySem.W.kitx_bool I.kIn True.intro e (λz=>nomatch z) h
 |int i=>obtain⟨t,q⟩:=(show ∃t,u=Value.int i t from rx);cases q;exact bU PySem.W.kitx_int I.kIn True.intro e (λz=>nomatch z) h
 |str y=>obtain⟨t,q⟩:=(show ∃t,u=Value.str y t from rx);cases q;exact bU PySem.W.kitx_str I.kIn True.intro e (λz=>nomatch z) h
 |flt y=>obtain⟨t,q⟩:=(show ∃t,u=Value.float y t from rx);cases q;exact bU PySem.W.kitx_float I.kIn True.intro e (λz=>nomatch z) h
 |@lst a xs ea =>
  cases (show u=Value.ref a from rx)
  obtain⟨_,_,n,_,h1⟩:=(show ObjOk X.prog X.w H s.heap a (.lst xs) from I.hok a _ ea)
  exact bU PySem.W.kitx_list I.kIn ⟨_,h1,rfl⟩ e (λz=>nomatch z) h
 |@frz a ob xs ea =>
  cases (show u=Value.ref a from rx)
  obtain⟨_,_,_,n,_,h1⟩:=(show ObjOk X.prog X.w H s.heap a (.frz ob (.lst xs)) from I.hok a _ ea)
  exact bU PySem.W.kitx_list I.kIn ⟨_,h1,rfl⟩ e (λz=>nomatch z) h
 |@tup a xs ea =>
  cases (show u=Value.ref a from rx)
  obtain⟨_,_,_,p⟩:=(show ObjOk X.prog X.w H s.heap a (.tup xs) from I.hok a _ ea)
  obtain⟨o,h1,h2,_⟩:=p;exact bU PySem.W.kitx_tuple I.kIn ⟨o,h1,h2⟩ e (λz=>nomatch z) h
 |@dK a kvs ea =>
  cases (show u=Value.ref a from rx)
  obtain⟨_,_,vs,_,p⟩:=(show ObjOk X.prog X.w H s.heap a (.dK kvs) from I.hok a _ ea)
  obtain⟨o,es,ep,h1,h2,_⟩:=p;exact bU gc I.kIn ⟨o,h1,h2.1⟩ e (λz=>nomatch z) h
 |@dT a kvs ea =>
  cases (show u=Value.ref a from rx)
  obtain⟨_,_,xs,_,o,es,ep,h1,h2,_⟩:=(show ObjOk X.prog X.w H s.heap a (.dT kvs) from I.hok a _ ea)
  exact bU gc I.kIn ⟨o,h1,h2.1⟩ e (λz=>nomatch z) h
 |@ins a C dx fs ea cl ha hn htk hm =>
  cases (show u=Value.ref a from rx)
  obtain⟨mA,O,_⟩:=ap6 I.hok ea;obtain⟨od,J,_⟩:=O.look;exact bU (PySem.W.kitx_own (cl.get _) cl.hd ha hn htk hm) I.kIn J e (λz=>nomatch z) h
end
structure Room (k:Nat) (A:Around):Prop where
 hd:A.handled=none
 dp:A.depth+3*k+5<recursionLimit
 un:A.units+16*k+200<cLine
 gd:A.guards=some []
theorem Room.mono(r:Room k A)(h:j<=k):Room j A:=⟨r.hd,by have:=r.dp;omega,by have:=r.un;omega,r.gd⟩
theorem Room.deeper(r:Room (k+1) A)(env:Env):Room k (A.deeper env) :=
 ⟨r.hd,by have:=r.dp;show A.depth+1+3*k+5<_;omega,by have:=r.un;show A.units+3+16*k+200<_;omega,r.gd⟩
theorem Room.depth(r:Room k A):A.depth<recursionLimit:=by have:=r.dp;omega
theorem Room.units(r:Room k A):A.units+64<cLine:=by have:=r.un;omega
def azf:TA:=λ_ H Q=>Q [] H
def ay7(ta:TE)(tr:TA):TA:=λσ H Q=>ta σ H λx H1=>tr σ H1 λxs H2=>Q (x::xs) H2
section
variable{X:Cx}{e:Expr}{es:List Expr}{te:TE}{t:TA}{pos:Pos}
theorem a7n:PA X [] azf:=λ_ _ _ _ H Q I h=>Calls.spliced_nil ⟨[],H,I,.nil,h⟩
theorem vp(ha:PE X e te)(hr:PA X es t)(hs:starEach (e::es) X.env=(false,eval e X.env)::starEach es X.env:=by rfl):PA X (e::es) (ay7 te t):=by
 intro pos aA s σ H Q I h
 rw[hs];show wpAny _ _ (spliced ((false,eval e X.env)::backTo pos (starEach es X.env))) _ _ s;refine Calls.spliced_cons (thn (ha aA s σ H _ I h) λu s1 ⟨x,H1,I1,r1,q1⟩=>?_);exact thn (hr pos aA s1 σ H1 _ I1 q1) λus s2 ⟨xs,H2,I2,r2,q2⟩=>⟨x::xs,H2,I2,.cons r1 r2,q2⟩
def b0r(t:TA):TE:=λσ H Q=>t σ H λxs H1=>xs.length<=sizeLine/\∀p,H1 p=none->Q (.ref p) (upd H1 p (.tup xs))
def b0s(t:TA):TE:=λσ H Q=>t σ H λxs H1=>xs.length<=sizeLine/\∀p,H1 p=none->Q (.ref p) (upd H1 p (.lst xs))
theorem an7{x1}(h:PA X es t):PE X (.Tuple es x1 pos) (b0r t):=by
 intro aA s σ H Q I hq
 refine wpAny_Tuple_spliced (thn (h pos aA s σ H _ I hq) λus s1 ⟨xs,H1,I1,r,z,q⟩=>⟨by rw[<-r.length];exact z,?_⟩)
 have hf:H1 s1.heap.objs.size=none:=I1.hok.fresh (aI _);refine⟨.ref s1.heap.objs.size,upd H1 s1.heap.objs.size (.tup xs),I1.laid (t':=s1.toks) (λb u e=>ag _ e) (aI _) ?_,rfl,q _ hf⟩;exact⟨z,us,r,⟨_,aW _ rfl,rfl,_,rfl⟩⟩
theorem ath(h:PA X es t):PE X (.List es pos) (b0s t):=by
 intro aA s σ H Q I hq
 refine wpAny_List_spliced (thn (h pos aA s σ H _ I hq) λus s1 ⟨xs,H1,I1,r,z,q⟩=>⟨by rw[<-r.length];exact z,?_⟩)
 have hf:H1 s1.heap.objs.size=none:=I1.hok.fresh (aI _);refine⟨.ref s1.heap.objs.size,upd H1 s1.heap.objs.size (.lst xs),I1.laid (t':=s1.toks) (λb u e=>ag _ e) (aI _) ?_,rfl,q _ hf⟩;exact⟨z,us,0,r,aW _ rfl⟩
end
abbrev Sp:=List V->Hp->VK->XK->Prop
abbrev CXT:=List Env->Hp->Shared->XK->Value->Shared->Prop
structure Env0 (P:Program) (w:World) (K:Fg) (mg:Str->Option Value) (base:Heap) (A:Around) (outer:List Env) (s:Shared) (H:Hp):Prop where
 frames:A.frames=some outer
 mod:Mod K mg base
 bs:∀b o,base.get? b=some o->s.heap.get? b=some o/\H b=none
 bsz:base.objs.size<=s.heap.objs.size
 funs:s.heap.FunFrames base outer
 frf:∀b∈frs outer,H b=none
 hok:HOk P w H s.heap
 bare:AllBare s.gens
def CE(outer:List Env)(P:Program)(w:World)(H:Hp)(s:Shared)(Q:VK)(u:Value)(s':Shared):Prop :=
 ∃v H',s'.os=s.os/\AllBare s'.gens/\Un (frs outer) [] H H' s.heap s'.heap/\HOk P w H' s'.heap/\RelV v u/\Q v H'
def CR(CX:CXT)(outer:List Env)(P:Program)(w:World)(H:Hp)(s:Shared)(Q:VK)(E:XK)(r:Result)(s':Shared):Prop :=
 match r with
 |.ok (.ret u)=>CE outer P w H s Q u s'
 |.ok _=>False
 |.error e=>CX outer H s E e s'
structure FnOk (P:Program) (w:World) (K:Fg) (mg:Str->Option Value) (base:Heap) (CX:CXT) (k:Nat) (f:Addr) (fd:FuncData) (ps:List Str) (sp:Sp):Prop where
 len:∀vs H Q E,sp vs H Q E->vs.length=ps.length
 run:∀(A:Around) (outer:List Env) (s:Shared) (H:Hp) (args:Args) (us:List Value) (vs:List V) (Q:VK) (E:XK),Room k A->Env0 P w K mg base A outer s H->BindsTo s fd args (ps.zip us)->Vals vs us->sp vs H Q E->
  codeAny (model P w) A (.call (.ref f) args) (CR CX outer P w H s Q E) s
theorem FnOk.imp{P:Program}{w:World}{K:Fg}{mg:Str->Option Value}{base:Heap}{CX:CXT}{k:Nat}{f:Addr}{fd:FuncData}{ps:List Str}{sp sp':Sp}(F:FnOk P w K mg base CX k f fd ps sp)
  (h:∀vs H Q E,sp' vs H Q E->sp vs H Q E):FnOk P w K mg base CX k f fd ps sp' :=
 ⟨λvs H Q E q=>F.len vs H Q E (h _ _ _ _ q),λA outer s H args us vs Q E hr he hb hv hs=>F.run A outer s H args us vs Q E hr he hb hv (h _ _ _ _ hs)⟩
section
variable{X:Cx}{aA:List (Addr×Obj)}{σ:St}{H:Hp}{s s':Shared}
theorem Inv.env0(I:Inv X aA σ H s):Env0 X.prog X.w X.K X.mg X.base X.A X.stack s H :=
 ⟨I.ok.frames,I.ok.mod,I.bs,bX I.ok.bsz I.sz,I.stack,I.stkFree,I.hok,I.bare⟩
theorem Inv.after(I:Inv X aA σ H s)(h:CE X.stack X.prog X.w H s Q u s'):EP X aA σ Q u s':=by
 obtain⟨v,H',os,bare,un,hok,r,q⟩:=h;obtain⟨hh,g,d,t,os'⟩:=s';obtain rfl:os'=s.os:=os;exact⟨v,H',I.call (h':=hh) (g':=g) (d':=d) (t':=t) (ch:=[]) un hok bare (λb z=>absurd z (by simp)),r,q⟩
end
def ati(sp:Sp)(dvs:List V)(E:XK)(t:TA):TE:=λσ H Q=>t σ H λvs H1=>sp (vs++dvs) H1 Q E
def Binds(K:Fg)(fd:FuncData)(ps:List Str)(ds:List Value):Prop :=
 ∀(s:Shared) (us:List Value),K.In s.heap->(us++ds).length=ps.length->BindsTo s fd ⟨us,[]⟩ (ps.zip (us++ds))
theorem Binds.all{K:Fg}{fd:FuncData}{ps:List Str}(h:∀us:List Value,us.length=ps.length->bindArgs fd ⟨us,[]⟩=pure (ps.zip us)):Binds K fd ps []:=λs us _ hl=>by
 rw[bJ]at hl ⊢;exact .of_eq (h us hl)
def a7o(CX:CXT)(X:Cx)(E:XK):Prop:=∀(aA:List (Addr×Obj)) (σ:St) (H:Hp) (s:Shared) (e:Value) (s':Shared),Inv X aA σ H s->CX X.stack H s E e s'->X.xe e s'
section
variable{X:Cx}{CX:CXT}{k:Nat}{f C:Addr}{fd:FuncData}{ps:List Str}{sp:Sp}{dvs:List V}{ds:List Value}{E:XK}{x m:Str}{p pos apos:Pos}{e o:Expr}{es:List Expr}{ta:TE}{t:TA}
theorem an8(F:FnOk X.prog X.w X.K X.mg X.base CX k f fd ps sp)(hr:Room k X.A)(hb:Binds X.K fd ps ds)(hd:Vals dvs ds)(hx:a7o CX X E)
  (I:Inv X aA σ H s) (r:Vals vs us) (h:sp (vs++dvs) H Q E):wpAny (model X.prog X.w) X.A (call (.ref f) us) (EP X aA σ Q) X.xe s:=by
 have r2:Vals (vs++dvs) (us++ds):=r.append hd;have hl:(us++ds).length=ps.length:=by rw[<-r2.length];exact F.len _ _ _ _ h
 refine wpAny_call (gL (F.run X.A X.stack s H ⟨us,[]⟩ (us++ds) (vs++dvs) Q E hr I.env0 (hb s us I.kIn hl) r2 h) λr s' hq=>?_)
 cases r with
 |error e=>exact hx aA σ H s e s' I hq
 |ok fl =>
  cases fl with
  |ret u=>exact I.after hq
  |next=>exact False.elim hq
  |brk=>exact False.elim hq
  |cont=>exact False.elim hq
theorem a6k(F:FnOk X.prog X.w X.K X.mg X.base CX k f fd ps sp)(hr:Room k X.A)(hg:Gl X x)(hm:X.mg x=some (.ref f))(hk:PySem.W.keepIn X.K (.ref f)=true)(hb:Binds X.K fd ps ds)(hd:Vals dvs ds)(hx:a7o CX X E)
  (ha:PA X (e::es) t) (hdb:(x == ("__debug__" : Str))=false:=by decide) (he:starEach (e::es) X.env=(false,eval e X.env)::starEach es X.env:=by rfl) (hpl:(backTo pos (starEach es X.env)).any (·.1)=false:=by rfl) :
  PE X (.Call (.Name x p) (e::es) [] pos) (ati sp dvs E t):=by
 intro aA s σ H Q I h
 refine cQ (a4s I hg hm ?_ hdb);refine PySem.W.callWith_K (h₀:=X.base) I.ok.mod.kin hk (thn (ha pos aA s σ H _ I h) λus s1 ⟨vs,H1,I1,r,q⟩=>⟨I1.kIn,?_⟩) he hpl;exact an8 F hr hb hd hx I1 r q
theorem akc(F:FnOk X.prog X.w X.K X.mg X.base CX k f fd ps sp)(hr:Room k X.A)(hg:Gl X x)(hm:X.mg x=some (.ref f))(hk:PySem.W.keepIn X.K (.ref f)=true)(hb:Binds X.K fd ps ds)(hd:Vals dvs ds)(hx:a7o CX X E)
  (hdb:(x == ("__debug__" : Str))=false:=by decide):PE X (.Call (.Name x p) [] [] pos) (ati sp dvs E azf):=by
 intro aA s σ H Q I h
 refine cQ (a4s I hg hm ?_ hdb);exact PySem.W.callWith_K0 I.kIn hk (an8 (us:=[]) F hr hb hd hx I .nil h)
end
structure FnScope (N P:List Str) (sc:Scope):Prop where
 kind:sc.kind=.function
 co:sc.isCoroutine=false
 gen:sc.isGenerator=false
 nd:N.Nodup
 pre:N.take P.length=P
 par:∀x∈P,sc.names.lookup x=some .local\/sc.names.lookup x=some .cell
 nofree:∀y∈sc.names,y.2≠.free
theorem aa5{kindOf:Str->Option NameKind}{x:Str}:∀{binds:List (Str×Value)} {m:Str->Option Value},(∀v,(x,v)∉binds)->bindL kindOf binds m x=m x
 |[],_,_=>rfl
 |(n,v)::r,m,h=>by
  unfold bindL;rw[aa5 λw hw=>h w (aK _ hw)]
  split
  ·have:x≠n:=by rintro rfl;exact h v aQ
   simp[this]
  ·rfl
theorem aa6{kindOf:Str->Option NameKind}{x:Str}:∀{binds:List (Str×Value)} {m:Str->Option Value},(∀v,(x,v)∉binds)->bindC kindOf binds m x=m x
 |[],_,_=>rfl
 |(n,v)::r,m,h=>by
  unfold bindC;rw[aa6 λw hw=>h w (aK _ hw)]
  split
  ·rfl
  ·have:x≠n:=by rintro rfl;exact h v aQ
   simp[this]
theorem aa7{kindOf:Str->Option NameKind}{x:Str}{v:Value}:∀{P:List Str} {vs:List Value} {i:Nat} {m:Str->Option Value},P.Nodup->P[i]? = some x->vs[i]? = some v->kindOf x=some .local->
  bindL kindOf (P.zip vs) m x=some v
 |[],_,_,_,_,h,_,_=>by simp at h
 |_::_,[],_,_,_,_,h,_=>by simp at h
 |p::P,w::vs,0,m,nd,h1,h2,hk=>by
  simp at h1 h2;subst h1;subst h2
  show bindL kindOf ((p,w)::P.zip vs) m p=_;unfold bindL;rw[aa5 λv hv=>(dG.mp nd).1 (eO hv).1,aO hk];simp
 |p::P,w::vs,i+1,m,nd,h1,h2,hk=>by
  show bindL kindOf ((p,w)::P.zip vs) m x=_;unfold bindL;exact aa7 (i:=i) (dG.mp nd).2 (by simpa using h1) (by simpa using h2) hk
theorem aa8{kindOf:Str->Option NameKind}{x:Str}{v:Value}:∀{P:List Str} {vs:List Value} {i:Nat} {m:Str->Option Value},P.Nodup->P[i]? = some x->vs[i]? = some v->kindOf x≠some .local->
  bindC kindOf (P.zip vs) m x=some v
 |[],_,_,_,_,h,_,_=>by simp at h
 |_::_,[],_,_,_,_,h,_=>by simp at h
 |p::P,w::vs,0,m,nd,h1,h2,hk=>by
  simp at h1 h2;subst h1;subst h2
  show bindC kindOf ((p,w)::P.zip vs) m p=_;unfold bindC;rw[aa6 λv hv=>(dG.mp nd).1 (eO hv).1,bE hk];simp
 |p::P,w::vs,i+1,m,nd,h1,h2,hk=>by
  show bindC kindOf ((p,w)::P.zip vs) m x=_;unfold bindC;exact aa8 (i:=i) (dG.mp nd).2 (by simpa using h1) (by simpa using h2) hk
def start(N:List Str)(vs:List V):St:=vs.map some++List.replicate (N.length-vs.length) none
def afv(CX:CXT)(P:Program)(w:World)(K:Fg)(mg:Str->Option Value)(base:Heap)(N:List Str)(qual:Str)(aB:Scope)(f:Addr)(cd:Value)(A:Around)(outer:List Env)(s:Shared)(H:Hp)(E:XK):Cx where
 prog:=P
 w:=w
 K:=K
 mg:=mg
 base:=base
 A:=A.deeper (envOfC qual aB s.heap.objs.size f cd)
 N:=N
 s₀:=s
 H₀:=H
 env:=envOfC qual aB s.heap.objs.size f cd
 outer:=outer
 stack:=envOfC qual aB s.heap.objs.size f cd::outer
 ex:=[]
 calm:=true
 fn:=λ_=>true
 pn:=[]
 xe:=λe s'=>wpAny (model P w) (A.deeper (envOfC qual aB s.heap.objs.size f cd)) (leaving (envOfC qual aB s.heap.objs.size f cd) e) (λ_ s''=>CX outer H s E e s'') (λe' s''=>CX outer H s E e' s'') s'
theorem ad5{sc:Scope}(h:sc.names.lookup x=some .cell):∃c,(cellsFrom n sc.names []).lookup x=some c:=by
 have q:=PySem.W.cellsFrom_some sc.names n [] (.inl h);exact gi.mp q
theorem agd{CX:CXT}{P:Program}{w:World}{K:Fg}{mg:Str->Option Value}{base:Heap}{N ps:List Str}{qual:Str}{aB:Scope}{f:Addr}{cd:Value}{A:Around}{outer:List Env}{s s1:Shared}{H:Hp}{E:XK}{us:List Value}{vs:List V}
  (S:FnScope N ps aB) (hd:A.handled=none) (e0:Env0 P w K mg base A outer s H) (hl:vs.length=ps.length) (r:Vals vs us)
  (x:InCallC s s.heap.objs.size (bindL (envOfC qual aB s.heap.objs.size f cd).kindOf (ps.zip us) λ_=>none) (cellsFrom (s.heap.objs.size+1) aB.names []) (bindC (envOfC qual aB s.heap.objs.size f cd).kindOf (ps.zip us) λ_=>none) s1) :
  Inv (afv CX P w K mg base N qual aB f cd A outer s H E) [] (start N vs) H s1:=by
 have hpl:ps.length<=N.length:=by have:=aU List.length S.pre;rw[aT]at this;omega
 obtain⟨h1,tk,rfl,hk⟩:=x.done;have noA:∀b:Addr,b∉(afv CX P w K mg base N qual aB f cd A outer s H E).ex:=λb z=>absurd (show b∈([]:List Addr) from z) (by simp)
 refine⟨⟨e0.mod,S.kind,rfl,rfl,aI _,λy z c h1 h2=>?_,λy hy=>?_,λy c _ h=>?_,λ_=>hd,Around.frames_deeper e0.frames,.inr ⟨rfl,rfl⟩,λb z=>absurd z (noA b),e0.bs,e0.bsz,λb _ _=>noA b,λb z=>absurd z (noA b),e0.funs,e0.frf⟩,
  rfl,e0.bare,Un.kept hk,⟨_,x.toInCall.ns,λi y v h1 h2 h3=>?_⟩,λy c h=>⟨_,x.cell y c h⟩,e0.hok.fresh (aI _),λy c h=>?_,λp hp=>absurd (show p∈([]:List (Addr×Obj)) from hp) (by simp),e0.hok.kept hk,?_⟩
 ·exact name_of_addr x.apart (cq h1) (cq h2)
 ·have hy:aB.names.lookup y=some .cell\/aB.names.lookup y=some .free:=hy
  rcases hy with hy|hy
  ·exact ad5 hy
  ·exact absurd rfl (S.nofree _ (cq hy))
 ·exact Nat.le_of_lt (x.above y c (cq h))
 ·have hi:i<vs.length:=by
   unfold start at h2
   by_cases hi:i<vs.length
   ·exact hi
   ·rw[aL (by simpa using hi)]at h2
    rw[dQ]at h2
    split at h2<;>cases h2
  have ha:vs[i]? = some v:=by
   unfold start at h2;rw[aJ (by simpa using hi),aM]at h2
   cases e:vs[i]? with
   |none=>rw[e]at h2;cases h2
   |some a=>rw[e]at h2;cases h2;rfl
  obtain⟨u,hu,rv⟩:=r.get ha;have hp:ps[i]? = some y:=by
   rw[<-S.pre,gp (by omega)];exact h1
  have ndP:ps.Nodup:=by rw[<-S.pre];exact S.nd.sublist (List.take_sublist _ _)
  refine⟨u,rv,?_⟩
  rcases S.par y (aN hp) with k|k
  ·exact .inl ⟨k,aa7 ndP hp hu k⟩
  ·obtain⟨c,e⟩:=ad5 (n:=s.heap.objs.size+1) k;refine .inr ⟨.inl k,c,e,?_⟩;have q:=x.cell y c e;rw[aa8 ndP hp hu (by show aB.names.lookup y≠_;rw[k];decide)]at q
   exact q
 ·exact e0.hok.fresh (Nat.le_of_lt (x.above y c (cq h)))
 ·unfold start;show _=N.length;rw[ah,ai,e8];omega
theorem atj{CX:CXT}{P:Program}{w:World}{K:Fg}{mg:Str->Option Value}{base:Heap}{k:Nat}{f:Addr}{name qual:Str}{params:Arguments}{body:List Stmt}{aB:Scope}{dV kV doc pm cdv ct oc:Value}{an od:Option Addr}
  {osl:Array (Option Value)} {N ps:List Str} {sp:Sp} (lk:K.lookup f=some ⟨oc,od,.func (PySem.W.fnOf name qual params body aB dV kV doc pm an cdv ct),osl⟩) (hcd:PySem.W.codeIn K cdv qual=true) (S:FnScope N ps aB)
  (len:∀vs H Q E,sp vs H Q E->vs.length=ps.length)
  (hbody:∀(A:Around) (outer:List Env) (s:Shared) (H:Hp) (vs:List V) (Q:VK) (E:XK),Room k (A.deeper (envOfC qual aB s.heap.objs.size f cdv))->sp vs H Q E->
   ∃t,PSs (afv CX P w K mg base N qual aB f cdv A outer s H E) body t/\t {nx:=λ_ H'=>Q .non H',rt:=Q} (start N vs) H) :
  FnOk P w K mg base CX (k+1) f (PySem.W.fnOf name qual params body aB dV kV doc pm an cdv ct) ps sp:=by
 refine⟨len,λA outer s H args us vs Q E hr e0 hb r hsp=>?_⟩;have hl:=len _ _ _ _ hsp;have KX:K.In s.heap:=e0.mod.kin.keeps λb o e=>(e0.bs b o e).1;have lim:s.heap.NoLimit:=e0.mod.nolimit.keeps λb o e=>(e0.bs b o e).1;have hkind:∀y∈ps.zip us,aB.names.lookup y.1=some .local\/(aB.names.lookup y.1=some .cell/\((cellsFrom (s.heap.objs.size+1) aB.names []).lookup y.1).isSome=true):=λ⟨n,v⟩ hy=>by
  rcases S.par n (eO hy).1 with q|q
  ·exact .inl q
  ·exact .inr ⟨q,PySem.W.cellsFrom_some _ _ _ (.inl q)⟩
 refine codeAny_call_function hr.depth (KX _ _ lk) rfl S.co S.gen rfl (PySem.W.codeRec_of KX hcd) (hb _ _ _ _ ?_);refine wpAny_newFunctionEnv_cells S.kind hkind λenv he s1 x=>?_;subst he;refine⟨lim.keeps x.toInCall.keep,codeAny_func ?_⟩;obtain⟨t,ht,hq⟩:=hbody A outer s H vs Q E (hr.deeper _) hsp;have I:Inv (afv CX P w K mg base N qual aB f cdv A outer s H E) [] (start N vs) H s1:=agd S hr.hd e0 hl r x;refine cH (ht [] s1 (start N vs) H _ I hq) (λfl s' hs=>?_) λe s' hs=>hs;have fin:∀{σ':St} {H':Hp} {v:V} {u:Value},Inv (afv CX P w K mg base N qual aB f cdv A outer s H E) [] σ' H' s'->RelV v u->Q v H'->CE outer P w H s Q u s' :=
  λ{σ' H' v u} J rv q=>⟨v,H',J.os,J.bare,J.base,J.hok,rv,q⟩
 cases fl with
 |ret u =>
  obtain⟨v,σ',H',J,rv,q⟩:=hs;exact fin J rv q
 |next =>
  obtain⟨σ',H',J,q⟩:=hs;exact fin (v:=V.non) (u:=Value.none) J rfl q
 |brk =>
  obtain⟨_,_,_,q⟩:=hs;exact False.elim q
 |cont =>
  obtain⟨_,_,_,q⟩:=hs;exact False.elim q
section
variable{X:Cx}{x:Str}{p pos:Pos}{e:Expr}{es:List Expr}{t:TA}{id T:String}{r:List V->Hp->VK->Prop}
def tCB(r:List V->Hp->VK->Prop)(t:TA):TE:=λσ H Q=>t σ H λvs H1=>r vs H1 Q
theorem a8k(hc:CallR X (.builtin id) r)(hg:Gl X x)(hm:X.mg x=none)(hv:bootBuiltins x=some (.builtin id))(ha:PA X (e::es) t)(hn:x ≠ "__name__":=by decide)(hdb:(x == ("__debug__" : Str))=false:=by decide)
  (he:starEach (e::es) X.env=(false,eval e X.env)::starEach es X.env:=by rfl) (hpl:(backTo pos (starEach es X.env)).any (·.1)=false:=by rfl):PE X (.Call (.Name x p) (e::es) [] pos) (tCB r t):=by
 intro aA s σ H Q I h
 refine cQ (a6i I hg hm hv ?_ hn hdb);exact PyProof.Rows.callWith_builtin1 (thn (ha pos aA s σ H _ I h) λus s1 ⟨vs,H1,I1,r1,q1⟩=>hc aA s1 σ H1 vs us Q I1 r1 q1) he hpl
theorem age(hc:CallR X (.type T) r)(hg:Gl X x)(hm:X.mg x=none)(hv:bootBuiltins x=some (.type T))(ha:PA X (e::es) t)(hn:x ≠ "__name__":=by decide)(hdb:(x == ("__debug__" : Str))=false:=by decide)
  (he:starEach (e::es) X.env=(false,eval e X.env)::starEach es X.env:=by rfl) (hpl:(backTo pos (starEach es X.env)).any (·.1)=false:=by rfl):PE X (.Call (.Name x p) (e::es) [] pos) (tCB r t):=by
 intro aA s σ H Q I h
 refine cQ (a6i I hg hm hv ?_ hn hdb);exact cJ (thn (ha pos aA s σ H _ I h) λus s1 ⟨vs,H1,I1,r1,q1⟩=>hc aA s1 σ H1 vs us Q I1 r1 q1) he hpl
end
end L2
namespace HT
open PyProof.Rows
section
variable{prog:Program}{w:World}{A:Around}{E:Value->Shared->Prop}{s:Shared}
theorem ap7{vs ws:List Value}(ht:IsTup s.heap t vs.toArray)(hb:IsTup s.heap b ws.toArray)(hv:vs≠[])
  (h1:ws=[]->Q (.ref t) s) (h2:ws≠[]->Q (.ref s.heap.objs.size) {s with heap:=s.heap.push {cls:=.type "tuple",data:=.seq (vs++ws).toArray} })
  (hsz:vs.length+ws.length<=sizeLine):wpAny (model prog w) A (binaryOp .Add (.ref t) (.ref b)) Q E s:=by
 obtain⟨⟨cls,dd,data,sl⟩,ho,hc,n,hd⟩:=id ht;obtain⟨⟨cls2,dd2,data2,sl2⟩,ho2,hc2,n2,hd2⟩:=id hb;simp only at hc hd hc2 hd2;subst hc hd hc2 hd2;have e:vs.toArray++ws.toArray=(vs++ws).toArray:=by simp
 by_cases hw:ws=[]
 ·exact concat_meets ⟨_,ho,rfl⟩ ⟨_,ho2,rfl⟩ gJ seq_tuple_add PySem.F.slot_tuple_add gD (gs _ _)
   (tuple_addW1 t b vs.toArray ws.toArray n n2 dd dd2 sl sl2 (by simpa using hv) (by simp[hw])) ⟨ho,ho2,h1 hw⟩
 ·refine concat_meets ⟨_,ho,rfl⟩ ⟨_,ho2,rfl⟩ gJ seq_tuple_add PySem.F.slot_tuple_add gD (gs _ _)
   (tuple_addW2 t b vs.toArray ws.toArray n n2 dd dd2 sl sl2 (by simpa using hv) (by simpa using hw) (by rw[ax,ax];exact hsz)) ⟨ho,ho2,?_⟩
  rw[e];exact h2 hw
def sIx(n d:Nat):Option Int->Nat
 |none=>d
 |some v=>if v<0 then (v+(n:Int)).toNat else min v.toNat n
theorem ad6(n d:Nat):sIx n d none=d:=rfl
theorem a8l(n d k:Nat):sIx n d (some (k:Int))=min k n:=by
 show(if (k:Int)<0 then ((k:Int)+(n:Int)).toNat else min (k:Int).toNat n)=min k n
 rw[bE (by omega),dH]
theorem agf(n d:Nat)(hd:d<=n)(o:Option Int):sIx n d o<=n:=by
 cases o with
 |none=>exact hd
 |some v =>
  show(if v<0 then (v+(n:Int)).toNat else min v.toNat n)<=n
  by_cases hv:v<0
  ·rw[aO hv];omega
  ·rw[bE hv];exact Nat.min_le_right _ _
theorem agg(v:Int)(n d:Nat):(if v<0 then max (v+(n:Int)) 0 else min v (n:Int))=((sIx n d (some v):Nat):Int):=by
 show(if v<0 then max (v+(n:Int)) 0 else min v (n:Int))=(((if v<0 then (v+(n:Int)).toNat else min v.toNat n):Nat):Int)
 by_cases hv:v<0
 ·simp only[aO hv];omega
 ·simp only[bE hv];omega
theorem aey(lo hi:Option Int)(n:Nat):Builtin.Slice.sliceAdjust lo hi 1 (n:Int)=(((sIx n 0 lo:Nat):Int),((sIx n n hi:Nat):Int)):=by
 have h1:¬ ((1:Int)<0):=by omega
 unfold Builtin.Slice.sliceAdjust;simp only[h1,fW];refine Prod.ext ?_ ?_
 ·cases lo with
  |none=>rfl
  |some v=>exact agg v n 0
 ·cases hi with
  |none=>rfl
  |some v=>exact agg v n n
theorem aez(i j:Nat):Builtin.Slice.slicePlaces (i:Int) (j:Int) 1=j-i:=by
 unfold Builtin.Slice.slicePlaces;have h1:(1:Int) > 0:=by omega
 simp only[h1,dR,gM]
 split<;>omega
theorem a0r(p:IsPart v o)(h:Q o s):wpAny (model prog w) A (Builtin.Slice.slicePartIndex v) Q E s:=by
 cases p with
 |none=>exact slicePart_none h
 |int i t=>exact slicePart_int h
theorem a1m{sl:Addr}{vl vu:Value}{lo hi:Option Int}{n:Nat}{Q:Int×Int×Nat->Shared->Prop}(hs:s.heap.IsSliceOf sl vl vu .none)(pl:IsPart vl lo)(pu:IsPart vu hi)
  (h:Q (((sIx n 0 lo:Nat):Int),1,sIx n n hi-sIx n 0 lo) s):wpAny (model prog w) A (Builtin.Slice.sliceApplied (.ref sl) (pure (n:Int))) Q E s:=by
 obtain⟨os,hos,hcs,hds⟩:=id hs;unfold Builtin.Slice.sliceApplied Builtin.Slice.sliceFields;refine ar (ar (cL hos hds (x:=vl) rfl (ar (cL hos hds (x:=vu) rfl (ar (cL hos hds (x:=.none) rfl (aS ?_)))))));refine ar (slicePart_none ?_);show wpAny _ _ (if ((1:Int) == 0)=true then _ else _) _ _ s
 rw[bE (by decide)]
 refine ar (a0r pl (ar (a0r pu (ar (aS ?_)))));show wpAny _ _ (match Builtin.Slice.sliceAdjust lo hi 1 (n:Int) with|(lo,hi)=>pure (lo,(1:Int),Builtin.Slice.slicePlaces lo hi 1)) _ _ s
 rw[aey lo hi n];show wpAny _ _ (pure (((sIx n 0 lo:Nat):Int),(1:Int),Builtin.Slice.slicePlaces ((sIx n 0 lo:Nat):Int) ((sIx n n hi:Nat):Int) 1)) _ _ s;rw[aez];exact aS h
theorem akd(xs:Array Value)(i k:Nat):((List.range k).filterMap λ(m:Nat)=>xs[((i:Int)+(m:Int)*1).toNat]?).toArray=((xs.toList.drop i).take k).toArray:=by
 have e:(λ(m:Nat)=>xs[((i:Int)+(m:Int)*1).toNat]?)=λm=>xs[i+m]?:=by
  funext m
  have:((i:Int)+(m:Int)*1).toNat=i+m:=by omega
  rw[this]
 rw[e];have:=pick_run xs i k;rw[List.filterMap_map]at this;have e2:((λx=>xs[x]?) ∘ λx=>i+x)=λm=>xs[i+m]?:=rfl;rw[e2]at this;rw[this]
theorem a4u{t sl:Addr}{aC:Array Value}{vl vu:Value}{lo hi:Option Int}{Q:Value->Shared->Prop}(ht:IsTup s.heap t aC)(hs:s.heap.IsSliceOf sl vl vu .none)(pl:IsPart vl lo)(pu:IsPart vu hi)
  (hw:¬ (sIx aC.size 0 lo=0/\sIx aC.size aC.size hi=aC.size))
  (h:Q (.ref s.heap.objs.size) {s with heap:=s.heap.push {cls:=.type "tuple",data:=.seq ((aC.toList.drop (sIx aC.size 0 lo)).take (sIx aC.size aC.size hi-sIx aC.size 0 lo)).toArray} })
  (hsz:aC.size<=sizeLine):wpAny (model prog w) A (getItem (.ref t) (.ref sl)) Q E s:=by
 have htake:sizeOk (.seq ((aC.toList.drop (sIx aC.size 0 lo)).take (sIx aC.size aC.size hi-sIx aC.size 0 lo)).toArray):=by
  show((aC.toList.drop (sIx aC.size 0 lo)).take (sIx aC.size aC.size hi-sIx aC.size 0 lo)).toArray.size<=sizeLine;rw[ax,aT,bb,cU];omega
 have hj:sIx aC.size aC.size hi<=aC.size:=agf _ _ (aI _) hi;obtain⟨os,hos,hcs,hds⟩:=id hs;have hTs:s.TypeIs (.ref sl) "slice":=⟨os,hos,hcs⟩;unfold getItem
 try with_reducible refine dP ?_
 first|refine ar (aS ?_)|skip
 refine ar (gu ht.typeIs (by decide) ?_)
 refine ar (cA (name:=Str.ofString "__getitem__") ht.typeIs bF
  (da bF ht.typeIs entry_tuple_getitem ?_ (args_tuple_getitem _ _)))
 show wpAny _ _ (Builtin.Tuple.tupleItemsOf (.ref t)>>=_) _ _ s;refine ar (tupleItemsOf_ ht ?_);refine ar (gN hTs ?_);rw[aO (by decide)]
 refine ar (a1m hs pl pu ?_);have hno:¬ ((((sIx aC.size 0 lo:Nat):Int) == 0 && (1:Int) == 1 && (sIx aC.size aC.size hi-sIx aC.size 0 lo) == aC.size)=true):=by
  intro q
  rw[bV,bV]at q;have q1:((sIx aC.size 0 lo:Nat):Int)=0:=eq_of_beq q.1.1;have q2:sIx aC.size aC.size hi-sIx aC.size 0 lo=aC.size:=eq_of_beq q.2;exact hw ⟨by omega,by omega⟩
 show wpAny _ _ (if (((sIx aC.size 0 lo:Nat):Int) == 0 && (1:Int) == 1 && (sIx aC.size aC.size hi-sIx aC.size 0 lo) == aC.size)=true then _ else _) _ _ s
 rw[bE hno,akd]
 first
  |exact ar (m:=Builtin.Tuple.tupleExact _) (cI (aS ⟨_,rfl,aS h⟩) htake)
  |exact ar (m:=Builtin.Tuple.tupleExact _) (cI (ar (aS (aS ⟨_,rfl,aS h⟩))) htake)
  |exact ar (ar (m:=Builtin.Tuple.tupleExact _) (cI (aS (aS ⟨_,rfl,aS h⟩)) htake))
  |exact ar (ar (m:=Builtin.Tuple.tupleExact _) (cI (aS ⟨_,rfl,aS h⟩) htake))
end
end HT
namespace L2
open PyProof.Rows
abbrev TO:=St->Hp->(Option Int->Hp->Prop)->Prop
def PO(X:Cx)(e:Option Expr)(t:TO):Prop :=
 ∀(aA:List (Addr×Obj)) (s:Shared) (σ:St) (H:Hp) (Q:Option Int->Hp->Prop),Inv X aA σ H s->t σ H Q->
  wpAny (model X.prog X.w) X.A (evalPart e X.env) (λu s'=>∃o H',Inv X aA σ H' s'/\IsPart u o/\Q o H') X.xe s
def ap8:TO:=λ_ H Q=>Q none H
def ay8(t:TE):TO:=λσ H Q=>t σ H λx H1=>∃i,x=.int i/\Q (some i) H1
theorem intsAre_of{ns:List Int}:∀{us:List Value},Vals (ns.map V.int) us->IntsAre us ns:=by
 induction ns with
 |nil=>intro us r;rw[e9]at r;cases r;exact .nil
 |cons n ns ih =>
  intro us r
  rw[bI]at r
  cases r with
  |cons r1 r2 =>
   obtain⟨t,e⟩:=r1;subst e;exact .cons n t (ih r2)
section
variable{X:Cx}{e:Expr}{te:TE}{lo hi:Option Expr}{tl th:TO}{pos p2:Pos}
theorem ap9:PO X none ap8:=by
 intro aA s σ H Q I h
 rw[fI];exact aS ⟨none,H,I,.none,h⟩
theorem apa(h:PE X e te):PO X (some e) (ay8 te):=by
 intro aA s σ H Q I hw
 rw[gE];refine thn (h aA s σ H _ I hw) ?_
 rintro u s1 ⟨x,H1,I1,r1,q1⟩
 obtain⟨i,rfl,q⟩:=q1;obtain⟨t,rfl⟩:=r1;exact⟨some i,H1,I1,.int i t,q⟩
def SlR(X:Cx)(r:V->Option Int->Option Int->Hp->VK->Prop):Prop :=
 ∀(aA:List (Addr×Obj)) (s:Shared) (σ:St) (H:Hp) (x:V) (v vl vu:Value) (lo hi:Option Int) (sl:Addr) (Q:VK),Inv X aA σ H s->RelV x v->s.heap.IsSliceOf sl vl vu .none->IsPart vl lo->IsPart vu hi->r x lo hi H Q->
  ∃T id,typeLookup (.type T) "__getitem__" = pure (some (.builtin id))/\s.TypeIs v T/\wpAny (model X.prog X.w) X.A (getItem v (.ref sl)) (EP X aA σ Q) X.xe s
theorem SlR.or(h:SlR X r)(h':SlR X r'):SlR X (λx lo hi H Q=>r x lo hi H Q\/r' x lo hi H Q):=by
 intro aA s σ H x v vl vu lo hi sl Q I rx hs pl pu q
 rcases q with q|q
 ·exact h aA s σ H x v vl vu lo hi sl Q I rx hs pl pu q
 ·exact h' aA s σ H x v vl vu lo hi sl Q I rx hs pl pu q
def tSl(r:V->Option Int->Option Int->Hp->VK->Prop)(te:TE)(tl th:TO):TE:=λσ H Q=>te σ H λx H1=>tl σ H1 λl H2=>th σ H2 λu H3=>r x l u H3 Q
theorem ake(hr:SlR X r)(he:PE X e te)(hl:PO X lo tl)(hu:PO X hi th):PE X (.Subscript e (.Slice lo hi none p2) pos) (tSl r te tl th):=by
 intro aA s σ H Q I h
 refine Subscript_ (thn (he aA s σ H _ I h) λv s1 ⟨x,H1,I1,r1,q1⟩=>?_);refine gV (thn (hl aA s1 σ H1 _ I1 q1) λvl s2 ⟨l,H2,I2,pl,q2⟩=>thn (hu aA s2 σ H2 _ I2 q2) λvu s3 ⟨u,H3,I3,pu,q3⟩=>?_);rw[fI];refine aS ?_;have I4:Inv X aA σ H3 {s3 with heap:=s3.heap.push {cls:=.type "slice",data:=.fields #[vl,vu,.none]} }:=I3.kept (t':=s3.toks) λb ob q=>ag _ q
 obtain⟨T,id,hT,ht,hg⟩:=hr aA {s3 with heap:=s3.heap.push {cls:=.type "slice",data:=.fields #[vl,vu,.none]} } σ H3 x v vl vu l u s3.heap.objs.size Q I4 r1 (fX ..) pl pu q3
 show wpAny (model X.prog X.w) X.A (subscriptTail e (.Slice lo hi none p2) v (.ref s3.heap.objs.size)) (EP X aA σ Q) X.xe {s3 with heap:=s3.heap.push {cls:=.type "slice",data:=.fields #[vl,vu,.none]} }
 exact tail_any (ops:=[.ref s3.heap.objs.size,v]) ht hT hg (by with_unfolding_all rfl)
def an9(xs:List V)(lo hi:Option Int):List V:=(xs.drop (HT.sIx xs.length 0 lo)).take (HT.sIx xs.length xs.length hi-HT.sIx xs.length 0 lo)
theorem a6l(xs:List V)(lo hi:Option Int):(an9 xs lo hi).length<=xs.length:=by
 unfold an9;rw[aT,bb];omega
def ay9(K:Fg):V->Option Int->Option Int->Hp->VK->Prop:=λx lo hi H Q=>∃a xs,x=.ref a/\SqT K H a xs /\
 ¬ (HT.sIx xs.length 0 lo=0/\HT.sIx xs.length xs.length hi=xs.length)/\∀p,H p=none->Q (.ref p) (upd H p (.tup (an9 xs lo hi)))
theorem atk:SlR X (ay9 X.K):=by
 intro aA s σ H x v vl vu lo hi sl Q I rx hs pl pu h
 obtain⟨a,xs,rfl,hx,hw,q⟩:=h;cases rx
 obtain⟨its,r,ht,hz⟩:=I.tuple hx;have aG:its.toArray.size=xs.length:=by rw[ax];exact r.length.symm
 refine⟨"tuple",_,bF.lookup,ht.typeIs,?_⟩;refine HT.a4u ht hs pl pu (by rw[aG];exact hw) ?_ (by rw[aG];exact hz)
 rw[aG];refine⟨.ref s.heap.objs.size,_,I.laid (t':=s.toks) (o:=.tup (an9 xs lo hi)) (λb ob q=>ag _ q) (aI _) ?_,rfl,q _ (I.hok.fresh (aI _))⟩;exact⟨bX (a6l xs lo hi) hz,_,(r.drop (HT.sIx xs.length 0 lo)).take (HT.sIx xs.length xs.length hi-HT.sIx xs.length 0 lo),IsTup.new _ _⟩
def atl(K:Fg):R2:=λx y H Q=>∃a b xs ys,x=.ref a/\y=.ref b/\SqT K H a xs/\SqT K H b ys/\xs≠[]/\xs.length+ys.length<=sizeLine /\
 (ys=[]->Q (.ref a) H)/\(ys≠[]->∀p,H p=none->Q (.ref p) (upd H p (.tup (xs++ys))))
theorem Vals.nil_iff(r:Vals xs us):us=[]↔xs=[]:=by
 cases r with
 |nil=>simp
 |cons _ _=>simp
theorem apb:OpR X (binaryOp .Add) (atl X.K):=by
 intro aA s σ H x y v u Q I rx ry h
 obtain⟨a,b,xs,ys,rfl,rfl,ha,hb,hx,hz,q1,q2⟩:=h;cases rx
 cases ry
 obtain⟨its,r1,p1,_⟩:=I.tuple ha;obtain⟨its2,r2,p2,_⟩:=I.tuple hb;refine HT.ap7 p1 p2 (λz=>hx (r1.nil_iff.mp z)) (λz=>⟨.ref a,H,I,rfl,q1 (r2.nil_iff.mp z)⟩) (λz=>?_) (by rw[<-r1.length,<-r2.length];exact hz)
 refine⟨.ref s.heap.objs.size,_,I.laid (t':=s.toks) (o:=.tup (xs++ys)) (λb ob q=>ag _ q) (aI _) ?_,rfl,q2 (λw=>z (r2.nil_iff.mpr w)) _ (I.hok.fresh (aI _))⟩;exact⟨by rw[ah];exact hz,_,r1.append r2,IsTup.new _ _⟩
end
def ixN(n:Nat)(i:Int):Option Nat:=if 0<=i then (if i<n then some i.toNat else none) else if -(n:Int)<=i then some (i+n).toNat else none
def atI{α:Type}(xs:List α)(i:Int):Option α:=(ixN xs.length i).bind λj=>xs[j]?
theorem agh(h:ixN n i=some j):seqIndex? i n=some j/\j<n /\ -(n:Int)<=i/\i<n:=by
 unfold ixN at h
 by_cases h0:0<=i
 ·rw[aO h0]at h
  by_cases h1:i<n
  ·rw[aO h1]at h;have e:i.toNat=j:=bO h;exact⟨by rw[gW h0 h1,e],by omega,by omega,h1⟩
  ·rw[bE h1]at h;cases h
 ·rw[bE h0]at h
  by_cases h1 : -(n:Int)<=i
  ·rw[aO h1]at h;have e:(i+n).toNat=j:=bO h;exact⟨by rw[gO (by omega) h1,e],by omega,h1,by omega⟩
  ·rw[bE h1]at h;cases h
theorem a8m{α:Type}{xs:List α}{i:Int}{v:α}(h:atI xs i=some v):∃j,seqIndex? i xs.length=some j/\xs[j]? = some v/\j<xs.length /\ -(xs.length:Int)<=i/\i<xs.length:=by
 unfold atI at h
 cases e:ixN xs.length i with
 |none=>rw[e]at h;cases h
 |some j =>
  rw[e]at h;obtain⟨h1,h2,h3,h4⟩:=agh e;exact⟨j,h1,h,h2,h3,h4⟩
theorem xf{α:Type}{xs:List α}{j:Nat}{v:α}(h:xs[j]? = some v):atI xs (j:Int)=some v:=by
 have hj:j<xs.length:=(af.mp h).1;have e:ixN xs.length (j:Int)=some j:=by
  unfold ixN;rw[aO (by omega),aO (by omega)];simp
 unfold atI;rw[e];exact h
def a6m(b:Expr):Prop:=∀o i,subscripted b false o i=operate [o,i] (getItem o i)
def IxR(X:Cx)(r:R2):Prop :=
 ∀(value slice:Expr) (aA:List (Addr×Obj)) (s:Shared) (σ:St) (H:Hp) (x y:V) (v u:Value) (Q:VK),Inv X aA σ H s->RelV x v->RelV y u->r x y H Q->
  subscripted slice false v u=operate [v,u] (getItem v u)->wpAny (model X.prog X.w) X.A (subscriptTail value slice v u) (EP X aA σ Q) X.xe s
def MtR(X:Cx)(id:String)(r:V->List V->Hp->VK->Prop):Prop :=
 ∀(aA:List (Addr×Obj)) (s:Shared) (σ:St) (H:Hp) (x:V) (xs:List V) (v:Value) (us:List Value) (Q:VK),Inv X aA σ H s->RelV x v->Vals xs us->r x xs H Q->
  wpAny (model X.prog X.w) X.A (call (.builtin id) (v::us)) (EP X aA σ Q) X.xe s
section
variable{X:Cx}{a b:Expr}{ta tb:TE}{pos:Pos}
theorem IxR.or(h:IxR X r)(h':IxR X r'):IxR X (λx y H Q=>r x y H Q\/r' x y H Q):=by
 intro value slice aA s σ H x y v u Q I rx ry q hs
 rcases q with q|q
 ·exact h value slice aA s σ H x y v u Q I rx ry q hs
 ·exact h' value slice aA s σ H x y v u Q I rx ry q hs
theorem aya(hr:IxR X r)(ha:PE X a ta)(hb:PE X b tb)(hs:a6m b):PE X (.Subscript a b pos) (tOp r ta tb):=by
 intro aA s σ H Q I h
 exact Subscript_ (ay1 ha hb I h λv u s2 x y H2 I2 rx ry q=>hr a b aA s2 σ H2 x y v u Q I2 rx ry q (hs _ _))
def axb(K:Fg):R2:=λx y H Q=>∃p xs i v,x=.ref p/\y=.int i/\SqL K H p xs/\atI xs i=some v/\Q v H
def azg(K:Fg):R2:=λx y H Q=>∃p xs i v,x=.ref p/\y=.int i/\SqT K H p xs/\atI xs i=some v/\Q v H
def azh:R2:=λx y H Q=>∃z i c,x=.str z/\y=.int i/\z.length<=sizeLine/\atI z.cps.toList i=some c/\Q (.str ⟨#[c]⟩) H
theorem apc:IxR X (axb X.K):=by
 intro value slice aA s σ H x y v u Q I rx ry h hs
 obtain⟨p,xs,i,z,rfl,rfl,hq,he,q⟩:=h;cases rx
 obtain⟨t,rfl⟩:=ry;obtain⟨its,r,pl,hz⟩:=I.list hq;obtain⟨j,h1,h2,h3,h4,h5⟩:=a8m he;obtain⟨w,ew,rw'⟩:=r.get h2;have hl:=r.length;have hn:=a5k;have fin:EP X aA σ Q w s:=⟨z,H,I,rw',q⟩
 by_cases h0:0<=i
 ·have hj:i.toNat=j:=by
   rw[gW h0 h5]at h1;exact bO h1
  exact item_listR pl.isList h0 (by omega) (by rw[hj];simpa using ew) fin hs
 ·have hj:(i+(its.toArray.size:Int)).toNat=j:=by
   rw[gO (by omega) h4]at h1
   rw[ax,<-hl];exact bO h1
  exact subscriptTail_builtinR (x:=w) pl.isList.typeIs gv.lookup
   (wpAny_getItem_list_neg (Q:=λr s'=>r=w/\EP X aA σ Q r s') pl.isList (by omega) (by rw[ax]<;>omega) (by omega) (by rw[hj];simpa using ew) ⟨rfl,fin⟩) hs
theorem a6n:IxR X (azg X.K):=by
 intro value slice aA s σ H x y v u Q I rx ry h hs
 obtain⟨p,xs,i,z,rfl,rfl,hq,he,q⟩:=h;cases rx
 obtain⟨t,rfl⟩:=ry;obtain⟨its,r,pl,hz⟩:=I.tuple hq;obtain⟨j,h1,h2,h3,h4,h5⟩:=a8m he;obtain⟨w,ew,rw'⟩:=r.get h2;have hl:=r.length;have hn:=a5k;have fin:EP X aA σ Q w s:=⟨z,H,I,rw',q⟩;exact subscriptTail_builtinR (x:=w) pl.typeIs slot_tuple_getitem.lookup
  (getItem_tuple (j:=j) (Q:=λr s'=>r=w/\EP X aA σ Q r s') pl (by omega) (by omega) (by rw[ax,<-hl];exact h1) (by simpa using ew) ⟨rfl,fin⟩) hs
theorem atm:IxR X azh:=by
 intro value slice aA s σ H x y v u Q I rx ry h hs
 obtain⟨z,i,c,rfl,rfl,hz,he,q⟩:=h;obtain⟨t,rfl⟩:=rx;obtain⟨t',rfl⟩:=ry;obtain⟨j,h1,h2,h3,h4,h5⟩:=a8m he;have hl:z.cps.toList.length=z.length:=by simp[Str.length]
 rw[hl]at h1 h4 h5;have hn:=a5k;exact tail_any (gA s z t) slot_str_getitem.lookup (getItem_str (c:=c) (by
  have e1:decide (i < -(2^63:Int))=false:=bp (by omega)
  have e2:decide (i≥2^63)=false:=bp (by omega)
  rw[e1,e2,gZ]) (by rw[h1];simpa using h2) ⟨.str ⟨#[c]⟩,H,I.tok _,⟨_,rfl⟩,q⟩) hs
def rIx(K:Fg):R2:=λx y H Q=>axb K x y H Q\/azg K x y H Q\/azh x y H Q
theorem atn:IxR X (rIx X.K):=apc.or (a6n.or atm)
theorem af0(its:List Value)(n j:Nat)(u:Value):Obj.mapSeq (·.setIfInBounds j u) {cls:=.type "list",data:=.seq its.toArray n}={cls:=.type "list",data:=.seq (its.set j u).toArray n}:=by
 simp[Obj.mapSeq]
theorem Inv.lst{aA:List (Addr×Obj)}{σ:St}{H:Hp}{s:Shared}{p:Addr}{xs:List V}(I:Inv X aA σ H s)(h:H p=some (.lst xs)) :
  ∃(its:List Value) (n:Nat),Vals xs its/\s.heap.get? p=some {cls:=.type "list",data:=.seq its.toArray n}/\xs.length<=sizeLine:=by
 obtain⟨z,its,n,r,e⟩:=I.hok p _ h;exact⟨its,n,r,e,z⟩
theorem Inv.lstUpd{its its':List Value}(I:Inv X aA σ H s)(h:H p=some (.lst xs))
  (ho:s.heap.get? p=some {cls:=.type "list",data:=.seq its.toArray n}) (hf:f {cls:=.type "list",data:=.seq its.toArray n}={cls:=.type "list",data:=.seq its'.toArray n' }) (r:Vals ys its') (hz:ys.length<=sizeLine) (t:Nat) :
  Inv X aA σ (upd H p (.lst ys)) {s with heap:=s.heap.update p f,toks:=t}:=by
 have e:(s.heap.update p f).get? p=some {cls:=.type "list",data:=.seq its'.toArray n' }:=by
  rw[Heap.get?_update_self f ho (by rw[hf]<;>rfl),hf]
 refine I.write (x:=p) (e:=p) (by rw[h];trivial) (.inl rfl) (λb u hb q=>(eW _ _ (g7 hb)).trans q) ⟨_,e⟩ ?_
 exact⟨hz,its',n',r,e⟩
def ato:V->V->V->Hp->(Hp->Prop)->Prop:=λo i v H Q=>∃p xs k j,o=.ref p/\i=.int k/\H p=some (.lst xs)/\ixN xs.length k=some j/\Q (upd H p (.lst (xs.set j v)))
theorem set_list:axw X ato:=by
 intro aA s σ H o i v ov iv u Q I ro ri rv h
 obtain⟨p,xs,k,j,rfl,rfl,hp,hj,q⟩:=h;cases ro
 obtain⟨t,rfl⟩:=ri;obtain⟨its,n,r,ho,hz⟩:=I.lst hp;obtain⟨h1,h2,h3,h4⟩:=agh hj;have hl:=r.length;have hn:=a5k;have I':Inv X aA σ (upd H p (.lst (xs.set j v))) {s with heap:=s.heap.update p (Obj.mapSeq (·.setIfInBounds j u))} :=
  I.lstUpd hp ho (af0 its n j u) (r.set rv j) (by rw[cP];exact hz) s.toks
 by_cases h0:0<=k
 ·have hk:k.toNat=j:=by
   rw[gW h0 h4]at h1;exact bO h1
  exact PySem.W.ki_setAt ho h0 (by omega) (by rw[ax,<-hl];exact h4) (by rw[hk];exact⟨_,I',q⟩)
 ·have hk:(k+(its.toArray.size:Int)).toNat=j:=by
   rw[gO (by omega) h3]at h1
   rw[ax,<-hl];exact bO h1
  exact PySem.W.ki_setBack ho (by omega) (by rw[ax,<-hl];exact h3) (by omega) (by rw[hk];exact⟨_,I',q⟩)
theorem aa9(lo hi:Option Int)(n:Nat):(sliceBounds lo hi none n).1=((HT.sIx n 0 lo:Nat):Int)/\(sliceBounds lo hi none n).2.1=((HT.sIx n n hi:Nat):Int)/\(sliceBounds lo hi none n).2.2=1:=by
 refine⟨?_,?_,rfl⟩
 ·cases lo with
  |none=>simp[sliceBounds,HT.sIx]
  |some i =>
   simp only[sliceBounds,HT.sIx,Option.getD_none,show(1:Int) > 0 by decide,dR]
   by_cases h:i<0
   ·simp only[h,dR]<;>omega
   ·simp only[h,fW]<;>omega
 ·cases hi with
  |none=>simp[sliceBounds,HT.sIx]
  |some i =>
   simp only[sliceBounds,HT.sIx,Option.getD_none,show(1:Int) > 0 by decide,dR]
   by_cases h:i<0
   ·simp only[h,dR]<;>omega
   ·simp only[h,fW]<;>omega
theorem a8n(its:List Value)(lo hi:Option Int):slicePick its.toArray lo hi none=((its.drop (HT.sIx its.length 0 lo)).take (HT.sIx its.length its.length hi-HT.sIx its.length 0 lo)).toArray:=by
 obtain⟨h1,h2,h3⟩:=aa9 lo hi its.toArray.size;unfold slicePick;rw[h1,h2,h3];simp only[sliceRange_one,pick_run,ax]<;>rfl
def ayb(K:Fg):V->Option Int->Option Int->Hp->VK->Prop:=λx lo hi H Q=>∃a xs,x=.ref a/\SqL K H a xs/\∀p,H p=none->Q (.ref p) (upd H p (.lst (an9 xs lo hi)))
theorem apd:SlR X (ayb X.K):=by
 intro aA s σ H x v vl vu lo hi sl Q I rx hs pl pu h
 obtain⟨a,xs,rfl,hx,q⟩:=h;cases rx
 obtain⟨its,r,ht,hz⟩:=I.list hx;have aG:=r.length;refine⟨"list",_,gv.lookup,ht.isList.typeIs,?_⟩;refine wpAny_getItem_list_slice ht.isList hs pl pu .none (by simp) ?_ (by rw[ax]<;>omega)
 rw[a8n,<-aG];refine⟨.ref s.heap.objs.size,_,I.laid (t':=s.toks) (o:=.lst (an9 xs lo hi)) (λb ob q=>ag _ q) (aI _) ?_,rfl,q _ (I.hok.fresh (aI _))⟩;exact⟨bX (a6l xs lo hi) hz,_,0,(r.drop (HT.sIx xs.length 0 lo)).take (HT.sIx xs.length xs.length hi-HT.sIx xs.length 0 lo),aW _ rfl⟩
def a3d:V->Bool
 |.non=>true
 |.bl _=>true
 |.int _=>true
 |.str _=>true
 |_=>false
def eqV:V->V->Bool
 |.non,.non=>true
 |.bl a,.bl b=>a == b
 |.bl a,.int b=>(if a then 1 else 0) == b
 |.int a,.bl b=>a == (if b then 1 else 0)
 |.int a,.int b=>a == b
 |.str a,.str b=>a == b
 |_,_=>false
theorem agi(ry:RelV y u)(rx:RelV x v)(fy:a3d y=true)(fx:a3d x=true):SeqAt.EqAt A s u v (eqV y x):=by
 cases y with
 |non =>
  cases ry
  cases x with
  |non=>cases rx;exact SeqAt.EqAt.same _
  |bl b=>cases rx;exact SeqAt.EqAt.none_bool b
  |int b=>obtain⟨t,rfl⟩:=rx;exact SeqAt.EqAt.none_int b t
  |str b=>obtain⟨t,rfl⟩:=rx;exact SeqAt.EqAt.none_str b t
  |_=>exact absurd (show false=true from fx) br
 |bl a =>
  cases ry
  cases x with
  |non=>cases rx;exact SeqAt.EqAt.bool_none a
  |bl b=>cases rx;exact SeqAt.EqAt.bool_bool a b
  |int b=>obtain⟨t,rfl⟩:=rx;exact SeqAt.EqAt.bool_int a b t
  |str b=>obtain⟨t,rfl⟩:=rx;exact SeqAt.EqAt.bool_str a b t
  |_=>exact absurd (show false=true from fx) br
 |int a =>
  obtain⟨t',rfl⟩:=ry
  cases x with
  |non=>cases rx;exact SeqAt.EqAt.int_none a t'
  |bl b=>cases rx;exact SeqAt.EqAt.int_bool a t' b
  |int b=>obtain⟨t,rfl⟩:=rx;exact SeqAt.EqAt.int_int a t' b t
  |str b=>obtain⟨t,rfl⟩:=rx;exact SeqAt.EqAt.int_str a t' b t
  |_=>exact absurd (show false=true from fx) br
 |str a =>
  obtain⟨t',rfl⟩:=ry
  cases x with
  |non=>cases rx;exact SeqAt.EqAt.str_none a t'
  |bl b=>cases rx;exact SeqAt.EqAt.str_bool a t' b
  |int b=>obtain⟨t,rfl⟩:=rx;exact SeqAt.EqAt.str_int a t' b t
  |str b=>obtain⟨t,rfl⟩:=rx;exact SeqAt.EqAt.str_str a t' b t
  |_=>exact absurd (show false=true from fx) br
 |_=>exact absurd (show false=true from fy) br
def eqU(x:V)(u:Value):Bool:=match u with
 |.none=>eqV .non x
 |.bool b=>eqV (.bl b) x
 |.int i _=>eqV (.int i) x
 |.str z _=>eqV (.str z) x
 |_=>false
theorem ana(r:RelV y u)(f:a3d y=true):eqU x u=eqV y x:=by
 cases y with
 |non=>cases r;rfl
 |bl b=>cases r;rfl
 |int i=>obtain⟨t,rfl⟩:=r;rfl
 |str z=>obtain⟨t,rfl⟩:=r;rfl
 |_=>exact absurd (show false=true from f) br
theorem a6o:∀{xs:List V} {us:List Value},Vals xs us->xs.all a3d=true->us.any (eqU x)=xs.any λy=>eqV y x
 |_,_,.nil,_=>rfl
 |y::xs,u::us,.cons r t,f=>by
  rw[dk,bV]at f;rw[gF,gF,ana r f.1,a6o t f.2]
theorem a3p(rx:RelV x v)(fx:a3d x=true):∀{xs:List V} {us:List Value},Vals xs us->xs.all a3d=true->∀u∈us,SeqAt.EqAt A s u v (eqU x u)
 |_,_,.nil,_=>λu hu=>by cases hu
 |y::xs,u::us,.cons r t,f=>λu' hu=>by
  rw[dk,bV]at f
  rcases aR.mp hu with rfl|hu
  ·rw[ana r f.1];exact agi r rx f.1 fx
  ·exact a3p rx fx t f.2 u' hu
def inV(x:V)(xs:List V):Bool:=xs.any λy=>eqV y x
def rIn(K:Fg)(neg:Bool):R2:=λx y H Q=>∃p xs,y=.ref p/\(SqL K H p xs\/SqT K H p xs)/\a3d x=true/\xs.all a3d=true/\Q (.bl (if neg then !inV x xs else inV x xs)) H
theorem a3q:OpR X (compareOp .In) (rIn X.K false):=by
 intro aA s σ H x y v u Q I rx ry h
 obtain⟨p,xs,rfl,hq,fx,fs,q⟩:=h;cases ry
 rcases hq with hq|hq
 ·obtain⟨its,r,pl,hz⟩:=I.list hq;refine SeqAt.in_listAt (eqU x) pl.isList (λw hw=>a3p rx fx r fs w (by simpa using hw)) ⟨.bl _,H,I,rfl,?_⟩
  rw[show its.toArray.any (eqU x)=its.any (eqU x) by simp,a6o r fs]
  exact q
 ·obtain⟨its,r,pl,hz⟩:=I.tuple hq;refine SeqAt.in_tupleAt (eqU x) pl (λw hw=>a3p rx fx r fs w (by simpa using hw)) ⟨.bl _,H,I,rfl,?_⟩
  rw[show its.toArray.any (eqU x)=its.any (eqU x) by simp,a6o r fs]
  exact q
theorem a5l:OpR X (compareOp .NotIn) (rIn X.K true):=by
 intro aA s σ H x y v u Q I rx ry h
 obtain⟨p,xs,rfl,hq,fx,fs,q⟩:=h;cases ry
 rcases hq with hq|hq
 ·obtain⟨its,r,pl,hz⟩:=I.list hq;refine SeqAt.notIn_listAt (eqU x) pl.isList (λw hw=>a3p rx fx r fs w (by simpa using hw)) ⟨.bl _,H,I,rfl,?_⟩
  rw[show its.toArray.any (eqU x)=its.any (eqU x) by simp,a6o r fs]
  exact q
 ·obtain⟨its,r,pl,hz⟩:=I.tuple hq;refine SeqAt.notIn_tupleAt (eqU x) pl (λw hw=>a3p rx fx r fs w (by simpa using hw)) ⟨.bl _,H,I,rfl,?_⟩
  rw[show its.toArray.any (eqU x)=its.any (eqU x) by simp,a6o r fs]
  exact q
theorem aaa:CallR X (.builtin "len") (λxs H Q=>∃p ys,xs=[.ref p]/\(SqL X.K H p ys\/SqT X.K H p ys)/\Q (.int ys.length) H):=by
 intro aA s σ H xs us Q I r h
 obtain⟨p,ys,rfl,hq,q⟩:=h;obtain⟨u,rfl,rx⟩:=vals1 r;cases rx
 have hn:=a5k
 rcases hq with hq|hq
 ·obtain⟨its,r',pl,hz⟩:=I.list hq;have aG:=r'.length;exact Calls.call_len_list pl.isList (by simp only[ax]<;>omega) ⟨.int ys.length,H,I.tok _,⟨s.toks+1,by rw[ax,aG]⟩,q⟩
 ·obtain⟨its,r',pl,hz⟩:=I.tuple hq;have aG:=r'.length;exact len_tuple pl (by simp only[ax]<;>omega) ⟨.int ys.length,H,I.tok _,⟨s.toks+1,by rw[ax,aG]⟩,q⟩
theorem aab:CallR X (.builtin "len") (λxs H Q=>∃z,xs=[.str z]/\z.length<=sizeLine/\Q (.int z.length) H):=by
 intro aA s σ H xs us Q I r h
 obtain⟨z,rfl,hz,q⟩:=h;obtain⟨u,rfl,t,rfl⟩:=vals1 r;have hn:=a5k;exact len_str (by omega) ⟨.int z.length,H,I.tok _,⟨_,rfl⟩,q⟩
theorem CallR.or(h:CallR X f r)(h':CallR X f r'):CallR X f (λxs H Q=>r xs H Q\/r' xs H Q):=by
 intro aA s σ H xs us Q I rs q
 rcases q with q|q
 ·exact h aA s σ H xs us Q I rs q
 ·exact h' aA s σ H xs us Q I rs q
theorem p6:CallR X (.type "tuple") (λxs H Q=>∃p ys,xs=[.ref p]/\((SqL X.K H p ys/\∀l,H l=none->Q (.ref l) (upd H l (.tup ys)))\/(SqT X.K H p ys/\Q (.ref p) H))):=by
 intro aA s σ H xs us Q I r h
 obtain⟨p,ys,rfl,h⟩:=h;obtain⟨u,rfl,rx⟩:=vals1 r;cases rx
 rcases h with⟨hq,q⟩|⟨hq,q⟩
 ·obtain⟨its,r',pl,hz⟩:=I.list hq;have aG:=r'.length;refine call_tuple_list pl.isList (λh' kp=>?_) (by simp only[ax]<;>omega)
  have I1:Inv X aA σ H {s with heap:=h' }:=I.kept (t':=s.toks) kp
  have I2:Inv X aA σ (upd H h'.objs.size (.tup ys)) {s with heap:=h'.push {cls:=.type "tuple",data:=.seq its.toArray} } :=
   I1.laid (t':=s.toks) (λb o e=>ag _ e) (aI _) (show ObjOk X.prog X.w _ _ _ (.tup ys) from ⟨hz,its,r',IsTup.new _ _⟩)
  exact⟨.ref h'.objs.size,_,I2,rfl,q _ (I1.hok.fresh (aI _))⟩
 ·obtain⟨its,r',pl,hz⟩:=I.tuple hq;exact call_tuple_same pl ⟨.ref p,H,I,rfl,q⟩
def tyV(K:Fg)(T:String)(x:V)(H:Hp):Prop:=match x with
 |.str _=>T = "str"
 |.int _=>T = "int"
 | .ref p=>(T = "list"/\∃xs,SqL K H p xs)\/(T = "tuple"/\∃o,K.lookup p=some o/\o.cls=.type "tuple"/\o.dict=none) \/
   (T = "dict"/\((∃kvs,H p=some (.dK kvs))\/∃kvs,H p=some (.dT kvs)))\/(T = "set"/\∃S n,H p=some (.set S n))
 |_=>False
theorem anb(I:Inv X aA σ H s)(r:RelV x v)(ty:tyV X.K T x H) :
  s.TypeIs v T/\∀a,v=.ref a->∃ob,s.heap.get? a=some ob/\ob.dict=none:=by
 cases x with
 |str z =>
  obtain⟨t,rfl⟩:=r
  cases (show T = "str" from ty)
  exact⟨gA s z t,λ_ e=>nomatch e⟩
 |int i =>
  obtain⟨t,rfl⟩:=r
  cases (show T = "int" from ty)
  exact⟨eL s i t,λ_ e=>nomatch e⟩
 |ref p =>
  cases r
  rcases ty with⟨rfl,xs,hq⟩|⟨rfl,o,hk,hc,hd⟩|⟨rfl,hk⟩|⟨rfl,S,n,hk⟩
  ·obtain⟨its,_,pl,_⟩:=I.list hq;refine⟨pl.isList.typeIs,λa e=>?_⟩;cases e
   obtain⟨o,n,e,c,hd,_⟩:=pl;exact⟨o,e,hd⟩
  ·refine⟨⟨o,I.kIn p o hk,hc⟩,λa e=>?_⟩;cases e
   exact⟨o,I.kIn _ o hk,hd⟩
  ·have z:∃o,s.heap.get? p=some o/\o.ExactDict:=by
    rcases hk with⟨kvs,hk⟩|⟨kvs,hk⟩
    ·obtain⟨_,_,_,_,o,_,_,e,ex,_⟩:=I.hok p _ hk;exact⟨o,e,ex⟩
    ·obtain⟨_,_,_,_,o,_,_,e,ex,_⟩:=I.hok p _ hk;exact⟨o,e,ex⟩
   obtain⟨o,e,ex⟩:=z;refine⟨⟨o,e,ex.1⟩,λa e2=>?_⟩;cases e2
   exact⟨o,e,ex.2.1⟩
  ·obtain⟨o,_,_,_,e,ex,_⟩:=I.hok p _ hk;refine⟨⟨o,e,ex.1⟩,λa e2=>?_⟩;cases e2
   exact⟨o,e,ex.2.1⟩
 |_=>exact False.elim ty
def tBM(K:Fg)(T:String)(r:V->List V->Hp->VK->Prop)(to:TE)(t:TA):TE:=λσ H Q=>to σ H λx H1=>tyV K T x H1/\t σ H1 λxs H2=>r x xs H2 Q
variable{o e:Expr}{es:List Expr}{to:TE}{t:TA}{name:Str}{apos cpos:Pos}{T id:String}{r:V->List V->Hp->VK->Prop}
theorem ayc(pa:PlainAttrs T)(slot:Slot T name id)(hty:typeOf (.builtin id)=pure (.type "method_descriptor"))(hm:MtR X id r)(ho:PE X o to)(ha:PA X (e::es) t)
  (hbase:attributeBase o name X.env (eval o X.env)=eval o X.env:=by rfl)
  (hfew:((backTo cpos (starEach (e::es) X.env)).all (λx => !x.1) && (backToKw cpos (keywordEach [] X.env)).all (λx=>x.1.isSome)
   && decide ((e::es).length+([]:List Keyword).length+(if ([]:List Keyword).isEmpty then 0 else 1)<30))=true:=by rfl)
  (hline:(apos.endLine == cpos.line)=true:=by rfl) (hs:starEach (e::es) X.env=(false,eval e X.env)::starEach es X.env:=by rfl) (hplain:(backTo cpos (starEach es X.env)).any (·.1)=false:=by rfl) :
  PE X (.Call (.Attribute o name apos) (e::es) [] cpos) (tBM X.K T r to t):=by
 intro aA s σ H Q I h
 refine wpAny_Call_method_late hbase hfew hline rfl (thn (ho aA s σ H _ I h) λv s1 ⟨x,H1,I1,r1,ty,q1⟩=>?_);obtain⟨h1,h2⟩:=anb I1 r1 ty;refine⟨T,id,pa,slot,hty,h1,h2,?_⟩;have hA:=ha cpos aA s1 σ H1 _ I1 q1;rw[hs]at hA ⊢;refine Calls.callWith_builtin (by show(false || (backTo cpos (starEach es X.env)).any (·.1))=false;rw[hplain]<;>rfl) (fF ?_)
 exact thn hA λus s2 ⟨vs,H2,I2,r2,q2⟩=>hm aA s2 σ H2 x vs v us Q I2 r1 r2 q2
end
def MtM(X:Cx)(id:String)(r:V->List V->Hp->VK->Prop):Prop :=
 ∀(aA:List (Addr×Obj)) (s:Shared) (σ:St) (H:Hp) (x:V) (xs:List V) (v:Value) (us:List Value) (Q:VK),Inv X aA σ H s->RelV x v->Vals xs us->r x xs H Q->
  wpAny (model X.prog X.w) X.A (call (.builtin id) (v::us)) (EP X aA σ Q) X.xe s
theorem Vals.one:∀{x:V} {us:List Value},Vals [x] us->∃u,us=[u]/\RelV x u
 |_,_,.cons r .nil=>⟨_,rfl,r⟩
theorem Vals.reverse(h:Vals xs us):Vals xs.reverse us.reverse:=by
 induction h with
 |nil=>exact .nil
 |cons r t ih=>rw[eD,eD];exact Vals.append ih (.cons r .nil)
theorem Vals.rep(h:Vals xs us):∀k:Nat,Vals (List.replicate k xs).flatten (List.replicate k us).flatten
 |0=>.nil
 |k+1=>by
  rw[cw,cw,dI,dI];exact Vals.append h (Vals.rep h k)
theorem foldl_rep(its:List Value):∀(k:Nat) (acc:List Value),
  List.foldl (λx1 x2=>x1++x2) acc.toArray (List.replicate k its.toArray)=(acc++(List.replicate k its).flatten).toArray
 |0,acc=>by simp
 |k+1,acc=>by
  have e:acc.toArray++its.toArray=(acc++its).toArray:=by simp
  have e2:(acc++its)++(List.replicate k its).flatten=acc++(List.replicate (k+1) its).flatten:=by
   rw[cw,dI,dJ]
  rw[<-e2,<-foldl_rep its k (acc++its),<-e,cw,List.foldl_cons]
section
variable{X:Cx}{aA:List (Addr×Obj)}{σ:St}{H:Hp}{s:Shared}{l b:Addr}{xs ys zs:List V}
theorem Inv.lset{its its':List Value}(I:Inv X aA σ H s)(hH:H l=some (.lst xs))
  (e:s.heap.get? l=some {cls:=.type "list",data:=.seq its.toArray n}) (hf:f its.toArray=its'.toArray) (hv:Vals ys its') (hz:ys.length<=sizeLine) :
  Inv X aA σ (upd H l (.lst ys)) {s with heap:=s.heap.update l (Obj.mapSeq f),toks:=t' }:=by
 have q:=PySem.IsL.update e f;rw[hf]at q;refine I.write (x:=l) (e:=l) (by rw[hH];exact trivial) (.inl rfl) (λb' u hb hu=>(eW s.heap (Obj.mapSeq f) (g7 hb)).trans hu) ⟨_,q⟩ ?_
 exact⟨hz,its',_,hv,q⟩
theorem Inv.lnew(I:Inv X aA σ H s)(hv:Vals ys its)(hz:ys.length<=sizeLine) :
  Inv X aA σ (upd H s.heap.objs.size (.lst ys)) {s with heap:=s.heap.push {cls:=.type "list",data:=.seq its.toArray},toks:=t' } :=
 I.laid (λ_ _ q=>ag _ q) (aI _) ⟨hz,its,0,hv,aW _ rfl⟩
theorem Inv.fresh(I:Inv X aA σ H s):H s.heap.objs.size=none:=I.hok.fresh (aI _)
theorem Inv.lstM(I:Inv X aA σ H s)(hH:H l=some (.lst xs)):xs.length<=sizeLine/\∃(its:List Value) (n:Nat),Vals xs its/\xs.length=its.length/\s.heap.get? l=some {cls:=.type "list",data:=.seq its.toArray n}:=by
 obtain⟨z,its,n,r,e⟩:=I.hok l _ hH;exact⟨z,its,n,r,r.length,e⟩
theorem ad7(h:n<=sizeLine):Builtin.List.listTooLong n=false:=by
 unfold Builtin.List.listTooLong;exact bp (by omega)
end
section
variable{X:Cx}
def agj:V->List V->Hp->VK->Prop:=λx vs H Q=>∃l xs y,x=.ref l/\vs=[y]/\H l=some (.lst xs)/\xs.length<sizeLine/\Q .non (upd H l (.lst (xs++[y])))
theorem o6:MtM X "list.append" agj:=by
 intro aA s σ H x vs v us Q I rx rv h
 obtain⟨l,xs,y,rfl,rfl,hH,hz,q⟩:=h;cases rx
 obtain⟨u,rfl,ru⟩:=rv.one;obtain⟨z,its,n,r,hl,e⟩:=I.lstM hH;refine de F.slot_list_append ⟨_,e,rfl⟩ F.entry_list_append (F.args_list_append_2 _ _) (PySem.list_append l its.toArray n u (by rw[ax];omega)) ⟨e,?_⟩
 refine⟨.non,_,I.lset (its':=its++[u]) hH e (by simp) (r.append (.cons ru .nil)) ?_,rfl,q⟩
 rw[ah,av];omega
def atp:R2:=λx y H Q=>∃l k xs,x=.ref l/\y=.int k/\H l=some (.lst xs) /\ -(2^63)<=k/\k<2^63/\xs.length*k.toNat<=sizeLine /\
 ∀p,H p=none->Q (.ref p) (upd H p (.lst (List.replicate k.toNat xs).flatten))
theorem len_rep{α:Type}(xs:List α)(k:Nat):(List.replicate k xs).flatten.length=k*xs.length:=by
 induction k with
 |zero=>simp
 |succ k ih=>rw[cw,dI,ah,ih,Nat.succ_mul,Nat.add_comm]
theorem atq:OpR X (binaryOp .Mult) atp:=by
 intro aA s σ H x y v u Q I rx ry h
 obtain⟨l,k,xs,rfl,rfl,hH,h1,h2,hz,q⟩:=h;cases rx
 obtain⟨t,rfl⟩:=ry;obtain⟨z,its,n,r,hl,e⟩:=I.lstM hH;have aG:its.toArray.size*k.toNat<=sizeLine:=by rw[ax,<-hl];exact hz
 have hcap:¬ its.toArray.size*k.toNat > (2^63-1) / 8:=by
  have:(sizeLine:Nat)<=(2^63-1) / 8:=by decide
  omega
 have hfit:¬ (!Builtin.List.listFitsIndex k)=true:=by
  rw[fitsIndex_both h1 h2];exact br
 have hlong:¬ Builtin.List.listTooLong (its.toArray.size*k.toNat)=true:=by
  rw[ad7 aG];exact br
 have hnew:List.foldl (λx1 x2=>x1++x2) #[] (List.replicate (if its.toArray.isEmpty=true then 0 else k.toNat) its.toArray)=(List.replicate k.toNat its).flatten.toArray:=by
  have f0:∀m:Nat,List.foldl (λx1 x2=>x1++x2) #[] (List.replicate m its.toArray)=(List.replicate m its).flatten.toArray:=λm=>by
   have:=foldl_rep its m []
   rw[cV]at this;exact this
  rw[f0]
  cases its with
  |nil=>simp
  |cons a r'=>rw[bE (by simp)]
 refine dB (T := "list") (U := "int") (by decide) ⟨_,e,rfl⟩ (λs'=>eL s' k t) noFill_list_mul fL cW repeat_list fw.lookup
  (de cW (eL s k t) fz (eY _ _) (int___rmul___int_list k t l its.toArray n)
   ⟨e,rfl,⟨_,e,rfl⟩,de F.slot_list_mul ⟨_,e,rfl⟩ F.entry_list_mul (F.args_list_mul_2 _ _) (eP l its.toArray n k t hfit hcap hlong) ⟨e,?_⟩⟩)
 rw[hnew];exact⟨.ref _,_,I.lnew (t':=s.toks) (r.rep k.toNat) (by rw[len_rep,eM];exact hz),rfl,q _ I.fresh⟩
end
end L2
namespace Att
open PySem.W PySem.Calls PyProof.Rows
theorem a6p:∀(ns:List Int) (vs:List Value),WellAll P h vs (ns.map WData.int)->IntsAre vs ns:=by
 intro ns
 induction ns with
 |nil =>
  intro vs w
  rw[e9]at w;cases w
  exact .nil
 |cons n ns ih =>
  intro vs w
  rw[bI]at w
  cases w with
  |cons a b =>
   cases a
   exact .cons _ _ (ih _ b)
theorem agk{l:OpenLaw}(hn:l.most=some n)
  (hpre:l.row.toRowW.claim.pre args=true) (hwl:WellAll P h vals args) :
  ∃a vs ns,vals=[Value.ref a]/\args=[WData.list (ns.map WData.int)]/\h.get? a=some {cls:=.type "list",data:=.seq vs.toArray}/\IntsAre vs ns/\ns.length<=n:=by
 have hsh:WShape.hasAll [] args [.list .int]=true:=(pre_splitW hpre).1;have hc:l.pre.holds [] {args:=args}=true:=(pre_splitW hpre).2;obtain⟨d,r,rfl,h1,h2⟩:=hasAllW_cons hsh;obtain rfl:=hasAllW_nil h2;obtain⟨xs,rfl,h3⟩:=hasW_list h1;obtain⟨ns,rfl⟩:=items_int h3;have aG:ns.length<=n:=by
  unfold OpenLaw.pre at hc;have h4:(WTm.not (.lt (.lit (.int (n:Int))) (.len (.arg 0)))).holds [] {args:=[.list (ns.map .int)]}=true:=by
   have h4:=(holds_andW hc).1;rw[hn]at h4;exact h4
  have h5:=condW_of h4 (w_not (w_lt w_lit (w_len_list (w_arg rfl))));rw[ai]at h5;refine Nat.le_of_not_lt λq=>?_;have q':(n:Int)<((ns.length:Nat):Int):=by omega
  first
   |(rw[bL q']at h5;exact absurd h5 (by decide))
   |(simp at h5;omega)
 cases hwl with
 |cons w1 w2 =>
  cases w2
  cases w1 with
  |list ho hall=>exact⟨_,_,ns,rfl,rfl,ho,a6p ns _ hall,aG⟩
theorem agl(l:OpenLaw)(args:List WData):l.row.toRowW.claim.post args (.bool true) args=true :=
 postW_of (r:=l.row.toRowW) (X:=(true == true))
  (show WShape.has [] (.bool true) .bool=true by first|rfl|decide|simp[WShape.has,WShape.arms,WShape.armsAll])
  (show(WTm.eq .res (.lit (.bool true))).value [] {args:=args,res:=some (.bool true),after:=args}=some (.bool (true == true)) from w_eq_bool (w_res rfl) w_lit) rfl
theorem abw{l:OpenLaw}{d:DefRec}
  (hn:l.most=some n) (hdf:d.params.defaults=[])
  (call:∀(w:World) (s₀ s₁:Shared) (mg mb:Str->Option Value) (fa:Addr) (o:Obj) (pm cd doc:Value) (a:Addr) (vs:List Value) (ns:List Int),
   Ground q loose [] XP w s₀ mg mb s₁.heap->YP w s₁.heap->
   s₁.heap.get? fa=some o->o.data=.func (docDef d.name d.params d.body d.scope pm cd doc)->s₁.heap.CodeRec cd d.name->mg d.name=some (.ref fa)->
   s₁.heap.get? a=some {cls:=.type "list",data:=.seq vs.toArray}->IntsAre vs ns->ns.length<=n->s₁.gens = #[]->
   codeAny (model l.prog w) callerA (.call (.ref fa) ⟨[.ref a],[]⟩) (λr s'=>r=.ok (.ret (.bool true))/\OldK s₁.heap s'.heap/\s'.os=s₁.os/\AllBare s'.gens) s₁) :
  WalkO q loose XP YP l.row.toRowW d [] (λf vs=>PySem.call f vs):=by
 intro w s₀ s₁ mg mb G Y fa o pm cd doc dV kV ho hd hcd hD hmg hg args vals as hpre hlay hrd hwl hlo
 obtain rfl:dV=.none:=Dflts.none hD hdf
 obtain rfl:kV=.none:=Dflts.noKw hD
 obtain⟨a,vs,ns,rfl,rfl,hobj,hints,aG⟩:=agk hn hpre hwl;refine enter_call (gL (call w s₀ s₁ mg mb fa o pm cd doc a vs ns G Y ho (fd_plain hd) hcd hmg hobj hints aG hg) λr s' hq=>?_);obtain⟨rfl,h2,h3,h4⟩:=hq;exact⟨.inl ⟨.bool true,.bool true,[],rfl,λ_=>rfl,.bool true,agl l _,λ_=>⟨List.Pairwise.nil,λ_ hm=>(nomatch hm)⟩⟩,h2,h3,h4⟩
end Att
namespace L2
open PyProof.Rows
theorem a6q:∀{vs:List Value} {ns:List Int},IntsAre vs ns->Vals (ns.map V.int) vs
 |_,_,.nil=>.nil
 |_,_,.cons n t h=>.cons ⟨t,rfl⟩ (a6q h)
def Only(H:Hp):Prop:=∀b,H b=none\/∃o xs,H b=some (.frz o (.lst xs))
theorem akf{K:Fg}{s₁:Shared}{vs:List Value}
  (KX:K.In s₁.heap) (hns:s₁.heap.Ns mainGlobals mg) (hb:s₁.heap.Ns builtinsNs mb) (hbb:∀x:Str,x ≠ "__name__"->mb x=bootBuiltins x) (hlim:s₁.heap.NoLimit) (hg:s₁.gens = #[])
  (ha:s₁.heap.get? a=some {cls:=.type "list",data:=.seq vs.toArray}) (hi:IntsAre vs ns) (hl:ns.length<=sizeLine) (hr:Room k callerA)
  (F:∀base:Heap,K.In base->base.Ns mainGlobals mg->FnOk P w K mg base CX k fa fd [x] sp) (hbind:∀(s:Shared) (u:Value),BindsTo s fd ⟨[u],[]⟩ [(x,u)])
  (hsp:∀H:Hp,Only H->SqL K H a (ns.map V.int)->sp [.ref a] H (λv _=>v=.bl true) λ_ _ _=>False)
  (hCX:∀H e s',CX [] H s₁ (λ_ _ _=>False) e s'->False) :
  codeAny (model P w) callerA (.call (.ref fa) ⟨[.ref a],[]⟩) (λr s'=>r=.ok (.ret (.bool true))/\OldK s₁.heap s'.heap/\s'.os=s₁.os/\AllBare s'.gens) s₁:=by
 have rv:=a6q hi;have lenV:=hi.length;have core:∀H:Hp,Only H->SqL K H a (ns.map V.int)->HOk P w H s₁.heap->(∀b,H b≠none->b=a)->(H a≠none->K.lookup a=none)->
   codeAny (model P w) callerA (.call (.ref fa) ⟨[.ref a],[]⟩) (λr s'=>r=.ok (.ret (.bool true))/\OldK s₁.heap s'.heap/\s'.os=s₁.os/\AllBare s'.gens) s₁:=by
  intro H hO hS hok hA hK
  have base_of:∀{b:Addr} {o:Obj},s₁.heap.get? b=some o->H b=none->(ak0 s₁.heap H).get? b=some o:=λe n=>ak1 e n;have noA:∀{b:Addr} {o:Obj} {es:Array DictEntry} {ep:Nat},s₁.heap.get? b=some o->o.data=.dict es ep->H b=none:=λ{b o es ep} e d=>by
   cases q:H b with
   |none=>rfl
   |some u =>
    have e':b=a:=hA b (by rw[q];simp)
    subst e';rw[ha]at e;cases e
    have d':Data.seq vs.toArray _=Data.dict es ep:=d
    cases d'
  have nsK:∀{b:Addr} {m:Str->Option Value},s₁.heap.Ns b m->(ak0 s₁.heap H).Ns b m:=λ{b m} ⟨o,es,ep,e,d,r⟩=>⟨o,es,ep,base_of e (noA e d),d,r⟩;have hKb:K.In (ak0 s₁.heap H):=λb o e=>base_of (KX b o e) (by
   cases q:H b with
   |none=>rfl
   |some u =>
    have e':b=a:=hA b (by rw[q];simp)
    subst e';rw[hK (by rw[q];simp)]at e;cases e)
  have hM:Mod K mg (ak0 s₁.heap H):=⟨hKb,nsK hns,⟨mb,nsK hb,hbb⟩,let ⟨mc,h1,h2⟩:=hlim; ⟨mc,nsK h1,h2⟩⟩;have e0:Env0 P w K mg (ak0 s₁.heap H) callerA [] s₁ H:=⟨rfl,hM,λb o e=>aot e,Nat.le_of_eq (ag0 _ _),trivial,λb hb=>absurd (show b∈([]:List Addr) from hb) (by simp),hok,.of_eq hg⟩
  refine gL ((F _ hKb (nsK hns)).run callerA [] s₁ H ⟨[.ref a],[]⟩ [.ref a] [.ref a] _ _ hr e0 (hbind s₁ (.ref a)) (.cons rfl .nil) (hsp H hO hS)) λr s' h=>?_
  cases r with
  |error e=>exact(hCX H e s' h).elim
  |ok fl =>
   cases fl with
   |next=>exact False.elim h
   |brk=>exact False.elim h
   |cont=>exact False.elim h
   |ret u =>
    obtain⟨v,H',os,bare,un,hok',r',q⟩:=h;have q':v=.bl true:=q;subst q';obtain rfl:u=Value.bool true:=r';refine⟨rfl,OldK.of_keep λb o e=>?_,os,bare⟩
    cases q:H b with
    |none=>exact un.keep b o e q (by intro z;exact absurd (show b∈([]:List Addr) from z) (by simp)) (by simp)
    |some u =>
     rcases hO b with z|⟨ob,xs,z⟩
     ·rw[q]at z;cases z
     ·have z2:=un.frzs b ob _ z;obtain⟨e1,_⟩:=hok b _ z;obtain⟨e2,_⟩:=hok' b _ z2;rw[e]at e1;cases e1
      exact e2
 cases hk:K.lookup a with
 |some o =>
  have e:=KX a o hk;rw[ha]at e;cases e
  refine core (λ_=>none) (λ_=>.inl rfl) (.inr ⟨_,vs.toArray,_,hk,rfl,rfl,rfl,by rw[ax,lenV];exact hl,by simpa using rv⟩) (λb u z=>by have z':(none:Option HO)=some u:=z;cases z') (λb z=>absurd rfl z) λz=>absurd rfl z
 |none =>
  refine core (λb=>if b=a then some (.frz {cls:=.type "list",data:=.seq vs.toArray} (.lst (ns.map V.int))) else none) (λb=>?_) (.inl (.inr ⟨{cls:=.type "list",data:=.seq vs.toArray},aO rfl⟩)) (λb u z=>?_) (λb z=>?_) λ_=>hk
  ·by_cases hb:b=a
   ·exact .inr ⟨_,_,aO hb⟩
   ·exact .inl (bE hb)
  ·by_cases hb:b=a
   ·have z':=(aO hb).symm.trans z
    cases z'
    subst hb;exact⟨ha,by rw[ai];exact hl,vs,_,rv,ha⟩
   ·have z':=(bE hb).symm.trans z
    cases z'
  ·by_cases hb:b=a
   ·exact hb
   ·exact absurd (bE hb) z
theorem ape{l:PySem.W.OpenLaw}{n k:Nat}{q:Program}{loose:List Str}{XP:(Str->Option Value)->Heap->Prop}{YP:World->Heap->Prop}{d:DefRec}{K:Params->Fg}{CX:World->CXT}{sp:World->Sp}{x:Str}
  (hn:l.most=some n) (hn2:n<=sizeLine) (hdf:d.params.defaults=[]) (hr:Room k callerA)
  (hY:∀(w:World) (h:Heap),YP w h->(K w.params).In h)
  (F:∀(w:World) (mg:Str->Option Value) (fa:Addr) (h:Heap),(K w.params).In h->h.Ns mainGlobals mg->mg d.name=some (.ref fa)->
   ∃fd:FuncData,(∀(s:Shared) (u:Value),BindsTo s fd ⟨[u],[]⟩ [(x,u)]) /\
    ∀base:Heap,(K w.params).In base->base.Ns mainGlobals mg->FnOk l.prog w (K w.params) mg base (CX w) k fa fd [x] (sp w))
  (hsp:∀(w:World) (H:Hp) (a:Addr) (ns:List Int),ns.length<=n->Only H->SqL (K w.params) H a (ns.map V.int)->sp w [.ref a] H (λv _=>v=.bl true) λ_ _ _=>False)
  (hCX:∀(w:World) (H:Hp) (s:Shared) (e:Value) (s':Shared),CX w [] H s (λ_ _ _=>False) e s'->False) :
  PySem.W.WalkO q loose XP YP l.row.toRowW d [] (λf vs=>PySem.call f vs):=by
 refine Att.abw hn hdf λw s₀ s₁ mg mb fa o pm cd doc a vs ns G Y ho hd hcd hmg hobj hints aG hg=>?_;have KX:=hY w _ Y;obtain⟨fd,hb,hF⟩:=F w mg fa _ KX G.T.g hmg;exact akf KX G.T.g G.T.b G.T.builtins G.T.nolimit hg hobj hints (bX aG hn2) hr hF hb (λH hO hS=>hsp w H a ns aG hO hS) λH e s'=>hCX w H s₁ e s'
def a3e(s:Stmt):Arguments:=match s with
 |.FunctionDef _ a _ _ _ _ _ _ _ _=>a
 |_=>{posonlyargs:=[],args:=[],vararg:=none,kwonlyargs:=[],kw_defaults:=[],kwarg:=none,defaults:=[]}
def qz(s:Stmt):List Stmt:=match s with
 |.FunctionDef _ _ b _ _ _ _ _ _ _=>b
 |_=>[]
def bw(s:Stmt):Scope:=match s with
 |.FunctionDef _ _ _ _ _ _ sc _ _ _=>sc
 |_=>{kind:=.function,names:=[],isGenerator:=false,isCoroutine:=false}
abbrev CX0:CXT:=λ_ _ _ _ _ _=>False
abbrev E0:XK:=λ_ _ _=>False
theorem akg:a7o CX0 X E0:=λ_ _ _ _ _ _ _ h=>h.elim
structure Fun (K:Fg) (x qual:Str) (st:Stmt) (f:Addr) (fd:FuncData):Prop where
 ex:∃(oc:Value) (od:Option Addr) (kV doc pm:Value) (an:Option Addr) (cdv ct:Value) (osl:Array (Option Value)),
  fd=PySem.W.fnOf x qual (a3e st) (qz st) (bw st) .none kV doc pm an cdv ct/\K.lookup f=some ⟨oc,od,.func fd,osl⟩/\PySem.W.codeIn K cdv qual=true
 kp:PySem.W.keepIn K (.ref f)=true
section
variable{P:Program}{w:World}{K:Fg}{mg:Str->Option Value}{base:Heap}
theorem Fun.ok{x qual:Str}{st:Stmt}{f:Addr}{fd:FuncData}{N ps:List Str}{k:Nat}{sp:Sp}(F:Fun K x qual st f fd)(S:FnScope N ps (bw st))(len:∀vs H Q E,sp vs H Q E->vs.length=ps.length)
  (hbody:∀(cdv:Value) (A:Around) (outer:List Env) (s:Shared) (H:Hp) (vs:List V) (Q:VK) (E:XK),Room k (A.deeper (envOfC qual (bw st) s.heap.objs.size f cdv))->sp vs H Q E->
   ∃t,PSs (afv CX0 P w K mg base N qual (bw st) f cdv A outer s H E).nox (qz st) t/\t {nx:=λ_ H'=>Q .non H',rt:=Q} (start N vs) H):FnOk P w K mg base CX0 (k+1) f fd ps sp:=by
 obtain⟨oc,od,kV,doc,pm,an,cdv,ct,osl,rfl,lk,hcd⟩:=F.ex;refine atj lk hcd S len λA outer s H vs Q E hr hsp=>?_;obtain⟨t,h,q⟩:=hbody cdv A outer s H vs Q E hr hsp;exact⟨t,h.nox,q⟩
theorem Fun.binds{x qual:Str}{st:Stmt}{f:Addr}{fd:FuncData}{ps:List Str}(F:Fun K x qual st f fd)
  (h:∀(kV doc pm:Value) (an:Option Addr) (cdv ct:Value) (us:List Value),us.length=ps.length->bindArgs (PySem.W.fnOf x qual (a3e st) (qz st) (bw st) .none kV doc pm an cdv ct) ⟨us,[]⟩=pure (ps.zip us)):Binds K fd ps []:=by
 obtain⟨oc,od,kV,doc,pm,an,cdv,ct,osl,rfl,lk,hcd⟩:=F.ex;exact .all (h kV doc pm an cdv ct)
theorem atr{x qual:Str}{st:Stmt}{f:Addr}{oc:Value}{od an:Option Addr}{osl:Array (Option Value)}{kV doc pm cdv ct:Value}(l:K.lookup f=some ⟨oc,od,.func (PySem.W.fnOf x qual (a3e st) (qz st) (bw st) .none kV doc pm an cdv ct),osl⟩)
  (c:PySem.W.codeIn K cdv qual=true) (k:PySem.W.keepIn K (.ref f)=true):Fun K x qual st f (PySem.W.fnOf x qual (a3e st) (qz st) (bw st) .none kV doc pm an cdv ct):=⟨⟨oc,od,kV,doc,pm,an,cdv,ct,osl,rfl,l,c⟩,k⟩
end
section
variable{κ:Type}[DecidableEq κ]
theorem RelO.getD{o:Option V}{u:Option Value}{d:V}{d':Value}(r:RelO o u)(rd:RelV d d'):RelV (o.getD d) (u.getD d'):=by
 cases o with
 |none=>cases u with
  |none=>exact rd
  |some _=>exact(show False from r).elim
 |some _=>cases u with
  |none=>exact(show False from r).elim
  |some _=>exact r
end
section
variable{X:Cx}{aA:List (Addr×Obj)}{σ:St}{H:Hp}{s:Shared}{a:Addr}{y v:V}{u r:Value}{o:Option V}{A:Around}{E:Value->Shared->Prop}
theorem Inv.big(I:Inv X aA σ H s):sysModules<s.heap.objs.size:=by
 have h:mainGlobals<s.heap.objs.size:=(I.mod.glob.keeps I.bk).lt;exact Nat.lt_trans (by decide) h
end
theorem akh{P:Program}{w:World}{H:Hp}(h:Heap)(hb:sysModules<h.objs.size):ObjOk P w H (h.push {cls:=.type "dict",data:=.dict #[]}) h.objs.size (.dK []) :=
 ⟨bq _,cF.mpr (g7 (bR hb)),[],.nil,Heap.DictOf.new h⟩
def atu:TE:=λ_ H Q=>∀p,H p=none->Q (.ref p) (upd H p (.dK []))
section
variable{X:Cx}{pos:Pos}
theorem aki:PE X (.Dict [] [] pos) atu:=λaA s σ H Q I h =>
 wpAny_Dict_empty ⟨.ref s.heap.objs.size,_,I.laid (a:=s.heap.objs.size) (o:=.dK []) (t':=s.toks) (λ_ _ q=>ag _ q) (aI _) (akh s.heap I.big),rfl,h _ (I.hok.fresh (aI _))⟩
end
section
variable{X:Cx}
theorem akj:OpR X (compareOp .Is) (λx y H Q=>∃i j,x=.bl i/\y=.bl j/\Q (.bl (i == j)) H):=by
 intro aA s σ H x y v u Q I rx ry h
 obtain⟨i,j,rfl,rfl,q⟩:=h;cases rx
 cases ry
 exact is_bool (a5i I q rfl)
theorem abx:OpR X (compareOp .IsNot) (λx y H Q=>∃i j,x=.bl i/\y=.bl j/\Q (.bl (i != j)) H):=by
 intro aA s σ H x y v u Q I rx ry h
 obtain⟨i,j,rfl,rfl,q⟩:=h;cases rx
 cases ry
 exact isnot_bool (a5i I q rfl)
theorem a6r:OpR X (compareOp .LtE) (λx y H Q=>∃i j,x=.str i/\y=.str j/\Q (.bl (!decide (j.cps.toList<i.cps.toList))) H):=by
 intro aA s σ H x y v u Q I rx ry h
 obtain⟨i,j,rfl,rfl,q⟩:=h;obtain⟨t,rfl⟩:=rx;obtain⟨t',rfl⟩:=ry;exact PySem.P.le_str (a5i I q rfl)
def a6s{α:Type}(xs:List α)(lo hi:Option Int):List α:=(xs.drop (HT.sIx xs.length 0 lo)).take (HT.sIx xs.length xs.length hi-HT.sIx xs.length 0 lo)
def ayd:V->Option Int->Option Int->Hp->VK->Prop:=λx lo hi H Q=>∃z,x=.str z/\z.length<=sizeLine/\Q (.str ⟨(a6s z.cps.toList lo hi).toArray⟩) H
theorem atv(lo hi:Option Int)(n:Nat):Builtin.Str.strSliceIndices lo hi 1 n=(List.range (HT.sIx n n hi-HT.sIx n 0 lo)).map λk=>HT.sIx n 0 lo+k:=by
 have e1:Builtin.Str.strSliceIndices lo hi 1 n=sliceRange ((HT.sIx n 0 lo:Nat):Int) ((HT.sIx n n hi:Nat):Int) 1:=by
  unfold Builtin.Str.strSliceIndices;dsimp only
  congr 1
  ·cases lo with
   |none=>simp[HT.sIx]
   |some i=>simp only[HT.sIx,show(1:Int) > 0 by decide,dR];split<;>omega
  ·cases hi with
   |none=>simp[HT.sIx]
   |some i=>simp only[HT.sIx,show(1:Int) > 0 by decide,dR];split<;>omega
 rw[e1];exact sliceRange_one _ _
theorem atw{α:Type}(xs:List α)(a:Nat):∀k,a+k<=xs.length->((List.range k).map λj=>a+j).filterMap (xs[·]?)=(xs.drop a).take k
 |0,_=>by simp
 |k+1,h=>by
  rw[dM,bA,List.filterMap_append,atw xs a k (by omega)]
  have hk:a+k<xs.length:=by omega
  rw[List.take_succ]
  congr 1
  simp[eQ,hk]
theorem atx:SlR X ayd:=by
 intro aA s σ H x v vl vu lo hi sl Q I rx hs pl pu h
 obtain⟨z,rfl,hz,q⟩:=h;obtain⟨t,rfl⟩:=rx;refine⟨"str",_,fA.lookup,gA s z t,?_⟩;have hl:z.cps.toList.length=z.length:=by simp[Str.length]
 have fin:∀(l u:Option (Int×Tok)),vl=partValue l->vu=partValue u->l.map (·.1)=lo->u.map (·.1)=hi->wpAny (model X.prog X.w) X.A (getItem (.str z t) (.ref sl)) (EP X aA σ Q) X.xe s:=by
  intro l u e1 e2 e3 e4
  subst e1 e2;refine wpAny_getItem_str_slice (l:=l) (u:=u) (st:=none) hs rfl ?_;have hp:slicePicked z l u none=(List.range (HT.sIx z.length z.length hi-HT.sIx z.length 0 lo)).map λk=>HT.sIx z.length 0 lo+k:=by
   unfold slicePicked;rw[e3,e4];exact atv lo hi z.length
  have hb1:HT.sIx z.length z.length hi<=z.length:=HT.agf _ _ (aI _) _;have hb2:HT.sIx z.length 0 lo<=z.length:=HT.agf _ _ (bq _) _;unfold sliceMade
  split
  ·rename_i c;simp only[bV,hR]at c;obtain⟨_,c⟩:=c;rw[hp,ai,aX]at c;have e:(⟨(a6s z.cps.toList lo hi).toArray⟩:Str)=z:=by
    unfold a6s;rw[hl];have z1:HT.sIx z.length 0 lo=0:=by omega
    have z2:HT.sIx z.length z.length hi=z.length:=by omega
    rw[z1,z2,gT,Nat.sub_zero,bM (by omega)]
   rw[e]at q;exact⟨.str z,H,I,⟨_,rfl⟩,q⟩
  ·have e:(⟨(a6s z.cps.toList lo hi).toArray⟩:Str)=⟨((slicePicked z l u none).filterMap (z.cps[·]?)).toArray⟩:=by
    rw[hp];unfold a6s;rw[hl]
    by_cases hc:HT.sIx z.length 0 lo<=HT.sIx z.length z.length hi
    ·rw[<-atw z.cps.toList _ _ (by omega)]
     simp only[Array.getElem?_toList]
    ·rw[show HT.sIx z.length z.length hi-HT.sIx z.length 0 lo=0 by omega]
     simp
   rw[e]at q;refine⟨?_,.str _,H,I.tok _,⟨_,rfl⟩,q⟩;rw[<-e];show(a6s z.cps.toList lo hi).toArray.size<=sizeLine;rw[ax];unfold a6s;rw[aT,bb,hl];omega
 cases pl with
 |none=>cases pu with
  |none=>exact fin none none rfl rfl rfl rfl
  |int j t'=>exact fin none (some (j,t')) rfl rfl rfl rfl
 |int i t'=>cases pu with
  |none=>exact fin (some (i,t')) none rfl rfl rfl rfl
  |int j t''=>exact fin (some (i,t')) (some (j,t'')) rfl rfl rfl rfl
theorem jm:CallR X (.builtin "isinstance") (λxs H Q=>∃x T t b,xs=[x,.ty T]/\TyOf X.K H x t/\PySem.W.kitOne X.K t (.type T)=some b/\Q (.bl b) H):=by
 intro aA s σ H xs us Q I r h
 obtain⟨x,T,t,b,rfl,ty,e,q⟩:=h;obtain⟨u,w',rfl,rx,rt⟩:=vals2 r;cases rt
 exact agc I rx ty e λtk=>⟨.bl b,H,I.tok tk,rfl,q⟩
theorem aac(bs:List Bool):((List.range bs.length).all λi=>(bs[i]?).getD true)=bs.all id:=by
 have e:(List.range bs.length).map (λi=>(bs[i]?).getD true)=bs:=by
  apply List.ext_getElem (by simp)
  intro i h1 h2
  simp[h2]
 have f:((List.range bs.length).map λi=>(bs[i]?).getD true).all id=bs.all id:=by rw[e]
 rw[<-f,fY];rfl
theorem a6t(hc:X.calm=true):CallR X (.builtin "all") (λxs H Q=>∃(p:Addr) (bs:List Bool),xs=[.ref p]/\SqL X.K H p (bs.map V.bl)/\Q (.bl (bs.all id)) H):=by
 intro aA s σ H xs us Q I r h
 obtain⟨p,bs,rfl,hq,q⟩:=h;obtain⟨u,rfl,rx⟩:=vals1 r;cases rx
 obtain⟨its,r',pl,hz⟩:=I.list hq;have hl:=r'.length;rw[ai]at hl;have hlt:p<s.heap.objs.size:=by obtain⟨_,e,_⟩:=pl.isList;exact aV e
 refine call_all_walk (g9 pl.isList ?_);refine⟨s.heap.objs.size,[s.heap.objs.size,p],[s.heap.objs.size],its.toArray.size,_,_,λi=>(bs[i]?).getD true,rfl,Walks.list (A:=X.A.in1) (I.ok.hd hc) _ p (bR hlt) its.toArray,
  ⟨⟨_,aW _ rfl,rfl,rfl⟩,pl.isList.push _⟩,λi v s' Q' E' hP hQ=>?_,λh' tk hk=>?_⟩
 ·have hP':its[i]? = some v:=by simpa using hP
  have hi:i<bs.length:=by
   have:=(af.mp hP').1
   omega
  obtain⟨u,e,ru⟩:=r'.get (i:=i) (x:=.bl bs[i]) (by simp[hi])
  rw[hP']at e;cases e
  cases ru
  simp only[ae hi,dU]at hQ;exact cT hQ
 ·have e:((List.range its.toArray.size).all λi=>(bs[i]?).getD true)=bs.all id:=by
   rw[ax,<-hl];exact aac bs
  rw[e];exact⟨.bl _,H,I.kept λb x e=>hk b x (λhm=>by rw[aw.mp hm]at e;exact cM _ (aV e)) (ag _ e),rfl,q⟩
def a1n(x:Str):List V:=x.cps.toList.map λc=>V.str ⟨#[c]⟩
theorem af1(h:ItemsOf (SignAt x) acc x.cps.size):Vals (a1n x) acc.toList:=by
 obtain⟨hs,ha⟩:=h;have key:∀(cs:List Nat) (us:List Value),us.length=cs.length->(∀(j:Nat) (v:Value),us[j]? = some v->∃c u,cs[j]? = some c/\v=.str ⟨#[c]⟩ u)->Vals (cs.map λc=>V.str ⟨#[c]⟩) us:=by
  intro cs
  induction cs with
  |nil=>intro us hl _;cases us with|nil=>exact .nil|cons _ _=>simp at hl
  |cons c cs ih =>
   intro us hl hp
   cases us with
   |nil=>simp at hl
   |cons u us =>
    refine .cons ?_ (ih us (by simpa using hl) λj v e=>hp (j+1) v (by simpa using e))
    obtain⟨c',t,e1,e2⟩:=hp 0 u rfl;simp at e1;subst e1;exact⟨t,e2⟩
 refine key _ _ (by simp[hs]) λj v e=>?_
 obtain⟨c,u,e1,e2⟩:=ha j v (by simpa using e)
 exact⟨c,u,by simpa using e1,e2⟩
theorem rz(hc:X.calm=true):CallR X (.type "tuple") (λxs H Q=>∃z,xs=[.str z]/\z.length<=sizeLine/\∀l,H l=none->Q (.ref l) (upd H l (.tup (a1n z)))):=by
 intro aA s σ H xs us Q I r h
 obtain⟨z,rfl,hz,q⟩:=h;obtain⟨u,rfl,t,rfl⟩:=vals1 r;refine PySem.call_tuple_str (I.ok.hd hc) z t (λh' tk acc kp hi=>?_) (by simpa[Str.length] using hz)
 have I1:Inv X aA σ H {s with heap:=h',toks:=tk}:=I.kept kp
 have I2:Inv X aA σ (upd H h'.objs.size (.tup (a1n z))) {s with heap:=h'.push {cls:=.type "tuple",data:=.seq acc},toks:=tk} :=
  I1.laid (t':=tk) (λb o e=>ag _ e) (aI _) (show ObjOk X.prog X.w _ _ _ (.tup (a1n z)) from ⟨by simpa[a1n,Str.length] using hz,acc.toList,af1 hi,by simpa using IsTup.new h' acc⟩)
 exact⟨.ref h'.objs.size,_,I2,rfl,q _ (I1.hok.fresh (aI _))⟩
end
def Its(x:Str):It:=⟨λi _=>i<x.cps.size,λi H v H'=>H'=H/\∃c,x.cps.toList[i]? = some c/\v=.str ⟨#[c]⟩,λi _=>i=x.cps.size⟩
theorem ad8{P:Program}{w:World}{K:Fg}{tg:Expr}(it:Addr)(x:Str)(t:Tok)(ty:String)
  (hty:["enumerate", "zip", "dict_itemiterator", "dict_reverseitemiterator", "odict_iterator", "itertools.zip_longest", "itertools.pairwise"].contains ty=false)
  (W:∀A':Around,A'.handled=none->Walks P w A' it [it] [it] x.cps.size (SignAt x) (λi h=>h.IsStrIter it ty x t i))
  (slf:∀(A:Around) (i:Nat) (s:Shared) (Q:Value->Shared->Prop) (E:Value->Shared->Prop),s.heap.IsStrIter it ty x t i->Q (.ref it) s->wpAny (model P w) A (pyIter (.ref it)) Q E s) :
  Turn P w K tg (Its x) [it] it (λi h=>h.IsStrIter it ty x t i) where
 mem:=by simp
 obj:=λi h st b hb=>by
  have e:b=it:=by simpa using hb
  subst e;obtain⟨o,e,c,d⟩:=st;exact⟨o,e,λv z=>by rw[d]at z;cases z⟩
 keep:=λi h h' st k=>by
  obtain⟨o,e,c,d⟩:=st;exact⟨o,k it (by simp) o e,c,d⟩
 item:=by
  intro X hP hw hK hc i aA s σ H E I hf st hg
  subst hP hw hK;obtain⟨f0,f1,f2,f3,f4,f5⟩:=hf it (by simp)
  refine(W X.A (I.ok.hd hc)).item i s _ _ hg st λv h' tk hv st' kk=>?_;obtain⟨c,u,hx,rfl⟩:=hv;have I1:Inv X aA σ H {s with heap:=h',toks:=tk}:=I.turned (λb o hb e=>kk b o (by simpa using hb) e) f0 f1 f3 f4 f5
  obtain⟨o,e,oc,d⟩:=id st';exact⟨_,rfl,ak6 (s:={s with heap:=h',toks:=tk}) e oc d hty ⟨.str ⟨#[c]⟩,H,I1,⟨_,rfl⟩,⟨rfl,c,by simpa using hx,rfl⟩,st',λb hb=>(hf b hb).1⟩⟩
 done:=by
  intro X hP hw hK hc i aA s σ H E I hf st hg
  subst hP hw hK;obtain⟨f0,f1,f2,f3,f4,f5⟩:=hf it (by simp)
  have hg':i=x.cps.size:=hg;subst hg';exact(W X.A (I.ok.hd hc)).done s _ _ st λh' tk eb=>⟨rfl,I.turned (λb o hb e=>eb b o (by simpa using hb) e) f0 f1 f3 f4 f5⟩
 self:=slf
section
variable{X:Cx}{tg:Expr}
def b0t(tl:TE):TI:=λσ H R=>tl σ H λx H1=>∃z,x=.str z/\R (Its z) H1
theorem anc{l:Expr}{tl:TE}(hl:PE X l tl):PI X tg l (b0t tl):=by
 intro aA s σ H R I h
 refine thn (hl aA s σ H _ I h) ?_
 rintro v s1 ⟨x,H1,I1,r1,q1⟩
 obtain⟨z,e,q⟩:=q1;subst e;obtain⟨t,rfl⟩:=r1;have fp:∀b∈[s1.heap.objs.size],aa3 X aA H1 b:=λb hb=>by
  have e:b=s1.heap.objs.size:=by simpa using hb
  subst e;exact I1.fpOk (aI _) (I1.hok.fresh (aI _))
 cases ha:z.cps.all (· < 128)
 ·exact wpAny_pyIter_wide ha ⟨s1.heap.objs.size,[s1.heap.objs.size],_,_,H1,rfl,I1.kept (t':=s1.toks) λb o e=>ag _ e,
   ad8 _ z t "str_iterator" (by decide) (λA' hA=>Walks.strWide hA _ z t) (λ_ _ _ _ _ st h=>wpAny_pyIter_striter_wide st h),⟨_,aW _ rfl,rfl,rfl⟩,fp,q⟩
 ·exact wpAny_pyIter_ascii ha ⟨s1.heap.objs.size,[s1.heap.objs.size],_,_,H1,rfl,I1.kept (t':=s1.toks) λb o e=>ag _ e,
   ad8 _ z t "str_ascii_iterator" (by decide) (λA' hA=>Walks.strAscii hA _ z t) (λ_ _ _ _ _ st h=>wpAny_pyIter_striter_ascii st h),⟨_,aW _ rfl,rfl,rfl⟩,fp,q⟩
end
def cxC(X:Cx)(N:List Str)(aB:Scope)(cl:List (Str×Addr))(C:Addr)(fp:List Addr)(s:Shared)(H:Hp):Cx where
 prog:=X.prog
 w:=X.w
 K:=X.K
 mg:=X.mg
 base:=X.base
 A:=X.A
 N:=N
 s₀:=s
 H₀:=H
 env:=compEnvC aB cl C X.env
 outer:=X.stack
 stack:=X.stack
 ex:=fp
 fn:=λ_=>false
 calm:=X.calm
 pn:=[]
 xe:=λ_ _=>False
structure CSc (X:Cx) (aB:Scope) (cl:List (Str×Addr)) (ts fr:List Str) (ix:List Nat):Prop where
 clos:closureFor aB X.env=pure cl
 kind:aB.kind=.function
 nocell:∀y∈aB.names,y.2≠.cell
 names:∀y∈aB.names,y.2=.local->aB.names.lookup y.1=some .local
 sub:∀y c,cl.lookup y=some c->X.env.cells.lookup y=some c
 has:∀y,((relabel aB X.env).names.lookup y=some .cell\/(relabel aB X.env).names.lookup y=some .free)->∃c,cl.lookup y=some c
 nofn:∀y∈ts,(relabel aB X.env).names.lookup y=some .local
 len:ix.length=fr.length
 vis:∀(j:Nat) (y:Str),fr[j]? = some y->∃i:Nat,ix[j]? = some i/\X.N[i]? = some y/\(X.env.kindOf y=some .cell\/X.env.kindOf y=some .free)/\((relabel aB X.env).names.lookup y=some .cell\/(relabel aB X.env).names.lookup y=some .free)
def Ext(a b:St):Prop:=b.length=a.length/\∀(i:Nat) v,a[i]? = some (some v)->b[i]? = some (some v)
def zb(nt:Nat)(ix:List Nat)(σ:St):St:=List.replicate nt none++ix.map λi=>(σ[i]?).join
def apf(J:It)(s0:St)(g:TG)(te:TE)(Q:VK)(H1:Hp):Prop:=∃W:Nat->Nat->List V->Hp->Prop,(∃m,W 0 m [] H1)/\∀i m ys H,W i m ys H->
 (J.stop i H/\∀p,H p=none->Q (.ref p) (upd H p (.lst ys))) \/
 (J.go i H/\ys.length<sizeLine/\∀x H',J.yld i H x H'->g x s0 H' λσ2 H2=>Ext s0 σ2/\te σ2 H2 λy H3=>∃m',m'<m/\W (i+1) m' (ys++[y]) H3)
def agm(wi:TI)(s0:St->St)(g:TG)(te:TE):TE:=λσ H Q=>wi σ H λJ H1=>apf J (s0 σ) g te Q H1
def aby(J:It)(s0:St)(g:TG)(tc:TT)(te:TE)(Q:VK)(H1:Hp):Prop:=∃W:Nat->Nat->List V->Hp->Prop,(∃m,W 0 m [] H1)/\∀i m ys H,W i m ys H->
 (J.stop i H/\∀p,H p=none->Q (.ref p) (upd H p (.lst ys))) \/
 (J.go i H/\ys.length<sizeLine/\∀x H',J.yld i H x H'->g x s0 H' λσ2 H2=>Ext s0 σ2/\tc σ2 H2 λok H2'=>if ok=true then te σ2 H2' (λy H3=>∃m',m'<m/\W (i+1) m' (ys++[y]) H3) else ∃m',m'<m/\W (i+1) m' ys H2')
def a4v(wi:TI)(s0:St->St)(g:TG)(tc:TT)(te:TE):TE:=λσ H Q=>wi σ H λJ H1=>aby J (s0 σ) g tc te Q H1
theorem a6u(aD target aE cnd:Expr)(aB:Scope)(pos:Pos)(it acc:Value)(env:Env) :
  compTurn (.ListComp aD [⟨target,aE,[cnd],0⟩] aB pos) 0 it acc env=(standAt aE.pos>>=λ_=>pyNext it>>=λr=>match r with
   |none=>pure (.done .next)
   |some v=>letOwnedTupleGo target it v>>=λ_=>assign target env v>>=λ_=>isTrue cnd env (eval cnd env)>>=λok =>
    (if ok=true then (eval aD env>>=λx=>call (.builtin "list.append") [acc,x]>>=λ_=>pure ()) else pure ())>>=λ_ =>
     again (.compLoop (.ListComp aD [⟨target,aE,[cnd],0⟩] aB pos) 0 it acc env)):=by
 first
  |rfl
  |(unfold compTurn;simp only[gG];rfl)
  | (show(standAt aE.pos>>=λ_=>pyNext it>>=λr=>_)=_
     congr 1;funext _;congr 1;funext r
     cases r with
     |none=>rfl
     |some v =>
      show(letOwnedTupleGo target it v>>=λ_=>assign target env v>>=λ_=>_)=(letOwnedTupleGo target it v>>=λ_=>assign target env v>>=λ_=>_)
      congr 1;funext _;congr 1;funext _
      simp
      congr 1;funext ok
      cases ok with
      |false=>rw[bE br,bE br,pure_bind]
      |true =>
       rw[aO rfl,aO rfl,bind_assoc]
       congr 1;funext x
       rw[map_eq_pure_bind,bind_assoc]
       congr 1)
def runC(cnd:Option Expr)(env:Env):Sem Bool:=match cnd with
 |none=>pure true
 |some c=>isTrue c env (eval c env)
def PTO(X:Cx)(cnd:Option Expr)(t:TT):Prop :=
 ∀(aA:List (Addr×Obj)) (s:Shared) (σ:St) (H:Hp) (Q:Bool->Hp->Prop),Inv X aA σ H s->t σ H Q->wpAny (model X.prog X.w) X.A (runC cnd X.env) (TP X aA σ Q) X.xe s
theorem a7g(aD target aE:Expr)(cnd:Option Expr)(aB:Scope)(pos:Pos)(it acc:Value)(env:Env) :
  compTurn (.ListComp aD [⟨target,aE,cnd.toList,0⟩] aB pos) 0 it acc env=(standAt aE.pos>>=λ_=>pyNext it>>=λr=>match r with
   |none=>pure (.done .next)
   |some v=>letOwnedTupleGo target it v>>=λ_=>assign target env v>>=λ_=>runC cnd env>>=λok =>
    (if ok=true then (eval aD env>>=λx=>call (.builtin "list.append") [acc,x]>>=λ_=>pure ()) else pure ())>>=λ_ =>
     again (.compLoop (.ListComp aD [⟨target,aE,cnd.toList,0⟩] aB pos) 0 it acc env)):=by
 cases cnd with
 |some c=>exact a6u ..
 |none =>
  rw[show(none:Option Expr).toList=[] from rfl,compTurn_list1]
  congr 1
theorem agn{cnd:Option Expr}{E:Value->Shared->Prop}(no:∀v s,E v s->False)(J:Nat->Shared->Prop)
  (step:∀m z,J m z->wpAny (model prog w) A (pyNext it) (λgot z1=>match got with
   |none=>R (.ok .next) z1
   |some v=>wpAny (model prog w) A (letOwnedTupleGo target it v) (λ_ z2=>wpAny (model prog w) A (assign target env v) (λ_ z3=>wpAny (model prog w) A (runC cnd env) (λok z3'=>if ok=true then wpAny (model prog w) A (eval aD env) (λx z4 =>
     wpAny (model prog w) A (call (.builtin "list.append") [acc,x]) (λ_ z5=>∃m',m'<m/\J m' z5) E z4)
     E z3' else ∃m',m'<m/\J m' z3') E z3) E z2) E z1) E z)
  (m:Nat) (j0:J m s):codeAny (model prog w) A (.compLoop (.ListComp aD [⟨target,aE,cnd.toList,0⟩] aB pos) 0 it acc env) R s:=by
 refine codeAny_loop rfl J (λm z hj=>(wpAny_noted ?_:wpAny _ _ ((compTurn (.ListComp aD [⟨target,aE,cnd.toList,0⟩] aB pos) 0 it acc env).onRaise _) _ _ z)) m j0;rw[a7g];refine ar (gC (ar (cH (step m z hj) (λgot z1 h1=>?_) λ_ _ e=>(no _ _ e).elim)))
 match got,h1 with
 |none,h1=>exact aS h1
 |some v,h1 =>
  refine ar (cH h1 (λ_ z2 h2=>ar (cH h2 (λ_ z3 h3=>ar (cH h3 (λok z3' h3'=>?_) λ_ _ e=>(no _ _ e).elim)) λ_ _ e=>(no _ _ e).elim)) λ_ _ e=>(no _ _ e).elim)
  match ok,h3' with
  |true,h3' =>
   rw[aO rfl]at h3';refine ar (ar (cH h3' (λx z4 h4=>?_) λ_ _ e=>(no _ _ e).elim));exact ar (cH h4 (λ_ z5 h5=>aS (aS ⟨rfl,h5⟩)) λ_ _ e=>(no _ _ e).elim)
  |false,h3' =>
   rw[bE br]at h3';exact ar (aS (aS ⟨rfl,h3'⟩))
section
variable{X:Cx}
theorem ago(S:CSc X aB cl ts fr ix)(I:Inv X aA σ H s)
  (hf:∀b∈fp,aa3 X aA H b) (hb:∀b∈fp,b<s.heap.objs.size) (hC:s.heap.objs.size<=C):(cxC X (ts++fr) aB cl C fp s H).Ok where
 mod:=I.ok.mod
 kind:=S.kind
 glob:=I.ok.glob
 blt:=I.ok.blt
 above:=hC
 inj:=λx y c h1 h2=>I.ok.inj x y c (S.sub x c h1) (S.sub y c h2)
 has:=S.has
 cab:=λ_ _ z=>nomatch z
 hd:=I.ok.hd
 frames:=I.ok.frames
 stk:=.inl rfl
 exf:=λb hb'=>⟨bR (aZ (hb b hb') hC),λx c e=>(hf b hb').2.2.2.2.1 x c (S.sub x c e)⟩
 bs:=λb o e=>I.bs b o e
 bsz:=bX I.ok.bsz I.sz
 noex:=λb o e hb'=>by
  rcases(hf b hb').2.2.2.1 with z|z
  ·exact I.ok.noex b o e z
  ·exact absurd (aZ (aV e) (bX I.ok.bsz z)) (cM _)
 exfs:=λb hb' z=>by
  rcases aR.mp (I.stkSub b z) with e|e
  ·exact(hf b hb').2.1 e
  ·exact(hf b hb').2.2.1 e
 funs:=I.stack
 frf:=λb hb'=>I.stkFree b hb'
theorem af2:(zb nt ix σ).length=nt+ix.length:=by
 unfold zb;rw[ah,e8,ai]
theorem apg{s4:Shared}(S:CSc X aB cl ts fr ix)(I:Inv X aA σ H s)
  (hf:∀b∈fp,aa3 X aA H b) (hb:∀b∈fp,b<s.heap.objs.size) (hC:s.heap.objs.size<=C)
  (k:∀b o,s.heap.get? b=some o->s4.heap.get? b=some o) (hn:s4.heap.Ns C m) (ho:s4.os=s.os) (hg:s4.gens=s.gens) :
  Inv (cxC X (ts++fr) aB cl C fp s H) [] (zb ts.length ix σ) H s4 where
 ok:=ago S I hf hb hC
 os:=ho
 bare:=by rw[hg];exact I.bare
 base:=Un.kept k
 loc:=by
  refine⟨m,hn,λi x v e1 e2 e3=>?_⟩;have e1:(ts++fr)[i]? = some x:=e1
  by_cases hi:i<ts.length
  ·unfold zb at e2;rw[aJ (by simpa using hi),dQ,aO hi]at e2
   cases e2
  ·rw[aL (by omega)]at e1
   unfold zb at e2;rw[aL (by simpa using hi),e8,aM]at e2
   obtain⟨j,h1,h2,h3,h4⟩:=S.vis _ x e1;rw[h1]at e2;have e2':(σ[j]?).join=some v:=bO e2;have e5:σ[j]? = some (some v):=by
    cases q:σ[j]? with
    |none=>rw[q]at e2';cases e2'
    |some o=>rw[q]at e2';simp at e2';rw[e2']
   obtain⟨m0,_,hl⟩:=I.loc;have vis:Vis X.env.scope x:=h3.elim (λz=>.inr (.inl z)) λz=>.inr (.inr z);obtain⟨u,ru,l⟩:=hl j x v h2 e5 vis;refine⟨u,ru,?_⟩
   rcases l with⟨z,_⟩|⟨_,c,hc,hcell⟩
   ·rcases h3 with h3|h3<;>rw[h3]at z<;>cases z
   ·obtain⟨c',hc'⟩:=S.has x h4;have e6:c'=c:=bO ((S.sub x c' hc').symm.trans hc);subst e6;obtain⟨o,ho,hd⟩:=hcell;exact .inr ⟨h4,c',hc',o,k _ _ ho,hd⟩
 cell:=λx c e=>by
  obtain⟨v,o,ho,hd⟩:=I.cell x c (S.sub x c e);exact⟨v,o,k _ _ ho,hd⟩
 free:=I.hok.fresh hC
 freeC:=λx c e=>I.freeC x c (S.sub x c e)
 pin:=λp hp=>absurd (show p∈([]:List (Addr×Obj)) from hp) (by simp)
 hok:=I.hok.kept k
 len:=by
  rw[af2];show _=(ts++fr).length;rw[ah,S.len]
theorem Inv.unpinned'(I:Inv X aA σ H s):Inv X [] σ H s:=I.pins_of λ_ hp=>nomatch hp
theorem comp_back{its:List Value}(I:Inv X aA σ H s)
  (hf:∀b∈fp,aa3 X aA H b) (hC:s.heap.objs.size<=C) (hacc:s.heap.objs.size<=acc) (hCa:C≠acc)
  (J:Inv (cxC X N aB cl C fp s H) [] σ' H' s') (hn:H' acc=none) (ha:s'.heap.get? acc=some {cls:=.type "list",data:=.seq its.toArray n}) (rv:Vals ys its) (hz:ys.length<=sizeLine) (sb:Heap.SameBut C s'.heap h') :
  Inv X aA σ (upd H' acc (.lst ys)) {s' with heap:=h' }:=by
 have k:∀b o,b≠C->s'.heap.get? b=some o->h'.get? b=some o:=λb o hb e=>sb.extBut b o hb e;have old:∀b o,s.heap.get? b=some o->b≠C/\b≠acc:=λb o e=>⟨bR (aZ (aV e) hC),bR (aZ (aV e) hacc)⟩;have u0:Un (frs X.stack) fp H H' s.heap s'.heap:=J.base;have fC:H' C=none:=J.free;have u:Un (frs X.stack) fp H (upd H' acc (.lst ys)) s.heap h':=by
  refine⟨λb o e n' hb hx=>k b o (old b o e).1 (u0.keep b o e n' hb hx),λb o e n' hb hx=>?_,λb o e n' hx=>?_,λb o e hx=>?_,λb xs e=>?_,λb o v e=>?_,λb ps e=>?_⟩
  ·obtain⟨sl,e1⟩:=u0.slot b o e n' hb hx;exact⟨sl,k b _ (old b o e).1 e1⟩
  ·rw[jg (old b o e).2];exact u0.free b o e n' hx
  ·obtain⟨o',e1⟩:=u0.there b o e hx;exact⟨o',k b _ (old b o e).1 e1⟩
  ·rw[jg (j8 (u0.tups b xs e) hn)];exact u0.tups b xs e
  ·rw[jg (j8 (u0.frzs b o v e) hn)];exact u0.frzs b o v e
  ·obtain⟨more,e1⟩:=u0.tbls b ps e;exact⟨more,by rw[jg (j8 e1 hn)];exact e1⟩
 have hok:HOk X.prog X.w (upd H' acc (.lst ys)) h':=λb o e=>by
  by_cases hb:b=acc
  ·subst hb;rw[qp]at e;cases e
   exact⟨hz,its,n,rv,k _ _ (g7 hCa) ha⟩
  ·rw[jg hb]at e;refine(J.hok b o e).stay (λc v hc q=>k c v ?_ q) (λc q=>by rw[jg (j8 q hn)];exact q) λc xs q=>by rw[jg (j8 q hn)];exact q
   rcases hc with z|z
   ·rw[z];exact j8 e fC
   ·exact j8 z fC
 have J':=I.call (g':=s'.gens) (t':=s'.toks) (d':=s'.drawn) (ch:=fp) u hok J.bare λb hb=>⟨(hf b hb).2.2.2.1,(hf b hb).2.1,(hf b hb).2.2.2.2.1,(hf b hb).2.2.2.2.2⟩;have eo:s'.os=s.os:=J.os;obtain⟨hp,g,d,t,o⟩:=s';have eo':o=s.os:=eo;subst eo';exact J'
def a6v(X:Cx)(aA:List (Addr×Obj))(σ:St)(use:Option (Value->Sem Unit))(Q:VK)(Qf:Value->Shared->Prop):Prop :=
 ∀(acc C:Addr) (s6:Shared) (H6:Hp) (m6:Str->Option Value),s6.heap.Ns C m6->aa3 X aA H6 C->(∀h',Heap.SameBut C s6.heap h'->Inv X aA σ H6 {s6 with heap:=h' })->Q (.ref acc) H6->
  compPost (model X.prog X.w) X.A X.xe use Qf (.ref acc) C (.ok .next) s6
theorem ad9:a6v X aA σ none Q (EP X aA σ Q):=λacc C s6 H6 m6 hn _ k q=>⟨m6,hn,λh' sb=>⟨.ref acc,H6,k h' sb,rfl,q⟩⟩
theorem ada{D:Ends}(hN:X.N.Nodup)(hi:X.N[i]? = some x)(hx:Loc X.env.scope x)(hf:X.fn x=true\/X.env.scope.names.lookup x=some .local) :
  a6v X aA σ (some (assign (.Name x pos') X.env)) (λv H1=>a7f i v σ H1 D.nx) (λ_ s'=>SP X aA D .next s'):=by
 intro acc C s6 H6 m6 hn fp k q
 obtain⟨f1,f2,f3,f4,f5,f6⟩:=fp;have I6:Inv X aA σ H6 s6:=k s6.heap (Heap.SameBut.refl _ _);refine wpAny_assign_Name (aa2 (v:=.ref acc) I6 hN hi hx rfl (λs' I' ⟨a,sb,ha⟩=>⟨m6,hn.sameBut sb ?_,λh' sb'=>⟨_,H6,I'.turned (t':=s'.toks) (it:=C) (λb o hb e=>sb'.extBut b o hb e) f1 f2 f4 f5 f6,q⟩⟩) hf)
 rcases ha with ha|ha
 ·rw[ha];exact f2
 ·exact λz=>f5 x a ha z.symm
theorem agp{Y:Cx}{cnd:Option Expr}{N it:Addr}{fp:List Addr}{tn:Nat->Heap->Prop}{J:It}{σ0:St}{H2:Hp}{s4:Shared}{W:Nat->Nat->List V->Hp->Prop}{Q:VK}(hc:Y.calm=true)(no:∀v s,Y.xe v s->False)(hp0:Y.pn=[])(T:Turn Y.prog Y.w Y.K tg J fp it tn)
  (stat:∀{H':Hp},(∀b∈fp,H' b=none)->∀b∈fp,aa3 Y [] H' b) (statA:∀{H':Hp},H' N=none->aa3 Y [] H' N) (accF:N∉fp) (hg:PG Y tg g) (he:PE Y aD te) (ht:PTO Y cnd tc)
  (turn:∀i m ys H,W i m ys H->(J.stop i H/\∀p,H p=none->Q (.ref p) (upd H p (.lst ys)))\/(J.go i H/\ys.length<sizeLine/\∀x H',J.yld i H x H'->g x σ0 H' λσ2 H2=>Ext σ0 σ2/\tc σ2 H2 λok H2'=>if ok=true then te σ2 H2' (λy H3=>∃m',m'<m/\W (i+1) m' (ys++[y]) H3) else ∃m',m'<m/\W (i+1) m' ys H2'))
  (w0:W 0 m0 [] H2) (K0:Inv Y [] σ0 H2 s4) (st4:tn 0 s4.heap) (f0:∀b∈fp,H2 b=none) (fa:H2 N=none) (hacc:s4.heap.get? N=some {cls:=.type "list",data:=.seq ([]:List Value).toArray 0})
  (fin:∀s6 H6 ys its k,Inv Y [(N,{cls:=.type "list",data:=.seq its.toArray k})] σ0 H6 s6->H6 N=none->Vals ys its->ys.length<=sizeLine->(∀p,H6 p=none->Q (.ref p) (upd H6 p (.lst ys)))->R (.ok .next) s6) :
  codeAny (model Y.prog Y.w) Y.A (.compLoop (.ListComp aD [⟨tg,aE,cnd.toList,0⟩] aB pos) 0 (.ref it) (.ref N) Y.env) R s4:=by
 refine agn no (λn s'=>∃i σ' H' ys its k,Inv Y [] σ' H' s'/\Ext σ0 σ'/\tn i s'.heap/\(∀b∈fp,H' b=none)/\H' N=none /\
  s'.heap.get? N=some {cls:=.type "list",data:=.seq its.toArray k}/\Vals ys its/\ys.length<=sizeLine/\W i n ys H') ?_ m0
  ⟨0,_,H2,[],[],0,K0,⟨rfl,λ_ _ z=>z⟩,st4,f0,fa,hacc,.nil,bq _,w0⟩
 rintro n s5 ⟨i,σ5,H5,ys,its,k5,I5,x5,st5,fr5,fa5,ac5,rv5,hz5,w5⟩
 have I5':Inv Y [] σ0 H5 s5:=I5.weak x5.1.symm x5.2;obtain⟨ob,hob⟩:∃ob:Obj,ob={cls:=.type "list",data:=.seq its.toArray k5}:=⟨_,rfl⟩;rw[<-hob]at ac5;have IP:Inv Y [(N,ob)] σ0 H5 s5:=I5'.pins_of λp hp=>by
  rw[aw.mp hp];obtain⟨a0,a1,a2,_⟩:=statA fa5;exact⟨ac5,a0,a1,a2,λv z=>by rw[hob]at z;cases z⟩
 have FB:∀b∈fp,aa3 Y [(N,ob)] H5 b:=λb hb=>by
  obtain⟨b0,b1,b2,b3,b4,b5⟩:=stat fr5 b hb;refine⟨b0,b1,b2,b3,b4,λp hp=>?_⟩;rw[hp0]at hp;rw[aw.mp hp];exact λz=>accF (by have z':N=b:=z;rw[z'];exact hb)
 rcases turn i n ys H5 w5 with⟨stop,qn⟩|⟨go,hlt,step⟩
 ·refine thn (T.done Y rfl rfl rfl hc i [(N,ob)] s5 _ H5 _ IP FB st5 stop) ?_
  rintro r s6 ⟨hr,I6⟩
  subst hr;rw[hob]at I6;exact fin s6 H5 ys its k5 I6 fa5 rv5 hz5 qn
 ·refine thn (T.item Y rfl rfl rfl hc i [(N,ob)] s5 _ H5 _ IP FB st5 go) ?_
  rintro r s6 ⟨u,hr,h6⟩
  subst hr;refine thn h6 ?_
  rintro _ s7 ⟨x,H7,I7,r7,y7,st7,fr7⟩
  obtain⟨ac7,fa7,_⟩:=I7.pin (N,ob) (by simp)
  have I7':Inv Y (a6j (N::fp) s7.heap) σ0 H7 s7:=by
   show Inv Y ([]++a6j (N::fp) s7.heap) _ _ _;refine Inv.pinned I7.unpinned' (λb hb=>?_) λb hb=>?_
   ·rcases aR.mp hb with e|e
    ·subst e;exact statA fa7
    ·exact stat fr7 b e
   ·rcases aR.mp hb with e|e
    ·subst e;exact⟨_,ac7,λv z=>by rw[hob]at z;cases z⟩
    ·exact T.obj _ _ st7 b e
  have keep:∀{σ':St} {H9:Hp} {s9:Shared} {ps:List (Addr×Obj)},Inv Y (a6j (N::fp) s7.heap) σ' H9 s9->(s9.heap.get? N=some ob/\H9 N=none)/\∀b∈fp,(∀o,s7.heap.get? b=some o->s9.heap.get? b=some o)/\H9 b=none:=λI9=>by
   refine⟨?_,λb hb=>?_⟩
   ·obtain⟨z1,z2,_⟩:=I9.pin (N,ob) (bT _ (a2k aQ ac7));exact⟨z1,z2⟩
   ·obtain⟨o,e,_⟩:=T.obj _ _ st7 b hb;obtain⟨z1,z2,_⟩:=I9.pin (b,o) (bT _ (a2k (aK _ hb) e));exact⟨λo' e'=>by rw[e]at e';cases e';exact z1,z2⟩
  refine thn (hg _ s7 _ H7 x u _ I7' r7 (step x H7 y7)) ?_
  rintro _ s8 ⟨σ8,H8,I8,x8,q8⟩
  refine thn (ht _ s8 _ H8 _ I8 q8) ?_
  rintro ok s8' ⟨H8',I8',q8'⟩
  cases ok with
  |false =>
   rw[bE br]at q8' ⊢;obtain⟨m',hm',w9⟩:=q8';obtain⟨⟨ac9,fa9⟩,k9⟩:=keep (ps:=[]) I8';exact⟨m',hm',i+1,σ8,H8',ys,its,k5,I8'.unpinned',x8,T.keep _ _ _ st7 λb hb o e=>(k9 b hb).1 o e,λb hb=>(k9 b hb).2,fa9,by rw[ac9,hob],rv5,hz5,w9⟩
  |true =>
   rw[aO rfl]at q8' ⊢;refine thn (he _ s8' _ H8' _ I8' q8') ?_
   rintro yv s9 ⟨y,H9,I9,r9,m',hm',w9⟩
   obtain⟨⟨ac9,fa9⟩,k9⟩:=keep (ps:=[]) I9;rw[hob]at ac9;have hl:=rv5.length;refine de F.slot_list_append ⟨_,ac9,rfl⟩ F.entry_list_append (F.args_list_append_2 _ _) (PySem.list_append N its.toArray k5 yv (by rw[ax];omega)) ⟨ac9,?_⟩
   have q:=PySem.IsL.update ac9 (λa=>a.push yv);have qo:∀b o,b≠N->s9.heap.get? b=some o->(s9.heap.update N (Obj.mapSeq (λa=>a.push yv))).get? b=some o:=λb o hb e=>(eW s9.heap _ (g7 hb)).trans e;have q':∃k,(s9.heap.update N (Obj.mapSeq (λa=>a.push yv))).get? N=some {cls:=.type "list",data:=.seq (its++[yv]).toArray k}:=⟨_,by rw[q];simp;rfl⟩
   obtain⟨k9',q9⟩:=q';obtain⟨a0,a1,a2,a3,a4,a5⟩:=statA fa9;refine⟨m',hm',i+1,σ8,H9,ys++[y],its++[yv],k9',(I9.unpinned').turned qo a0 a1 a3 a4 a5,x8,T.keep _ _ _ st7 λb hb o e=>qo b o (λz=>accF (z ▸ hb)) ((k9 b hb).1 o e),λb hb=>(k9 b hb).2,fa9,q9,rv5.append (.cons r9 .nil),?_,w9⟩;rw[ah,av];omega
theorem a7p{cnd:Option Expr}(hc:X.calm=true)(S:CSc X aB cl ts fr ix)(hi:PI X tg aE wi)
  (hg:∀C fp s H,PG (cxC X (ts++fr) aB cl C fp s H) tg g) (he:∀C fp s H,PE (cxC X (ts++fr) aB cl C fp s H) aD te) (ht:∀C fp s H,PTO (cxC X (ts++fr) aB cl C fp s H) cnd tc) (hs:∀x,foldedSetIterable aE X.env x=pure x)
  (use:Option (Value->Sem Unit)) (I:Inv X aA σ H s) (h:a4v wi (zb ts.length ix) g tc te σ H Q) (fin:a6v X aA σ use Q Qf) :
  wpAny (model X.prog X.w) X.A (comprehension (.ListComp aD [⟨tg,aE,cnd.toList,0⟩] aB pos) aB X.env ppos (newList []) false (eval aE X.env) use) Qf X.xe s:=by
 refine wpAny_comprehension_free (use:=use) rfl hs S.clos S.kind S.names (thn (hi aA s σ H _ I h) λv s1 h1=>thn h1 λitv s2 h2=>?_);obtain⟨it,fp,tn,J,H2,e,I2,T,st2,f2,W,⟨m0,w0⟩,turn⟩:=h2;subst e;have hob:∀b∈fp,b<s2.heap.objs.size:=λb hb=>let ⟨o,e,_⟩:=T.obj _ _ st2 b hb;aV e;refine cI (wpAny_newFunctionEnv S.nocell (by intro y hy;simp at hy) (λh4 hns4 hsb4=>?_) S.kind)
 dsimp only at hns4 hsb4 ⊢
 generalize hH2:s2.heap.push {cls:=.type "list",dict:=none,data:=.seq ([]:List Value).toArray}=G at hns4 hsb4 ⊢
 have hCs:G.objs.size=s2.heap.objs.size+1:=by rw[<-hH2,cN]
 have hCle:s2.heap.objs.size<=G.objs.size:=by omega
 have hne:G.objs.size≠s2.heap.objs.size:=by omega
 have old:∀b o,s2.heap.get? b=some o->h4.get? b=some o:=λb o e=>by
  have hlt:=aV e;exact hsb4.extBut b o (bR (aZ hlt hCle)) (ag _ (hH2 ▸ ag _ e))
 have hacc:h4.get? s2.heap.objs.size=some {cls:=.type "list",data:=.seq ([]:List Value).toArray 0} :=
  hsb4.extBut _ _ (g7 hne) (ag _ (hH2 ▸ aW _ rfl))
 have K0:Inv (cxC X (ts++fr) aB cl G.objs.size fp s2 H2) [] (zb ts.length ix σ) H2 {s2 with heap:=h4,toks:=s2.toks+([]:List (Str×Value)).length} :=
  apg S I2 f2 hob hCle old hns4 rfl rfl
 have st4:tn 0 h4:=T.keep _ _ _ st2 λb _ o e=>old b o e;have accF:s2.heap.objs.size∉fp:=λz=>cM _ (hob _ z);have stat:∀{H':Hp},(∀b∈fp,H' b=none)->∀b∈fp,aa3 (cxC X (ts++fr) aB cl G.objs.size fp s2 H2) [] H' b:=λhn b hb =>
  ⟨hn b hb,λz=>by have h1:=hob b hb;have z':b=G.objs.size:=z;exact bR (aZ h1 hCle) z',λz=>(ago S I2 f2 hob hCle).exfs b hb z,.inl hb,λx c e=>(f2 b hb).2.2.2.2.1 x c (S.sub x c e),λp hp=>absurd (show p∈([]:List (Addr×Obj)) from hp) (by simp)⟩
 have statA:∀{H':Hp},H' s2.heap.objs.size=none->aa3 (cxC X (ts++fr) aB cl G.objs.size fp s2 H2) [] H' s2.heap.objs.size:=λhn =>
  ⟨hn,λz=>hne (show G.objs.size=s2.heap.objs.size from z.symm),λz=>by
   obtain⟨_,o,ho,_⟩:=(ago S I2 f2 hob hCle).funs.mem z;exact cM _ (aV ho),.inr (aI _),λx c e z=>by
   obtain⟨v,o,ho,_⟩:=I2.cell x c (S.sub x c e);rw[z]at ho;exact cM _ (aV ho),λp hp=>absurd (show p∈([]:List (Addr×Obj)) from hp) (by simp)⟩
 have loop:codeAny (model X.prog X.w) X.A (.compLoop (.ListComp aD [⟨tg,aE,cnd.toList,0⟩] aB pos) 0 (.ref it) (.ref s2.heap.objs.size) (compEnvC aB cl G.objs.size X.env))
   (compPost (model X.prog X.w) X.A X.xe use Qf (.ref s2.heap.objs.size) G.objs.size) {s2 with heap:=h4,toks:=s2.toks+([]:List (Str×Value)).length} :=
  agp (Y:=cxC X (ts++fr) aB cl G.objs.size fp s2 H2) hc (λ_ _ h=>h) rfl T stat statA accF (hg _ _ _ _) (he _ _ _ _) (ht _ _ _ _) turn w0 K0 st4 (λb hb=>(f2 b hb).1) (I2.hok.fresh (aI _)) hacc λs6 H6 ys its k I6 fa rv hz qn=>by
   have e6:=(I6.pin (s2.heap.objs.size,{cls:=.type "list",data:=.seq its.toArray k}) (by show _∈[]++[_];simp)).1
   obtain⟨m6,hn6,_⟩:=I6.loc;exact fin _ _ s6 _ m6 hn6 (I2.fpOk hCle (by rw[jg hne];exact I6.free)) (λh' sb=>comp_back I2 f2 hCle (aI _) hne I6.unpinned' fa e6 rv hz sb) (qn _ fa)
 exact codeAny_compStart_list loop (T.self _ 0 _ _ _ st4 loop)
theorem aad(hc:X.calm=true)(S:CSc X aB cl ts fr ix)(hi:PI X tg aE wi)
  (hg:∀C fp s H,PG (cxC X (ts++fr) aB cl C fp s H) tg g) (he:∀C fp s H,PE (cxC X (ts++fr) aB cl C fp s H) aD te) (hs:∀x,foldedSetIterable aE X.env x=pure x)
  (use:Option (Value->Sem Unit)) (I:Inv X aA σ H s) (h:agm wi (zb ts.length ix) g te σ H Q) (fin:a6v X aA σ use Q Qf) :
  wpAny (model X.prog X.w) X.A (comprehension (.ListComp aD [⟨tg,aE,[],0⟩] aB pos) aB X.env ppos (newList []) false (eval aE X.env) use) Qf X.xe s:=by
 refine a7p (cnd:=none) (tc:=λσ H Q=>Q true H) hc S hi hg he (λ_ _ _ _ aA s σ H Q I h=>aS ⟨H,I,h⟩) hs use I ?_ fin;unfold a4v aby;unfold agm apf at h;simpa only[dR] using h
theorem akk(hc:X.calm=true)(S:CSc X aB cl ts fr ix)(hi:PI X tg aE wi)
  (hg:∀C fp s H,PG (cxC X (ts++fr) aB cl C fp s H) tg g) (he:∀C fp s H,PE (cxC X (ts++fr) aB cl C fp s H) aD te)
  (hs:∀x,foldedSetIterable aE X.env x=pure x:=by intro _;rfl) :
  PE X (.ListComp aD [⟨tg,aE,[],0⟩] aB pos) (agm wi (zb ts.length ix) g te):=by
 intro aA s σ H Q I h
 rw[eval_ListComp];exact aad hc S hi hg he hs none I h ad9
theorem akl{spos:Pos}(hN:X.N.Nodup)(hi':X.N[i]? = some x)(hx:Loc X.env.scope x)(hc:X.calm=true)(S:CSc X aB cl ts fr ix)(hi:PI X tg aE wi)
  (hg:∀C fp s H,PG (cxC X (ts++fr) aB cl C fp s H) tg g) (he:∀C fp s H,PE (cxC X (ts++fr) aB cl C fp s H) aD te)
  (hs:∀x,foldedSetIterable aE X.env x=pure x:=by intro _;rfl) (hsw:swapsWith (.ListComp aD [⟨tg,aE,[],0⟩] aB pos) (some (.Name x pos')) spos.line X.env=pure true:=by rfl) (hf:Hf X x:=by first|exact .inl rfl|exact .inr rfl|assumption) :
  PS X (.Assign [.Name x pos'] (.ListComp aD [⟨tg,aE,[],0⟩] aB pos) spos) (ax9 (agm wi (zb ts.length ix) g te) (a7f i)):=by
 intro aA s σ H D I h
 rw[exec_Assign_Name_used _ _ _ _ hsw];refine ar (gC (ar ?_));refine ar (cH (aad hc S hi hg he hs (some (assign (.Name x pos') X.env)) I h (ada hN hi' hx hf)) (λ_ s' hq=>aS (aS hq)) λ_ _ e=>e)
end
end L2
namespace L2
theorem aty:bootBuiltins "len" = some (.builtin "len"):=PySem.boot_len
theorem gk:bootBuiltins "isinstance" = some (.builtin "isinstance"):=by first|exact PySem.boot_isinstance|exact PyProof.Rows.boot_isinstance
theorem atz:bootBuiltins "str" = some (.type "str"):=by first|exact PySem.boot_str|exact PyProof.Rows.boot_str
theorem ane:bootBuiltins "all" = some (.builtin "all"):=by first|exact PySem.boot_all|exact PyProof.Rows.boot_all
theorem au0:bootBuiltins "abs" = some (.builtin "abs"):=by first|exact PySem.boot_abs|exact PyProof.Rows.boot_abs
theorem agq:bootBuiltins "int" = some (.type "int"):=by first|exact PySem.boot_int|exact PyProof.Rows.boot_int
theorem aph:bootBuiltins "list" = some (.type "list"):=by first|exact PySem.boot_list|exact PyProof.Rows.boot_list
theorem ug:bootBuiltins "tuple" = some (.type "tuple"):=by first|exact PySem.boot_tuple|exact PyProof.Rows.boot_tuple
structure Dn (P:Program) (w:World) (K:Fg) (mg:Str->Option Value) (base:Heap) (k:Nat) (x:Str) (ps:List Str) (sp:Sp) (f:Addr) (fd:FuncData):Prop where
 ok:FnOk P w K mg base CX0 k f fd ps sp
 m:mg x=some (.ref f)
 kp:PySem.W.keepIn K (.ref f)=true
 b:Binds K fd ps []
theorem aye:sizeLine=16777216:=eX
theorem a8o(h:n<=16777216):n<=sizeLine:=by rw[eX];exact h
theorem CSc.noFree{aB:Scope}(kind:aB.kind=.function)(h:∀y∈aB.names,y.2≠.cell/\y.2≠.free)(names:∀y∈aB.names,y.2=.local->aB.names.lookup y.1=some .local)
  (ht:∀y∈ts,aB.names.lookup y=some .local):CSc X aB [] ts [] []:=by
 have e:(relabel aB X.env).names=aB.names:=by
  show aB.names.map _=_;refine map_eq_self λy hy=>?_;obtain⟨n,k⟩:=y;have:(k == NameKind.free)=false:=by simpa using (h _ hy).2
  simp[this]
 refine⟨closureFor_none λy hy=>(h y hy).2,kind,λy hy=>(h y hy).1,names,(λ_ _ z=>nomatch z),λy z=>?_,λy hy=>by rw[e];exact ht y hy,rfl,(λ_ _ z=>by simp at z)⟩
 rw[e]at z
 rcases z with z|z
 ·exact absurd rfl (h _ (cq z)).1
 ·exact absurd rfl (h _ (cq z)).2
theorem ayf(x y:Str):(x++y).cps.toList=x.cps.toList++y.cps.toList:=by
 show(x.cps++y.cps).toList=_;simp
theorem abz{α:Type}(xs:List α)(k:Nat):a6s xs none (some (k:Int))=xs.take k:=by
 unfold a6s;rw[HT.ad6,HT.a8l,gT,Nat.sub_zero]
 by_cases h:k<=xs.length
 ·rw[eR h]
 ·rw[fB (by omega),bM (aI _),bM (by omega)]
theorem aae{α:Type}(xs:List α)(k:Nat):a6s xs (some (k:Int)) none=xs.drop k:=by
 unfold a6s;rw[HT.ad6,HT.a8l]
 by_cases h:k<=xs.length
 ·rw[eR h,bM (by rw[bb];omega)]
 ·rw[fB (by omega),cb (aI _),cb (by omega),hG]
theorem api{α:Type}(xs:List α)(j k:Nat):a6s xs (some (j:Int)) (some (k:Int))=(xs.drop j).take (k-j):=by
 unfold a6s;rw[HT.a8l,HT.a8l]
 by_cases h:j<=xs.length
 ·rw[eR h]
  by_cases h2:k<=xs.length
  ·rw[eR h2]
  ·rw[fB (by omega),bM (by rw[bb];omega),bM (by rw[bb];omega)]
 ·rw[fB (show xs.length<=j by omega),cb (aI _),cb (by omega),hG,hG]
end L2
namespace L2
open PyProof.Rows
section
variable{X:Cx}
theorem a6w(hc:X.calm=true)(S:CSc X aB cl ts fr ix)(hi:PI X tg aE wi)
  (hg:∀C fp s H,PG (cxC X (ts++fr) aB cl C fp s H) tg g) (he:∀C fp s H,PE (cxC X (ts++fr) aB cl C fp s H) aD te) (ht:∀C fp s H,PT (cxC X (ts++fr) aB cl C fp s H) cnd tc) (hs:∀x,foldedSetIterable aE X.env x=pure x)
  (use:Option (Value->Sem Unit)) (I:Inv X aA σ H s) (h:a4v wi (zb ts.length ix) g tc te σ H Q) (fin:a6v X aA σ use Q Qf) :
  wpAny (model X.prog X.w) X.A (comprehension (.ListComp aD [⟨tg,aE,[cnd],0⟩] aB pos) aB X.env ppos (newList []) false (eval aE X.env) use) Qf X.xe s :=
 a7p (cnd:=some cnd) hc S hi hg he ht hs use I h fin
theorem af3(hc:X.calm=true)(S:CSc X aB cl ts fr ix)(hi:PI X tg aE wi)
  (hg:∀C fp s H,PG (cxC X (ts++fr) aB cl C fp s H) tg g) (he:∀C fp s H,PE (cxC X (ts++fr) aB cl C fp s H) aD te) (ht:∀C fp s H,PT (cxC X (ts++fr) aB cl C fp s H) cnd tc)
  (hs:∀x,foldedSetIterable aE X.env x=pure x:=by intro _;rfl) :
  PE X (.ListComp aD [⟨tg,aE,[cnd],0⟩] aB pos) (a4v wi (zb ts.length ix) g tc te):=by
 intro aA s σ H Q I h
 rw[eval_ListComp];exact a6w hc S hi hg he ht hs none I h ad9
theorem af4{spos:Pos}(hN:X.N.Nodup)(hi':X.N[i]? = some x)(hx:Loc X.env.scope x)(hc:X.calm=true)(S:CSc X aB cl ts fr ix)(hi:PI X tg aE wi)
  (hg:∀C fp s H,PG (cxC X (ts++fr) aB cl C fp s H) tg g) (he:∀C fp s H,PE (cxC X (ts++fr) aB cl C fp s H) aD te) (ht:∀C fp s H,PT (cxC X (ts++fr) aB cl C fp s H) cnd tc)
  (hs:∀x,foldedSetIterable aE X.env x=pure x:=by intro _;rfl) (hsw:swapsWith (.ListComp aD [⟨tg,aE,[cnd],0⟩] aB pos) (some (.Name x pos')) spos.line X.env=pure true:=by rfl) (hf:Hf X x:=by first|exact .inl rfl|exact .inr rfl|assumption) :
  PS X (.Assign [.Name x pos'] (.ListComp aD [⟨tg,aE,[cnd],0⟩] aB pos) spos) (ax9 (a4v wi (zb ts.length ix) g tc te) (a7f i)):=by
 intro aA s σ H D I h
 rw[exec_Assign_Name_used _ _ _ _ hsw];refine ar (gC (ar ?_));refine ar (cH (a6w hc S hi hg he ht hs (some (assign (.Name x pos') X.env)) I h (ada hN hi' hx hf)) (λ_ s' hq=>aS (aS hq)) λ_ _ e=>e)
end
section
variable{X:Cx}
def a3r(T:Str)(c:Nat):Int:=Txt.find T ⟨#[c]⟩
theorem ac0(s sub:Str)(hi limit:Nat):∀(l:List Nat) (st:Array Nat×Nat) (k:Nat),k∈(forIn l st (StrLaws.occBody s sub hi limit)).run.fst.toList->k∈st.fst.toList\/(k+sub.length<=hi/\Builtin.Str.subAt s sub k=true)
 |[],st,k,h=>.inl h
 |a::l,st,k,h=>by
  rw[List.forIn_cons]at h;unfold StrLaws.occBody at h
  split at h
  ·rename_i c
   rcases ac0 s sub hi limit l _ k h with z|z
   ·simp at z
    rcases z with z|z
    ·exact .inl (by simpa using z)
    ·subst z;exact .inr ⟨c.1.2,c.2⟩
   ·exact .inr z
  ·rcases ac0 s sub hi limit l _ k h with z|z
   ·exact .inl z
   ·exact .inr z
theorem adb{T:Str}(h:c∈T.cps.toList):∃i:Nat,a3r T c=(i:Int)/\T.cps.toList[i]? = some c/\∃aF,Builtin.Str.occurrences T ⟨#[c]⟩ 0 T.length 1=i::aF:=by
 have h1:=gB T c;rw[bL h]at h1
 cases ho:Builtin.Str.occurrences T ⟨#[c]⟩ 0 T.length 1 with
 |nil=>rw[ho]at h1;cases h1
 |cons i aF =>
  refine⟨i,by simp[a3r,Txt.find,ho],?_,aF,rfl⟩
  rw[StrLaws.occ_eq]at ho;have hm:=ac0 T ⟨#[c]⟩ T.length 1 (List.range' 0 (T.length+1-0)) (#[],0) i (by rw[ho];exact aQ)
  rcases hm with z|z
  ·simp at z
  ·exact(StrLaws.subAt_one T c i).mp z
theorem a8p:OpR X (compareOp .In) (λx y H Q=>∃c T,x=.str ⟨#[c]⟩/\y=.str T/\Q (.bl (decide (c∈T.cps.toList))) H):=by
 intro aA s σ H x y v u Q I rx ry h
 obtain⟨c,T,rfl,rfl,q⟩:=h;exact ag9 aA s σ H _ _ v u Q I rx ry ⟨_,_,rfl,rfl,by rw[gB];exact q⟩
theorem a7q:OpR X (compareOp .NotIn) (λx y H Q=>∃c T,x=.str ⟨#[c]⟩/\y=.str T/\Q (.bl (!decide (c∈T.cps.toList))) H):=by
 intro aA s σ H x y v u Q I rx ry h
 obtain⟨c,T,rfl,rfl,q⟩:=h;exact aa4 aA s σ H _ _ v u Q I rx ry ⟨_,_,rfl,rfl,by rw[gB];exact q⟩
theorem ac1:MtR X "str.find" (λx xs H Q=>∃T c,x=.str T/\xs=[.str ⟨#[c]⟩]/\Q (.int (a3r T c)) H):=by
 intro aA s σ H x xs v us Q I rx rs h
 obtain⟨T,c,rfl,rfl,q⟩:=h;obtain⟨t,rfl⟩:=rx;obtain⟨u,rfl,t',rfl⟩:=vals1 rs;exact de F.slot_str_find (gA _ _ _) F.entry_str_find (F.args_str_find_2 _ _) (gives_str_find _ _ _ _).meets ⟨.int (a3r T c),H,I.tok _,⟨_,rfl⟩,q⟩
theorem adc:MtR X "str.index" (λx xs H Q=>∃T c,x=.str T/\xs=[.str ⟨#[c]⟩]/\c∈T.cps.toList/\Q (.int (a3r T c)) H):=by
 intro aA s σ H x xs v us Q I rx rs h
 obtain⟨T,c,rfl,rfl,hc,q⟩:=h;obtain⟨t,rfl⟩:=rx;obtain⟨u,rfl,t',rfl⟩:=vals1 rs;obtain⟨i,e1,e2,aF,ho⟩:=adb hc;refine de F.slot_str_index (gA _ _ _) F.entry_str_index (F.args_str_index_2 _ _) (gives_str_index _ _ _ _ i aF ho).meets ⟨.int (a3r T c),H,I.tok _,⟨_,by rw[e1]⟩,q⟩
theorem apj{zs:List Str}:∀{us:List Value},Vals (zs.map V.str) us->StrsAre us zs:=by
 induction zs with
 |nil=>intro us r;rw[e9]at r;cases r;exact .nil
 |cons z zs ih =>
  intro us r
  rw[bI]at r
  cases r with
  |cons r1 r2 =>
   obtain⟨t,e⟩:=r1;subst e;exact .cons z t (ih r2)
theorem agr:MtR X "str.join" (λx xs H Q=>∃sep p zs,x=.str sep/\xs=[.ref p]/\SqL X.K H p (zs.map V.str)/\(zs.map (·.length)).sum+zs.length*sep.length<=16777216/\Q (.str (Txt.join sep zs)) H):=by
 intro aA s σ H x xs v us Q I rx rs h
 obtain⟨sep,p,zs,rfl,rfl,hp,hz,q⟩:=h;obtain⟨t,rfl⟩:=rx;obtain⟨u,rfl,ru⟩:=vals1 rs;cases ru
 obtain⟨its,r,pl,_⟩:=I.list hp;exact join_list pl.isList (by simpa using apj r) hz λt' k=>⟨.str _,H,I.tok _,⟨_,rfl⟩,q⟩
end
theorem CSc.of{X:Cx}{ts fr:List Str}{ix:List Nat}(clos:closureFor aB X.env=pure cl)(kind:aB.kind=.function)
  (nocell:(aB.names.all λp=>p.2 != .cell)=true) (names:(aB.names.all λp=>p.2 != .local || aB.names.lookup p.1 == some .local)=true) (sub:∀p∈cl,X.env.cells.lookup p.1=some p.2)
  (has:((relabel aB X.env).names.all λp => !(p.2 == .cell || p.2 == .free) || (cl.lookup p.1).isSome)=true) (nofn:(ts.all λy=>(relabel aB X.env).names.lookup y == some .local)=true)
  (len:ix.length=fr.length) (vis:((fr.zip ix).all λp=>X.N[p.2]? == some p.1 && (X.env.kindOf p.1 == some .cell || X.env.kindOf p.1 == some .free) && ((relabel aB X.env).names.lookup p.1 == some .cell || (relabel aB X.env).names.lookup p.1 == some .free))=true) :
  CSc X aB cl ts fr ix:=by
 refine⟨clos,kind,λy hy=>?_,λy hy e=>?_,λy c e=>sub _ (cq e),λy z=>?_,λy hy=>?_,len,λj y e=>?_⟩
 ·have:=bN.mp nocell y hy
  simpa using this
 ·have:=bN.mp names y hy
  rw[e]at this;simpa using this
 ·have key:∀k,(relabel aB X.env).names.lookup y=some k->(k == .cell || k == .free)=true->∃c,cl.lookup y=some c:=λk e hk=>by
   have:=bN.mp has _ (cq e)
   rw[hk]at this;exact gi.mp (by simpa using this)
  rcases z with z|z
  ·exact key _ z rfl
  ·exact key _ z rfl
 ·have:=bN.mp nofn y hy
  simpa using this
 ·obtain⟨hj,_⟩:=af.mp e;have hj2:j<ix.length:=by omega
  have hm:(y,ix[j])∈fr.zip ix:=by
   rw[List.mem_iff_getElem?];exact⟨j,by rw[eG];exact⟨e,ae hj2⟩⟩
  have:=bN.mp vis _ hm
  simp only[bV,eS,hR]at this;exact⟨ix[j],ae hj2,this.1.1,this.1.2,this.2⟩
def tSM(r:V->List V->Hp->VK->Prop)(to:TE)(t:TA):TE:=λσ H Q=>to σ H λx H1=>(∃z,x=.str z)/\t σ H1 λxs H2=>r x xs H2 Q
theorem ayg{X:Cx}{o e:Expr}{es:List Expr}{to:TE}{t:TA}{name:Str}{apos cpos:Pos}{id:String}{r:V->List V->Hp->VK->Prop}(slot:Slot "str" name id)(hty:typeOf (.builtin id)=pure (.type "method_descriptor"))(hm:MtR X id r)(ho:PE X o to)(ha:PA X (e::es) t)
  (hbase:attributeBase o name X.env (eval o X.env)=eval o X.env:=by rfl)
  (hfew:((backTo cpos (starEach (e::es) X.env)).all (λx => !x.1) && (backToKw cpos (keywordEach [] X.env)).all (λx=>x.1.isSome)
   && decide ((e::es).length+([]:List Keyword).length+(if ([]:List Keyword).isEmpty then 0 else 1)<30))=true:=by rfl)
  (hline:(apos.endLine == cpos.line)=true:=by rfl) (hs:starEach (e::es) X.env=(false,eval e X.env)::starEach es X.env:=by rfl) (hplain:(backTo cpos (starEach es X.env)).any (·.1)=false:=by rfl) :
  PE X (.Call (.Attribute o name apos) (e::es) [] cpos) (tSM r to t):=by
 intro aA s σ H Q I h
 refine wpAny_Call_method_late hbase hfew hline rfl (thn (ho aA s σ H _ I h) λv s1 ⟨x,H1,I1,r1,⟨z,hz⟩,q1⟩=>?_);subst hz;obtain⟨h1,h2⟩:=anb (T := "str") I1 r1 rfl;refine⟨"str",id,PySem.F.plainAttrs_str,slot,hty,h1,h2,?_⟩;have hA:=ha cpos aA s1 σ H1 _ I1 q1;rw[hs]at hA ⊢;refine Calls.callWith_builtin (by show(false || (backTo cpos (starEach es X.env)).any (·.1))=false;rw[hplain]<;>rfl) (fF ?_)
 exact thn hA λus s2 ⟨vs,H2,I2,r2,q2⟩=>hm aA s2 σ H2 _ vs v us Q I2 r1 r2 q2
section
variable{X:Cx}
theorem af5(hc:X.calm=true):CallR X (.builtin "sum") (λxs H Q=>∃(p:Addr) (ns:List Int),xs=[.ref p]/\SqL X.K H p (ns.map V.int)/\Q (.int ns.sum) H):=by
 intro aA s σ H xs us Q I r h
 obtain⟨p,ns,rfl,hq,q⟩:=h;obtain⟨u,rfl,rx⟩:=vals1 r;cases rx
 obtain⟨its,r',pl,hz⟩:=I.list hq;have hInts:IntsAre its ns:=intsAre_of r';obtain⟨prs,ep⟩:=hInts.allInts.items;refine sum_intListG (xs:=prs) (I.ok.hd hc) (ep ▸ pl.isList) λh' tk t' hk=>⟨.int ns.sum,H,I.kept hk,⟨t',?_⟩,q⟩;have nums:prs.toList.map (·.1)=ns:=by
  rw[<-nums_intItems,<-ep];exact hInts.numsOf
 have tot:preSum (numAt prs) prs.size=ns.sum:=by
  rw[preSum_eq,<-nums]
  congr 1
  exact bM (by simp)
 rw[tot]
end
end L2
namespace MI
open L2
inductive D where
 |non|bl (b:Bool)|int (i:Int)|str (x:Str)|ty (n:String)|tup (xs:List D)|rol (xs:List D)|ref (i:Nat)|scr (xs:List D)|rod (ks:List Key) (xs:List D)|rdT (ks:List (List Key)) (xs:List D)|exc (c:Str)|ins (c:Str) (ks:List Str) (xs:List D)
inductive O where
 |lst (xs:List D)|dK (kvs:List (Key×D))|dT (kvs:List (List Key×D))|ins (c:Str) (fs:List (Str×D))
abbrev Hd:=List O
abbrev Sd:=List (Option D)
inductive R (α:Type) where
 |ok (a:α) (h:Hd)|ex (c:Str) (h:Hd)|no
def R.bind{α β:Type}:R α->(α->Hd->R β)->R β
 |.ok a h,k=>k a h
 |.ex c h,_=>.ex c h
 |.no,_=>.no
inductive Fl where
 |nx (σ:Sd) (h:Hd)|rt (d:D) (h:Hd)|bk (σ:Sd) (h:Hd)|ct (σ:Sd) (h:Hd)|ex (c:Str) (h:Hd)|no
def R.fl{α:Type}:R α->(α->Hd->Fl)->Fl
 |.ok a h,k=>k a h
 |.ex c h,_=>.ex c h
 |.no,_=>.no
abbrev SE:=Sd->Hd->R D
abbrev ST:=Sd->Hd->R Bool
abbrev SA:=Sd->Hd->R (List D)
abbrev SS:=Sd->Hd->Fl
def SqF(K:Fg)(H:Hp)(a:Addr)(vs:List V):Prop:=(∃o,H a=some (.frz o (.lst vs)))\/SqL K (λ_=>none) a vs
theorem SqF.l(h:SqF K H a vs):SqL K H a vs:=by
 rcases h with⟨o,h⟩|h
 ·exact .inl (.inr ⟨o,h⟩)
 ·rcases h with(h|⟨o,h⟩)|h
  ·cases h
  ·cases h
  ·exact .inr h
def SqZ(H:Hp)(a:Addr)(vs:List V):Prop:=∃o,H a=some (.frz o (.lst vs))
theorem SqZ.l(h:SqZ H a vs):SqL K H a vs:=let ⟨o,e⟩:=h; .inl (.inr ⟨o,e⟩)
def exO(a:Addr):HO:=.ext λh=>∃o,h.get? a=some o
mutual
inductive Rep (K:Fg) (ι:List Addr) (H:Hp):V->D->Prop
 |non:Rep K ι H .non .non
 |bl (b:Bool):Rep K ι H (.bl b) (.bl b)
 |int (i:Int):Rep K ι H (.int i) (.int i)
 |str (x:Str):Rep K ι H (.str x) (.str x)
 |ty (n:String):Rep K ι H (.ty n) (.ty n)
 |tup {a:Addr} {vs:List V} {xs:List D} (h:H a=some (.tup vs)) (r:Reps K ι H vs xs):Rep K ι H (.ref a) (.tup xs)
 |rol {a:Addr} {vs:List V} {xs:List D} (h:SqZ H a vs) (r:Reps K ι H vs xs):Rep K ι H (.ref a) (.rol xs)
 |scr {a:Addr} {vs:List V} {xs:List D} (h:SqF K H a vs) (r:Reps K ι H vs xs):Rep K ι H (.ref a) (.scr xs)
 |ref {a:Addr} {i:Nat} (h:ι[i]? = some a):Rep K ι H (.ref a) (.ref i)
 |rod {a:Addr} {o:Obj} {us:List (Key×V)} {ks:List Key} {xs:List D} (h:H a=some (.frz o (.dK us))) (e:us.map (·.1)=ks) (r:Reps K ι H (us.map (·.2)) xs):Rep K ι H (.ref a) (.rod ks xs)
 |rdT {a:Addr} {o:Obj} {us:List (List Key×V)} {ks:List (List Key)} {xs:List D} (h:H a=some (.frz o (.dT us))) (e:us.map (·.1)=ks) (r:Reps K ι H (us.map (·.2)) xs):Rep K ι H (.ref a) (.rdT ks xs)
 |exc {a C:Addr} {o:Obj} {c:Str} (h:H a=some (.frz o (exO a))) (hc:o.cls=.ref C) (hn:PySem.W.nsIn K mainGlobals c=some (some (.ref C))):Rep K ι H (.ref a) (.exc c)
 |ins {a C dx:Addr} {o:Obj} {c:Str} {us:List (Str×V)} {ks:List Str} {xs:List D} (h:H a=some (.frz o (.ins C dx us))) (hn:PySem.W.nsIn K mainGlobals c=some (some (.ref C))) (e:us.map (·.1)=ks) (r:Reps K ι H (us.map (·.2)) xs):Rep K ι H (.ref a) (.ins c ks xs)
inductive Reps (K:Fg) (ι:List Addr) (H:Hp):List V->List D->Prop
 |nil:Reps K ι H [] []
 |cons {v:V} {d:D} {vs:List V} {ds:List D} (r:Rep K ι H v d) (rs:Reps K ι H vs ds):Reps K ι H (v::vs) (d::ds)
end
structure Gw (ι:List Addr) (H:Hp) (ι':List Addr) (H':Hp):Prop where
 pre:∃m,ι'=ι++m
 tup:∀a vs,H a=some (.tup vs)->H' a=some (.tup vs)
 frz:∀a o u,H a=some (.frz o u)->H' a=some (.frz o u)
structure Gr (ι:List Addr) (H:Hp) (ι':List Addr) (H':Hp):Prop where
 pre:∃m,ι'=ι++m/\∀a∈m,H a=none
 tup:∀a vs,H a=some (.tup vs)->H' a=some (.tup vs)
 frz:∀a o u,H a=some (.frz o u)->H' a=some (.frz o u)
 oth:∀a u,H a=some u->a∉ι->H' a=some u
 kp:∀a u,H a=some u->∃u',H' a=some u'
theorem Gr.w(g:Gr ι H ι' H'):Gw ι H ι' H':=⟨let ⟨m,e,_⟩:=g.pre; ⟨m,e⟩,g.tup,g.frz⟩
theorem Gr.refl(ι:List Addr)(H:Hp):Gr ι H ι H:=⟨⟨[],by simp,by simp⟩,λ_ _ h=>h,λ_ _ _ h=>h,λ_ _ h _=>h,λ_ u h=>⟨u,h⟩⟩
theorem Gr.trans(a:Gr ι H ι1 H1)(b:Gr ι1 H1 ι2 H2):Gr ι H ι2 H2:=by
 obtain⟨m,rfl,hm⟩:=a.pre;obtain⟨n,rfl,hn⟩:=b.pre;refine⟨⟨m++n,by simp,λx hx=>?_⟩,λx vs h=>b.tup x vs (a.tup x vs h),λx o u h=>b.frz x o u (a.frz x o u h),λx u h hx=>?_,λx u h=>?_⟩
 ·rcases bo.mp hx with hx|hx
  ·exact hm x hx
  ·cases e:H x with
   |none=>rfl
   |some u =>
    obtain⟨u',e'⟩:=a.kp x u e;rw[hn x hx]at e';cases e'
 ·refine b.oth x u (a.oth x u h hx) λz=>?_
  rcases bo.mp z with z|z
  ·exact hx z
  ·rw[hm x z]at h;cases h
 ·obtain⟨u',e⟩:=a.kp x u h;exact b.kp x u' e
theorem Gw.at(g:Gw ι H ι' H'){i:Nat}(h:ι[i]? = some a):ι'[i]? = some a:=by
 obtain⟨m,rfl⟩:=g.pre;rw[aJ (af.mp h).1];exact h
theorem Gr.at(g:Gr ι H ι' H'){i:Nat}(h:ι[i]? = some a):ι'[i]? = some a:=g.w.at h
theorem SqF.monoW(g:Gw ι H ι' H')(h:SqF K H a vs):SqF K H' a vs:=by
 rcases h with⟨o,h⟩|h
 ·exact .inl ⟨o,g.frz _ _ _ h⟩
 ·exact .inr h
theorem SqZ.monoW(g:Gw ι H ι' H')(h:SqZ H a vs):SqZ H' a vs:=let ⟨o,e⟩:=h; ⟨o,g.frz _ _ _ e⟩
theorem SqZ.mono(g:Gr ι H ι' H')(h:SqZ H a vs):SqZ H' a vs:=h.monoW g.w
mutual
theorem Rep.monoW(g:Gw ι H ι' H'):∀{v:V} {d:D},Rep K ι H v d->Rep K ι' H' v d
 |_,_,.non=>.non
 |_,_,.bl b=>.bl b
 |_,_,.int i=>.int i
 |_,_,.str x=>.str x
 |_,_,.ty n=>.ty n
 |_,_,.tup h r=>.tup (g.tup _ _ h) (Reps.monoW g r)
 |_,_,.rol h r=>.rol (h.monoW g) (Reps.monoW g r)
 |_,_,.scr h r=>.scr (h.monoW g) (Reps.monoW g r)
 |_,_,.ref h=>.ref (g.at h)
 |_,_,.rod h e r=>.rod (g.frz _ _ _ h) e (Reps.monoW g r)
 |_,_,.rdT h e r=>.rdT (g.frz _ _ _ h) e (Reps.monoW g r)
 |_,_,.exc h hc hn=>.exc (g.frz _ _ _ h) hc hn
 |_,_,.ins h hn e r=>.ins (g.frz _ _ _ h) hn e (Reps.monoW g r)
theorem Reps.monoW(g:Gw ι H ι' H'):∀{vs:List V} {ds:List D},Reps K ι H vs ds->Reps K ι' H' vs ds
 |_,_,.nil=>.nil
 |_,_,.cons r rs=>.cons (Rep.monoW g r) (Reps.monoW g rs)
end
theorem Rep.mono(g:Gr ι H ι' H')(r:Rep K ι H v d):Rep K ι' H' v d:=r.monoW g.w
theorem Reps.mono(g:Gr ι H ι' H')(r:Reps K ι H vs ds):Reps K ι' H' vs ds:=r.monoW g.w
section
variable{K:Fg}{ι:List Addr}{H:Hp}
theorem Reps.len:Reps K ι H vs ds->vs.length=ds.length
 |.nil=>rfl
 |.cons _ rs=>by rw[bB,bB,rs.len]
theorem Reps.get:∀{vs:List V} {ds:List D} {i:Nat} {d:D},Reps K ι H vs ds->ds[i]? = some d->∃v,vs[i]? = some v/\Rep K ι H v d
 |_,_,_,_,.nil,e=>by simp at e
 |_,_,0,_,.cons r _,e=>by simp at e;subst e;exact⟨_,rfl,r⟩
 |_,_,i+1,d,.cons _ rs,e=>by
  obtain⟨u,h1,h2⟩:=Reps.get (i:=i) (d:=d) rs (by simpa using e)
  exact⟨u,by simpa using h1,h2⟩
theorem Reps.app:∀{vs us:List V} {ds es:List D},Reps K ι H vs ds->Reps K ι H us es->Reps K ι H (vs++us) (ds++es)
 |_,_,_,_,.nil,s=>s
 |_,_,_,_,.cons r rs,s=>.cons r (Reps.app rs s)
theorem Reps.set(q:Rep K ι H v d):∀{vs:List V} {ds:List D} (i:Nat),Reps K ι H vs ds->Reps K ι H (vs.set i v) (ds.set i d)
 |_,_,_,.nil=>.nil
 |_,_,0,.cons _ rs=>.cons q rs
 |_,_,i+1,.cons r rs=>.cons r (Reps.set q i rs)
theorem Reps.take:∀{vs:List V} {ds:List D} (n:Nat),Reps K ι H vs ds->Reps K ι H (vs.take n) (ds.take n)
 |_,_,0,_=>.nil
 |_,_,_+1,.nil=>.nil
 |_,_,n+1,.cons r rs=>.cons r (Reps.take n rs)
theorem Reps.drop:∀{vs:List V} {ds:List D} (n:Nat),Reps K ι H vs ds->Reps K ι H (vs.drop n) (ds.drop n)
 |_,_,0,r=>r
 |_,_,_+1,.nil=>.nil
 |_,_,n+1,.cons _ rs=>Reps.drop n rs
theorem Reps.snoc(r:Reps K ι H vs ds)(q:Rep K ι H v d):Reps K ι H (vs++[v]) (ds++[d]):=r.app (.cons q .nil)
theorem Reps.flat:∀{vs:List V} {ds:List D} (k:Nat),Reps K ι H vs ds->Reps K ι H (List.replicate k vs).flatten (List.replicate k ds).flatten
 |_,_,0,_=>.nil
 |vs,ds,k+1,r=>by
  rw[cw,cw,dI,dI];exact r.app (Reps.flat k r)
end
def KRep{κ:Type}(K:Fg)(ι:List Addr)(H:Hp)(us:List (κ×V))(kvs:List (κ×D)):Prop:=us.map (·.1)=kvs.map (·.1)/\Reps K ι H (us.map (·.2)) (kvs.map (·.2))
def ORep(K:Fg)(ι:List Addr)(H:Hp)(a:Addr):O->Prop
 |.lst xs=>∃vs,H a=some (.lst vs)/\Reps K ι H vs xs
 |.dK kvs=>∃us,H a=some (.dK us)/\KRep K ι H us kvs
 |.dT kvs=>∃us,H a=some (.dT us)/\KRep K ι H us kvs
 |.ins c fs=>∃C dx us,H a=some (.ins C dx us)/\PySem.W.nsIn K mainGlobals c=some (some (.ref C))/\KRep K ι H us fs
structure HRep (K:Fg) (ι:List Addr) (H:Hp) (h:Hd):Prop where
 nd:ι.Nodup
 len:ι.length=h.length
 obj:∀(i:Nat) (a:Addr) (o:O),ι[i]? = some a->h[i]? = some o->ORep K ι H a o
section
variable{K:Fg}{ι:List Addr}{H:Hp}{h:Hd}
theorem ORep.some(r:ORep K ι H a o):∃u,H a=some u/\(∀vs,u≠.tup vs)/\(∀o' u',u≠.frz o' u'):=by
 cases o with
 |lst xs=>obtain⟨vs,e,_⟩:=r;exact⟨_,e,λ_ z=>(by cases z),λ_ _ z=>(by cases z)⟩
 |dK kvs=>obtain⟨us,e,_⟩:=r;exact⟨_,e,λ_ z=>(by cases z),λ_ _ z=>(by cases z)⟩
 |dT kvs=>obtain⟨us,e,_⟩:=r;exact⟨_,e,λ_ z=>(by cases z),λ_ _ z=>(by cases z)⟩
 |ins c fs=>obtain⟨C,dx,us,e,_⟩:=r;exact⟨_,e,λ_ z=>(by cases z),λ_ _ z=>(by cases z)⟩
theorem HRep.at(r:HRep K ι H h){i:Nat}(e:ι[i]? = some a):∃o,h[i]? = some o/\ORep K ι H a o:=by
 have hi:i<h.length:=by rw[<-r.len];exact(af.mp e).1
 exact⟨h[i],ae hi,r.obj i a _ e (ae hi)⟩
theorem HRep.addr(r:HRep K ι H h){i:Nat}(e:h[i]? = some o):∃a,ι[i]? = some a/\ORep K ι H a o:=by
 have hi:i<ι.length:=by rw[r.len];exact(af.mp e).1
 exact⟨ι[i],ae hi,r.obj i _ o (ae hi) e⟩
theorem HRep.notin(r:HRep K ι H h)(e:H p=none):p∉ι:=λz=>by
 obtain⟨i,hi⟩:=cD z;obtain⟨o,_,q⟩:=r.at hi;obtain⟨u,q,_⟩:=q.some;rw[e]at q;cases q
theorem ORep.monoW(g:Gw ι H ι' H')(e:H' a=H a)(r:ORep K ι H a o):ORep K ι' H' a o:=by
 cases o with
 |lst xs=>obtain⟨vs,h1,h2⟩:=r;exact⟨vs,by rw[e];exact h1,h2.monoW g⟩
 |dK kvs=>obtain⟨us,h1,h2,h3⟩:=r;exact⟨us,by rw[e];exact h1,h2,h3.monoW g⟩
 |dT kvs=>obtain⟨us,h1,h2,h3⟩:=r;exact⟨us,by rw[e];exact h1,h2,h3.monoW g⟩
 |ins c fs=>obtain⟨C,dx,us,h1,hn,h2,h3⟩:=r;exact⟨C,dx,us,by rw[e];exact h1,hn,h2,h3.monoW g⟩
theorem ORep.mono(g:Gr ι H ι' H')(e:H' a=H a)(r:ORep K ι H a o):ORep K ι' H' a o:=r.monoW g.w e
theorem a02(e:H p=none)(o:HO):Gr ι H ι (upd H p o) :=
 ⟨⟨[],by simp,by simp⟩,λa vs h=>by rw[jg (j8 h e)];exact h,λa o u h=>by rw[jg (j8 h e)];exact h,λa u h _=>by rw[jg (j8 h e)];exact h,λa u h=>⟨u,by rw[jg (j8 h e)];exact h⟩⟩
theorem HRep.aside(r:HRep K ι H h)(e:H p=none)(o:HO):HRep K ι (upd H p o) h:=by
 refine⟨r.nd,r.len,λi a o' e1 e2=>?_⟩;have q:=r.obj i a o' e1 e2;obtain⟨u,hu,_⟩:=q.some;exact q.mono (a02 e o) (jg (j8 hu e))
theorem ade(e:H p=none)(o:HO):Gr ι H (ι++[p]) (upd H p o) :=
 ⟨⟨[p],rfl,by simpa using e⟩,(a02 (ι:=ι) e o).tup,(a02 (ι:=ι) e o).frz,(a02 (ι:=ι) e o).oth,(a02 (ι:=ι) e o).kp⟩
theorem HRep.add(r:HRep K ι H h)(e:H p=none)(q:ORep K (ι++[p]) (upd H p o) p ob):HRep K (ι++[p]) (upd H p o) (h++[ob]):=by
 refine⟨?_,by simp[r.len],λi a o' e1 e2=>?_⟩
 ·rw[cB];exact⟨r.nd,by simp,λa ha b hb z=>r.notin e (by rw[aw.mp hb]at z;rw[<-z];exact ha)⟩
 ·by_cases hi:i<ι.length
  ·rw[aJ hi]at e1;rw[aJ (by rw[<-r.len];exact hi)]at e2
   have q:=r.obj i a o' e1 e2;obtain⟨u,hu,_⟩:=q.some;exact q.mono (ade e o) (jg (j8 hu e))
  ·have hi2:i<(ι++[p]).length:=(af.mp e1).1;have:i=ι.length:=by simp at hi2;omega
   subst this;rw[aL (aI _)]at e1;rw[r.len,aL (aI _)]at e2;simp at e1 e2;subst e1 e2;exact q
theorem a7r{i:Nat}(r:HRep K ι H h)(e:ι[i]? = some a)(o:HO):Gr ι H ι (upd H a o):=by
 obtain⟨_,_,q⟩:=r.at e;obtain⟨u,hu,n1,n2⟩:=q.some;refine⟨⟨[],by simp,by simp⟩,λb vs hb=>?_,λb o' u' hb=>?_,λb u' hb hn=>?_,λb u' hb=>?_⟩
 ·rw[jg (λz=>by subst z;rw[hu]at hb;exact n1 _ (bO hb))];exact hb
 ·rw[jg (λz=>by subst z;rw[hu]at hb;exact n2 _ _ (bO hb))];exact hb
 ·rw[jg (λz=>hn (by subst z;exact aN e))];exact hb
 ·by_cases z:b=a
  ·subst z;exact⟨o,qp⟩
  ·exact⟨u',by rw[jg z];exact hb⟩
theorem HRep.put(r:HRep K ι H h){i:Nat}(e:ι[i]? = some a)(q:ORep K ι (upd H a o) a ob):HRep K ι (upd H a o) (h.set i ob):=by
 refine⟨r.nd,by rw[cP];exact r.len,λj b o' e1 e2=>?_⟩
 by_cases hj:i=j
 ·subst hj;rw[e]at e1;cases e1
  have hi:i<h.length:=by rw[<-r.len];exact(af.mp e).1
  rw[bZ hi]at e2;cases e2
  exact q
 ·rw[cC hj]at e2;have hne:b≠a:=λz=>by
   subst z;obtain⟨h1,g1⟩:=af.mp e;obtain⟨h2,g2⟩:=af.mp e1;have np:=cO.mp r.nd
   rcases Nat.lt_or_gt_of_ne hj with l|l
   ·exact np i j h1 h2 l (g1.trans g2.symm)
   ·exact np j i h2 h1 l (g2.trans g1.symm)
  exact(r.obj j b o' e1 e2).mono (a7r r e o) (jg hne)
end
structure SRep (K:Fg) (ι:List Addr) (H:Hp) (σ:St) (τ:Sd):Prop where
 len:σ.length=τ.length
 val:∀(i:Nat) (d:D),τ[i]? = some (some d)->∃v,σ[i]? = some (some v)/\Rep K ι H v d
theorem SRep.mono(g:Gr ι H ι' H')(s:SRep K ι H σ τ):SRep K ι' H' σ τ :=
 ⟨s.len,λi d e=>let ⟨v,h1,h2⟩:=s.val i d e; ⟨v,h1,h2.mono g⟩⟩
theorem SRep.set(s:SRep K ι H σ τ)(r:Rep K ι H v d)(i:Nat):SRep K ι H (σ.set i (some v)) (τ.set i (some d)):=by
 refine⟨by simp[s.len],λj d' e=>?_⟩
 by_cases hj:i=j
 ·subst hj;have hi:i<τ.length:=by
   have:=(af.mp e).1
   simpa using this
  rw[bZ hi]at e;cases e
  exact⟨v,by rw[bZ (by rw[s.len];exact hi)],r⟩
 ·rw[cC hj]at e ⊢;exact s.val j d' e
abbrev XD:=Str->List Addr->Hp->Hd->Prop
def out{α β:Type}(K:Fg)(E:XD)(Rp:List Addr->Hp->β->α->Prop)(ι:List Addr)(H:Hp)(r:R α)(Q:β->Hp->Prop):Prop :=
 match r with
 |.ok a h=>∀ι' H' b,Gr ι H ι' H'->Rp ι' H' b a->HRep K ι' H' h->Q b H'
 |.ex c h=>∀ι' H',Gr ι H ι' H'->HRep K ι' H' h->E c ι' H' h
 |.no=>False
theorem a8q{α β:Type}{K:Fg}{E:XD}{Rp:List Addr->Hp->β->α->Prop}{ι ι1:List Addr}{H H1:Hp}{r:R α}{Q:β->Hp->Prop}(o:out K E Rp ι H r Q)(g:Gr ι H ι1 H1):out K E Rp ι1 H1 r Q:=by
 cases r with
 |ok a h=>exact λι' H' b g'=>o ι' H' b (g.trans g')
 |ex c h=>exact λι' H' g'=>o ι' H' (g.trans g')
 |no=>exact o
theorem bx{α β γ δ:Type}{K:Fg}{E:XD}{Rp:List Addr->Hp->β->α->Prop}{Sp:List Addr->Hp->δ->γ->Prop}{ι:List Addr}{H:Hp}{r:R α}{k:α->Hd->R γ}{Q:δ->Hp->Prop}{P:β->Hp->Prop}
  (o:out K E Sp ι H (r.bind k) Q) (hP:∀a h ι1 H1 b,Gr ι H ι1 H1->Rp ι1 H1 b a->HRep K ι1 H1 h->out K E Sp ι1 H1 (k a h) Q->P b H1):out K E Rp ι H r P:=by
 cases r with
 |ok a h=>exact λι' H' b g r' hr=>hP a h ι' H' b g r' hr (a8q o g)
 |ex c h=>exact o
 |no=>exact o
abbrev yq(K:Fg):List Addr->Hp->V->D->Prop:=λι H v d=>Rep K ι H v d
abbrev b0u(K:Fg):List Addr->Hp->List V->List D->Prop:=λι H v d=>Reps K ι H v d
abbrev anf:List Addr->Hp->Bool->Bool->Prop:=λ_ _ a b=>a=b
abbrev b0v:List Addr->Hp->Option Int->Option Int->Prop:=λ_ _ a b=>a=b
def ajv(K:Fg)(E:XD)(ι:List Addr)(H:Hp)(r:Fl)(N:Ends):Prop :=
 match r with
 |.nx τ h=>∀ι' H' σ,Gr ι H ι' H'->SRep K ι' H' σ τ->HRep K ι' H' h->N.nx σ H'
 |.bk τ h=>∀ι' H' σ,Gr ι H ι' H'->SRep K ι' H' σ τ->HRep K ι' H' h->N.bk σ H'
 |.ct τ h=>∀ι' H' σ,Gr ι H ι' H'->SRep K ι' H' σ τ->HRep K ι' H' h->N.ct σ H'
 |.rt d h=>∀ι' H' v,Gr ι H ι' H'->Rep K ι' H' v d->HRep K ι' H' h->N.rt v H'
 |.ex c h=>∀ι' H',Gr ι H ι' H'->HRep K ι' H' h->E c ι' H' h
 |.no=>False
theorem uv(o:ajv K E ι H r N)(g:Gr ι H ι1 H1):ajv K E ι1 H1 r N:=by
 cases r with
 |nx τ h=>exact λι' H' b g'=>o ι' H' b (g.trans g')
 |bk τ h=>exact λι' H' b g'=>o ι' H' b (g.trans g')
 |ct τ h=>exact λι' H' b g'=>o ι' H' b (g.trans g')
 |rt d h=>exact λι' H' b g'=>o ι' H' b (g.trans g')
 |ex c h=>exact λι' H' g'=>o ι' H' (g.trans g')
 |no=>exact o
theorem v9{α β:Type}{K:Fg}{E:XD}{Rp:List Addr->Hp->β->α->Prop}{ι:List Addr}{H:Hp}{r:R α}{k:α->Hd->Fl}{N:Ends}{P:β->Hp->Prop}
  (o:ajv K E ι H (r.fl k) N) (hP:∀a h ι1 H1 b,Gr ι H ι1 H1->Rp ι1 H1 b a->HRep K ι1 H1 h->ajv K E ι1 H1 (k a h) N->P b H1):out K E Rp ι H r P:=by
 cases r with
 |ok a h=>exact λι' H' b g r' hr=>hP a h ι' H' b g r' hr (uv o g)
 |ex c h=>exact o
 |no=>exact o
def lift{α β:Type}(K:Fg)(E:XD)(Rp:List Addr->Hp->β->α->Prop)(f:Sd->Hd->R α):St->Hp->(β->Hp->Prop)->Prop:=λσ H Q =>
 ∃ι τ h,SRep K ι H σ τ/\HRep K ι H h/\out K E Rp ι H (f τ h) Q
def a6x(K:Fg)(E:XD)(f:SS):TS:=λN σ H=>∃ι τ h,SRep K ι H σ τ/\HRep K ι H h/\ajv K E ι H (f τ h) N
abbrev ME(X:Cx)(E:XD)(e:Expr)(f:SE):Prop:=PE X e (lift X.K E (yq X.K) f)
abbrev MT(X:Cx)(E:XD)(e:Expr)(f:ST):Prop:=PT X e (lift X.K E anf f)
abbrev MW(X:Cx)(E:XD)(e:Expr)(f:ST):Prop:=PW X e (lift X.K E anf f)
abbrev MA(X:Cx)(E:XD)(es:List Expr)(f:SA):Prop:=PA X es (lift X.K E (b0u X.K) f)
abbrev MS(X:Cx)(E:XD)(st:Stmt)(f:SS):Prop:=PS X st (a6x X.K E f)
abbrev MSs(X:Cx)(E:XD)(st:List Stmt)(f:SS):Prop:=PSs X st (a6x X.K E f)
theorem PE.weak(h:PE X e t)(i:∀σ H Q,t' σ H Q->t σ H Q):PE X e t':=λaA s σ H Q I q=>h aA s σ H Q I (i _ _ _ q)
theorem PT.weak(h:PT X e t)(i:∀σ H Q,t' σ H Q->t σ H Q):PT X e t':=λaA s σ H Q I q=>h aA s σ H Q I (i _ _ _ q)
theorem PW.weak(h:PW X e t)(i:∀σ H Q,t' σ H Q->t σ H Q):PW X e t':=λwh aA s σ H Q I q=>h wh aA s σ H Q I (i _ _ _ q)
theorem PA.weak(h:PA X e t)(i:∀σ H Q,t' σ H Q->t σ H Q):PA X e t':=λpos aA s σ H Q I q=>h pos aA s σ H Q I (i _ _ _ q)
theorem PS.weak(h:PS X e t)(i:∀N σ H,t' N σ H->t N σ H):PS X e t':=λaA s σ H N I q=>h aA s σ H N I (i _ _ _ q)
theorem PSs.weak(h:PSs X e t)(i:∀N σ H,t' N σ H->t N σ H):PSs X e t':=λaA s σ H N I q=>h aA s σ H N I (i _ _ _ q)
abbrev LINE:Nat:=16777216
theorem ll{n:Nat}(h:n<=LINE):n<=sizeLine:=a8o h
def sV(i:Nat):SE:=λτ h=>match τ[i]? with|some (some d)=>.ok d h|_=>.no
def sC(d:D):SE:=λ_ h=>.ok d h
abbrev sI(i:Int):SE:=sC (.int i)
section
variable{X:Cx}{E:XD}{a b c e:Expr}{fa fb fc:SE}{pos:Pos}
theorem az(i:Nat)(hN:X.N[i]? = some x:=by rfl)(hv:Vis X.env.scope x:=by first|exact Or.inl rfl|exact Or.inr (Or.inl rfl)|exact Or.inr (Or.inr rfl))(hd:(x == ("__debug__" : Str))=false:=by decide)
  (hcd:(x == ("__classdict__" : Str))=false:=by decide):ME X E (.Name x pos) (sV i):=by
 refine PE.weak (ag1 hN hv hd hcd) ?_
 rintro σ H Q ⟨ι,τ,h,S,Rh,o⟩
 unfold sV at o
 split at o
 ·rename_i d e;obtain⟨v,h1,h2⟩:=S.val i d e;exact⟨v,h1,o ι H v (.refl _ _) h2 Rh⟩
 ·exact o.elim
theorem au1(h:PE X e (tC v))(r:∀ι H,Rep X.K ι H v d):ME X E e (sC d) :=
 PE.weak h λσ H Q ⟨ι,τ,h,S,Rh,o⟩=>o ι H v (.refl _ _) (r ι H) Rh
theorem au{i j pos}:ME X E (.Constant (.int i) j pos) (sC (.int i)):=au1 asm λ_ _=>.int i
theorem a2t{i j pos}:ME X E (.Constant (.bool i) j pos) (sC (.bl i)):=au1 axo λ_ _=>.bl i
theorem a2w{i j pos}:ME X E (.Constant (.str i) j pos) (sC (.str i)):=au1 aso λ_ _=>.str i
theorem a6y{j pos}:ME X E (.Constant .none j pos) (sC .non):=au1 asn λ_ _=>.non
theorem a4w(hg:Gl X x)(hm:X.mg x=none)(hv:bootBuiltins x=some (.type n))(hn:x ≠ "__name__":=by decide)(hd:(x == ("__debug__" : Str))=false:=by decide):ME X E (.Name x pos) (sC (.ty n)) :=
 au1 (ag2 (v:=.ty n) hg hm hv rfl hn hd) λ_ _=>.ty n
def s2(g:D->D->Hd->R D)(fa fb:SE):SE:=λτ h=>(fa τ h).bind λx h1=>(fb τ h1).bind λy h2=>g x y h2
def s1(g:D->Hd->R D)(fa:SE):SE:=λτ h=>(fa τ h).bind g
def a1p(K:Fg)(g:D->D->Hd->R D)(r:R2):Prop:=∀(E:XD) ι H h x y dx dy Q,Rep K ι H x dx->Rep K ι H y dy->HRep K ι H h->out K E (yq K) ι H (g dx dy h) Q->r x y H Q
def b0w(K:Fg)(g:D->Hd->R D)(r:V->Hp->VK->Prop):Prop:=∀(E:XD) ι H h x dx Q,Rep K ι H x dx->HRep K ι H h->out K E (yq K) ι H (g dx h) Q->r x H Q
def afw(K:Fg)(g:List D->Hd->R D)(r:List V->Hp->VK->Prop):Prop:=∀(E:XD) ι H h xs ds Q,Reps K ι H xs ds->HRep K ι H h->out K E (yq K) ι H (g ds h) Q->r xs H Q
theorem axc(hs:a1p K g r)(q:lift K E (yq K) (s2 g fa fb) σ H Q):tOp r (lift K E (yq K) fa) (lift K E (yq K) fb) σ H Q:=by
 obtain⟨ι,τ,h,S,Rh,o⟩:=q;refine⟨ι,τ,h,S,Rh,bx o λd h1 ι1 H1 v g1 r1 hr1 o1=>?_⟩;refine⟨ι1,τ,h1,S.mono g1,hr1,bx o1 λd2 h2 ι2 H2 u g2 r2 hr2 o2=>?_⟩;exact hs E ι2 H2 h2 v u d d2 Q (r1.mono g2) r2 hr2 o2
theorem ac2(ho:OpR X (binaryOp op) r)(hs:a1p X.K g r)(ha:ME X E a fa)(hb:ME X E b fb):ME X E (.BinOp a op b pos) (s2 g fa fb) :=
 PE.weak (ay2 ho ha hb) λσ H Q q=>axc hs q
theorem a3f(ho:OpR X (compareOp op) r)(hs:a1p X.K g r)(ha:ME X E a fa)(hb:ME X E b fb)(hm:behindInMarks op b=false):ME X E (.Compare a [op] [b] pos) (s2 g fa fb) :=
 PE.weak (ap4 ho ha hb hm) λσ H Q q=>axc hs q
theorem ayh(ho:UnR X (unaryOp op) r)(hs:b0w X.K g r)(ha:ME X E a fa):ME X E (.UnaryOp op a pos) (s1 g fa):=by
 refine PE.weak (ay3 ho ha) ?_
 rintro σ H Q ⟨ι,τ,h,S,Rh,o⟩
 exact⟨ι,τ,h,S,Rh,bx o λd h1 ι1 H1 v g1 r1 hr1 o1=>hs E ι1 H1 h1 v d Q r1 hr1 o1⟩
theorem ayi(ho:IxR X r)(hs:a1p X.K g r)(ha:ME X E a fa)(hb:ME X E b fb)(hp:a6m b):ME X E (.Subscript a b pos) (s2 g fa fb) :=
 PE.weak (aya ho ha hb hp) λσ H Q q=>axc hs q
def asB(d:D)(h:Hd):R Bool:=match d with|.bl b=>.ok b h|_=>.no
def sT(f:SE):ST:=λτ h=>(f τ h).bind asB
theorem apk(hi:∀σ H Q,lift K E (yq K) f σ H Q->t σ H Q)(q:lift K E anf (sT f) σ H Q):atf t σ H Q:=by
 refine hi σ H _ ?_;obtain⟨ι,τ,h,S,Rh,o⟩:=q;refine⟨ι,τ,h,S,Rh,bx o λd h1 ι1 H1 v g1 r1 hr1 o1=>?_⟩
 cases r1 with
 |bl b=>exact⟨b,rfl,o1 ι1 H1 b (.refl _ _) rfl hr1⟩
 |_=>exact o1.elim
theorem a3g(ho:OpR X (compareOp op) r)(hs:a1p X.K g r)(ha:ME X E a fa)(hb:ME X E b fb)(hm:behindInMarks op b=false):MT X E (.Compare a [op] [b] pos) (sT (s2 g fa fb)) :=
 PT.weak (ap5 ho ha hb hm) λσ H Q q=>apk (λ_ _ _=>axc hs) q
def sCh(g g':D->D->Hd->R D)(fa fb fc:SE):SE:=λτ h=>(fa τ h).bind λx h1=>(fb τ h1).bind λy h2=>(g x y h2).bind λz h3=>match z with
 |.bl true=>(fc τ h3).bind λw h4=>g' y w h4
 |.bl false=>.ok (.bl false) h3
 |_=>.no
theorem au2(hs:a1p K g r)(hs':a1p K g' r')(q:lift K E (yq K) (sCh g g' fa fb fc) σ H Q) :
  an6 r r' (lift K E (yq K) fa) (lift K E (yq K) fb) (lift K E (yq K) fc) σ H Q:=by
 obtain⟨ι,τ,h,S,Rh,o⟩:=q;refine⟨ι,τ,h,S,Rh,bx o λd h1 ι1 H1 v g1 r1 hr1 o1=>?_⟩;refine⟨ι1,τ,h1,S.mono g1,hr1,bx o1 λd2 h2 ι2 H2 u g2 r2 hr2 o2=>?_⟩;refine hs E ι2 H2 h2 v u d d2 _ (r1.mono g2) r2 hr2 (bx o2 λd3 h3 ι3 H3 z g3 r3 hr3 o3=>?_)
 cases r3 with
 |bl k =>
  refine⟨k,rfl,?_⟩
  cases k with
  |true =>
   rw[aO rfl];refine⟨ι3,τ,h3,((S.mono g1).mono g2).mono g3,hr3,bx o3 λd4 h4 ι4 H4 w g4 r4 hr4 o4=>?_⟩;exact hs' E ι4 H4 h4 u w d2 d4 Q ((r2.mono g3).mono g4) r4 hr4 o4
  |false =>
   rw[bE br];exact o3 ι3 H3 (.bl false) (.refl _ _) (.bl false) hr3
 |_=>exact o3.elim
theorem akm(ho:OpR X (compareOp op) r)(ho':OpR X (compareOp op') r')(hs:a1p X.K g r)(hs':a1p X.K g' r')(ha:ME X E a fa)(hb:ME X E b fb)(hc:ME X E c fc)
  (hm:lastMarks [op,op'] [b,c]=false:=by with_unfolding_all rfl):ME X E (.Compare a [op,op'] [b,c] pos) (sCh g g' fa fb fc) :=
 PE.weak (ak9 ho ho' ha hb hc hm) λσ H Q q=>au2 hs hs' q
def tru(d:D)(h:Hd):R Bool:=match d with
 |.non=>.ok false h
 |.bl b=>.ok b h
 |.int i=>.ok (i != 0) h
 |.str x=>if x.length<=LINE then .ok ((x.length:Int) != 0) h else .no
 |.tup xs=>.ok (!xs.isEmpty) h
 |.rol xs=>.ok (!xs.isEmpty) h
 |.ref i=>match h[i]? with
  |some (.lst xs)=>.ok (!xs.isEmpty) h
  |some (.dK kvs)=>.ok (!kvs.isEmpty) h
  |_=>.no
 |_=>.no
theorem Reps.emp{K:Fg}{ι:List Addr}{H:Hp}{vs:List V}{ds:List D}(r:Reps K ι H vs ds):vs.isEmpty=ds.isEmpty:=by cases r<;>rfl
theorem KRep.emp{κ:Type}{K:Fg}{ι:List Addr}{H:Hp}{us:List (κ×V)}{kvs:List (κ×D)}(r:KRep K ι H us kvs):us.isEmpty=kvs.isEmpty:=by
 have:=aU List.length r.1
 cases us<;>cases kvs<;>simp at this ⊢
theorem apl{K:Fg}{ι:List Addr}{H:Hp}{h:Hd}{x:V}{d:D}{Q:Bool->Hp->Prop}(r:Rep K ι H x d)(hr:HRep K ι H h)(o:out K E anf ι H (tru d h) Q):∃k,ay6 K x H k/\Q k H:=by
 cases r with
 |non=>exact⟨false,rfl,o ι H _ (.refl _ _) rfl hr⟩
 |bl b=>exact⟨b,rfl,o ι H _ (.refl _ _) rfl hr⟩
 |int i=>exact⟨_,rfl,o ι H _ (.refl _ _) rfl hr⟩
 |str x =>
  by_cases hl:x.length<=LINE
  ·simp only[tru,aO hl]at o;exact⟨_,⟨ll hl,rfl⟩,o ι H _ (.refl _ _) rfl hr⟩
  ·simp only[tru,bE hl]at o;exact o.elim
 |ty n=>exact o.elim
 |rod _ _ _=>exact o.elim
 |scr _ _=>exact o.elim
 |rdT _ _ _=>exact o.elim
 |exc _ _ _=>exact o.elim
 |ins _ _ _ _=>exact o.elim
 |tup e rs=>exact⟨_,.inr (.inl ⟨_,SqT.of e,rfl⟩),by rw[rs.emp];exact o ι H _ (.refl _ _) rfl hr⟩
 |rol e rs=>exact⟨_,.inl ⟨_,e.l,rfl⟩,by rw[rs.emp];exact o ι H _ (.refl _ _) rfl hr⟩
 |@ref a i e =>
  obtain⟨ob,h1,h2⟩:=hr.at e;simp only[tru,h1]at o
  cases ob with
  |lst xs =>
   obtain⟨vs,h3,h4⟩:=h2;exact⟨_,.inl ⟨_,SqL.of h3,rfl⟩,by rw[h4.emp];exact o ι H _ (.refl _ _) rfl hr⟩
  |dK kvs =>
   obtain⟨us,h3,h4⟩:=h2;exact⟨_,.inr (.inr ⟨_,h3,rfl⟩),by rw[h4.emp];exact o ι H _ (.refl _ _) rfl hr⟩
  |dT kvs=>exact o.elim
  |ins _ _=>exact o.elim
def a4q(f:SE):ST:=λτ h=>(f τ h).bind tru
theorem ww(ha:ME X E a fa)(he:∀whole,isTrue a X.env whole=(do let v <-whole;standAt a.pos;holding [v] (truthy v)):=by intro _;rfl):MT X E a (a4q fa):=by
 refine PT.weak (aka ha he) ?_
 rintro σ H Q ⟨ι,τ,h,S,Rh,o⟩
 exact⟨ι,τ,h,S,Rh,bx o λd h1 ι1 H1 v g1 r1 hr1 o1=>apl r1 hr1 o1⟩
def a7s(f g:ST):ST:=λτ h=>(f τ h).bind λb h1=>if b=true then g τ h1 else .ok false h1
def sOr(f g:ST):ST:=λτ h=>(f τ h).bind λb h1=>if b=true then .ok true h1 else g τ h1
def a4r(f:ST):ST:=λτ h=>(f τ h).bind λb h1=>.ok (!b) h1
variable{ga gb:ST}
theorem a8r(ha:MT X E a ga):MW X E (.BoolOp .And [a] pos) ga:=aov ha
theorem a1t(ha:MT X E a ga):MW X E (.BoolOp .Or [a] pos) ga:=asp ha
theorem adf{aF:List Expr}(ha:MT X E a ga)(hb:MW X E (.BoolOp .And (b::aF) pos) gb):MW X E (.BoolOp .And (a::b::aF) pos) (a7s ga gb):=by
 refine PW.weak (asq ha hb) ?_
 rintro σ H Q ⟨ι,τ,h,S,Rh,o⟩
 refine⟨ι,τ,h,S,Rh,bx o λd h1 ι1 H1 v g1 r1 hr1 o1=>?_⟩;cases r1
 cases d with
 |true=>exact⟨ι1,τ,h1,S.mono g1,hr1,o1⟩
 |false=>exact o1 ι1 H1 false (.refl _ _) rfl hr1
theorem a4x{aF:List Expr}(ha:MT X E a ga)(hb:MW X E (.BoolOp .Or (b::aF) pos) gb):MW X E (.BoolOp .Or (a::b::aF) pos) (sOr ga gb):=by
 refine PW.weak (axp ha hb) ?_
 rintro σ H Q ⟨ι,τ,h,S,Rh,o⟩
 refine⟨ι,τ,h,S,Rh,bx o λd h1 ι1 H1 v g1 r1 hr1 o1=>?_⟩;cases r1
 cases d with
 |true=>exact o1 ι1 H1 true (.refl _ _) rfl hr1
 |false=>exact⟨ι1,τ,h1,S.mono g1,hr1,o1⟩
theorem yr(ha:MT X E a ga):MT X E (.UnaryOp .Not a pos) (a4r ga):=by
 refine PT.weak (asr ha) ?_
 rintro σ H Q ⟨ι,τ,h,S,Rh,o⟩
 refine⟨ι,τ,h,S,Rh,bx o λd h1 ι1 H1 v g1 r1 hr1 o1=>?_⟩;cases r1
 exact o1 ι1 H1 _ (.refl _ _) rfl hr1
def a0y(f g:SE):SE:=λτ h=>(f τ h).bind λd h1=>match d with|.bl true=>g τ h1|.bl false=>.ok (.bl false) h1|_=>.no
def ajw(f g:SE):SE:=λτ h=>(f τ h).bind λd h1=>match d with|.bl true=>.ok (.bl true) h1|.bl false=>g τ h1|_=>.no
def aaf(f:SE):SE:=λτ h=>(f τ h).bind λd h1=>match d with|.bl b=>.ok (.bl (!b)) h1|_=>.no
theorem a6z{op}(ha:ME X E a fa):ME X E (.BoolOp op [a] pos) fa:=ass ha
theorem a7t{aF:List Expr}(ha:ME X E a fa)(hb:ME X E (.BoolOp .And (b::aF) pos) fb):ME X E (.BoolOp .And (a::b::aF) pos) (a0y fa fb):=by
 refine PE.weak (asu ha hb) ?_
 rintro σ H Q ⟨ι,τ,h,S,Rh,o⟩
 refine⟨ι,τ,h,S,Rh,bx o λd h1 ι1 H1 v g1 r1 hr1 o1=>?_⟩
 cases r1 with
 |bl k =>
  refine⟨k,rfl,?_⟩
  cases k with
  |true=>exact⟨ι1,τ,h1,S.mono g1,hr1,o1⟩
  |false=>exact o1 ι1 H1 _ (.refl _ _) (.bl _) hr1
 |_=>exact o1.elim
theorem ayj{aF:List Expr}(ha:ME X E a fa)(hb:ME X E (.BoolOp .Or (b::aF) pos) fb):ME X E (.BoolOp .Or (a::b::aF) pos) (ajw fa fb):=by
 refine PE.weak (axs ha hb) ?_
 rintro σ H Q ⟨ι,τ,h,S,Rh,o⟩
 refine⟨ι,τ,h,S,Rh,bx o λd h1 ι1 H1 v g1 r1 hr1 o1=>?_⟩
 cases r1 with
 |bl k =>
  refine⟨k,rfl,?_⟩
  cases k with
  |false=>exact⟨ι1,τ,h1,S.mono g1,hr1,o1⟩
  |true=>exact o1 ι1 H1 _ (.refl _ _) (.bl _) hr1
 |_=>exact o1.elim
theorem au3(ha:ME X E a fa):ME X E (.UnaryOp .Not a pos) (aaf fa):=by
 refine PE.weak (asv ha) ?_
 rintro σ H Q ⟨ι,τ,h,S,Rh,o⟩
 refine⟨ι,τ,h,S,Rh,bx o λd h1 ι1 H1 v g1 r1 hr1 o1=>?_⟩
 cases r1 with
 |bl k=>exact⟨k,rfl,o1 ι1 H1 _ (.refl _ _) (.bl _) hr1⟩
 |_=>exact o1.elim
def af6(c:ST)(f g:SE):SE:=λτ h=>(c τ h).bind λb h1=>if b=true then f τ h1 else g τ h1
theorem ags(hc:MT X E c ga)(ha:ME X E a fa)(hb:ME X E b fb):ME X E (.IfExp c a b pos) (af6 ga fa fb):=by
 refine PE.weak (ak2 hc ha hb) ?_
 rintro σ H Q ⟨ι,τ,h,S,Rh,o⟩
 refine⟨ι,τ,h,S,Rh,bx o λd h1 ι1 H1 v g1 r1 hr1 o1=>?_⟩;cases r1
 cases d with
 |true=>exact⟨ι1,τ,h1,S.mono g1,hr1,o1⟩
 |false=>exact⟨ι1,τ,h1,S.mono g1,hr1,o1⟩
def bu:SA:=λ_ h=>.ok [] h
def ak(f:SE)(g:SA):SA:=λτ h=>(f τ h).bind λd h1=>(g τ h1).bind λds h2=>.ok (d::ds) h2
variable{es:List Expr}{ka:SA}
theorem aq:MA X E [] bu:=PA.weak a7n λσ H Q ⟨ι,τ,h,S,Rh,o⟩=>o ι H [] (.refl _ _) .nil Rh
theorem aj(ha:ME X E e fa)(hr:MA X E es ka)(hs:starEach (e::es) X.env=(false,eval e X.env)::starEach es X.env:=by rfl):MA X E (e::es) (ak fa ka):=by
 refine PA.weak (vp ha hr hs) ?_
 rintro σ H Q ⟨ι,τ,h,S,Rh,o⟩
 refine⟨ι,τ,h,S,Rh,bx o λd h1 ι1 H1 v g1 r1 hr1 o1=>?_⟩;refine⟨ι1,τ,h1,S.mono g1,hr1,bx o1 λd2 h2 ι2 H2 u g2 r2 hr2 o2=>?_⟩;exact o2 ι2 H2 _ (.refl _ _) (.cons (r1.mono g2) r2) hr2
def ur(ds:List D)(h:Hd):R D:=if ds.length<=LINE then .ok (.tup ds) h else .no
def a1u(ds:List D)(h:Hd):R D:=if ds.length<=LINE then .ok (.ref h.length) (h++[.lst ds]) else .no
def sA(g:List D->Hd->R D)(k:SA):SE:=λτ h=>(k τ h).bind g
theorem a0z(r:Reps K ι H vs ds)(hr:HRep K ι H h)(o:out K E (yq K) ι H (.ok (.tup ds) h) Q):∀p,H p=none->Q (.ref p) (upd H p (.tup vs)):=λp hp =>
 o ι _ _ (a02 hp _) (.tup qp (r.mono (a02 hp _))) (hr.aside hp _)
theorem zc(r:Reps K ι H vs ds)(hr:HRep K ι H h)(o:out K E (yq K) ι H (.ok (.ref h.length) (h++[.lst ds])) Q):∀p,H p=none->Q (.ref p) (upd H p (.lst vs)):=λp hp =>
 o (ι++[p]) _ _ (ade hp _) (.ref (by rw[aL (by rw[hr.len];exact aI _),hr.len];simp)) (hr.add hp ⟨_,qp,r.mono (ade hp _)⟩)
theorem apm{K:Fg}{ι:List Addr}{H:Hp}{h:Hd}{i:Nat}{a:Addr}{vs:List V}{ds:List D}{d:D}{v:V}{Q:VK}(r:Reps K ι H vs ds)(hr:HRep K ι H h)(hi:ι[i]? = some a)(rd:Rep K ι H v d)(o:out K E (yq K) ι H (.ok d (h.set i (.lst ds))) Q):Q v (upd H a (.lst vs)) :=
 o ι _ _ (a7r hr hi _) (rd.mono (a7r hr hi _)) (hr.put hi ⟨_,qp,r.mono (a7r hr hi _)⟩)
theorem vq{x1}(h:MA X E es ka):ME X E (.Tuple es x1 pos) (sA ur ka):=by
 refine PE.weak (an7 h) ?_
 rintro σ H Q ⟨ι,τ,h,S,Rh,o⟩
 refine⟨ι,τ,h,S,Rh,bx o λd h1 ι1 H1 v g1 r1 hr1 o1=>?_⟩;unfold ur at o1
 split at o1
 ·rename_i hl;exact⟨ll (by rw[r1.len];exact hl),a0z r1 hr1 o1⟩
 ·exact o1.elim
theorem yf(h:MA X E es ka):ME X E (.List es pos) (sA a1u ka):=by
 refine PE.weak (ath h) ?_
 rintro σ H Q ⟨ι,τ,h,S,Rh,o⟩
 refine⟨ι,τ,h,S,Rh,bx o λd h1 ι1 H1 v g1 r1 hr1 o1=>?_⟩;unfold a1u at o1
 split at o1
 ·rename_i hl;exact⟨ll (by rw[r1.len];exact hl),zc r1 hr1 o1⟩
 ·exact o1.elim
theorem a0i{x:Str}{p:Pos}{id:String}{r:List V->Hp->VK->Prop}{g:List D->Hd->R D}(hc:CallR X (.builtin id) r)(hs:afw X.K g r)(hg:Gl X x)(hm:X.mg x=none)(hv:bootBuiltins x=some (.builtin id))(ha:MA X E (e::es) ka)(hn:x ≠ "__name__":=by decide)(hdb:(x == ("__debug__" : Str))=false:=by decide)
  (he:starEach (e::es) X.env=(false,eval e X.env)::starEach es X.env:=by rfl) (hpl:(backTo pos (starEach es X.env)).any (·.1)=false:=by rfl):ME X E (.Call (.Name x p) (e::es) [] pos) (sA g ka):=by
 refine PE.weak (a8k hc hg hm hv ha hn hdb he hpl) ?_
 rintro σ H Q ⟨ι,τ,h,S,Rh,o⟩
 exact⟨ι,τ,h,S,Rh,bx o λd h1 ι1 H1 v g1 r1 hr1 o1=>hs E ι1 H1 h1 v d Q r1 hr1 o1⟩
theorem a1v{x:Str}{p:Pos}{id:String}{r:List V->Hp->VK->Prop}{g:List D->Hd->R D}(hc:CallR X (.type id) r)(hs:afw X.K g r)(hg:Gl X x)(hm:X.mg x=none)(hv:bootBuiltins x=some (.type id))(ha:MA X E (e::es) ka)(hn:x ≠ "__name__":=by decide)(hdb:(x == ("__debug__" : Str))=false:=by decide)
  (he:starEach (e::es) X.env=(false,eval e X.env)::starEach es X.env:=by rfl) (hpl:(backTo pos (starEach es X.env)).any (·.1)=false:=by rfl):ME X E (.Call (.Name x p) (e::es) [] pos) (sA g ka):=by
 refine PE.weak (age hc hg hm hv ha hn hdb he hpl) ?_
 rintro σ H Q ⟨ι,τ,h,S,Rh,o⟩
 exact⟨ι,τ,h,S,Rh,bx o λd h1 ι1 H1 v g1 r1 hr1 o1=>hs E ι1 H1 h1 v d Q r1 hr1 o1⟩
end
def dm(f g:SS):SS:=λτ h=>match f τ h with|.nx τ1 h1=>g τ1 h1|r=>r
def sNx:SS:=λτ h=>.nx τ h
def sr(f:SE):SS:=λτ h=>(f τ h).fl λd h1=>.rt d h1
def uw(f:SE):SS:=λτ h=>(f τ h).fl λ_ h1=>.nx τ h1
def sIf(c:ST)(f g:SS):SS:=λτ h=>(c τ h).fl λb h1=>if b=true then f τ h1 else g τ h1
def j9(i:Nat)(f:SE):SS:=λτ h=>(f τ h).fl λd h1=>.nx (τ.set i (some d)) h1
def afx(i:Nat)(g:D->D->Hd->R D)(f:SE):SS:=λτ h=>match τ[i]? with
 |some (some x)=>(f τ h).fl λy h1=>(g x y h1).fl λz h2=>.nx (τ.set i (some z)) h2
 |_=>.no
section
variable{X:Cx}{E:XD}{e o:Expr}{es:List Expr}{fa fb fc:SE}{ga:ST}{st:Stmt}{sts a b:List Stmt}{f g:SS}{pos:Pos}
theorem iy:MSs X E [] sNx:=PSs.weak aow λN σ H ⟨ι,τ,h,S,Rh,o⟩=>o ι H σ (.refl _ _) S Rh
theorem au4(q:a6x K E (dm f g) N σ H):a6x K E f {N with nx:=a6x K E g N} σ H:=by
 obtain⟨ι,τ,h,S,Rh,o⟩:=q;refine⟨ι,τ,h,S,Rh,?_⟩;unfold dm at o
 cases hf:f τ h with
 |nx τ1 h1 =>
  rw[hf]at o;exact λι1 H1 σ1 g1 S1 R1=>⟨ι1,τ1,h1,S1,R1,uv o g1⟩
 |_=>rw[hf]at o;exact o
theorem ao(h1:MS X E st f)(h2:MSs X E sts g):MSs X E (st::sts) (dm f g):=PSs.weak (ak3 h1 h2) λN σ H q=>au4 q
theorem bh(h1:MS X E st f):MSs X E [st] f:=aox h1
theorem j5(he:ME X E e fa):MS X E (.Return (some e) pos) (sr fa):=by
 refine PS.weak (asw he) ?_
 rintro N σ H ⟨ι,τ,h,S,Rh,o⟩
 exact⟨ι,τ,h,S,Rh,v9 o λd h1 ι1 H1 v g1 r1 hr1 o1=>o1 ι1 H1 v (.refl _ _) r1 hr1⟩
theorem vy(he:ME X E e fa)(hs:swapsWith e none pos.line X.env=pure false:=by rfl):MS X E (.Expr e pos) (uw fa):=by
 refine PS.weak (aoy he hs) ?_
 rintro N σ H ⟨ι,τ,h,S,Rh,o⟩
 exact⟨ι,τ,h,S,Rh,v9 o λd h1 ι1 H1 v g1 r1 hr1 o1=>o1 ι1 H1 σ (.refl _ _) (S.mono g1) hr1⟩
theorem qb(hc:MT X E c ga)(ha:MSs X E a f)(hb:MSs X E b g):MS X E (.If c a b pos) (sIf ga f g):=by
 refine PS.weak (axv hc ha hb) ?_
 rintro N σ H ⟨ι,τ,h,S,Rh,o⟩
 refine⟨ι,τ,h,S,Rh,v9 o λd h1 ι1 H1 v g1 r1 hr1 o1=>?_⟩;cases r1
 cases d with
 |true=>exact⟨ι1,τ,h1,S.mono g1,hr1,o1⟩
 |false=>exact⟨ι1,τ,h1,S.mono g1,hr1,o1⟩
theorem ang(hN:X.N.Nodup)(hi:X.N[i]? = some x)(hx:Loc X.env.scope x)(he:ME X E e fa)(hs:swapsWith e (some (.Name x pos')) pos.line X.env=pure false:=by rfl)(hf:Hf X x:=by first|exact .inl rfl|exact .inr rfl|assumption) :
  MS X E (.Assign [.Name x pos'] e pos) (j9 i fa):=by
 refine PS.weak (asz hN hi hx he hs hf) ?_
 rintro N σ H ⟨ι,τ,h,S,Rh,o⟩
 exact⟨ι,τ,h,S,Rh,v9 o λd h1 ι1 H1 v g1 r1 hr1 o1=>o1 ι1 H1 _ (.refl _ _) ((S.mono g1).set r1 i) hr1⟩
theorem adg(hN:X.N.Nodup)(hi:X.N[i]? = some x)(hx:Loc X.env.scope x)(ho:OpR X (inplaceOp op) r)(hs:a1p X.K gg r)(he:ME X E e fa)(hf:Hf X x:=by first|exact .inl rfl|exact .inr rfl|assumption) :
  MS X E (.AugAssign (.Name x pos') op e pos) (afx i gg fa):=by
 refine PS.weak (at5 hN hi hx he ho hf) ?_
 rintro N σ H ⟨ι,τ,h,S,Rh,o⟩
 unfold afx at o
 split at o
 ·rename_i d ed;obtain⟨v,h1,h2⟩:=S.val i d ed;refine⟨v,h1,ι,τ,h,S,Rh,v9 o λd2 h3 ι1 H1 u g1 r1 hr1 o1=>?_⟩;refine hs E ι1 H1 h3 v u d d2 _ (h2.mono g1) r1 hr1 (v9 o1 λd3 h4 ι2 H2 z g2 r2 hr2 o2=>?_);exact o2 ι2 H2 _ (.refl _ _) (((S.mono g1).mono g2).set r2 i) hr2
 ·exact o.elim
def put(o k v:D)(h:Hd):Option Hd:=match o,k with
 |.ref i,.int j=>match h[i]? with
  |some (.lst xs)=>match ixN xs.length j with
   |some m=>some (h.set i (.lst (xs.set m v)))
   |none=>none
  |_=>none
 |_,_=>none
theorem agt{K:Fg}{ι:List Addr}{H:Hp}{h h':Hd}{o k v:V}{od kd vd:D}{Q:Hp->Prop}(r1:Rep K ι H o od)(r2:Rep K ι H k kd)(r3:Rep K ι H v vd)(hr:HRep K ι H h)(e:put od kd vd h=some h')
  (q:∀H',Gr ι H ι H'->HRep K ι H' h'->Q H'):ato o k v H Q:=by
 cases r1 with
 |@ref a i ha =>
  cases r2 with
  |int j =>
   obtain⟨ob,h1,h2⟩:=hr.at ha
   cases ob with
   |lst xs =>
    obtain⟨vs,h3,h4⟩:=h2;simp only[put,h1]at e
    cases hm:ixN xs.length j with
    |none=>rw[hm]at e;cases e
    |some m =>
     rw[hm]at e;cases e
     exact⟨a,vs,j,m,rfl,rfl,h3,by rw[h4.len];exact hm,q _ (a7r hr ha _) (hr.put ha ⟨_,qp,(h4.set r3 m).mono (a7r hr ha _)⟩)⟩
   |dK _=>simp only[put,h1]at e;cases e
   |dT _=>simp only[put,h1]at e;cases e
   |ins _ _=>simp only[put,h1]at e;cases e
  |_=>cases e
 |_=>cases e
def abp(fe fo fi:SE):SS:=λτ h=>(fe τ h).fl λv h1=>(fo τ h1).fl λo h2=>(fi τ h2).fl λk h3=>match put o k v h3 with|some h4=>.nx τ h4|none=>.no
theorem aag(he:ME X E e fa)(ho:ME X E o fb)(hi:ME X E i fc)
  (hs:swapsWithSole [.Subscript o i pos'] e pos.line X.env=pure false:=by rfl) (hw:swappedStores [.Subscript o i pos'] e X.env=pure none:=by rfl)
  (h1:(assignEach [.Subscript o i pos'] X.env).map (·.2)=[assign (.Subscript o i pos') X.env]:=by rfl)
  (ha:∀v,assign (.Subscript o i pos') X.env v=(do
   let ov <-holding [v] (eval o X.env)
   let iv <-holding [v,ov] (eval i X.env)
   standAt pos'
   holding [v,ov,iv] (setItem ov iv v)
   release [v,ov,iv] []):=by intro _;rfl):MS X E (.Assign [.Subscript o i pos'] e pos) (abp fa fb fc):=by
 refine PS.weak (an4 he (asy ho hi set_list ha) hs hw h1) ?_
 rintro N σ H ⟨ι,τ,h,S,Rh,oo⟩
 refine⟨ι,τ,h,S,Rh,v9 oo λd h1 ι1 H1 v g1 r1 hr1 o1=>?_⟩;refine⟨ι1,τ,h1,S.mono g1,hr1,v9 o1 λd2 h2 ι2 H2 u g2 r2 hr2 o2=>?_⟩;refine⟨ι2,τ,h2,(S.mono g1).mono g2,hr2,v9 o2 λd3 h3 ι3 H3 w g3 r3 hr3 o3=>?_⟩
 cases hp:put d2 d3 d h3 with
 |none=>rw[hp]at o3;exact o3.elim
 |some h4 =>
  rw[hp]at o3;exact agt (r2.mono g3) r3 ((r1.mono g2).mono g3) hr3 hp λH' g4 hr4=>o3 ι3 H' σ g4 ((((S.mono g1).mono g2).mono g3).mono g4) hr4
def sWh(c:ST)(f:SS):Nat->SS
 |0,_,_=>.no
 |n+1,τ,h=>(c τ h).fl λb h1=>if b=true then (match f τ h1 with|.nx τ2 h2=>sWh c f n τ2 h2|.ct τ2 h2=>sWh c f n τ2 h2|.bk τ2 h2=>.nx τ2 h2|r=>r) else .nx τ h1
theorem a5y(n:Nat)(hp:PassesOwn (model X.prog X.w) X.A X.env X.xe)(hc:MT X E c ga)(hb:MSs X E a f):MS X E (.While c a [] pos) (sWh ga f n):=by
 refine PS.weak (ak5 hp hc hb) λN σ H q=>?_;refine⟨λm σ H=>a6x X.K E (sWh ga f m) N σ H,⟨n,q⟩,?_⟩
 rintro m σ1 H1 ⟨ι,τ,h,S,Rh,o⟩
 cases m with
 |zero=>exact o.elim
 |succ m =>
  refine⟨ι,τ,h,S,Rh,v9 o λd h1 ι1 H1 v g1 r1 hr1 o1=>?_⟩;cases r1
  cases d with
  |false=>exact o1 ι1 H1 _ (.refl _ _) (S.mono g1) hr1
  |true =>
   refine⟨λσ' H'=>a6x X.K E (sWh ga f m) N σ' H',λσ' H' q=>⟨m,Nat.lt_succ_self m,q⟩,ι1,τ,h1,S.mono g1,hr1,?_⟩;rw[aO rfl]at o1
   cases hf:f τ h1 with
   |nx τ2 h2=>rw[hf]at o1;exact λι2 H2 σ2 g2 S2 R2=>⟨ι2,τ2,h2,S2,R2,uv o1 g2⟩
   |ct τ2 h2=>rw[hf]at o1;exact λι2 H2 σ2 g2 S2 R2=>⟨ι2,τ2,h2,S2,R2,uv o1 g2⟩
   |bk τ2 h2=>rw[hf]at o1;exact o1
   |rt d h2=>rw[hf]at o1;exact o1
   |ex c h2=>rw[hf]at o1;exact o1
   |no=>rw[hf]at o1;exact o1.elim
end
abbrev SG:=D->Sd->Hd->Fl
def apn(K:Fg)(E:XD)(g:SG):TG:=λv σ H Q=>∃ι τ h d,Rep K ι H v d/\SRep K ι H σ τ/\HRep K ι H h/\ajv K E ι H (g d τ h) {nx:=Q,rt:=λ_ _=>False}
abbrev MG(X:Cx)(E:XD)(tg:Expr)(g:SG):Prop:=PG X tg (apn X.K E g)
abbrev SGs:=List D->Sd->Hd->Fl
def agu(K:Fg)(E:XD)(g:SGs):TGs:=λvs σ H Q=>∃ι τ h ds,Reps K ι H vs ds/\SRep K ι H σ τ/\HRep K ι H h/\ajv K E ι H (g ds τ h) {nx:=Q,rt:=λ_ _=>False}
abbrev MGs(X:Cx)(E:XD)(tg:List Expr)(g:SGs):Prop:=PGs X tg (agu X.K E g)
theorem PG.weak(h:PG X e t)(i:∀v σ H Q,t' v σ H Q->t v σ H Q):PG X e t':=λaA s σ H v u Q I r q=>h aA s σ H v u Q I r (i _ _ _ _ q)
theorem PGs.weak(h:PGs X e t)(i:∀v σ H Q,t' v σ H Q->t v σ H Q):PGs X e t':=λaA s σ H v u Q I r q=>h aA s σ H v u Q I r (i _ _ _ _ q)
def kN(i:Nat):SG:=λd τ h=>.nx (τ.set i (some d)) h
def a8s:SGs:=λds τ h=>match ds with|[]=>.nx τ h|_=>.no
def o7(g:SG)(k:SGs):SGs:=λds τ h=>match ds with|d::r=>(match g d τ h with|.nx τ1 h1=>k r τ1 h1|_=>.no)|[]=>.no
def a7u(n:Nat)(k:SGs):SG:=λd τ h=>match d with|.tup ds=>if ds.length=n then k ds τ h else .no|_=>.no
section
variable{X:Cx}{E:XD}{e:Expr}{es:List Expr}{fa:SE}{pos:Pos}{g:SG}{ks:SGs}
theorem j6(hN:X.N.Nodup)(hi:X.N[i]? = some x)(hx:Loc X.env.scope x)(hf:Hf X x:=by first|exact .inl rfl|exact .inr rfl|assumption):MG X E (.Name x pos) (kN i) :=
 PG.weak (abu hN hi hx hf) λv σ H Q ⟨ι,τ,h,d,r,S,Rh,o⟩=>o ι H _ (.refl _ _) (S.set r i) Rh
theorem a1w:MGs X E [] a8s:=by
 refine PGs.weak abv ?_
 rintro vs σ H Q ⟨ι,τ,h,ds,r,S,Rh,o⟩
 cases r with
 |nil=>exact⟨rfl,o ι H σ (.refl _ _) S Rh⟩
 |cons _ _=>exact o.elim
theorem akn(q:agu K E (o7 g ks) vs σ H Q):ak4 (apn K E g) (agu K E ks) vs σ H Q:=by
 obtain⟨ι,τ,h,ds,r,S,Rh,o⟩:=q
 cases r with
 |nil=>exact o.elim
 |@cons v d vs ds r rs =>
  refine⟨v,vs,rfl,ι,τ,h,d,r,S,Rh,?_⟩;simp only[o7]at o
  cases hg:g d τ h with
  |nx τ1 h1 =>
   rw[hg]at o;exact λι1 H1 σ1 g1 S1 R1=>⟨ι1,τ1,h1,ds,rs.mono g1,S1,R1,uv o g1⟩
  |_=>rw[hg]at o;exact o.elim
theorem a5m(hc:X.calm=true)(h:MGs X E es ks)(hn:(assignEach es X.env).length=n:=by rfl)(hst:(assignEach es X.env).findIdx? (·.1)=none:=by rfl):MG X E (.Tuple es k pos) (a7u n ks):=by
 refine PG.weak (ag3 hc h hn hst) ?_
 rintro v σ H Q ⟨ι,τ,h,d,r,S,Rh,o⟩
 cases r with
 |@tup a vs xs e rs =>
  simp only[a7u]at o
  by_cases hl:xs.length=n
  ·rw[aO hl]at o;exact⟨a,vs,rfl,SqT.of e,by rw[rs.len];exact hl,ι,τ,h,xs,rs,S,Rh,o⟩
  ·rw[bE hl]at o;exact o.elim
 |_=>exact o.elim
def abq(f:SE)(g:SG):SS:=λτ h=>(f τ h).fl λd h1=>match g d τ h1 with|.nx τ2 h2=>.nx τ2 h2|_=>.no
theorem a7v(he:ME X E e fa)(hg:MG X E tg g)(hs:swapsWithSole [tg] e pos.line X.env=pure false:=by rfl)(hw:swappedStores [tg] e X.env=pure none:=by rfl)
  (h1:(assignEach [tg] X.env).map (·.2)=[assign tg X.env]:=by rfl):MS X E (.Assign [tg] e pos) (abq fa g):=by
 refine PS.weak (an4 he hg hs hw h1) ?_
 rintro N σ H ⟨ι,τ,h,S,Rh,o⟩
 refine⟨ι,τ,h,S,Rh,v9 o λd h1 ι1 H1 v g1 r1 hr1 o1=>⟨ι1,τ,h1,d,r1,S.mono g1,hr1,?_⟩⟩
 cases hg:g d τ h1 with
 |nx τ1 h1=>rw[hg]at o1;exact o1
 |_=>rw[hg]at o1;exact o1.elim
end
structure Itm where
 xs:List D
 ck:Hd->Prop
def as6(K:Fg)(ι0:List Addr)(H0:Hp)(J:It)(it:Itm):Prop:=∀ι H h,Gr ι0 H0 ι H->HRep K ι H h->it.ck h->
 (∀(i:Nat) (d:D),it.xs[i]? = some d->J.go i H/\∀x H',J.yld i H x H'->Gr ι H ι H'/\Rep K ι H' x d/\HRep K ι H' h)/\J.stop it.xs.length H
abbrev ayk(K:Fg):List Addr->Hp->It->Itm->Prop:=λι H J it=>as6 K ι H J it
abbrev SI:=Sd->Hd->R Itm
abbrev MI(X:Cx)(E:XD)(tg aE:Expr)(f:SI):Prop:=PI X tg aE (lift X.K E (ayk X.K) f)
def a0s(x:Str):List D:=x.cps.toList.map λc=>D.str ⟨#[c]⟩
def agv(d:D)(h:Hd):R Itm:=match d with
 |.tup xs=>.ok ⟨xs,λ_=>True⟩ h
 |.rol xs=>.ok ⟨xs,λ_=>True⟩ h
 |.str x=>.ok ⟨a0s x,λ_=>True⟩ h
 |.ref i=>match h[i]? with
  |some (.lst xs)=>.ok ⟨xs,λh=>h[i]? = some (.lst xs)⟩ h
  |_=>.no
 |_=>.no
def sIt(f:SE):SI:=λτ h=>(f τ h).bind agv
theorem anh(hl:∀ι H h,Gr ι0 H0 ι H->HRep K ι H h->ck h->∃vs,SqL K H a vs/\Reps K ι H vs xs):as6 K ι0 H0 (Itl K a) ⟨xs,ck⟩:=by
 intro ι H h g hr c
 obtain⟨vs,h1,h2⟩:=hl ι H h g hr c;refine⟨λi d e=>?_,⟨vs,h1,by rw[h2.len];exact aI _⟩⟩
 obtain⟨v,e1,r⟩:=h2.get e;refine⟨⟨vs,v,h1,e1⟩,λx H' y=>?_⟩;obtain⟨rfl,y⟩:=y;have:=y vs h1;rw[e1]at this;cases this
 exact⟨.refl _ _,r,hr⟩
theorem qt(hl:ME X E l f):MI X E tg l (sIt f):=by
 rintro aA s σ H Rr I ⟨ι,τ,h,S,Rh,o⟩
 unfold sIt at o
 cases hf:f τ h with
 |no=>rw[hf]at o;exact o.elim
 |ex c h1 =>
  rw[hf]at o;exact anc hl aA s σ H Rr I ⟨ι,τ,h,S,Rh,by rw[hf];exact o⟩
 |ok d h1 =>
  rw[hf]at o
  cases d with
  |tup xs =>
   refine at7 hl aA s σ H Rr I ⟨ι,τ,h,S,Rh,?_⟩;rw[hf]
   intro ι1 H1 v g1 r1 hr1
   cases r1 with
   |@tup a vs _ e rs =>
    refine⟨a,rfl,⟨vs,SqT.of e⟩,o ι1 H1 _ g1 ?_ hr1⟩
    intro ι2 H2 h2 g2 hr2 _
    have e2:=g2.tup _ _ e;have rs2:=rs.mono g2;refine⟨λi d ed=>?_,⟨vs,SqT.of e2,by rw[rs2.len];exact aI _⟩⟩
    obtain⟨v,e1,r⟩:=rs2.get ed;refine⟨⟨vs,v,SqT.of e2,e1⟩,λx H' y=>?_⟩;obtain⟨rfl,y⟩:=y;have:=y vs (SqT.of e2);rw[e1]at this;cases this
    exact⟨.refl _ _,r,hr2⟩
  |rol xs =>
   refine ag5 hl aA s σ H Rr I ⟨ι,τ,h,S,Rh,?_⟩;rw[hf]
   intro ι1 H1 v g1 r1 hr1
   cases r1 with
   |@rol a vs _ e rs =>
    refine⟨a,rfl,⟨vs,e.l⟩,o ι1 H1 _ g1 ?_ hr1⟩;exact anh (λι2 H2 h2 g2 hr2 _=>⟨vs,(e.mono g2).l,rs.mono g2⟩)
  |str x =>
   refine anc hl aA s σ H Rr I ⟨ι,τ,h,S,Rh,?_⟩;rw[hf]
   intro ι1 H1 v g1 r1 hr1
   cases r1
   refine⟨x,rfl,o ι1 H1 _ g1 ?_ hr1⟩
   intro ι2 H2 h2 g2 hr2 _
   refine⟨λi d ed=>?_,by show(a0s x).length=_;simp[a0s]⟩
   simp only[a0s,aM,aP]at ed;obtain⟨c,ec,rfl⟩:=ed;refine⟨by show i<x.cps.size;have:=(af.mp ec).1;simpa using this,λy H' q=>?_⟩
   obtain⟨rfl,c',ec',rfl⟩:=q;rw[ec]at ec';cases ec'
   exact⟨.refl _ _,.str _,hr2⟩
  |ref i =>
   simp only[R.bind,agv]at o
   cases ho:h1[i]? with
   |none=>rw[ho]at o;exact o.elim
   |some ob =>
    rw[ho]at o
    cases ob with
    |dK _=>exact o.elim
    |dT _=>exact o.elim
    |ins _ _=>exact o.elim
    |lst xs =>
     refine ag5 hl aA s σ H Rr I ⟨ι,τ,h,S,Rh,?_⟩;rw[hf]
     intro ι1 H1 v g1 r1 hr1
     cases r1 with
     |@ref a _ e =>
      obtain⟨vs,e1,rs⟩:=hr1.obj i a _ e ho;refine⟨a,rfl,⟨vs,SqL.of e1⟩,o ι1 H1 _ g1 ?_ hr1⟩;refine anh (λι2 H2 h2 g2 hr2 c=>?_);obtain⟨us,e3,rs3⟩:=hr2.obj i a _ (g2.at e) c;exact⟨us,SqL.of e3,rs3⟩
  |_=>exact o.elim
def rng(lo:Int)(n:Nat):List D:=(List.range n).map λi=>D.int (lo+(i:Nat))
def B62(j:Int):Prop := -(2^62)<=j/\j<2^62
instance (j:Int):Decidable (B62 j):=by unfold B62;exact inferInstance
def yt(ds:List D)(h:Hd):R Itm:=match ds with
 |[.int j]=>if B62 j then .ok ⟨rng 0 j.toNat,λ_=>True⟩ h else .no
 |_=>.no
def a7h(ds:List D)(h:Hd):R Itm:=match ds with
 |[.int i,.int j]=>if B62 i/\B62 j then .ok ⟨rng i (j-i).toNat,λ_=>True⟩ h else .no
 |_=>.no
def sRg(g:List D->Hd->R Itm)(k:SA):SI:=λτ h=>(k τ h).bind g
theorem ani(lo:Int)(n:Nat):as6 K ι0 H0 (Itr lo n) ⟨rng lo n,λ_=>True⟩:=by
 intro ι H h g hr _
 refine⟨λi d ed=>?_,by show n<=(rng lo n).length;simp[rng]⟩
 simp only[rng,aM,aP]at ed;obtain⟨j,ej,rfl⟩:=ed;obtain⟨hj,e⟩:=af.mp ej;simp at e hj;subst e;refine⟨hj,λy H' q=>?_⟩;obtain⟨rfl,rfl⟩:=q;exact⟨.refl _ _,.int _,hr⟩
theorem a1a(hg:Gl X "range")(hm:X.mg "range" = none)(ha:MA X E [a] k)(hs:starEach [a] X.env=[(false,eval a X.env)]:=by rfl):MI X E tg (.Call (.Name "range" p) [a] [] pos) (sRg yt k):=by
 rintro aA s σ H Rr I ⟨ι,τ,h,S,Rh,o⟩
 refine ag6 hg hm ha hs aA s σ H Rr I ⟨ι,τ,h,S,Rh,bx o λds h1 ι1 H1 vs g1 r1 hr1 o1=>?_⟩;unfold yt at o1
 split at o1
 ·rename_i j
  cases r1 with
  |cons r rs =>
   cases r;cases rs
   by_cases hb:B62 j
   ·rw[aO hb]at o1;exact⟨j,rfl,hb.1,hb.2,o1 ι1 H1 _ (.refl _ _) (ani 0 j.toNat) hr1⟩
   ·rw[bE hb]at o1;exact o1.elim
 ·exact o1.elim
theorem agw(hg:Gl X "range")(hm:X.mg "range" = none)(ha:MA X E [a,b] k)(hs:starEach [a,b] X.env=[(false,eval a X.env),(false,eval b X.env)]:=by rfl)(hs2:starEach [b] X.env=[(false,eval b X.env)]:=by rfl):MI X E tg (.Call (.Name "range" p) [a,b] [] pos) (sRg a7h k):=by
 rintro aA s σ H Rr I ⟨ι,τ,h,S,Rh,o⟩
 refine ag7 hg hm ha hs hs2 aA s σ H Rr I ⟨ι,τ,h,S,Rh,bx o λds h1 ι1 H1 vs g1 r1 hr1 o1=>?_⟩;unfold a7h at o1
 split at o1
 ·rename_i i j
  cases r1 with
  |cons r rs =>
   cases r
   cases rs with
   |cons r rs =>
   cases r;cases rs
   by_cases hb:B62 i/\B62 j
   ·rw[aO hb]at o1;exact⟨i,j,rfl,⟨hb.1.1,hb.1.2,hb.2.1,hb.2.2⟩,o1 ι1 H1 _ (.refl _ _) (ani i _) hr1⟩
   ·rw[bE hb]at o1;exact o1.elim
 ·exact o1.elim
open Classical in
noncomputable def forL(ck:Hd->Prop)(g:SG)(b:SS):List D->Sd->Hd->Fl
 |[],τ,h=>if ck h then .nx τ h else .no
 | x::xs,τ,h=>if ck h then (match g x τ h with
   |.nx τ1 h1=>(match b τ1 h1 with
    |.nx τ2 h2=>forL ck g b xs τ2 h2
    |.ct τ2 h2=>forL ck g b xs τ2 h2
    |.bk τ2 h2=>.nx τ2 h2
    |r=>r)
   |_=>.no) else .no
noncomputable def a2u(f:SI)(g:SG)(b:SS):SS:=λτ h=>(f τ h).fl λit h1=>forL it.ck g b it.xs τ h1
theorem apo(ir:as6 K ι0 H0 J it)(S:SRep K ι0 H0 σ0 τ0)(Rh:HRep K ι0 H0 h0)(o:ajv K E ι0 H0 (forL it.ck g b it.xs τ0 h0) N) :
  ∃W:Nat->Nat->St->Hp->Prop,(∃m,W 0 m σ0 H0)/\∀i m σ H,W i m σ H->
   (J.stop i H/\N.nx σ H)\/(J.go i H/\∃M:St->Hp->Prop,(∀σ' H',M σ' H'->∃m',m'<m/\W (i+1) m' σ' H')/\∀x H',J.yld i H x H'->apn K E g x σ H' λσ2 H2=>a6x K E b {N with nx:=M,ct:=M,bk:=N.nx} σ2 H2):=by
 refine⟨λi m σ H=>m=it.xs.length-i/\i<=it.xs.length/\∃ι τ h,Gr ι0 H0 ι H/\SRep K ι H σ τ/\HRep K ι H h/\ajv K E ι H (forL it.ck g b (it.xs.drop i) τ h) N,⟨_,rfl,bq _,ι0,τ0,h0,.refl _ _,S,Rh,o⟩,?_⟩
 rintro i m σ H ⟨rfl,hi,ι,τ,h,g0,S,Rh,o⟩
 by_cases hlt:i<it.xs.length
 ·rw[dC hlt,forL]at o
  by_cases hc:it.ck h
  ·rw[aO hc]at o;obtain⟨go,yl⟩:=(ir ι H h g0 Rh hc).1 i _ (ae hlt);refine .inr ⟨go,λσ' H'=>it.xs.length-(i+1)<it.xs.length-i/\∃ι τ h,Gr ι0 H0 ι H'/\SRep K ι H' σ' τ/\HRep K ι H' h/\ajv K E ι H' (forL it.ck g b (it.xs.drop (i+1)) τ h) N,λσ' H' q=>⟨_,q.1,rfl,hlt,q.2⟩,λx H' y=>?_⟩;obtain⟨g1,r1,hr1⟩:=yl x H' y;refine⟨ι,τ,h,_,r1,S.mono g1,hr1,?_⟩;have o':=uv o g1
   cases hg:g it.xs[i] τ h with
   |nx τ1 h1 =>
    rw[hg]at o';dsimp only at o'
    intro ι2 H2 σ2 g2 S2 R2
    refine⟨ι2,τ1,h1,S2,R2,?_⟩;have o2:=uv o' g2;have gg:=(g0.trans g1).trans g2
    cases hb:b τ1 h1 with
    |nx τ2 h2=>rw[hb]at o2;exact λι3 H3 σ3 g3 S3 R3=>⟨by omega,ι3,τ2,h2,gg.trans g3,S3,R3,uv o2 g3⟩
    |ct τ2 h2=>rw[hb]at o2;exact λι3 H3 σ3 g3 S3 R3=>⟨by omega,ι3,τ2,h2,gg.trans g3,S3,R3,uv o2 g3⟩
    |bk τ2 h2=>rw[hb]at o2;exact o2
    |rt d h2=>rw[hb]at o2;exact o2
    |ex c h2=>rw[hb]at o2;exact o2
    |no=>rw[hb]at o2;exact o2.elim
   |_=>rw[hg]at o';exact o'.elim
  ·rw[bE hc]at o;exact o.elim
 ·have e:i=it.xs.length:=by omega
  subst e;rw[cb (aI _),forL]at o
  by_cases hc:it.ck h
  ·rw[aO hc]at o;exact .inl ⟨(ir ι H h g0 Rh hc).2,o ι H σ (.refl _ _) S Rh⟩
  ·rw[bE hc]at o;exact o.elim
theorem yg{X:Cx}(hp:PassesOwn (model X.prog X.w) X.A X.env X.xe)(hc:X.calm=true)(hi:MI X E tg aE f)(hg:MG X E tg g)(hb:MSs X E body b)(hs:∀x,foldedSetIterable aE X.env x=pure x:=by intro _;rfl):MS X E (.For tg aE body [] pos) (a2u f g b):=by
 refine PS.weak (at8 hp hc hi hg hb hs) ?_
 rintro N σ H ⟨ι,τ,h,S,Rh,o⟩
 exact⟨ι,τ,h,S,Rh,v9 o λit h1 ι1 H1 J g1 r1 hr1 o1=>apo r1 (S.mono g1) hr1 o1⟩
end MI
namespace MI
open L2
theorem R.bind_assoc{α β γ:Type}(r:R α)(f:α->Hd->R β)(g:β->Hd->R γ):(r.bind f).bind g=r.bind λa h=>(f a h).bind g:=by cases r<;>rfl
open Classical in
noncomputable def mapR(ck:Hd->Prop)(f:D->Hd->R D):List D->Hd->R (List D)
 |[],h=>if ck h then .ok [] h else .no
 |x::xs,h=>if ck h then (f x h).bind λy h1=>(mapR ck f xs h1).bind λys h2=>.ok (y::ys) h2 else .no
open Classical in
noncomputable def ajx(ck:Hd->Prop)(f:D->Hd->R (Option D)):List D->Hd->R (List D)
 |[],h=>if ck h then .ok [] h else .no
 |x::xs,h=>if ck h then (f x h).bind λy h1=>(ajx ck f xs h1).bind λys h2=>.ok (y.toList++ys) h2 else .no
def frs'(ix:List Nat)(τ:Sd):Sd:=ix.map λi=>(τ[i]?).join
def t1(d:D):Option Sd:=some [some d]
def tN(n:Nat)(d:D):Option Sd:=match d with|.tup ds=>if ds.length=n then some (ds.map some) else none|_=>none
def a7i(t:D->Option Sd)(fe:SE)(aF:Sd)(x:D)(h:Hd):R D:=match t x with|some ts=>fe (ts++aF) h|none=>.no
def ac3(t:D->Option Sd)(c:ST)(fe:SE)(aF:Sd)(x:D)(h:Hd):R (Option D):=match t x with
 |some ts=>(c (ts++aF) h).bind λb h1=>if b=true then (fe (ts++aF) h1).bind λy h2=>.ok (some y) h2 else .ok none h1
 |none=>.no
def adh(yd zs:List D)(h:Hd):R D:=.ok (.ref h.length) (h++[.lst (yd++zs)])
theorem au5(r:R D)(m:Hd->R (List D))(yd:List D):(r.bind λy h1=>(m h1).bind λys h2=>.ok (y::ys) h2).bind (adh yd)=r.bind λy h1=>(m h1).bind (adh (yd++[y])):=by
 cases r with
 |ok y h1 =>
  show((m h1).bind _).bind _=(m h1).bind _
  cases m h1 with
  |ok ys h2=>simp[R.bind,adh]
  |_=>rfl
 |_=>rfl
theorem ayl(r:R (Option D))(m:Hd->R (List D))(yd:List D):(r.bind λy h1=>(m h1).bind λys h2=>.ok (y.toList++ys) h2).bind (adh yd)=r.bind λy h1=>(m h1).bind (adh (yd++y.toList)):=by
 cases r with
 |ok y h1 =>
  show((m h1).bind _).bind _=(m h1).bind _
  cases m h1 with
  |ok ys h2=>simp[R.bind,adh]
  |_=>rfl
 |_=>rfl
noncomputable def jk(fi:SI)(t:D->Option Sd)(fe:SE)(ix:List Nat):SE:=λτ h=>(fi τ h).bind λit h1=>if it.xs.length<=LINE then (mapR it.ck (a7i t fe (frs' ix τ)) it.xs h1).bind (adh []) else .no
noncomputable def a3s(fi:SI)(t:D->Option Sd)(c:ST)(fe:SE)(ix:List Nat):SE:=λτ h=>(fi τ h).bind λit h1=>if it.xs.length<=LINE then (ajx it.ck (ac3 t c fe (frs' ix τ)) it.xs h1).bind (adh []) else .no
def ajy(K:Fg)(n:Nat)(g:TG)(t:D->Option Sd):Prop:=∀ι H v d ts (r:St) (Q:St->Hp->Prop),Rep K ι H v d->t d=some ts->(∀us:St,us.length=n->SRep K ι H us ts->Q (us++r) H)->g v (List.replicate n none++r) H Q
theorem a8t:SRep K ι H [] []:=⟨rfl,λi d e=>by simp at e⟩
theorem a3t(r:Rep K ι H v d)(s:SRep K ι H σ τ):SRep K ι H (some v::σ) (some d::τ):=by
 refine⟨by simp[s.len],λi d' e=>?_⟩
 cases i with
 |zero=>simp at e;subst e;exact⟨v,rfl,r⟩
 |succ i=>simpa using s.val i d' (by simpa using e)
theorem a5z(s:SRep K ι H σ τ)(s':SRep K ι H σ' τ'):SRep K ι H (σ++σ') (τ++τ'):=by
 refine⟨by simp[s.len,s'.len],λi d e=>?_⟩
 by_cases hi:i<τ.length
 ·rw[aJ hi]at e;rw[aJ (by rw[s.len];exact hi)]
  exact s.val i d e
 ·rw[aL (by omega)]at e
  rw[aL (by rw[s.len];omega),s.len]
  exact s'.val _ d e
theorem a65(s:SRep K ι H σ τ)(ix:List Nat):SRep K ι H (ix.map λi=>(σ[i]?).join) (frs' ix τ):=by
 refine⟨by simp[frs'],λj d e=>?_⟩
 simp only[frs',aM,aP]at e;obtain⟨i,hi,e⟩:=e;have:τ[i]? = some (some d):=by
  cases q:τ[i]? with
  |none=>rw[q]at e;cases e
  |some o=>rw[q]at e;simp at e;rw[e]
 obtain⟨v,h1,h2⟩:=s.val i d this;exact⟨v,by simp[hi,h1],h2⟩
theorem vf:ajy K 1 (a7f 0) t1:=λι H v d ts r Q hr e q=>by
 cases e
 exact q [some v] rfl (a3t hr a8t)
theorem au6{α:Type}{xs:List α}(h:xs.length=n+1):∃x ys,xs=x::ys:=by cases xs with|nil=>cases h|cons x ys=>exact⟨x,ys,rfl⟩
theorem anj{vs:List V}{d:D}{ds:List D}(r:Reps K ι H vs (d::ds)):∃v us,vs=v::us/\Rep K ι H v d/\Reps K ι H us ds:=by cases r with|cons r rs=>exact⟨_,_,rfl,r,rs⟩
theorem ank:ajy K 2 (L2.ur K 2 (ak4 (a7f 0) (ak4 (a7f 1) azc))) (tN 2):=λι H v d ts r Q hr e q=>by
 unfold tN at e
 cases hr with
 |@tup a vs xs h rs =>
  simp only at e
  split at e
  ·rename_i hl;cases e
   obtain⟨x1,xs,rfl⟩:=au6 hl;obtain⟨x2,xs,rfl⟩:=au6 (gP hl);obtain rfl:=dS.mp (gP (gP hl));obtain⟨v1,vs,rfl,r1,rs⟩:=anj rs;obtain⟨v2,vs,rfl,r2,rs⟩:=anj rs;cases rs
   exact⟨a,_,rfl,SqT.of h,rfl,_,_,rfl,_,_,rfl,rfl,q [some _,some _] rfl (a3t r1 (a3t r2 a8t))⟩
  ·cases e
 |_=>cases e
theorem agx{us:St}(h:us.length=n):L2.Ext (List.replicate n none++r) (us++r):=by
 refine⟨by simp[h],λi v e=>?_⟩
 by_cases hi:i<n
 ·rw[aJ (by simpa using hi),dQ,aO hi]at e
  cases e
 ·rw[aL (by simpa using hi),e8]at e
  rw[aL (by omega),h]
  exact e
theorem adi(ir:as6 K ι0 H0 J it)(tg:ajy K n g t)(S:SRep K ι0 H0 r rd)(Rh:HRep K ι0 H0 h0)(hl:it.xs.length<=LINE)
  (o:out K E (yq K) ι0 H0 ((mapR it.ck (a7i t fe rd) it.xs h0).bind (adh [])) Q):apf J (List.replicate n none++r) g (lift K E (yq K) fe) Q H0:=by
 refine⟨λi m ys H=>m=it.xs.length-i/\i<=it.xs.length/\ys.length<=i/\∃ι h yd,Gr ι0 H0 ι H/\HRep K ι H h/\Reps K ι H ys yd/\out K E (yq K) ι H ((mapR it.ck (a7i t fe rd) (it.xs.drop i) h).bind (adh yd)) Q,
  ⟨_,rfl,bq _,bq _,ι0,h0,[],.refl _ _,Rh,.nil,o⟩,?_⟩
 rintro i m ys H ⟨rfl,hi,hy,ι,h,yd,g0,Rh,ry,o⟩
 by_cases hlt:i<it.xs.length
 ·rw[dC hlt,mapR]at o
  by_cases hc:it.ck h
  ·rw[aO hc,au5]at o;obtain⟨go,yl⟩:=(ir ι H h g0 Rh hc).1 i _ (ae hlt);refine .inr ⟨go,Nat.lt_of_le_of_lt hy (aZ hlt (ll hl)),λx H' y=>?_⟩;obtain⟨g1,r1,hr1⟩:=yl x H' y;have o':=a8q o g1
   cases ht:t it.xs[i] with
   |none=>simp only[a7i,ht]at o';exact o'.elim
   |some ts =>
    simp only[a7i,ht]at o';refine tg ι H' x _ ts r _ r1 ht λus hus su=>⟨agx hus,ι,ts++rd,h,a5z su (S.mono (g0.trans g1)),hr1,bx o' λd2 h2 ι2 H2 u g2 r2 hr2 o2=>?_⟩;refine⟨it.xs.length-(i+1),by omega,rfl,hlt,by simp;omega,ι2,h2,yd++[d2],(g0.trans g1).trans g2,hr2,((ry.mono g1).mono g2).snoc r2,o2⟩
  ·rw[bE hc]at o;exact o.elim
 ·have e:i=it.xs.length:=by omega
  subst e;rw[cb (aI _),mapR]at o
  by_cases hc:it.ck h
  ·rw[aO hc]at o;refine .inl ⟨(ir ι H h g0 Rh hc).2,zc (E:=E) ry Rh ?_⟩;simpa[R.bind,adh] using o
  ·rw[bE hc]at o;exact o.elim
theorem aah(ir:as6 K ι0 H0 J it)(tg:ajy K n g t)(S:SRep K ι0 H0 r rd)(Rh:HRep K ι0 H0 h0)(hl:it.xs.length<=LINE)
  (o:out K E (yq K) ι0 H0 ((ajx it.ck (ac3 t c fe rd) it.xs h0).bind (adh [])) Q):aby J (List.replicate n none++r) g (lift K E anf c) (lift K E (yq K) fe) Q H0:=by
 refine⟨λi m ys H=>m=it.xs.length-i/\i<=it.xs.length/\ys.length<=i/\∃ι h yd,Gr ι0 H0 ι H/\HRep K ι H h/\Reps K ι H ys yd/\out K E (yq K) ι H ((ajx it.ck (ac3 t c fe rd) (it.xs.drop i) h).bind (adh yd)) Q,
  ⟨_,rfl,bq _,bq _,ι0,h0,[],.refl _ _,Rh,.nil,o⟩,?_⟩
 rintro i m ys H ⟨rfl,hi,hy,ι,h,yd,g0,Rh,ry,o⟩
 by_cases hlt:i<it.xs.length
 ·rw[dC hlt,ajx]at o
  by_cases hc:it.ck h
  ·rw[aO hc,ayl]at o;obtain⟨go,yl⟩:=(ir ι H h g0 Rh hc).1 i _ (ae hlt);refine .inr ⟨go,Nat.lt_of_le_of_lt hy (aZ hlt (ll hl)),λx H' y=>?_⟩;obtain⟨g1,r1,hr1⟩:=yl x H' y;have o':=a8q o g1
   cases ht:t it.xs[i] with
   |none=>simp only[ac3,ht]at o';exact o'.elim
   |some ts =>
    simp only[ac3,ht]at o';rw[R.bind_assoc]at o';refine tg ι H' x _ ts r _ r1 ht λus hus su=>⟨agx hus,ι,ts++rd,h,a5z su (S.mono (g0.trans g1)),hr1,bx o' λb h1 ι1 H1 b' g2 rb hrb ob=>?_⟩;have su1:SRep K ι1 H1 (us++r) (ts++rd):=(a5z su (S.mono (g0.trans g1))).mono g2;cases rb
    cases b with
    |true =>
     rw[aO rfl]at ob ⊢;rw[R.bind_assoc]at ob;refine⟨ι1,ts++rd,h1,su1,hrb,bx ob λd2 h2 ι2 H2 u g3 r2 hr2 o2=>?_⟩;refine⟨it.xs.length-(i+1),by omega,rfl,hlt,by simp;omega,ι2,h2,yd++[d2],((g0.trans g1).trans g2).trans g3,hr2,(((ry.mono g1).mono g2).mono g3).snoc r2,?_⟩
     simpa[R.bind] using o2
    |false =>
     rw[bE br]at ob ⊢;refine⟨it.xs.length-(i+1),by omega,rfl,hlt,by omega,ι1,h1,yd,(g0.trans g1).trans g2,hrb,(ry.mono g1).mono g2,?_⟩
     simpa[R.bind] using ob
  ·rw[bE hc]at o;exact o.elim
 ·have e:i=it.xs.length:=by omega
  subst e;rw[cb (aI _),ajx]at o
  by_cases hc:it.ck h
  ·rw[aO hc]at o;refine .inl ⟨(ir ι H h g0 Rh hc).2,zc (E:=E) ry Rh ?_⟩;simpa[R.bind,adh] using o
  ·rw[bE hc]at o;exact o.elim
section
variable{X:Cx}{E:XD}{aD tg aE cnd:Expr}{aB:Scope}{pos:Pos}{cl:List (Str×Addr)}{ts fr:List Str}{ix:List Nat}{fi:SI}{g:TG}{t:D->Option Sd}{fe:SE}{fc:ST}
theorem vz(hc:X.calm=true)(S:CSc X aB cl ts fr ix)(hi:MI X E tg aE fi)(hg:∀C fp s H,PG (cxC X (ts++fr) aB cl C fp s H) tg g)(ht:ajy X.K ts.length g t)(he:∀C fp s H,ME (cxC X (ts++fr) aB cl C fp s H) E aD fe)
  (hs:∀x,foldedSetIterable aE X.env x=pure x:=by intro _;rfl):ME X E (.ListComp aD [⟨tg,aE,[],0⟩] aB pos) (jk fi t fe ix):=by
 refine PE.weak (akk (te:=lift X.K E (yq X.K) fe) hc S hi hg he hs) ?_
 rintro σ H Q ⟨ι,τ,h,Sr,Rh,o⟩
 refine⟨ι,τ,h,Sr,Rh,bx o λit h1 ι1 H1 J g1 r1 hr1 o1=>?_⟩
 by_cases hl:it.xs.length<=LINE
 ·rw[aO hl]at o1;exact adi r1 ht (a65 (Sr.mono g1) ix) hr1 hl o1
 ·rw[bE hl]at o1;exact o1.elim
theorem ako(hc:X.calm=true)(S:CSc X aB cl ts fr ix)(hi:MI X E tg aE fi)(hg:∀C fp s H,PG (cxC X (ts++fr) aB cl C fp s H) tg g)(ht:ajy X.K ts.length g t)(he:∀C fp s H,ME (cxC X (ts++fr) aB cl C fp s H) E aD fe)
  (hq:∀C fp s H,MT (cxC X (ts++fr) aB cl C fp s H) E cnd fc)
  (hs:∀x,foldedSetIterable aE X.env x=pure x:=by intro _;rfl):ME X E (.ListComp aD [⟨tg,aE,[cnd],0⟩] aB pos) (a3s fi t fc fe ix):=by
 refine PE.weak (af3 (te:=lift X.K E (yq X.K) fe) (tc:=lift X.K E anf fc) hc S hi hg he hq hs) ?_
 rintro σ H Q ⟨ι,τ,h,Sr,Rh,o⟩
 refine⟨ι,τ,h,Sr,Rh,bx o λit h1 ι1 H1 J g1 r1 hr1 o1=>?_⟩
 by_cases hl:it.xs.length<=LINE
 ·rw[aO hl]at o1;exact aah r1 ht (a65 (Sr.mono g1) ix) hr1 hl o1
 ·rw[bE hl]at o1;exact o1.elim
end
mutual
def clo(n:Nat):D->Prop
 |.tup xs=>clos n xs
 |.rol xs=>clos n xs
 |.rod _ xs=>clos n xs
 |.scr xs=>clos n xs
 |.rdT _ xs=>clos n xs
 |.ins _ _ xs=>clos n xs
 |.ref i=>i<n
 |_=>True
def clos(n:Nat):List D->Prop
 |[]=>True
 |x::xs=>clo n x/\clos n xs
end
mutual
theorem Rep.clo:∀{v:V} {d:D},Rep K ι H v d->clo ι.length d
 |_,_,.non=>by simp[MI.clo]
 |_,_,.bl b=>by simp[MI.clo]
 |_,_,.int i=>by simp[MI.clo]
 |_,_,.str x=>by simp[MI.clo]
 |_,_,.ty n=>by simp[MI.clo]
 |_,_,.tup h r=>by simp only[MI.clo];exact Reps.clo r
 |_,_,.rol h r=>by simp only[MI.clo];exact Reps.clo r
 |_,_,.ref h=>by simp only[MI.clo];exact(af.mp h).1
 |_,_,.rod h e r=>by simp only[MI.clo];exact Reps.clo r
 |_,_,.scr h r=>by simp only[MI.clo];exact Reps.clo r
 |_,_,.rdT h e r=>by simp only[MI.clo];exact Reps.clo r
 |_,_,.exc h hc hn=>by simp[MI.clo]
 |_,_,.ins h hn e r=>by simp only[MI.clo];exact Reps.clo r
theorem Reps.clo:∀{vs:List V} {ds:List D},Reps K ι H vs ds->clos ι.length ds
 |_,_,.nil=>by simp[MI.clos]
 |_,_,.cons r rs=>by simp only[MI.clos];exact⟨Rep.clo r,Reps.clo rs⟩
end
mutual
theorem Rep.cut:∀{v:V} {d:D},Rep K ι H v d->clo n d->Rep K (ι.take n) H v d
 |_,_,.non,_=>.non
 |_,_,.bl b,_=>.bl b
 |_,_,.int i,_=>.int i
 |_,_,.str x,_=>.str x
 |_,_,.ty n,_=>.ty n
 |_,_,.tup h r,c=>.tup h (Reps.cut r (by simpa only[MI.clo] using c))
 |_,_,.rol h r,c=>.rol h (Reps.cut r (by simpa only[MI.clo] using c))
 |_,_,.ref h,c=>.ref (by simp only[MI.clo]at c;rw[eT,aO c];exact h)
 |_,_,.rod h e r,c=>.rod h e (Reps.cut r (by simpa only[MI.clo] using c))
 |_,_,.scr h r,c=>.scr h (Reps.cut r (by simpa only[MI.clo] using c))
 |_,_,.rdT h e r,c=>.rdT h e (Reps.cut r (by simpa only[MI.clo] using c))
 |_,_,.exc h hc hn,_=>.exc h hc hn
 |_,_,.ins h hn e r,c=>.ins h hn e (Reps.cut r (by simpa only[MI.clo] using c))
theorem Reps.cut:∀{vs:List V} {ds:List D},Reps K ι H vs ds->clos n ds->Reps K (ι.take n) H vs ds
 |_,_,.nil,_=>.nil
 |_,_,.cons r rs,c=>by simp only[MI.clos]at c;exact .cons (Rep.cut r c.1) (Reps.cut rs c.2)
end
def a0j(n:Nat):O->Prop
 |.lst xs=>clos n xs
 |.dK kvs=>clos n (kvs.map (·.2))
 |.dT kvs=>clos n (kvs.map (·.2))
 |.ins _ fs=>clos n (fs.map (·.2))
def au7(n:Nat)(h:Hd):Prop:=∀o∈h,a0j n o
theorem ORep.clo(r:ORep K ι H a o):a0j ι.length o:=by
 cases o with
 |lst xs=>obtain⟨vs,_,r⟩:=r;exact r.clo
 |dK kvs=>obtain⟨us,_,_,r⟩:=r;exact r.clo
 |dT kvs=>obtain⟨us,_,_,r⟩:=r;exact r.clo
 |ins _ _=>obtain⟨_,_,us,_,_,_,r⟩:=r;exact r.clo
theorem ORep.cut(r:ORep K ι H a o)(c:a0j n o):ORep K (ι.take n) H a o:=by
 cases o with
 |lst xs=>obtain⟨vs,h,r⟩:=r;exact⟨vs,h,r.cut c⟩
 |dK kvs=>obtain⟨us,h,e,r⟩:=r;exact⟨us,h,e,r.cut c⟩
 |dT kvs=>obtain⟨us,h,e,r⟩:=r;exact⟨us,h,e,r.cut c⟩
 |ins _ _=>obtain⟨C,dx,us,h,hn,e,r⟩:=r;exact⟨C,dx,us,h,hn,e,r.cut c⟩
theorem HRep.clo(r:HRep K ι H h):au7 h.length h:=λo ho=>by
 obtain⟨i,hi⟩:=cD ho;obtain⟨a,_,q⟩:=r.addr hi;rw[<-r.len];exact q.clo
theorem HRep.cut(r:HRep K ι H (h++g))(c:au7 h.length h):HRep K (ι.take h.length) H h:=by
 refine⟨r.nd.sublist (List.take_sublist _ _),?_,λi a o e1 e2=>?_⟩
 ·have:=r.len
  rw[ah]at this;rw[aT];omega
 ·have hi:i<h.length:=(af.mp e2).1;rw[eT,aO hi]at e1;exact(r.obj i a o e1 (by rw[aJ hi];exact e2)).cut (c o (aN e2))
def X0:XD:=λ_ _ _ _=>False
abbrev SF:=List D->Hd->R D
def yh(K:Fg)(n:Nat)(F:SF):Sp:=λvs H Q _=>vs.length=n/\∃ι ds h,Reps K ι H vs ds/\HRep K ι H h/\out K X0 (yq K) ι H (F ds h) Q
def a3u(n:Nat)(ds:List D):Sd:=ds.map some++List.replicate (n-ds.length) none
def km(b:SS)(n:Nat)(ds:List D)(h:Hd):R D:=match b (a3u n ds) h with
 |.rt d h1=>.ok d h1
 |.nx _ h1=>.ok .non h1
 |.ex c h1=>.ex c h1
 |_=>.no
def Rf(n:Nat)(r' r:R D):Prop:=match r with
 |.no=>True
 |.ok d h1=>∃g,r'=.ok d (h1++g)/\(g=[]\/(n<=h1.length/\clo h1.length d/\au7 h1.length h1))
 |.ex c h1=>∃g,r'=.ex c (h1++g)/\(g=[]\/(n<=h1.length/\au7 h1.length h1))
theorem Rf.same(h:r'=r):Rf n r' r:=by
 subst h
 cases r' with
 |ok d h1=>exact⟨[],by simp,.inl rfl⟩
 |ex c h1=>exact⟨[],by simp,.inl rfl⟩
 |no=>exact True.intro
theorem a7w(r:Reps K ι H vs ds):SRep K ι H (start N vs) (a3u N.length ds):=by
 refine a5z ?_ ?_
 ·clear N
  induction r using Reps.rec (motive_1:=λ_ _ _=>True) with
  |nil=>exact a8t
  |cons r rs _ ih=>exact a3t r ih
  |_=>trivial
 ·rw[r.len];exact⟨by simp,λi d e=>by rw[dQ]at e;split at e<;>cases e⟩
theorem anl(g:Gr ι H ι' H')(hn:ι.length<=n):Gr ι H (ι'.take n) H':=by
 obtain⟨m,rfl,hm⟩:=g.pre;exact⟨⟨m.take (n-ι.length),by rw[List.take_append,bM hn],λa ha=>hm a (bY ha)⟩,g.tup,g.frz,g.oth,g.kp⟩
section
variable{P:Program}{w:World}{K:Fg}{mg:Str->Option Value}{base:Heap}
theorem au8(Fu:Fun K x qual st f fd)(S:FnScope N ps (bw st))
  (hb:∀(cdv:Value) (A:Around) (outer:List Env) (s:Shared) (H:Hp) (E:XK),Room k (A.deeper (PyProof.Rows.envOfC qual (bw st) s.heap.objs.size f cdv))->MSs (afv CX0 P w K mg base N qual (bw st) f cdv A outer s H E).nox X0 (qz st) b)
  (hF:∀ds h,ds.length=ps.length->clos h.length ds->au7 h.length h->Rf h.length (km b N.length ds h) (F ds h)):FnOk P w K mg base CX0 (k+1) f fd ps (yh K ps.length F):=by
 refine Fu.ok S (λvs H Q E h=>h.1) λcdv A outer s H vs Q E hr h=>⟨_,hb cdv A outer s H E hr,?_⟩;obtain⟨hl,ι,ds,h,r,hr',o⟩:=h;refine⟨ι,a3u N.length ds,h,a7w r,hr',?_⟩;have q:=hF ds h (by rw[<-r.len];exact hl) (by rw[<-hr'.len];exact r.clo) hr'.clo
 unfold km at q
 cases hFd:F ds h with
 |no=>rw[hFd]at o;exact o.elim
 |ex c h1 =>
  rw[hFd]at q o;obtain⟨g,e,cl⟩:=q;have fin:∀ι' H',Gr ι H ι' H'->HRep K ι' H' (h1++g)->X0 c ι' H' (h1++g):=λι' H' g1 hr1=>by
   rcases cl with rfl|⟨hn,c2⟩
   ·rw[bJ]at hr1;exact o ι' H' g1 hr1
   ·exact o (ι'.take h1.length) H' (anl g1 (by rw[hr'.len];exact hn)) (hr1.cut c2)
  cases hbd:b (a3u N.length ds) h with
  |ex c' h' =>
   rw[hbd]at e
   injection e with e1 e2
   subst e1 e2;exact fin
  |_=>rw[hbd]at e;cases e
 |ok d h1 =>
  rw[hFd]at q o;obtain⟨g,e,cl⟩:=q;have fin:∀ι' H' v,Gr ι H ι' H'->Rep K ι' H' v d->HRep K ι' H' (h1++g)->Q v H':=λι' H' v g1 r1 hr1=>by
   rcases cl with rfl|⟨hn,c1,c2⟩
   ·rw[bJ]at hr1;exact o ι' H' v g1 r1 hr1
   ·exact o (ι'.take h1.length) H' v (anl g1 (by rw[hr'.len];exact hn)) (r1.cut c1) (hr1.cut c2)
  cases hbd:b (a3u N.length ds) h with
  |rt d' h' =>
   rw[hbd]at e
   injection e with e1 e2
   subst e1 e2;exact fin
  |nx τ' h' =>
   rw[hbd]at e
   injection e with e1 e2
   subst e1 e2;exact λι' H' σ' g1 S1 hr1=>fin ι' H' .non g1 .non hr1
  |_=>rw[hbd]at e;cases e
end
section
variable{K:Fg}{E:XD}{ι:List Addr}{H:Hp}{h:Hd}{Q:VK}
theorem ans(o:out K E (yq K) ι H (.ok d h) Q)(r:Rep K ι H v d)(hr:HRep K ι H h):Q v H:=o ι H v (.refl _ _) r hr
theorem HRep.lst(hr:HRep K ι H h){i:Nat}{a:Addr}{xs:List D}(e:ι[i]? = some a)(hi:h[i]? = some (.lst xs)):∃vs,H a=some (.lst vs)/\Reps K ι H vs xs:=hr.obj i a _ e hi
end
def b0x:D->D->Hd->R D
 |.int i,.int j,h=>.ok (.int (i+j)) h
 |.str x,.str y,h=>if x.length+y.length<=LINE then .ok (.str (x++y)) h else .no
 |.tup xs,.tup ys,h=>if xs≠[]/\xs.length+ys.length<=LINE then .ok (.tup (xs++ys)) h else .no
 |.ref i,.ref j,h=>match h[i]?,h[j]? with
  |some (.lst xs),some (.lst ys)=>if xs.length+ys.length<=LINE then .ok (.ref h.length) (h++[.lst (xs++ys)]) else .no
  |_,_=>.no
 |_,_,_=>.no
def a9z:D->D->Hd->R D
 |.int i,.int j,h=>.ok (.int (i-j)) h
 |_,_,_=>.no
open Classical in
noncomputable def au9:D->D->Hd->R D
 |.int i,.int j,h=>if CMul i j then .ok (.int (i*j)) h else .no
 |.ref i,.int k,h=>match h[i]? with
  |some (.lst xs)=>if (-(2^63)<=k/\k<2^63)/\xs.length*k.toNat<=LINE then .ok (.ref h.length) (h++[.lst (List.replicate k.toNat xs).flatten]) else .no
  |_=>.no
 |_,_,_=>.no
def a5n:D->D->Hd->R D
 |.int i,.int j,h=>if 0<j then .ok (.int (i%j)) h else .no
 |_,_,_=>.no
def aa0:D->D->Hd->R D
 |.int i,.int j,h=>if 0<j/\j<1073741824 then .ok (.int (i / j)) h else .no
 |_,_,_=>.no
def a7x:D->D->Hd->R D
 |.int i,.int j,h=>if 0<=j/\j<=1000000/\i.natAbs<2^64 then .ok (.int (i^j.toNat)) h else .no
 |_,_,_=>.no
section
variable{X:Cx}{K:Fg}
theorem apq:a1p K a9z (rI0 λi j=>.int (i-j)):=by
 intro E ι H h x y dx dy Q rx ry hr o
 cases rx with
 |int i =>
  cases ry with
  |int j=>exact⟨i,j,rfl,rfl,ans o (.int _) hr⟩
  |_=>exact o.elim
 |_=>exact o.elim
theorem apr:a1p K a5n (rI (λ_ j=>0<j) λi j=>.int (i%j)):=by
 intro E ι H h x y dx dy Q rx ry hr o
 cases rx with
 |int i =>
  cases ry with
  |int j =>
   by_cases hc:0<j
   ·simp only[a5n,aO hc]at o;exact⟨i,j,rfl,rfl,hc,ans o (.int _) hr⟩
   ·simp only[a5n,bE hc]at o;exact o.elim
  |_=>exact o.elim
 |_=>exact o.elim
theorem agy:a1p K aa0 (rI ay5 λi j=>.int (i / j)):=by
 intro E ι H h x y dx dy Q rx ry hr o
 cases rx with
 |int i =>
  cases ry with
  |int j =>
   by_cases hc:0<j/\j<1073741824
   ·simp only[aa0,aO hc]at o;exact⟨i,j,rfl,rfl,hc,ans o (.int _) hr⟩
   ·simp only[aa0,bE hc]at o;exact o.elim
  |_=>exact o.elim
 |_=>exact o.elim
theorem aps:a1p K a7x (rI aze λi j=>.int (i^j.toNat)):=by
 intro E ι H h x y dx dy Q rx ry hr o
 cases rx with
 |int i =>
  cases ry with
  |int j =>
   by_cases hc:0<=j/\j<=1000000/\i.natAbs<2^64
   ·simp only[a7x,aO hc]at o;exact⟨i,j,rfl,rfl,hc,ans o (.int _) hr⟩
   ·simp only[a7x,bE hc]at o;exact o.elim
  |_=>exact o.elim
 |_=>exact o.elim
theorem agz:a1p K au9 (λx y H Q=>rI CMul (λi j=>.int (i*j)) x y H Q\/atp x y H Q):=by
 intro E ι H h x y dx dy Q rx ry hr o
 cases rx with
 |int i =>
  cases ry with
  |int j =>
   by_cases hc:CMul i j
   ·simp only[au9,aO hc]at o;exact .inl ⟨i,j,rfl,rfl,hc,ans o (.int _) hr⟩
   ·simp only[au9,bE hc]at o;exact o.elim
  |_=>exact o.elim
 |@ref a i ha =>
  cases ry with
  |int k =>
   simp only[au9]at o
   split at o
   ·rename_i xs hx;obtain⟨vs,h3,h4⟩:=hr.lst ha hx
    split at o
    ·rename_i hc;exact .inr ⟨a,k,vs,rfl,rfl,h3,hc.1.1,hc.1.2,ll (by rw[h4.len];exact hc.2),zc (h4.flat _) hr o⟩
    ·exact o.elim
   ·exact o.elim
  |_=>exact o.elim
 |_=>exact o.elim
variable{E:XD}{a b e:Expr}{es:List Expr}{fa fb:SE}{ka:SA}{pos:Pos}
theorem aai(ha:ME X E a fa)(hb:ME X E b fb):ME X E (.BinOp a .Sub b pos) (s2 a9z fa fb):=ac2 ata apq ha hb
theorem a7y(ha:ME X E a fa)(hb:ME X E b fb):ME X E (.BinOp a .Mod b pos) (s2 a5n fa fb):=ac2 atb apr ha hb
theorem anm(ha:ME X E a fa)(hb:ME X E b fb):ME X E (.BinOp a .FloorDiv b pos) (s2 aa0 fa fb):=ac2 ap0 agy ha hb
theorem ah0(ha:ME X E a fa)(hb:ME X E b fb):ME X E (.BinOp a .Pow b pos) (s2 a7x fa fb):=ac2 atc aps ha hb
def a5v:D->Hd->R D
 |.int i,h=>.ok (.int (-i)) h
 |_,_=>.no
theorem a03(ha:ME X E a fa):ME X E (.UnaryOp .USub a pos) (s1 a5v fa):=ayh atd (λE ι H h x dx Q rx hr o=>by
 cases rx with
 |int i=>exact⟨i,rfl,ans o (.int _) hr⟩
 |_=>exact o.elim) ha
def gLt:D->D->Hd->R D
 |.int i,.int j,h=>.ok (.bl (decide (i<j))) h
 |.str i,.str j,h=>.ok (.bl (decide (i.cps.toList<j.cps.toList))) h
 |_,_,_=>.no
def gLe:D->D->Hd->R D
 |.int i,.int j,h=>.ok (.bl (decide (i<=j))) h
 |.str i,.str j,h=>.ok (.bl (!decide (j.cps.toList<i.cps.toList))) h
 |_,_,_=>.no
def gGt:D->D->Hd->R D
 |.int i,.int j,h=>.ok (.bl (decide (j<i))) h
 |_,_,_=>.no
def gGe:D->D->Hd->R D
 |.int i,.int j,h=>.ok (.bl (decide (j<=i))) h
 |_,_,_=>.no
theorem a3v:a1p K gLt (λx y H Q=>rI0 (λi j=>.bl (decide (i<j))) x y H Q\/∃i j,x=.str i/\y=.str j/\Q (.bl (decide (i.cps.toList<j.cps.toList))) H):=by
 intro E ι H h x y dx dy Q rx ry hr o
 cases rx with
 |int i =>
  cases ry with
  |int j=>exact .inl ⟨i,j,rfl,rfl,ans o (.bl _) hr⟩
  |_=>exact o.elim
 |str i =>
  cases ry with
  |str j=>exact .inr ⟨i,j,rfl,rfl,ans o (.bl _) hr⟩
  |_=>exact o.elim
 |_=>exact o.elim
theorem ah1:a1p K gLe (λx y H Q=>rI0 (λi j=>.bl (decide (i<=j))) x y H Q\/∃i j,x=.str i/\y=.str j/\Q (.bl (!decide (j.cps.toList<i.cps.toList))) H):=by
 intro E ι H h x y dx dy Q rx ry hr o
 cases rx with
 |int i =>
  cases ry with
  |int j=>exact .inl ⟨i,j,rfl,rfl,ans o (.bl _) hr⟩
  |_=>exact o.elim
 |str i =>
  cases ry with
  |str j=>exact .inr ⟨i,j,rfl,rfl,ans o (.bl _) hr⟩
  |_=>exact o.elim
 |_=>exact o.elim
theorem ah2:a1p K gGt (rI0 λi j=>.bl (decide (j<i))):=by
 intro E ι H h x y dx dy Q rx ry hr o
 cases rx with
 |int i =>
  cases ry with
  |int j=>exact⟨i,j,rfl,rfl,ans o (.bl _) hr⟩
  |_=>exact o.elim
 |_=>exact o.elim
theorem adk:a1p K gGe (rI0 λi j=>.bl (decide (j<=i))):=by
 intro E ι H h x y dx dy Q rx ry hr o
 cases rx with
 |int i =>
  cases ry with
  |int j=>exact⟨i,j,rfl,rfl,ans o (.bl _) hr⟩
  |_=>exact o.elim
 |_=>exact o.elim
def a70:D->Bool
 |.non=>true
 |_=>false
theorem ah3(r:Rep K ι H x .non):x=.non:=by cases r;rfl
theorem adl{b:Bool}(r:Rep K ι H x (.bl b)):x=.bl b:=by cases r;rfl
theorem ah4{i:Int}(r:Rep K ι H x (.int i)):x=.int i:=by cases r;rfl
theorem adm(r:Rep K ι H x d):decide (x=.non)=a70 d:=by cases r<;>simp[a70]
def gIs(x y:D)(h:Hd):R D:=match y with
 |.non=>.ok (.bl (a70 x)) h
 |.bl j=>(match x with|.bl i=>.ok (.bl (i == j)) h|_=>.no)
 |_=>.no
def aaj(x y:D)(h:Hd):R D:=match y with
 |.non=>.ok (.bl (!a70 x)) h
 |.bl j=>(match x with|.bl i=>.ok (.bl (i != j)) h|_=>.no)
 |_=>.no
theorem aua:a1p K gIs (λx y H Q=>(y=.non/\Q (.bl (decide (x=.non))) H)\/∃i j,x=.bl i/\y=.bl j/\Q (.bl (i == j)) H):=by
 intro E ι H h x y dx dy Q rx ry hr o
 cases dy with
 |non=>exact .inl ⟨ah3 ry,by rw[adm rx];exact ans o (.bl _) hr⟩
 |bl j =>
  cases dx with
  |bl i=>exact .inr ⟨i,j,adl rx,adl ry,ans o (.bl _) hr⟩
  |_=>exact o.elim
 |_=>exact o.elim
theorem ah5:a1p K aaj (λx y H Q=>(y=.non/\Q (.bl (!decide (x=.non))) H)\/∃i j,x=.bl i/\y=.bl j/\Q (.bl (i != j)) H):=by
 intro E ι H h x y dx dy Q rx ry hr o
 cases dy with
 |non=>exact .inl ⟨ah3 ry,by rw[adm rx];exact ans o (.bl _) hr⟩
 |bl j =>
  cases dx with
  |bl i=>exact .inr ⟨i,j,adl rx,adl ry,ans o (.bl _) hr⟩
  |_=>exact o.elim
 |_=>exact o.elim
def zy:D->Bool
 |.non=>true|.bl _=>true|.int _=>true|.str _=>true
 |_=>false
def fvD:D->Option V
 |.non=>some .non|.bl b=>some (.bl b)|.int i=>some (.int i)|.str x=>some (.str x)
 |_=>none
theorem akp{d:D}(r:Rep K ι H x d)(f:zy d=true):fvD d=some x:=by
 cases r<;>first|rfl|(cases f;done)
theorem fvs{d e:D}{P:D->V->D->V->Prop}(h:∀d x e y,fvD d=some x->fvD e=some y->P d x e y)(r:Rep K ι H x d)(q:Rep K ι H y e)(f:zy d=true)(g:zy e=true):P d x e y:=h d x e y (akp r f) (akp q g)
def eqF:D->D->Bool
 |.non,.non=>true
 |.bl i,.bl j=>i == j
 |.int i,.int j=>i == j
 |.str i,.str j=>i == j
 |.int i,.bl j=>i == (if j then 1 else 0)
 |.bl i,.int j=>(if i then 1 else 0) == j
 |_,_=>false
end
section
variable{X:Cx}{K:Fg}{E:XD}{a b e o:Expr}{es:List Expr}{fa fb:SE}{ka:SA}{pos:Pos}
def a0q(d:D)(h:Hd):Option (List D):=match d with
 |.tup xs=>some xs
 |.rol xs=>some xs
 |.ref i=>match h[i]? with|some (.lst xs)=>some xs|_=>none
 |_=>none
def gIx(x y:D)(h:Hd):R D:=match y with
 |.int i=>(match x with
  |.str z=>if z.length<=LINE then (match atI z.cps.toList i with|some c=>.ok (.str ⟨#[c]⟩) h|none=>.no) else .no
  |x=>match a0q x h with
   |some xs=>(match atI xs i with|some d=>.ok d h|none=>.no)
   |none=>.no)
 |_=>.no
theorem adn(r:Reps K ι H vs xs)(e:atI xs i=some d):∃v,atI vs i=some v/\Rep K ι H v d:=by
 unfold atI at e ⊢;rw[r.len]
 cases hx:ixN xs.length i with
 |none=>rw[hx]at e;cases e
 |some j=>rw[hx]at e;exact r.get e
theorem aub:a1p K gIx (rIx K):=by
 intro E ι H h x y dx dy Q rx ry hr o
 cases ry with
 |int i =>
  have go:∀{p:Addr} {vs:List V} {xs:List D},Reps K ι H vs xs->out K E (yq K) ι H (match atI xs i with|some d=>.ok d h|none=>.no) Q->∃v,atI vs i=some v/\Q v H:=λ{p vs xs} r o=>by
   cases he:atI xs i with
   |none=>rw[he]at o;exact o.elim
   |some d =>
    rw[he]at o;obtain⟨v,h1,h2⟩:=adn r he;exact⟨v,h1,ans o h2 hr⟩
  cases rx with
  |str z =>
   by_cases hc:z.length<=LINE
   ·simp only[gIx,aO hc]at o
    cases he:atI z.cps.toList i with
    |none=>rw[he]at o;exact o.elim
    |some c=>rw[he]at o;exact .inr (.inr ⟨z,i,c,rfl,rfl,ll hc,he,ans o (.str _) hr⟩)
   ·simp only[gIx,bE hc]at o;exact o.elim
  |@tup p vs xs hp r =>
   simp only[gIx,a0q]at o;obtain⟨v,h1,h2⟩:=go (p:=p) r o;exact .inr (.inl ⟨p,vs,i,v,rfl,rfl,SqT.of hp,h1,h2⟩)
  |@rol p vs xs hp r =>
   simp only[gIx,a0q]at o;obtain⟨v,h1,h2⟩:=go (p:=p) r o;exact .inl ⟨p,vs,i,v,rfl,rfl,hp.l,h1,h2⟩
  |@ref p j hp =>
   obtain⟨ob,e1,e2⟩:=hr.at hp
   cases ob with
   |lst xs =>
    simp only[gIx,a0q,e1]at o;obtain⟨vs,h3,h4⟩:=e2;obtain⟨v,h1,h2⟩:=go (p:=p) h4 o;exact .inl ⟨p,vs,i,v,rfl,rfl,SqL.of h3,h1,h2⟩
   |dK _=>simp only[gIx,a0q,e1]at o;exact o.elim
   |dT _=>simp only[gIx,a0q,e1]at o;exact o.elim
   |ins _ _=>simp only[gIx,a0q,e1]at o;exact o.elim
  |_=>exact o.elim
 |_=>exact o.elim
theorem apt(ha:ME X E a fa)(hb:ME X E b fb)(hp:a6m b):ME X E (.Subscript a b pos) (s2 gIx fa fb):=ayi atn aub ha hb hp
abbrev SO:=Sd->Hd->R (Option Int)
abbrev MO(X:Cx)(E:XD)(e:Option Expr)(f:SO):Prop:=PO X e (lift X.K E b0v f)
def oN:SO:=λ_ h=>.ok none h
def oS(f:SE):SO:=λτ h=>(f τ h).bind λd h1=>match d with|.int i=>.ok (some i) h1|_=>.no
theorem PO.weak{e:Option Expr}{t t':St->Hp->(Option Int->Hp->Prop)->Prop}(h:PO X e t)(i:∀σ H Q,t' σ H Q->t σ H Q):PO X e t':=λaA s σ H Q I q=>h aA s σ H Q I (i _ _ _ q)
theorem jn:MO X E none oN:=PO.weak ap9 λσ H Q ⟨ι,τ,h,S,Rh,o⟩=>o ι H none (.refl _ _) rfl Rh
theorem jf(he:ME X E e fa):MO X E (some e) (oS fa):=by
 refine PO.weak (apa he) ?_
 rintro σ H Q ⟨ι,τ,h,S,Rh,o⟩
 refine⟨ι,τ,h,S,Rh,bx o λd h1 ι1 H1 v g1 r1 hr1 o1=>?_⟩
 cases r1 with
 |int i=>exact⟨i,rfl,o1 ι1 H1 _ (.refl _ _) rfl hr1⟩
 |_=>exact o1.elim
def whole(n:Nat)(lo hi:Option Int):Prop:=HT.sIx n 0 lo=0/\HT.sIx n n hi=n
instance (n:Nat) (lo hi:Option Int):Decidable (whole n lo hi):=by unfold whole;exact inferInstance
def gSl(d:D)(lo hi:Option Int)(h:Hd):R D:=match d with
 |.str z=>if z.length<=LINE then .ok (.str ⟨(a6s z.cps.toList lo hi).toArray⟩) h else .no
 |.tup xs=>if ¬ whole xs.length lo hi then .ok (.tup (a6s xs lo hi)) h else .no
 |.rol xs=>.ok (.ref h.length) (h++[.lst (a6s xs lo hi)])
 |.scr xs=>.ok (.ref h.length) (h++[.lst (a6s xs lo hi)])
 |.ref i=>match h[i]? with|some (.lst xs)=>.ok (.ref h.length) (h++[.lst (a6s xs lo hi)])|_=>.no
 |_=>.no
theorem a3w(r:Reps K ι H vs xs)(lo hi:Option Int):Reps K ι H (an9 vs lo hi) (a6s xs lo hi):=by
 unfold an9 a6s;rw[r.len];exact(r.drop _).take _
theorem ado(rx:Rep K ι H x d)(hr:HRep K ι H h)(o:out K E (yq K) ι H (gSl d lo hi h) Q):ayd x lo hi H Q\/ay9 K x lo hi H Q\/ayb K x lo hi H Q:=by
 cases rx with
 |str z =>
  by_cases hc:z.length<=LINE
  ·simp only[gSl,aO hc]at o;exact .inl ⟨z,rfl,ll hc,ans o (.str _) hr⟩
  ·simp only[gSl,bE hc]at o;exact o.elim
 |@tup p vs xs hp r =>
  by_cases hc:¬ whole xs.length lo hi
  ·simp only[gSl,aO hc]at o;exact .inr (.inl ⟨p,vs,rfl,SqT.of hp,by rw[r.len];exact hc,a0z (a3w r lo hi) hr o⟩)
  ·simp only[gSl,bE hc]at o;exact o.elim
 |@rol p vs xs hp r=>exact .inr (.inr ⟨p,vs,rfl,hp.l,zc (a3w r lo hi) hr o⟩)
 |@scr p vs xs hp r=>exact .inr (.inr ⟨p,vs,rfl,hp.l,zc (a3w r lo hi) hr o⟩)
 |@ref p j hp =>
  obtain⟨ob,e1,e2⟩:=hr.at hp
  cases ob with
  |lst xs =>
   simp only[gSl,e1]at o;obtain⟨vs,h3,h4⟩:=e2;exact .inr (.inr ⟨p,vs,rfl,SqL.of h3,zc (a3w h4 lo hi) hr o⟩)
  |dK _=>simp only[gSl,e1]at o;exact o.elim
  |dT _=>simp only[gSl,e1]at o;exact o.elim
  |ins _ _=>simp only[gSl,e1]at o;exact o.elim
 |_=>exact o.elim
theorem ah6(r:Rep K ι H x d)(f:zy d=true):a3d x=true:=by cases r<;>first|rfl|cases f
theorem auc(r:Rep K ι H x d)(q:Rep K ι H y c):zy d=true->zy c=true->eqV x y=eqF d c:=λf g=>by
 refine fvs (P:=λd x c y=>eqV x y=eqF d c) (λd x e y h h'=>?_) r q f g
 cases d<;>first|(cases h;done)|(cases h;cases e<;>first|(cases h';done)|(cases h';rfl))
def inD(x:D)(xs:List D):Bool:=xs.any λy=>eqF y x
theorem akq(r:Reps K ι H vs xs)(f:xs.all zy=true):vs.all a3d=true:=by
 induction r using Reps.rec (motive_1:=λ_ _ _=>True) with
 |nil=>rfl
 |cons r rs _ ih =>
  rw[dk,bV]at f ⊢;exact⟨ah6 r f.1,ih f.2⟩
 |_=>trivial
theorem aud(rx:Rep K ι H x d)(fx:zy d=true)(r:Reps K ι H vs xs)(f:xs.all zy=true):inV x vs=inD d xs:=by
 unfold inV inD
 induction r using Reps.rec (motive_1:=λ_ _ _=>True) with
 |nil=>rfl
 |cons r rs _ ih =>
  rw[dk,bV]at f;rw[gF,gF,ih f.2,auc r rx f.1 fx]
 |_=>trivial
def gIn(neg:Bool)(x y:D)(h:Hd):R D:=match y with
 |.str T=>(match x with
  |.str z=>(match z.cps.toList with|[c]=>.ok (.bl (if neg then !decide (c∈T.cps.toList) else decide (c∈T.cps.toList))) h|_=>.no)
  |_=>.no)
 |y=>match a0q y h with
  |some xs=>if zy x=true/\xs.all zy=true then .ok (.bl (if neg then !inD x xs else inD x xs)) h else .no
  |none=>.no
theorem one_sign{z:Str}(h:z.cps.toList=[c]):z=⟨#[c]⟩:=by
 obtain⟨cps⟩:=z
 congr
 exact Array.ext' (by simpa using h)
theorem ano(neg:Bool){r1:R2}(h1:∀c T H (Q:VK),Q (.bl (if neg then !decide (c∈T.cps.toList) else decide (c∈T.cps.toList))) H->r1 (.str ⟨#[c]⟩) (.str T) H Q):a1p K (gIn neg) (λx y H Q=>r1 x y H Q\/rIn K neg x y H Q):=by
 intro E ι H h x y dx dy Q rx ry hr o
 have go:∀{p:Addr} {vs:List V} {xs:List D},(SqL K H p vs\/SqT K H p vs)->Reps K ι H vs xs->out K E (yq K) ι H (if zy dx=true/\xs.all zy=true then .ok (.bl (if neg then !inD dx xs else inD dx xs)) h else .no) Q->rIn K neg x (.ref p) H Q:=λ{p vs xs} sq r o=>by
  split at o
  ·rename_i hc;exact⟨p,vs,rfl,sq,ah6 rx hc.1,akq r hc.2,by rw[aud rx hc.1 r hc.2];exact ans o (.bl _) hr⟩
  ·exact o.elim
 cases ry with
 |str T =>
  cases rx with
  |str z =>
   simp only[gIn]at o
   split at o
   ·rename_i c hz;rw[one_sign hz];exact .inl (h1 c T H Q (ans o (.bl _) hr))
   ·exact o.elim
  |_=>exact o.elim
 |@tup p vs xs hp r=>simp only[gIn,a0q]at o;exact .inr (go (.inr (SqT.of hp)) r o)
 |@rol p vs xs hp r=>simp only[gIn,a0q]at o;exact .inr (go (.inl hp.l) r o)
 |@ref p j hp =>
  obtain⟨ob,e1,e2⟩:=hr.at hp
  cases ob with
  |lst xs =>
   simp only[gIn,a0q,e1]at o;obtain⟨vs,h3,h4⟩:=e2;exact .inr (go (.inl (SqL.of h3)) h4 o)
  |dK _=>simp only[gIn,a0q,e1]at o;exact o.elim
  |dT _=>simp only[gIn,a0q,e1]at o;exact o.elim
  |ins _ _=>simp only[gIn,a0q,e1]at o;exact o.elim
 |_=>exact o.elim
theorem a8u:a1p K (gIn false) (λx y H Q=>(∃c T,x=.str ⟨#[c]⟩/\y=.str T/\Q (.bl (decide (c∈T.cps.toList))) H)\/rIn K false x y H Q):=ano false λc T H Q q=>⟨c,T,rfl,rfl,q⟩
theorem ah7:a1p K (gIn true) (λx y H Q=>(∃c T,x=.str ⟨#[c]⟩/\y=.str T/\Q (.bl (!decide (c∈T.cps.toList))) H)\/rIn K true x y H Q):=ano true λc T H Q q=>⟨c,T,rfl,rfl,q⟩
def qu:List D->Hd->R D
 |[.str z],h=>if z.length<=LINE then .ok (.int z.length) h else .no
 |[x],h=>(match a0q x h with|some xs=>.ok (.int xs.length) h|none=>.no)
 |_,_=>.no
theorem apu:afw K qu (λxs H Q=>(∃p ys,xs=[.ref p]/\(SqL K H p ys\/SqT K H p ys)/\Q (.int ys.length) H)\/∃z,xs=[.str z]/\z.length<=sizeLine/\Q (.int z.length) H):=by
 intro E ι H h xs ds Q r hr o
 cases r with
 |nil=>exact o.elim
 |cons r rs =>
  cases rs with
  |cons _ _=>exact(show False by cases r<;>exact o).elim
  |nil =>
   cases r with
   |str z =>
    by_cases hc:z.length<=LINE
    ·simp only[qu,aO hc]at o;exact .inr ⟨z,rfl,ll hc,ans o (.int _) hr⟩
    ·simp only[qu,bE hc]at o;exact o.elim
   |@tup p vs xs hp r=>simp only[qu,a0q]at o;exact .inl ⟨p,vs,rfl,.inr (SqT.of hp),by rw[r.len];exact ans o (.int _) hr⟩
   |@rol p vs xs hp r=>simp only[qu,a0q]at o;exact .inl ⟨p,vs,rfl,.inl hp.l,by rw[r.len];exact ans o (.int _) hr⟩
   |@ref p j hp =>
    obtain⟨ob,e1,e2⟩:=hr.at hp
    cases ob with
    |lst xs =>
     simp only[qu,a0q,e1]at o;obtain⟨vs,h3,h4⟩:=e2;exact .inl ⟨p,vs,rfl,.inl (SqL.of h3),by rw[h4.len];exact ans o (.int _) hr⟩
    |dK _=>simp only[qu,a0q,e1]at o;exact o.elim
    |dT _=>simp only[qu,a0q,e1]at o;exact o.elim
    |ins _ _=>simp only[qu,a0q,e1]at o;exact o.elim
   |_=>exact o.elim
def axd:List D->Hd->R D
 |[.int i],h=>.ok (.int (if i<0 then -i else i)) h
 |_,_=>.no
theorem apv:afw K axd (λxs H Q=>∃i,xs=[.int i]/\Q (.int (if i<0 then -i else i)) H):=by
 intro E ι H h xs ds Q r hr o
 unfold axd at o
 split at o
 ·cases r with|cons r rs=>cases r;cases rs;exact⟨_,rfl,ans o (.int _) hr⟩
 ·exact o.elim
def akr:List D->Hd->R D
 |[.int i,.int j],h=>.ok (.int (if j > i then j else i)) h
 |_,_=>.no
def aks:List D->Hd->R D
 |[.int i,.int j],h=>.ok (.int (if j<i then j else i)) h
 |_,_=>.no
def apw:List D->Hd->R D
 |[.int i],h=>.ok (.int i) h
 |[.bl k],h=>.ok (.int (if k then 1 else 0)) h
 |_,_=>.no
theorem apx:afw K apw (λxs H Q=>(∃i,xs=[.int i]/\Q (.int i) H)\/∃k,xs=[.bl k]/\Q (.int (if k then 1 else 0)) H):=by
 intro E ι H h xs ds Q r hr o
 unfold apw at o
 split at o
 ·cases r with|cons r rs=>cases r;cases rs;exact .inl ⟨_,rfl,ans o (.int _) hr⟩
 ·cases r with|cons r rs=>cases r;cases rs;exact .inr ⟨_,rfl,ans o (.int _) hr⟩
 ·exact o.elim
def tyD(d:D)(h:Hd):Option String:=match d with
 |.non=>some "NoneType" |.bl _=>some "bool" |.int _=>some "int" |.str _=>some "str" |.tup _=>some "tuple" |.rol _=>some "list"
 |.ref i=>(match h[i]? with|some (.lst _)=>some "list" |some (.dK _)=>some "dict" |_=>none)
 |_=>none
def a7z(t T:String):Option Bool :=
 if t∈["NoneType", "bool", "int", "str", "tuple", "list", "dict"]/\T∈["bool", "int", "str", "tuple", "list", "dict"] then some (t == T || (t == "bool" && T == "int")) else none
theorem ah8{t T:String}{b:Bool}(e:a7z t T=some b):PySem.W.kitOne K (.type t) (.type T)=some b:=by
 unfold a7z at e
 split at e
 ·rename_i h;obtain⟨h1,h2⟩:=h;simp only[aR,bg,cE]at h1 h2
  rcases h1 with rfl|rfl|rfl|rfl|rfl|rfl|rfl<;>rcases h2 with rfl|rfl|rfl|rfl|rfl|rfl<;>(cases e;rfl)
 ·cases e
def aa1:List D->Hd->R D
 |[x,.ty T],h=>(match tyD x h with|some t=>(match a7z t T with|some b=>.ok (.bl b) h|none=>.no)|none=>.no)
 |_,_=>.no
theorem aue(r:Rep K ι H x d)(hr:HRep K ι H h)(e:tyD d h=some t):TyOf K H x (.type t):=by
 cases r with
 |non=>cases e;exact .non
 |bl b=>cases e;exact .bl b
 |int b=>cases e;exact .int b
 |str b=>cases e;exact .str b
 |ty _=>cases e
 |tup hp r=>cases e;exact .tup hp
 |rol hp r=>cases e;obtain⟨o,hp⟩:=hp;exact .frz hp
 |scr _ _=>cases e
 |rod _ _ _=>cases e
 |rdT _ _ _=>cases e
 |exc _ _ _=>cases e
 |ins _ _ _ _=>cases e
 |ref hp =>
  obtain⟨ob,e1,e2⟩:=hr.at hp
  cases ob with
  |lst xs=>simp only[tyD,e1]at e;cases e;obtain⟨vs,h3,h4⟩:=e2;exact .lst h3
  |dK _=>simp only[tyD,e1]at e;cases e;obtain⟨vs,h3,h4⟩:=e2;exact .dK h3
  |dT _=>simp only[tyD,e1]at e;cases e
  |ins _ _=>simp only[tyD,e1]at e;cases e
theorem apy:afw K aa1 (λxs H Q=>∃x T t b,xs=[x,.ty T]/\TyOf K H x t/\PySem.W.kitOne K t (.type T)=some b/\Q (.bl b) H):=by
 intro E ι H h xs ds Q r hr o
 unfold aa1 at o
 split at o
 ·rename_i d T
  cases r with
  |cons r rs =>
   cases rs with
   |cons q rs =>
    cases q;cases rs
    cases ht:tyD d h with
    |none=>rw[ht]at o;exact o.elim
    |some t =>
     rw[ht]at o
     cases hb:a7z t T with
     |none=>simp only[hb]at o;exact o.elim
     |some b =>
      simp only[hb]at o;exact⟨_,T,.type t,b,rfl,aue r hr ht,ah8 hb,ans o (.bl _) hr⟩
 ·exact o.elim
end
section
variable{X:Cx}{K:Fg}{E:XD}{a b e o:Expr}{es:List Expr}{fa fb fo:SE}{ka:SA}{pos apos cpos:Pos}{name:Str}{idn:String}
def apz(K:Fg)(g:D->List D->Hd->R D)(r:V->List V->Hp->VK->Prop):Prop:=∀(E:XD) ι H h x dx xs ds Q,Rep K ι H x dx->Reps K ι H xs ds->HRep K ι H h->out K E (yq K) ι H (g dx ds h) Q->r x xs H Q
def isL(d:D)(h:Hd):Bool:=match d with|.ref i=>(match h[i]? with|some (.lst _)=>true|_=>false)|.rol _=>true|_=>false
def sML(g:D->List D->Hd->R D)(f:SE)(k:SA):SE:=λτ h=>(f τ h).bind λd h1=>if isL d h1=true then (k τ h1).bind λds h2=>g d ds h2 else .no
theorem auf(r:Rep K ι H x d)(hr:HRep K ι H h)(e:isL d h=true):tyV K "list" x H:=by
 cases r with
 |rol hp _=>exact .inl ⟨rfl,_,hp.l⟩
 |ref hp =>
  obtain⟨ob,e1,e2⟩:=hr.at hp
  cases ob with
  |lst xs=>obtain⟨vs,h3,_⟩:=e2;exact .inl ⟨rfl,_,SqL.of h3⟩
  |dK _=>simp[isL,e1]at e
  |dT _=>simp[isL,e1]at e
  |ins _ _=>simp[isL,e1]at e
 |_=>cases e
theorem a3x(slot:Slot "list" name idn)(hty:typeOf (.builtin idn)=pure (.type "method_descriptor"))(hm:MtR X idn r)(hs:apz X.K g r)(ho:ME X E o fo)(ha:MA X E (e::es) ka)
  (hbase:attributeBase o name X.env (eval o X.env)=eval o X.env:=by rfl)
  (hfew:((backTo cpos (starEach (e::es) X.env)).all (λx => !x.1) && (backToKw cpos (keywordEach [] X.env)).all (λx=>x.1.isSome)
   && decide ((e::es).length+([]:List Keyword).length+(if ([]:List Keyword).isEmpty then 0 else 1)<30))=true:=by rfl)
  (hline:(apos.endLine == cpos.line)=true:=by rfl) (hst:starEach (e::es) X.env=(false,eval e X.env)::starEach es X.env:=by rfl) (hplain:(backTo cpos (starEach es X.env)).any (·.1)=false:=by rfl) :
  ME X E (.Call (.Attribute o name apos) (e::es) [] cpos) (sML g fo ka):=by
 refine PE.weak (ayc PySem.F.plainAttrs_list slot hty hm ho ha hbase hfew hline hst hplain) ?_
 rintro σ H Q ⟨ι,τ,h,S,Rh,o⟩
 refine⟨ι,τ,h,S,Rh,bx o λd h1 ι1 H1 v g1 r1 hr1 o1=>?_⟩
 by_cases hc:isL d h1=true
 ·rw[aO hc]at o1;refine⟨auf r1 hr1 hc,ι1,τ,h1,S.mono g1,hr1,bx o1 λds h2 ι2 H2 vs g2 r2 hr2 o2=>?_⟩;exact hs E ι2 H2 h2 v d vs ds Q (r1.mono g2) r2 hr2 o2
 ·rw[bE hc]at o1;exact o1.elim
def a5o:D->List D->Hd->R D
 |.ref i,[y],h=>(match h[i]? with|some (.lst xs)=>if xs.length<LINE then .ok .non (h.set i (.lst (xs++[y]))) else .no|_=>.no)
 |_,_,_=>.no
theorem xg:apz K a5o agj:=by
 intro E ι H h x dx xs ds Q rx r hr o
 unfold a5o at o
 split at o
 ·rename_i i y
  cases rx with
  |@ref p _ hp =>
   cases r with
   |cons r1 rs =>
    cases rs
    split at o
    ·rename_i xs hx;obtain⟨vs,h3,h4⟩:=hr.lst hp hx
     split at o
     ·rename_i hc;exact⟨p,vs,_,rfl,rfl,h3,by rw[h4.len,aye];exact hc,apm (h4.snoc r1) hr hp .non o⟩
     ·exact o.elim
    ·exact o.elim
 ·exact o.elim
def sMS(g:D->List D->Hd->R D)(f:SE)(k:SA):SE:=λτ h=>(f τ h).bind λd h1=>match d with|.str z=>(k τ h1).bind λds h2=>g (.str z) ds h2|_=>.no
theorem ac4(slot:Slot "str" name idn)(hty:typeOf (.builtin idn)=pure (.type "method_descriptor"))(hm:MtR X idn r)(hs:apz X.K g r)(ho:ME X E o fo)(ha:MA X E (e::es) ka)
  (hbase:attributeBase o name X.env (eval o X.env)=eval o X.env:=by rfl)
  (hfew:((backTo cpos (starEach (e::es) X.env)).all (λx => !x.1) && (backToKw cpos (keywordEach [] X.env)).all (λx=>x.1.isSome)
   && decide ((e::es).length+([]:List Keyword).length+(if ([]:List Keyword).isEmpty then 0 else 1)<30))=true:=by rfl)
  (hline:(apos.endLine == cpos.line)=true:=by rfl) (hst:starEach (e::es) X.env=(false,eval e X.env)::starEach es X.env:=by rfl) (hplain:(backTo cpos (starEach es X.env)).any (·.1)=false:=by rfl) :
  ME X E (.Call (.Attribute o name apos) (e::es) [] cpos) (sMS g fo ka):=by
 refine PE.weak (ayg slot hty hm ho ha hbase hfew hline hst hplain) ?_
 rintro σ H Q ⟨ι,τ,h,S,Rh,o⟩
 refine⟨ι,τ,h,S,Rh,bx o λd h1 ι1 H1 v g1 r1 hr1 o1=>?_⟩
 cases r1 with
 |str z=>exact⟨⟨z,rfl⟩,ι1,τ,h1,S.mono g1,hr1,bx o1 λds h2 ι2 H2 vs g2 r2 hr2 o2=>hs E ι2 H2 h2 _ _ vs ds Q (.str z) r2 hr2 o2⟩
 |_=>exact o1.elim
def aak:D->List D->Hd->R D
 |.str T,[.str z],h=>(match z.cps.toList with|[c]=>.ok (.int (a3r T c)) h|_=>.no)
 |_,_,_=>.no
theorem a8v:apz K aak (λx xs H Q=>∃T c,x=.str T/\xs=[.str ⟨#[c]⟩]/\Q (.int (a3r T c)) H):=by
 intro E ι H h x dx xs ds Q rx r hr o
 unfold aak at o
 split at o
 ·cases rx
  cases r with
  |cons r1 rs =>
   cases r1;cases rs
   split at o
   ·rename_i c hz;exact⟨_,c,rfl,by rw[one_sign hz],ans o (.int _) hr⟩
   ·exact o.elim
 ·exact o.elim
def a80:D->List D->Hd->R D
 |.str T,[.str z],h=>(match z.cps.toList with|[c]=>if c∈T.cps.toList then .ok (.int (a3r T c)) h else .no|_=>.no)
 |_,_,_=>.no
theorem aal:apz K a80 (λx xs H Q=>∃T c,x=.str T/\xs=[.str ⟨#[c]⟩]/\c∈T.cps.toList/\Q (.int (a3r T c)) H):=by
 intro E ι H h x dx xs ds Q rx r hr o
 unfold a80 at o
 split at o
 ·cases rx
  cases r with
  |cons r1 rs =>
   cases r1;cases rs
   split at o
   ·rename_i c hz
    split at o
    ·rename_i hc;exact⟨_,c,rfl,by rw[one_sign hz],hc,ans o (.int _) hr⟩
    ·exact o.elim
   ·exact o.elim
 ·exact o.elim
def ac6:List D->Option (List Str)
 |[]=>some []
 |.str z::r=>(ac6 r).map (z::·)
 |_::_=>none
theorem a8w:∀{vs:List V} {xs:List D} {zs:List Str},Reps K ι H vs xs->ac6 xs=some zs->vs=zs.map V.str
 |_,_,_,.nil,e=>by cases e;rfl
 |_,_,zs,.cons (d:=d) r rs,e=>by
  cases r with
  |str z =>
   simp only[ac6,aP]at e;obtain⟨ws,h1,rfl⟩:=e;rw[a8w rs h1];rfl
  |_=>cases e
def aam:D->List D->Hd->R D
 |.str sep,[.ref i],h=>(match h[i]? with|some (.lst xs)=>(match ac6 xs with|some zs=>if (zs.map (·.length)).sum+zs.length*sep.length<=16777216 then .ok (.str (Txt.join sep zs)) h else .no|none=>.no)|_=>.no)
 |.str sep,[.rol xs],h=>(match ac6 xs with|some zs=>if (zs.map (·.length)).sum+zs.length*sep.length<=16777216 then .ok (.str (Txt.join sep zs)) h else .no|none=>.no)
 |_,_,_=>.no
theorem adp:apz K aam (λx xs H Q=>∃sep p zs,x=.str sep/\xs=[.ref p]/\SqL K H p (zs.map V.str)/\(zs.map (·.length)).sum+zs.length*sep.length<=16777216/\Q (.str (Txt.join sep zs)) H):=by
 intro E ι H h x dx xs ds Q rx r hr o
 unfold aam at o
 split at o
 ·rename_i sep i;cases rx
  cases r with
  |cons r1 rs =>
   cases rs
   cases r1 with
   |@ref p _ hp =>
    split at o
    ·rename_i xs hx;obtain⟨vs,h3,h4⟩:=hr.lst hp hx
     split at o
     ·rename_i zs hz
      split at o
      ·rename_i hc;exact⟨sep,p,zs,rfl,rfl,SqL.of (by rw[h3,a8w h4 hz]),hc,ans o (.str _) hr⟩
      ·exact o.elim
     ·exact o.elim
    ·exact o.elim
 ·rename_i sep xs;cases rx
  cases r with
  |cons r1 rs =>
   cases rs
   cases r1 with
   |@rol p vs xs hp r =>
    split at o
    ·rename_i zs hz
     split at o
     ·rename_i hc;exact⟨sep,p,zs,rfl,rfl,by rw[<-a8w r hz];exact hp.l,hc,ans o (.str _) hr⟩
     ·exact o.elim
    ·exact o.elim
 ·exact o.elim
theorem a81(z:Str):Reps K ι H (a1n z) (a0s z):=by
 unfold a1n a0s
 induction z.cps.toList with
 |nil=>exact .nil
 |cons c cs ih=>exact .cons (.str _) ih
def uq:List D->Hd->R D
 |[.str z],h=>if z.length<=LINE then .ok (.tup (a0s z)) h else .no
 |[x],h=>(match a0q x h with|some xs=>.ok (.tup xs) h|none=>.no)
 |_,_=>.no
theorem zf:afw K uq (λxs H Q=>(∃p ys,xs=[.ref p]/\((SqL K H p ys/\∀l,H l=none->Q (.ref l) (upd H l (.tup ys)))\/(SqT K H p ys/\Q (.ref p) H)))\/∃z,xs=[.str z]/\z.length<=sizeLine/\∀l,H l=none->Q (.ref l) (upd H l (.tup (a1n z)))):=by
 intro E ι H h xs ds Q r hr o
 cases r with
 |nil=>exact o.elim
 |cons r rs =>
  cases rs with
  |cons _ _=>exact(show False by cases r<;>exact o).elim
  |nil =>
   cases r with
   |str z =>
    by_cases hc:z.length<=LINE
    ·simp only[uq,aO hc]at o;exact .inr ⟨z,rfl,ll hc,a0z (a81 z) hr o⟩
    ·simp only[uq,bE hc]at o;exact o.elim
   |@tup p vs xs hp r=>simp only[uq,a0q]at o;exact .inl ⟨p,vs,rfl,.inr ⟨SqT.of hp,ans o (.tup hp r) hr⟩⟩
   |@rol p vs xs hp r=>simp only[uq,a0q]at o;exact .inl ⟨p,vs,rfl,.inl ⟨hp.l,a0z r hr o⟩⟩
   |@ref p j hp =>
    obtain⟨ob,e1,e2⟩:=hr.at hp
    cases ob with
    |lst xs =>
     simp only[uq,a0q,e1]at o;obtain⟨vs,h3,h4⟩:=e2;exact .inl ⟨p,vs,rfl,.inl ⟨SqL.of h3,a0z h4 hr o⟩⟩
    |dK _=>simp only[uq,a0q,e1]at o;exact o.elim
    |dT _=>simp only[uq,a0q,e1]at o;exact o.elim
    |ins _ _=>simp only[uq,a0q,e1]at o;exact o.elim
   |_=>exact o.elim
def aq0:List D->Option (List Bool)
 |[]=>some []
 |.bl z::r=>(aq0 r).map (z::·)
 |_::_=>none
def a8x:List D->Option (List Int)
 |[]=>some []
 |.int z::r=>(a8x r).map (z::·)
 |_::_=>none
theorem ac8:∀{vs:List V} {xs:List D} {zs:List Bool},Reps K ι H vs xs->aq0 xs=some zs->vs=zs.map V.bl
 |_,_,_,.nil,e=>by cases e;rfl
 |_,_,zs,.cons (d:=d) r rs,e=>by
  cases r with
  |bl z =>
   simp only[aq0,aP]at e;obtain⟨ws,h1,rfl⟩:=e;rw[ac8 rs h1];rfl
  |_=>cases e
theorem a3y:∀{vs:List V} {xs:List D} {zs:List Int},Reps K ι H vs xs->a8x xs=some zs->vs=zs.map V.int
 |_,_,_,.nil,e=>by cases e;rfl
 |_,_,zs,.cons (d:=d) r rs,e=>by
  cases r with
  |int z =>
   simp only[a8x,aP]at e;obtain⟨ws,h1,rfl⟩:=e;rw[a3y rs h1];rfl
  |_=>cases e
theorem adq(bs:List Bool):aq0 (bs.map D.bl)=some bs:=by
 induction bs with
 |nil=>rfl
 |cons b bs ih=>simp[aq0,ih]
def ah9:List D->Hd->R D
 |[.ref i],h=>(match h[i]? with|some (.lst xs)=>(match aq0 xs with|some bs=>.ok (.bl (bs.all id)) h|none=>.no)|_=>.no)
 |[.rol xs],h=>(match aq0 xs with|some bs=>.ok (.bl (bs.all id)) h|none=>.no)
 |_,_=>.no
theorem aha:afw K ah9 (λxs H Q=>∃(p:Addr) (bs:List Bool),xs=[.ref p]/\SqL K H p (bs.map V.bl)/\Q (.bl (bs.all id)) H):=by
 intro E ι H h xs ds Q r hr o
 unfold ah9 at o
 split at o
 ·cases r with
  |cons r rs =>
   cases rs
   cases r with
   |@ref p _ hp =>
    split at o
    ·rename_i xs hx;obtain⟨vs,h3,h4⟩:=hr.lst hp hx
     split at o
     ·rename_i bs hb;exact⟨p,bs,rfl,SqL.of (by rw[h3,ac8 h4 hb]),ans o (.bl _) hr⟩
     ·exact o.elim
    ·exact o.elim
 ·cases r with
  |cons r rs =>
   cases rs
   cases r with
   |@rol p vs xs hp r =>
    split at o
    ·rename_i bs hb;exact⟨p,bs,rfl,by rw[<-ac8 r hb];exact hp.l,ans o (.bl _) hr⟩
    ·exact o.elim
 ·exact o.elim
def auh:List D->Hd->R D
 |[.ref i],h=>(match h[i]? with|some (.lst xs)=>(match a8x xs with|some bs=>.ok (.int bs.sum) h|none=>.no)|_=>.no)
 |[.rol xs],h=>(match a8x xs with|some bs=>.ok (.int bs.sum) h|none=>.no)
 |_,_=>.no
theorem aq1:afw K auh (λxs H Q=>∃(p:Addr) (ns:List Int),xs=[.ref p]/\SqL K H p (ns.map V.int)/\Q (.int ns.sum) H):=by
 intro E ι H h xs ds Q r hr o
 unfold auh at o
 split at o
 ·cases r with
  |cons r rs =>
   cases rs
   cases r with
   |@ref p _ hp =>
    split at o
    ·rename_i xs hx;obtain⟨vs,h3,h4⟩:=hr.lst hp hx
     split at o
     ·rename_i bs hb;exact⟨p,bs,rfl,SqL.of (by rw[h3,a3y h4 hb]),ans o (.int _) hr⟩
     ·exact o.elim
    ·exact o.elim
 ·cases r with
  |cons r rs =>
   cases rs
   cases r with
   |@rol p vs xs hp r =>
    split at o
    ·rename_i bs hb;exact⟨p,bs,rfl,by rw[<-a3y r hb];exact hp.l,ans o (.int _) hr⟩
    ·exact o.elim
 ·exact o.elim
end
end MI
theorem L2.Room.u(r:L2.Room k A):A.units+64<PySem.cLine:=r.units
namespace MI
open L2
mutual
def eqD:D->D->Bool
 |.non,.non=>true
 |.bl a,.bl b=>a == b
 |.bl a,.int b=>(if a then 1 else 0) == b
 |.int a,.bl b=>a == (if b then 1 else 0)
 |.int a,.int b=>a == b
 |.str a,.str b=>a == b
 |.tup xs,.tup ys=>a5w xs ys
 |_,_=>false
def a5w:List D->List D->Bool
 |[],[]=>true
 |x::xs,y::ys=>eqD x y && a5w xs ys
 |_,_=>false
end
def pur:Nat->D->Bool
 |_,.non=>true
 |_,.bl _=>true
 |_,.int _=>true
 |_,.str _=>true
 |n+1,.tup xs=>xs.all (pur n)
 |_,_=>false
def pairE(xs ys:List D)(j:Nat):Bool:=match xs[j]?,ys[j]? with|some x,some y=>eqD x y|_,_=>false
theorem a3z:∀xs ys:List D,((List.range (min xs.length ys.length)).all (pairE xs ys) && xs.length == ys.length)=a5w xs ys
 |[],[]=>by simp[a5w]
 |[],_::_=>by simp[a5w]
 |_::_,[]=>by simp[a5w]
 |x::xs,y::ys=>by
  have ih:=a3z xs ys;rw[show min (x::xs).length (y::ys).length=min xs.length ys.length+1 by simp only[bB];omega,List.range_succ_eq_map]
  rw[dk,fY];have e:(pairE (x::xs) (y::ys) ∘ Nat.succ)=pairE xs ys:=by funext j;simp[pairE]
  rw[e];simp only[a5w];rw[<-ih];have e2:((x::xs).length == (y::ys).length)=(xs.length == ys.length):=by simp
  rw[e2,Bool.and_assoc];rfl
section
variable{K:Fg}{ι:List Addr}{H:Hp}
theorem a8y{xs:List D}(r:Rep K ι H v (.tup xs)):∃a vs,v=.ref a/\H a=some (.tup vs)/\Reps K ι H vs xs:=by cases r with|@tup a vs _ h rs=>exact⟨a,vs,rfl,h,rs⟩
theorem anp(r:Rep K ι H v d)(q:Rep K ι H v e)(f:zy d=true)(g:zy e=true):eqD d e=true:=by
 have h:=akp r f;have h':=akp q g
 cases d<;>first|(cases h;done)|(cases h;cases e<;>first|(cases h';done)|(cases h';simp[eqD]))
theorem a0t(r:Rep K ι H v d)(p:pur n d=true):(∃xs,d=.tup xs)\/(a3d v=true/\zy d=true):=by
 cases r<;>first|exact .inr ⟨rfl,rfl⟩|exact .inl ⟨_,rfl⟩|(cases n<;>cases p)
theorem a8z(r:Rep K ι H x d)(q:Rep K ι H y e)(f:zy d=true)(g:zy e=true):eqV x y=eqD d e:=by
 refine fvs (P:=λd x c y=>eqV x y=eqD d c) (λd x e y h h'=>?_) r q f g
 cases d<;>first|(cases h;done)|(cases h;cases e<;>first|(cases h';done)|(cases h';first|rfl|(simp[eqV,eqD];done)))
theorem akt:∀(n:Nat) {v:V} {d e:D},Rep K ι H v d->Rep K ι H v e->pur n d=true->pur n e=true->eqD d e=true:=by
 intro n
 induction n with
 |zero =>
  intro v d e r q p1 p2
  rcases a0t r p1 with⟨xs,rfl⟩|⟨f1,g1⟩
  ·cases p1
  rcases a0t q p2 with⟨xs,rfl⟩|⟨f2,g2⟩
  ·cases p2
  exact anp r q g1 g2
 |succ n ih =>
  intro v d e r q p1 p2
  rcases a0t r p1 with⟨xs,rfl⟩|⟨f1,g1⟩
  ·rcases a0t q p2 with⟨ys,rfl⟩|⟨f2,g2⟩
   ·obtain⟨a,vs,rfl,h,rs⟩:=a8y r;obtain⟨b,us,z,h',qs⟩:=a8y q;cases z
    rw[h]at h';cases h'
    simp only[eqD];simp only[pur,bN]at p1 p2
    clear h r q
    induction rs using Reps.rec (motive_1:=λ_ _ _=>True) generalizing ys with
    |nil=>cases qs;rfl
    |cons r rs _ ih2 =>
     cases qs with
     |cons q qs =>
      simp only[a5w,bV];exact⟨ih r q (p1 _ (aQ ..)) (p2 _ (aQ ..)),ih2 _ qs (λx hx=>p1 x (aK _ hx)) (λx hx=>p2 x (aK _ hx))⟩
    |_=>trivial
   ·obtain⟨a,vs,rfl,h,rs⟩:=a8y r;cases f2
  ·rcases a0t q p2 with⟨ys,rfl⟩|⟨f2,g2⟩
   ·obtain⟨a,vs,rfl,h,rs⟩:=a8y q;cases f1
   ·exact anp r q g1 g2
open SeqAt in
theorem anq{s:Shared}(hok:HOk P w H s.heap):∀(n:Nat) (A:Around) {x y:V} {u v:Value} {d e:D},Rep K ι H x d->Rep K ι H y e->RelV x u->RelV y v->pur n d=true->pur n e=true->A.units+n<cLine->EqAt A s u v (eqD d e):=by
 intro n
 induction n with
 |zero =>
  intro A x y u v d e r q rx ry p1 p2 hu
  rcases a0t r p1 with⟨xs,rfl⟩|⟨f1,f2⟩
  ·cases p1
  ·rcases a0t q p2 with⟨xs,rfl⟩|⟨g1,g2⟩
   ·cases p2
   ·rw[<-a8z r q f2 g2];exact agi rx ry f1 g1
 |succ n ih =>
  intro A x y u v d e r q rx ry p1 p2 hu
  rcases a0t r p1 with⟨xs,rfl⟩|⟨f1,f2⟩
  ·cases r with
   |@tup a vs _ ha rs =>
    cases rx
    obtain⟨_,its,r1,t1⟩:=(Rd.of ha).ok hok
    rcases a0t q p2 with⟨ys,rfl⟩|⟨g1,g2⟩
    ·cases q with
     |@tup b us _ hb qs =>
      cases ry
      obtain⟨_,its2,r2,t2⟩:=(Rd.of hb).ok hok
      by_cases hab:a=b
      ·subst hab;rw[akt (n+1) (.tup ha rs) (.tup hb qs) p1 p2];exact EqAt.same _
      ·have l1:its.toArray.size=xs.length:=by rw[ax,<-r1.length,rs.len]
       have l2:its2.toArray.size=ys.length:=by rw[ax,<-r2.length,qs.len]
       have:=RcAt.tuples (A:=A) (s:=s) (e:=pairE xs ys) t1 t2 (by omega) (λj h1 h2=>by
        have j1:j<xs.length:=by omega
        have j2:j<ys.length:=by omega
        obtain⟨v1,e1,q1⟩:=rs.get (ae j1);obtain⟨v2,e2,q2⟩:=qs.get (ae j2);obtain⟨u1,e3,q3⟩:=r1.get e1;obtain⟨u2,e4,q4⟩:=r2.get e2;have f1:its.toArray[j]=u1:=by simpa using (af.mp e3).2
        have f2:its2.toArray[j]=u2:=by simpa using (af.mp e4).2
        have pe:pairE xs ys j=eqD xs[j] ys[j]:=by simp[pairE,ae j1,ae j2]
        rw[f1,f2,pe];simp only[pur,bN]at p1 p2;exact ih A.in1 q1 q2 q3 q4 (p1 _ (aY j1)) (p2 _ (aY j2)) (by rw[gK];omega))
       rw[l1,l2,a3z]at this;exact EqAt.of_refs hab this
    ·have e0:eqD (.tup xs) e=false:=by cases e<;>first|rfl|(cases g2;done)
     rw[e0]
     cases y with
     |non=>cases ry;exact EqAt.tuple_none t1 (by omega)
     |bl b=>cases ry;exact EqAt.tuple_bool b t1 (by omega)
     |int b=>obtain⟨t,rfl⟩:=ry;exact EqAt.tuple_int b t t1 (by omega)
     |str b=>obtain⟨t,rfl⟩:=ry;exact EqAt.tuple_str b t t1 (by omega)
     |_=>cases g1
  ·rcases a0t q p2 with⟨ys,rfl⟩|⟨g1,g2⟩
   ·cases q with
    |@tup b us _ hb qs =>
     cases ry
     obtain⟨_,its2,r2,t2⟩:=(Rd.of hb).ok hok;have e0:eqD d (.tup ys)=false:=by cases d<;>first|rfl|(cases f2;done)
     rw[e0]
     cases x with
     |non=>cases rx;exact EqAt.none_tuple t2 (by omega)
     |bl b=>cases rx;exact EqAt.bool_tuple b t2 (by omega)
     |int b=>obtain⟨t,rfl⟩:=rx;exact EqAt.int_tuple b t t2 (by omega)
     |str b=>obtain⟨t,rfl⟩:=rx;exact EqAt.str_tuple b t t2 (by omega)
     |_=>cases f1
   ·rw[<-a8z r q f2 g2];exact agi rx ry f1 g1
open SeqAt in
theorem aui(ry:RelV y u)(rx:RelV x v)(fy:a3d y=true)(fx:a3d x=true):RcAt A s u v (eqV y x):=by
 cases y with
 |non =>
  cases ry
  cases x with
  |non=>cases rx;exact RcAt.none_none
  |bl b=>cases rx;exact RcAt.none_bool b
  |int b=>obtain⟨t,rfl⟩:=rx;exact RcAt.none_int b t
  |str b=>obtain⟨t,rfl⟩:=rx;exact RcAt.none_str b t
  |_=>cases fx
 |bl a =>
  cases ry
  cases x with
  |non=>cases rx;exact RcAt.bool_none a
  |bl b=>cases rx;exact RcAt.bool_bool a b
  |int b=>obtain⟨t,rfl⟩:=rx;exact RcAt.bool_int a b t
  |str b=>obtain⟨t,rfl⟩:=rx;exact RcAt.bool_str a b t
  |_=>cases fx
 |int a =>
  obtain⟨t',rfl⟩:=ry
  cases x with
  |non=>cases rx;exact RcAt.int_none a t'
  |bl b=>cases rx;exact RcAt.int_bool a t' b
  |int b=>obtain⟨t,rfl⟩:=rx;exact RcAt.int_int a t' b t
  |str b=>obtain⟨t,rfl⟩:=rx;exact RcAt.int_str a t' b t
  |_=>cases fx
 |str a =>
  obtain⟨t',rfl⟩:=ry
  cases x with
  |non=>cases rx;exact RcAt.str_none a t'
  |bl b=>cases rx;exact RcAt.str_bool a t' b
  |int b=>obtain⟨t,rfl⟩:=rx;exact RcAt.str_int a t' b t
  |str b=>obtain⟨t,rfl⟩:=rx;exact RcAt.str_str a t' b t
  |_=>cases fx
 |_=>cases fy
open SeqAt in
theorem aku(ry:RelV y u)(rx:RelV x v)(fy:a3d y=true)(fx:a3d x=true):RcNeAt A s u v (!eqV y x):=by
 cases y with
 |non =>
  cases ry
  cases x with
  |non=>cases rx;exact RcNeAt.none_none
  |bl b=>cases rx;exact RcNeAt.none_bool b
  |int b=>obtain⟨t,rfl⟩:=rx;exact RcNeAt.none_int b t
  |str b=>obtain⟨t,rfl⟩:=rx;exact RcNeAt.none_str b t
  |_=>cases fx
 |bl a =>
  cases ry
  cases x with
  |non=>cases rx;exact RcNeAt.bool_none a
  |bl b=>cases rx;exact RcNeAt.bool_bool a b
  |int b=>obtain⟨t,rfl⟩:=rx;exact RcNeAt.bool_int a b t
  |str b=>obtain⟨t,rfl⟩:=rx;exact RcNeAt.bool_str a b t
  |_=>cases fx
 |int a =>
  obtain⟨t',rfl⟩:=ry
  cases x with
  |non=>cases rx;exact RcNeAt.int_none a t'
  |bl b=>cases rx;exact RcNeAt.int_bool a t' b
  |int b=>obtain⟨t,rfl⟩:=rx;exact RcNeAt.int_int a t' b t
  |str b=>obtain⟨t,rfl⟩:=rx;exact RcNeAt.int_str a t' b t
  |_=>cases fx
 |str a =>
  obtain⟨t',rfl⟩:=ry
  cases x with
  |non=>cases rx;exact RcNeAt.str_none a t'
  |bl b=>cases rx;exact RcNeAt.str_bool a t' b
  |int b=>obtain⟨t,rfl⟩:=rx;exact RcNeAt.str_int a t' b t
  |str b=>obtain⟨t,rfl⟩:=rx;exact RcNeAt.str_str a t' b t
  |_=>cases fx
 |_=>cases fy
open SeqAt in
theorem tops{s:Shared}{A:Around}(hok:HOk P w H s.heap)(r:Rep K ι H x d)(q:Rep K ι H y e)(rx:RelV x u)(ry:RelV y v)(p1:pur 60 d=true)(p2:pur 60 e=true)(hu:A.units+64<cLine) :
  RcAt A s u v (eqD d e)/\RcNeAt A s u v (!eqD d e):=by
 rcases a0t r p1 with⟨xs,rfl⟩|⟨f1,f2⟩
 ·cases r with
  |@tup a vs _ ha rs =>
   cases rx
   obtain⟨_,its,r1,t1⟩:=(Rd.of ha).ok hok
   rcases a0t q p2 with⟨ys,rfl⟩|⟨g1,g2⟩
   ·cases q with
    |@tup b us _ hb qs =>
     cases ry
     obtain⟨_,its2,r2,t2⟩:=(Rd.of hb).ok hok;have l1:its.toArray.size=xs.length:=by rw[ax,<-r1.length,rs.len]
     have l2:its2.toArray.size=ys.length:=by rw[ax,<-r2.length,qs.len]
     have step:∀j (h1:j<its.toArray.size) (h2:j<its2.toArray.size),EqAt A.in1 s its.toArray[j] its2.toArray[j] (pairE xs ys j):=λj h1 h2=>by
      have j1:j<xs.length:=by omega
      have j2:j<ys.length:=by omega
      obtain⟨v1,e1,q1⟩:=rs.get (ae j1);obtain⟨v2,e2,q2⟩:=qs.get (ae j2);obtain⟨u1,e3,q3⟩:=r1.get e1;obtain⟨u2,e4,q4⟩:=r2.get e2;have f1:its.toArray[j]=u1:=by simpa using (af.mp e3).2
      have f2:its2.toArray[j]=u2:=by simpa using (af.mp e4).2
      have pe:pairE xs ys j=eqD xs[j] ys[j]:=by simp[pairE,ae j1,ae j2]
      rw[f1,f2,pe];simp only[pur,bN]at p1 p2;exact anq hok 59 A.in1 q1 q2 q3 q4 (p1 _ (aY j1)) (p2 _ (aY j2)) (by rw[gK];omega)
     have c1:=RcAt.tuples (A:=A) (s:=s) (e:=pairE xs ys) t1 t2 (by omega) step
     have c2:=RcNeAt.tuples (A:=A) (s:=s) (e:=pairE xs ys) t1 t2 (by omega) step
     rw[l1,l2,a3z]at c1 c2;exact⟨c1,c2⟩
   ·have e0:eqD (.tup xs) e=false:=by cases e<;>first|rfl|(cases g2;done)
    rw[e0]
    cases y with
    |non=>cases ry;exact⟨RcAt.tuple_none t1 (by omega),RcNeAt.tuple_none t1 (by omega)⟩
    |bl b=>cases ry;exact⟨RcAt.tuple_bool b t1 (by omega),RcNeAt.tuple_bool b t1 (by omega)⟩
    |int b=>obtain⟨t,rfl⟩:=ry;exact⟨RcAt.tuple_int b t t1 (by omega),RcNeAt.tuple_int b t t1 (by omega)⟩
    |str b=>obtain⟨t,rfl⟩:=ry;exact⟨RcAt.tuple_str b t t1 (by omega),RcNeAt.tuple_str b t t1 (by omega)⟩
    |_=>cases g1
 ·rcases a0t q p2 with⟨ys,rfl⟩|⟨g1,g2⟩
  ·cases q with
   |@tup b us _ hb qs =>
    cases ry
    obtain⟨_,its2,r2,t2⟩:=(Rd.of hb).ok hok;have e0:eqD d (.tup ys)=false:=by cases d<;>first|rfl|(cases f2;done)
    rw[e0]
    cases x with
    |non=>cases rx;exact⟨RcAt.none_tuple t2 (by omega),RcNeAt.none_tuple t2 (by omega)⟩
    |bl b=>cases rx;exact⟨RcAt.bool_tuple b t2 (by omega),RcNeAt.bool_tuple b t2 (by omega)⟩
    |int b=>obtain⟨t,rfl⟩:=rx;exact⟨RcAt.int_tuple b t t2 (by omega),RcNeAt.int_tuple b t t2 (by omega)⟩
    |str b=>obtain⟨t,rfl⟩:=rx;exact⟨RcAt.str_tuple b t t2 (by omega),RcNeAt.str_tuple b t t2 (by omega)⟩
    |_=>cases f1
  ·rw[<-a8z r q f2 g2];exact⟨aui rx ry f1 g1,aku rx ry f1 g1⟩
def azk(K:Fg):R2:=λx y H Q=>∃ι d e,Rep K ι H x d/\Rep K ι H y e/\pur 60 d=true/\pur 60 e=true/\Q (.bl (eqD d e)) H
def azl(K:Fg):R2:=λx y H Q=>∃ι d e,Rep K ι H x d/\Rep K ι H y e/\pur 60 d=true/\pur 60 e=true/\Q (.bl (!eqD d e)) H
theorem adt{X:Cx}(hu:X.A.units+64<cLine):OpR X (compareOp .Eq) (azk X.K):=by
 intro aA s σ H x y v u Q I rx ry h
 obtain⟨ι,d,e,r,q,p1,p2,hq⟩:=h;exact(tops (A:=X.A) I.hok r q rx ry p1 p2 hu).1 X.prog X.w X.xe _ ⟨.bl _,H,I,rfl,hq⟩
theorem a4a{X:Cx}(hu:X.A.units+64<cLine):OpR X (compareOp .NotEq) (azl X.K):=by
 intro aA s σ H x y v u Q I rx ry h
 obtain⟨ι,d,e,r,q,p1,p2,hq⟩:=h;exact(tops (A:=X.A) I.hok r q rx ry p1 p2 hu).2 X.prog X.w X.xe _ ⟨.bl _,H,I,rfl,hq⟩
def hEq(x y:D)(h:Hd):R D:=if pur 60 x=true/\pur 60 y=true then .ok (.bl (eqD x y)) h else .no
def hNe(x y:D)(h:Hd):R D:=if pur 60 x=true/\pur 60 y=true then .ok (.bl (!eqD x y)) h else .no
theorem a90:a1p K hEq (azk K):=by
 intro E ι H h x y dx dy Q rx ry hr o
 unfold hEq at o
 split at o
 ·rename_i hc;exact⟨ι,dx,dy,rx,ry,hc.1,hc.2,ans o (.bl _) hr⟩
 ·exact o.elim
theorem a1b:a1p K hNe (azl K):=by
 intro E ι H h x y dx dy Q rx ry hr o
 unfold hNe at o
 split at o
 ·rename_i hc;exact⟨ι,dx,dy,rx,ry,hc.1,hc.2,ans o (.bl _) hr⟩
 ·exact o.elim
end
section
variable{X:Cx}{E:XD}{K:Fg}
def aca:SE:=λ_ h=>.ok (.ref h.length) (h++[.dK []])
theorem a91:ME X E (.Dict [] [] pos) aca:=by
 refine PE.weak aki λσ H Q ⟨ι,τ,h,S,Rh,o⟩=>λp hp=>?_;exact o (ι++[p]) _ _ (ade hp _) (.ref (by rw[aL (by rw[Rh.len];exact aI _),Rh.len];simp)) (Rh.add hp ⟨[],qp,rfl,.nil⟩)
def a1x:D->D->Hd->R D
 |.int i,.int j,h=>.ok (.int (i+j)) h
 |.str x,.str y,h=>if x.length+y.length<=LINE then .ok (.str (x++y)) h else .no
 |_,_,_=>.no
theorem a2l:a1p K a1x (λx y H Q=>rI0 (λi j=>.int (i+j)) x y H Q\/∃i j,x=.str i/\y=.str j/\i.length+j.length<=sizeLine/\Q (.str (i++j)) H):=by
 intro E ι H h x y dx dy Q rx ry hr o
 cases rx with
 |int i =>
  cases ry with
  |int j=>exact .inl ⟨i,j,rfl,rfl,ans o (.int _) hr⟩
  |_=>exact o.elim
 |str i =>
  cases ry with
  |str j =>
   by_cases hc:i.length+j.length<=LINE
   ·simp only[a1x,aO hc]at o;exact .inr ⟨i,j,rfl,rfl,ll hc,ans o (.str _) hr⟩
   ·simp only[a1x,bE hc]at o;exact o.elim
  |_=>exact o.elim
 |_=>exact o.elim
theorem acb:bootBuiltins "bool" = some (.type "bool"):=by first|exact PySem.boot_bool|exact PyProof.Rows.boot_bool
theorem auj:bootBuiltins "sum" = some (.builtin "sum"):=by first|exact PySem.boot_sum|exact PyProof.Rows.boot_sum
theorem jx(h1:MG X E e g)(h2:MGs X E es ks)(hs:(assignEach (e::es) X.env).map (·.2)=assign e X.env::(assignEach es X.env).map (·.2):=by rfl):MGs X E (e::es) (o7 g ks) :=
 PGs.weak (a3o h1 h2 hs) λvs σ H Q q=>akn q
end
end MI
namespace ZP
open PySem.Builtin PySem.Builtin.SmallTypes
section
variable{prog:Program}{w:World}{A:Around}{E:Value->Shared->Prop}{s:Shared}
theorem aq2{α:Type}{Q:α->Shared->Prop}(hh:A.handled=none)(q:∀h' e,(∀b o,s.heap.get? b=some o->h'.get? b=some o)->(∃o,h'.get? e=some o/\o.cls=.type "StopIteration")->E (.ref e) {s with heap:=h' }) :
  wpAny (model prog w) A (stopIteration:Sem α) Q E s:=by
 have none_first:firstArgMember (.type "StopIteration") []=pure Value.none:=by first|rfl|(simp only[firstArgMember];rfl)
 rw[stopIteration]
 apply ar
 rw[newExc,newTuple]
 apply ar
 apply cI _ (by size_fits)
 rw[none_first,pure_bind]
 apply cI _ (by size_fits)
 apply wpAny_raiseNew_none hh
 exact q _ _ (λb o z=>ag _ (ag _ z)) ⟨_,aW _ rfl,rfl⟩
theorem akv(hi:s.heap.IsTupleIter it t i)(ht:s.heap.IsTuple t aC)(hx:aC[i]? = some x)
  (q:∀h',h'.IsTupleIter it t (i+1)->Heap.SameBut it s.heap h'->Q x {s with heap:=h' }):wpAny (model prog w) A (nextOf (.ref it)) Q E s:=by
 have ty:=hi.typeIs;obtain⟨o,e1,e2,e3⟩:=id hi;obtain⟨p,f1,f2,n,f3⟩:=ht;rw[nextOf]
 apply ar
 apply cA (name:=Str.ofString "__next__") ty d0
 apply da d0 ty fM _ (fJ _)
 change wpAny (model prog w) A.in1 (field (.ref it) 0>>=_) _ _ _
 apply ar;apply cL e1 e3 (x:=.ref t) rfl
 change wpAny (model prog w) A.in1 (field (.ref it) 1>>=_) _ _ _
 apply ar;apply cL e1 e3 (x:=.int i 0) rfl
 change wpAny (model prog w) A.in1 (seqItems? (.ref t)>>=_) _ _ _
 apply ar;apply eH f1 f3
 dsimp only;rw[dH,hx]
 apply ar
 obtain⟨c,dd,dt,sl⟩:=o;simp only at e2 e3;subst e2 e3
 apply wpAny_setField e1 rfl (Nat.lt_succ_self 1)
 apply aS
 exact⟨x,rfl,aS (q _ ⟨_,Heap.get?_update_self _ e1 rfl,rfl,rfl⟩ (Heap.SameBut.update ..))⟩
theorem aq3{it t:Addr}{i:Nat}{aC:Array Value}{Q:Value->Shared->Prop}(hh:A.handled=none)(hi:s.heap.IsTupleIter it t i)(ht:s.heap.IsTuple t aC)(hx:aC[i]? = none)
  (q:∀h' e,Heap.ExtBut it s.heap h'->(∃o,h'.get? e=some o/\o.cls=.type "StopIteration")->E (.ref e) {s with heap:=h' }):wpAny (model prog w) A (nextOf (.ref it)) Q E s:=by
 have ty:=hi.typeIs;obtain⟨o,e1,e2,e3⟩:=id hi;obtain⟨p,f1,f2,n,f3⟩:=ht;rw[nextOf]
 apply ar
 apply cA (name:=Str.ofString "__next__") ty d0
 apply da d0 ty fM _ (fJ _)
 change wpAny (model prog w) A.in1 (field (.ref it) 0>>=_) _ _ _
 apply ar;apply cL e1 e3 (x:=.ref t) rfl
 change wpAny (model prog w) A.in1 (field (.ref it) 1>>=_) _ _ _
 apply ar;apply cL e1 e3 (x:=.int i 0) rfl
 change wpAny (model prog w) A.in1 (seqItems? (.ref t)>>=_) _ _ _
 apply ar;apply eH f1 f3
 dsimp only;rw[dH,hx];dsimp only;obtain⟨c,dd,dt,sl⟩:=o;simp only at e2 e3;subst e2 e3
 apply ar;apply wpAny_rule
 apply ar;apply wpAny_setField e1 rfl (fk 1)
 apply aq2 (show A.in1.handled=none from hh)
 exact λh' e k z=>q h' e (λb o nb eb=>k b o ((Heap.SameBut.update ..).extBut b o nb eb)) z
theorem ahb{A:Around}(hh:A.handled=none)(it t:Addr)(ne:t≠it)(aC:Array Value):Draws prog w A it [it,t] aC.size (λi v=>aC[i]? = some v) (λi h=>h.IsTupleIter it t i/\h.IsTuple t aC) where
 live:=λ_ _ st=>let ⟨o,e,_⟩:=st.1; ⟨o,e⟩
 frame:=λ_ _ _ st k=>⟨let ⟨o,e,r⟩:=st.1; ⟨o,k it (by simp) o e,r⟩,let ⟨o,e,r⟩:=st.2; ⟨o,k t (by simp) o e,r⟩⟩
 item:=λi s Q E hi st q=>akv st.1 st.2 (dD hi) λh' a b=>q _ h' s.toks (dD hi) ⟨a,st.2.extBut b.extBut ne⟩ b
 done:=λs Q E st q=>aq3 hh st.1 st.2 (by simp) q
end
structure Ap (z TI TO i1 i2:Addr) (p q:List Addr):Prop where
 m1:i1∈p
 m2:i2∈q
 z1:z∉p
 z2:z∉q
 o1:TO∉p
 o2:TO∉q
 oz:TO≠z
 x1:i1∉q
 x2:i2∉p
section
variable{prog:Program}{w:World}{A:Around}{E:Value->Shared->Prop}{s:Shared}{z TI TO i1 i2:Addr}{p q:List Addr}{n1 n2 k:Nat}{P1 P2:Nat->Value->Prop}{S1 S2:Nat->Heap->Prop}{a b:Value}
theorem far{D:Draws prog w A i1 p n1 P1 S1}(sb:Heap.SameBut c h h')(nc:c∉p)(st:S1 k h):S1 k h':=D.frame _ _ _ st λx hx o e=>sb.extBut x o (λy=>nc (y ▸ hx)) e
theorem ahc(hz:IsZip s.heap z TI TO .none)(hi:IsPair s.heap TI (.ref i1) (.ref i2))(ho:IsPair s.heap TO a b)(oz:TO≠z)
  (go:∀h1,IsZip h1 z TI TO .ellipsis->Heap.SameBut z s.heap h1->wpAny (model prog w) A (nextOf (.ref i1))
   (λx s2=>IsPair s2.heap TO a b/\∀h3,IsPair h3 TO x b->Heap.SameBut TO s2.heap h3->wpAny (model prog w) A (nextOf (.ref i2))
    (λy s4=>IsPair s4.heap TO x b/\∀h5,IsPair h5 TO x y->Heap.SameBut TO s4.heap h5->IsZip h5 z TI TO .ellipsis/\∀h8,IsZip h8 z TI TO (rawInt h5.objs.size)->IsPair h8 h5.objs.size x y->h8.objs.size=h5.objs.size+1->
     (∀c o,c≠z->h5.get? c=some o->h8.get? c=some o)->Q (.done (.ret (.ref h5.objs.size))) {s4 with heap:=h8})
    (λe s4=>wpAny (model prog w) A (setField (.ref z) 0 .none) (λ_ s5=>E e s5) E s4) {s2 with heap:=h3})
   (λe s2=>wpAny (model prog w) A (setField (.ref z) 0 .none) (λ_ s3=>E e s3) E s2) {s with heap:=h1}) :
  wpAny (model prog w) A (Builtin.«zip.__next__» ⟨[.ref z],[]⟩) Q E s:=by
 change wpAny (model prog w) A (field (.ref z) 2>>=_) _ _ _
 apply ar;apply cL hz rfl (x:=.bool false) rfl
 change wpAny (model prog w) A (field (.ref z) 3>>=_) _ _ _
 apply ar;apply cL hz rfl (x:=.ref TI) rfl
 apply ar;apply eH hi rfl
 change wpAny (model prog w) A (ownedTupleIsFree (.ref z)>>=_) _ _ _
 apply ar
 rw[ownedTupleIsFree]
 apply ar;apply cL hz rfl (x:=.none) rfl
 apply aS
 rw[aO rfl]
 apply ar;apply wpAny_rule
 apply ar;apply cL hz rfl (x:=.ref TO) rfl
 apply ar;apply dX hz (fk _)
 intro h1 z1 b1
 apply ar
 simp only[List.zipIdx_cons,List.zipIdx_nil,List.forIn_cons,List.forIn_nil]
 apply ar;apply ar;apply wpAny_onRaise
 change wpAny (model prog w) A (nextOf (.ref i1)>>=_) _ _ _
 apply ar
 apply cH (go h1 z1 b1) _ λ_ _ r=>r
 rintro x s2 ⟨o2,g2⟩
 apply aS
 apply ar;apply eH o2 rfl
 apply ar;apply wpAny_updateSeq_pair o2
 intro h3 o3 b3
 apply ar;apply wpAny_letGo;apply aS
 apply ar;apply ar;apply wpAny_onRaise
 change wpAny (model prog w) A (nextOf (.ref i2)>>=_) _ _ _
 apply ar
 apply cH (g2 h3 o3 b3) _ λ_ _ r=>r
 rintro y s4 ⟨o4,g4⟩
 apply aS
 apply ar;apply eH o4 rfl
 apply ar;apply wpAny_updateSeq_pair o4
 intro h5 o5 b5
 obtain⟨z5,g5⟩:=g4 h5 o5 b5
 apply ar;apply wpAny_letGo;apply aS;apply aS
 apply ar;apply eH o5 rfl
 apply ar;refine wpAny_newTuple ?_ (by show 2<=sizeLine;decide)
 change wpAny (model prog w) A (ownedTupleHandOut (.ref z) (.ref h5.objs.size)>>=_) _ _ _
 apply ar
 rw[ownedTupleHandOut];have z6:IsZip (h5.push {cls:=.type "tuple",data:=.seq #[x,y]}) z TI TO .ellipsis:=ag _ z5;have lt:z<h5.objs.size:=aV z5
 apply ar;apply dX z6 (fk _)
 intro h7 z7 b7
 apply dX z7 (by show 1<5;decide)
 intro h8 z8 b8
 apply aS
 refine g5 h8 z8 (b8.extBut _ _ (Nat.ne_of_gt lt) (b7.extBut _ _ (Nat.ne_of_gt lt) (aW _ rfl))) ?_ λc o nc e=>b8.extBut _ _ nc (b7.extBut _ _ nc (ag _ e));rw[b8.1,b7.1,cN]
theorem akx{Q:Value->Shared->Prop}(D1:Draws prog w A i1 p n1 P1 S1)(D2:Draws prog w A i2 q n2 P2 S2)(ap:Ap z TI TO i1 i2 p q)(hz:IsZip s.heap z TI TO .none)(hi:IsPair s.heap TI (.ref i1) (.ref i2))(ho:IsPair s.heap TO a b)
  (s1:S1 k s.heap) (s2:S2 k s.heap) (k1:k<n1) (k2:k<n2)
  (hQ:∀x y h' tk,P1 k x->P2 k y->IsZip h' z TI TO (rawInt s.heap.objs.size)->IsPair h' TO x y->S1 (k+1) h'->S2 (k+1) h'->IsPair h' s.heap.objs.size x y->h'.objs.size=s.heap.objs.size+1->
   (∀c o,c≠z->c≠TO->c≠i1->c≠i2->s.heap.get? c=some o->h'.get? c=some o)->Q (.ref s.heap.objs.size) {s with heap:=h',toks:=tk}) :
  wpAny (model prog w) A (Builtin.«zip.__next__» ⟨[.ref z],[]⟩) (λfin s'=>∃v,fin=.done (.ret v)/\Q v s') E s:=by
 have ni1:i1≠z:=λe=>ap.z1 (e ▸ ap.m1);have ni2:i2≠z:=λe=>ap.z2 (e ▸ ap.m2);have no1:TO≠i1:=λe=>ap.o1 (e ▸ ap.m1);have no2:TO≠i2:=λe=>ap.o2 (e ▸ ap.m2);refine ahc hz hi ho ap.oz λh1 z1 b1=>?_;refine D1.item k _ _ _ k1 (far (D:=D1) b1 ap.z1 s1) λx h2 t2 px st2 b2=>?_;refine⟨b2.extBut _ _ no1 (b1.extBut _ _ ap.oz ho),λh3 o3 b3=>?_⟩;refine D2.item k _ _ _ k2 (far (D:=D2) b3 ap.o2 (far (D:=D2) b2 ap.x1 (far (D:=D2) b1 ap.z2 s2))) λy h4 t4 py st4 b4=>?_;refine⟨b4.extBut _ _ no2 o3,λh5 o5 b5=>⟨b5.extBut _ _ ap.oz.symm (b4.extBut _ _ ni2.symm (b3.extBut _ _ ap.oz.symm (b2.extBut _ _ ni1.symm z1))),λh8 z8 t8 l8 k8=>⟨_,rfl,?_⟩⟩⟩
 have sz:h5.objs.size=s.heap.objs.size:=by rw[b5.1,b4.1,b3.1,b2.1,b1.1]
 have g1:S1 (k+1) h8:=D1.frame _ _ _ (far (D:=D1) b5 ap.o1 (far (D:=D1) b4 ap.x2 (far (D:=D1) b3 ap.o1 st2))) λc hc o e=>k8 c o (λy=>ap.z1 (y ▸ hc)) e;have g2:S2 (k+1) h8:=D2.frame _ _ _ (far (D:=D2) b5 ap.o2 st4) λc hc o e=>k8 c o (λy=>ap.z2 (y ▸ hc)) e;rw[sz]at z8 t8 l8 ⊢;exact hQ x y h8 t4 px py z8 (k8 _ _ ap.oz o5) g1 g2 t8 l8 λc o c1 c2 c3 c4 e=>k8 c o c1 (b5.extBut _ _ c2 (b4.extBut _ _ c4 (b3.extBut _ _ c2 (b2.extBut _ _ c3 (b1.extBut _ _ c1 e)))))
theorem aq4(D1:Draws prog w A i1 p n1 P1 S1)(D2:Draws prog w A i2 q n2 P2 S2)(ap:Ap z TI TO i1 i2 p q)(hz:IsZip s.heap z TI TO .none)(hi:IsPair s.heap TI (.ref i1) (.ref i2))(ho:IsPair s.heap TO a b)
  (s1:S1 k s.heap) (s2:S2 k s.heap) (kk:k=n1\/(k<n1/\k=n2))
  (hE:∀h' tk e,(∀c o,c≠z->c≠TO->c≠i1->c≠i2->s.heap.get? c=some o->h'.get? c=some o)->(∃o,h'.get? e=some o/\o.cls=.type "StopIteration")->E (.ref e) {s with heap:=h',toks:=tk}) :
  wpAny (model prog w) A (Builtin.«zip.__next__» ⟨[.ref z],[]⟩) Q E s:=by
 have ni1:i1≠z:=λe=>ap.z1 (e ▸ ap.m1);have ni2:i2≠z:=λe=>ap.z2 (e ▸ ap.m2);have no1:TO≠i1:=λe=>ap.o1 (e ▸ ap.m1);have stop:∀{h:Heap} {e:Addr},(∃o,h.get? e=some o/\o.cls=.type "StopIteration")->IsZip h z TI TO .ellipsis->e≠z:=λ{h e} ⟨o,eo,ec⟩ zz y=>by
  subst y;rw[zz]at eo;cases eo;simp at ec
 refine ahc hz hi ho ap.oz λh1 z1 b1=>?_
 rcases kk with rfl|⟨k1,rfl⟩
 ·refine D1.done _ _ _ (far (D:=D1) b1 ap.z1 s1) λh2 e x2 st=>?_;have z2:IsZip h2 z TI TO .ellipsis:=x2 _ _ ni1.symm z1;have ne:=stop st z2;obtain⟨oe,f1,f2⟩:=st;refine dX z2 (fk _) λh3 _ b3=>?_;exact hE h3 _ e (λc o c1 _ c3 _ y=>b3.extBut _ _ c1 (x2 _ _ c3 (b1.extBut _ _ c1 y))) ⟨oe,b3.extBut _ _ ne f1,f2⟩
 ·refine D1.item k _ _ _ k1 (far (D:=D1) b1 ap.z1 s1) λx h2 t2 px st2 b2=>?_;refine⟨b2.extBut _ _ no1 (b1.extBut _ _ ap.oz ho),λh3 o3 b3=>?_⟩;refine D2.done _ _ _ (far (D:=D2) b3 ap.o2 (far (D:=D2) b2 ap.x1 (far (D:=D2) b1 ap.z2 s2))) λh4 e x4 st=>?_;have z4:IsZip h4 z TI TO .ellipsis:=x4 _ _ ni2.symm (b3.extBut _ _ ap.oz.symm (b2.extBut _ _ ni1.symm z1));have ne:=stop st z4;obtain⟨oe,f1,f2⟩:=st;refine dX z4 (fk _) λh5 _ b5=>?_;exact hE h5 _ e (λc o c1 c2 c3 c4 y=>b5.extBut _ _ c1 (x4 _ _ c4 (b3.extBut _ _ c2 (b2.extBut _ _ c3 (b1.extBut _ _ c1 y))))) ⟨oe,b5.extBut _ _ ne f1,f2⟩
theorem next_item{Q:Option Value->Shared->Prop}(D1:Draws prog w A.in1 i1 p n1 P1 S1)(D2:Draws prog w A.in1 i2 q n2 P2 S2)(ap:Ap z TI TO i1 i2 p q)(hz:IsZip s.heap z TI TO .none)(hi:IsPair s.heap TI (.ref i1) (.ref i2))(ho:IsPair s.heap TO a b)
  (s1:S1 k s.heap) (s2:S2 k s.heap) (k1:k<n1) (k2:k<n2)
  (hQ:∀x y h' tk,P1 k x->P2 k y->IsZip h' z TI TO (rawInt s.heap.objs.size)->IsPair h' TO x y->S1 (k+1) h'->S2 (k+1) h'->IsPair h' s.heap.objs.size x y->h'.objs.size=s.heap.objs.size+1->
   (∀c o,c≠z->c≠TO->c≠i1->c≠i2->s.heap.get? c=some o->h'.get? c=some o)->Q (some (.ref s.heap.objs.size)) {s with heap:=h',toks:=tk}):wpAny (model prog w) A (pyNext (.ref z)) Q E s:=by
 have ty:s.TypeIs (.ref z) "zip":=⟨_,hz,rfl⟩;rw[pyNext]
 apply ar;apply gH
 apply cA (name:=Str.ofString "__next__") ty fN
 apply da fN ty F.entry_zip_next _ (F.args_zip_next_1 _)
 exact akx D1 D2 ap hz hi ho s1 s2 k1 k2 λx y h' tk c1 c2 c3 c4 c5 c6 c7 c8 c9=>aS (hQ x y h' tk c1 c2 c3 c4 c5 c6 c7 c8 c9)
theorem next_end(D1:Draws prog w A.in1 i1 p n1 P1 S1)(D2:Draws prog w A.in1 i2 q n2 P2 S2)(ap:Ap z TI TO i1 i2 p q)(hz:IsZip s.heap z TI TO .none)(hi:IsPair s.heap TI (.ref i1) (.ref i2))(ho:IsPair s.heap TO a b)
  (s1:S1 k s.heap) (s2:S2 k s.heap) (kk:k=n1\/(k<n1/\k=n2))
  (hQ:∀h' tk,(∀c o,c≠z->c≠TO->c≠i1->c≠i2->s.heap.get? c=some o->h'.get? c=some o)->Q none {s with heap:=h',toks:=tk}):wpAny (model prog w) A (pyNext (.ref z)) Q E s:=by
 have ty:s.TypeIs (.ref z) "zip":=⟨_,hz,rfl⟩;rw[pyNext]
 apply ar;apply gH
 apply cA (name:=Str.ofString "__next__") ty fN
 apply da fN ty F.entry_zip_next _ (F.args_zip_next_1 _)
 refine aq4 D1 D2 ap hz hi ho s1 s2 kk ?_
 rintro h' tk e kp ⟨o,f1,f2⟩
 refine ar (wpAny_isInstance (b:=true) (T := "StopIteration") ⟨o,f1,f2⟩ isSubtype_stop (aS (hQ h' tk kp)))
end
end ZP
namespace ZP
open PySem.Builtin PySem.Builtin.SmallTypes L2
inductive Srk where
 |tup (a:Addr)|lst (a:Addr)|str (x:Str)
def Srk.v:Srk->V
 |.tup a=>.ref a
 |.lst a=>.ref a
 |.str x=>.str x
def its(H:Hp):Srk->Option (List V)
 |.tup a=>match H a with|some (.tup vs)=>some vs|_=>none
 |.lst a=>match H a with|some (.lst vs)=>some vs|some (.frz _ (.lst vs))=>some vs|_=>none
 |.str x=>some (a1n x)
def own(it:Addr)(t:Tok):Srk->Nat->Heap->Prop
 |.tup a,i,h=>h.IsTupleIter it a i
 |.lst a,i,h=>h.IsListIter it a i
 |.str x,i,h=>h.IsStrIter it (strIterType x) x t i
def iob(t:Tok):Srk->Obj
 |.tup a=>{cls:=.type "tuple_iterator",data:=.fields #[.ref a,.int 0 0]}
 |.lst a=>{cls:=.type "list_iterator",data:=.fields #[.ref a,.int 0 0]}
 |.str x=>{cls:=.type (strIterType x),data:=.fields #[.str x t,.int 0 0]}
def val(t:Tok):Srk->Value
 |.tup a=>.ref a
 |.lst a=>.ref a
 |.str x=>.str x t
def cont(h:Heap):Srk->List Value->Prop
 |.tup a,us=>h.IsTuple a us.toArray
 |.lst a,us=>h.IsList a us.toArray
 |.str x,us=>True
theorem aym{h:Heap}(e:h.get? it=some (iob t k)):own it t k 0 h:=by
 cases k with
 |tup a=>exact⟨_,e,rfl,rfl⟩
 |lst a=>exact⟨_,e,rfl,rfl⟩
 |str x=>exact⟨_,e,rfl,rfl⟩
theorem a4y(o:own it t k i h):∃ob,h.get? it=some ob/\∀v,ob.data≠.cell v:=by
 cases k with
 |tup a=>obtain⟨ob,e,_,d⟩:=o;exact⟨ob,e,λv z=>by rw[d]at z;cases z⟩
 |lst a=>obtain⟨ob,e,_,d⟩:=o;exact⟨ob,e,λv z=>by rw[d]at z;cases z⟩
 |str x=>obtain⟨ob,e,_,d⟩:=o;exact⟨ob,e,λv z=>by rw[d]at z;cases z⟩
theorem a2m{h':Heap}(o:own it t k i h)(kk:∀ob,h.get? it=some ob->h'.get? it=some ob):own it t k i h':=by
 cases k with
 |tup a=>obtain⟨ob,e,r⟩:=o;exact⟨ob,kk _ e,r⟩
 |lst a=>obtain⟨ob,e,r⟩:=o;exact⟨ob,kk _ e,r⟩
 |str x=>obtain⟨ob,e,r⟩:=o;exact⟨ob,kk _ e,r⟩
section
variable{P:Program}{w:World}{H:Hp}{s:Shared}
theorem a71(I:Inv X aA σ H s)(e:its H k=some xs):∃us,cont s.heap k us/\((∀x,k≠.str x)->Vals xs us):=by
 cases k with
 |tup a =>
  cases q:H a with
  |none=>simp[its,q]at e
  |some o =>
   cases o with
   |tup vs =>
    simp[its,q]at e;subst e
    obtain⟨us,r,t,_⟩:=I.tuple (SqT.of q);exact⟨us,t,λ_=>r⟩
   |_=>simp[its,q]at e
 |lst a =>
  cases q:H a with
  |none=>simp[its,q]at e
  |some o =>
   cases o with
   |lst vs =>
    simp[its,q]at e;subst e
    obtain⟨us,r,t,_⟩:=I.list (SqL.of q);exact⟨us,t.isList,λ_=>r⟩
   |frz ob u =>
    cases u with
    |lst vs =>
     simp[its,q]at e;subst e
     obtain⟨us,r,t,_⟩:=I.list (.inl (.inr ⟨_,q⟩));exact⟨us,t.isList,λ_=>r⟩
    |_=>simp[its,q]at e
   |_=>simp[its,q]at e
 |str x=>exact⟨[],True.intro,λn=>absurd rfl (n x)⟩
theorem a4z(I:Inv X aA σ H s)(e:its H k=some xs)(hn:H it=none) :
  ∃(cs:List Addr) (P1:Nat->Value->Prop) (S1:Nat->Heap->Prop),(∀A:Around,A.handled=none->Draws X.prog X.w A it (it::cs) xs.length P1 S1)/\(∀i,own it t k i s.heap->S1 i s.heap)/\(∀i h,S1 i h->own it t k i h)/\(∀c∈cs,H c≠none) /\
   ∀i v,P1 i v->∃x,xs[i]? = some x/\RelV x v:=by
 cases k with
 |tup a =>
  obtain⟨us,c,r⟩:=a71 I e;have r:=r (by intro x z;cases z)
  have ha:H a≠none:=λz=>by simp[its,z]at e
  have l:us.toArray.size=xs.length:=by rw[ax,r.length]
  refine⟨[a],λi v=>us.toArray[i]? = some v,λi h=>h.IsTupleIter it a i/\h.IsTuple a us.toArray,λA hA=>?_,λi o=>⟨o,c⟩,λi h z=>z.1,λc hc=>by rw[aw.mp hc];exact ha,λi v z=>?_⟩
  ·have:=ahb (prog:=X.prog) (w:=X.w) hA it a (λy=>ha (y ▸ hn)) us.toArray
   rw[l]at this;exact this
  ·have z':us[i]? = some v:=by simpa using z
   have hi:i<xs.length:=by rw[r.length];exact(af.mp z').1
   obtain⟨u,e1,e2⟩:=r.get (ae hi);rw[z']at e1;cases e1
   exact⟨_,ae hi,e2⟩
 |lst a =>
  obtain⟨us,c,r⟩:=a71 I e;have r:=r (by intro x z;cases z)
  have ha:H a≠none:=λz=>by simp[its,z]at e
  have l:us.toArray.size=xs.length:=by rw[ax,r.length]
  refine⟨[a],λi v=>us.toArray[i]? = some v,λi h=>h.IsListIter it a i/\h.IsList a us.toArray,λA hA=>?_,λi o=>⟨o,c⟩,λi h z=>z.1,λc hc=>by rw[aw.mp hc];exact ha,λi v z=>?_⟩
  ·have:=Draws.list (prog:=X.prog) (w:=X.w) hA it a (λy=>ha (y ▸ hn)) us.toArray
   rw[l]at this;exact this
  ·have z':us[i]? = some v:=by simpa using z
   have hi:i<xs.length:=by rw[r.length];exact(af.mp z').1
   obtain⟨u,e1,e2⟩:=r.get (ae hi);rw[z']at e1;cases e1
   exact⟨_,ae hi,e2⟩
 |str x =>
  cases e
  have l:(a1n x).length=x.cps.size:=by simp[a1n]
  refine⟨[],λi v=>∃c u,x.cps[i]? = some c/\v=.str ⟨#[c]⟩ u,λi h=>h.IsStrIter it (strIterType x) x t i,λA hA=>?_,λi o=>o,λi h z=>z,λc hc=>(by cases hc),λi v z=>?_⟩
  ·rw[l]
   cases ha:x.cps.all (· < 128)
   ·have:=Draws.strWide (prog:=X.prog) (w:=X.w) hA it x t
    simpa[strIterType,ha] using this
   ·have:=Draws.strAscii (prog:=X.prog) (w:=X.w) hA it x t
    simpa[strIterType,ha] using this
  ·obtain⟨c,u,e1,rfl⟩:=z;exact⟨.str ⟨#[c]⟩,by simp[a1n,e1],⟨_,rfl⟩⟩
end
def ItZ(k1 k2:Srk):It where
 go:=λi H=>∃xs ys x y,its H k1=some xs/\its H k2=some ys/\xs[i]? = some x/\ys[i]? = some y
 yld:=λi H v H'=>∃xs ys x y p,its H k1=some xs/\its H k2=some ys/\xs[i]? = some x/\ys[i]? = some y/\H p=none/\v=.ref p/\H'=upd H p (.tup [x,y])
 stop:=λi H=>∃xs ys,its H k1=some xs/\its H k2=some ys/\(i=xs.length\/(i<xs.length/\i=ys.length))
def tnZ(z TI TO i1 i2:Addr)(t1 t2:Tok)(k1 k2:Srk)(i:Nat)(h:Heap):Prop :=
 IsZip h z TI TO .none/\IsPair h TI (.ref i1) (.ref i2)/\(∃a b,IsPair h TO a b)/\own i1 t1 k1 i h/\own i2 t2 k2 i h
structure Far (z TI TO i1 i2:Addr):Prop where
 a:TI≠z
 b:TO≠z
 c:i1≠z
 d:i2≠z
 e:TI≠TO
 f:TI≠i1
 g:TI≠i2
 h:TO≠i1
 i:TO≠i2
 j:i1≠i2
theorem a92{X:Cx}{aA:List (Addr×Obj)}{σ:St}{H:Hp}{s:Shared}{h':Heap}{t':Nat}{ch:List Addr}(I:Inv X aA σ H s)(hf:∀b∈ch,aa3 X aA H b)(k:∀b o,b∉ch->s.heap.get? b=some o->h'.get? b=some o) :
  Inv X aA σ H {s with heap:=h',toks:=t' }:=by
 have nit:∀b u,H b=some u->b∉ch:=λb u e z=>by rw[(hf b z).1]at e;cases e
 refine I.step (g':=s.gens) (d':=s.drawn) (ch:=ch) (λb hb=>?_) (λb o _ _ hc e _=>k b o hc e) (λb o _ _ hc e _=>⟨o.slots,k b o hc e⟩) (λ_ _ _ _ n=>n) (λb o hc e=>⟨o,k b o hc e⟩) (λ_ _ e=>e) (λ_ _ _ e=>e)
  (λb ps e=>⟨#[],by rw[e];simp⟩) (λm hm=>?_) (λb u e=>?_) I.bare
 ·obtain⟨_,f1,_,f3,f4,f5⟩:=hf b hb;exact⟨f3,f1,f4,f5⟩
 ·obtain⟨o,es,ep,ho,r⟩:=hm;exact⟨o,es,ep,k _ o (λz=>(hf _ z).2.1 rfl) ho,r⟩
 ·refine(I.hok b u e).stay (λc v hc q=>k c v ?_ q) (λ_ q=>q) λ_ _ q=>q
  rcases hc with z|z
  ·rw[z];exact nit b u e
  ·exact nit c _ z
theorem aky{P:Program}{w:World}{K:Fg}{elts:List Expr}{x1:Nat}{pos:Pos}{z TI TO i1 i2:Addr}{t1 t2:Tok}{k1 k2:Srk}(f:Far z TI TO i1 i2):Turn P w K (.Tuple elts x1 pos) (ItZ k1 k2) [z,TI,TO,i1,i2] z (tnZ z TI TO i1 i2 t1 t2 k1 k2) where
 mem:=by simp
 obj:=λi h st b hb=>by
  obtain⟨h1,h2,⟨a,b',h3⟩,h4,h5⟩:=st;simp only[aR,bg,cE]at hb
  rcases hb with rfl|rfl|rfl|rfl|rfl
  ·exact⟨_,h1,λv z=>(by cases z)⟩
  ·exact⟨_,h2,λv z=>(by cases z)⟩
  ·exact⟨_,h3,λv z=>(by cases z)⟩
  ·exact a4y h4
  ·exact a4y h5
 keep:=λi h h' st k=>by
  obtain⟨h1,h2,⟨a,b',h3⟩,h4,h5⟩:=st;exact⟨k z (by simp) _ h1,k TI (by simp) _ h2,⟨a,b',k TO (by simp) _ h3⟩,a2m h4 λob e=>k i1 (by simp) ob e,a2m h5 λob e=>k i2 (by simp) ob e⟩
 item:=by
  intro X hP hw hK hc i aA s σ H E I hf st hg
  subst hP hw hK;obtain⟨xs,ys,x,y,e1,e2,g1,g2⟩:=hg;obtain⟨h1,h2,⟨a,b,h3⟩,h4,h5⟩:=st;have n:∀c∈[z,TI,TO,i1,i2],H c=none:=λc hc=>(hf c hc).1;obtain⟨cs,P1,S1,D1,a1,b1,c1,d1⟩:=a4z I (t:=t1) e1 (n i1 (by simp))
  obtain⟨ds,P2,S2,D2,a2,b2,c2,d2⟩:=a4z I (t:=t2) e2 (n i2 (by simp))
  have hd:=I.ok.hd hc;have out1:∀c,H c=none->c∉cs:=λc e z=>c1 c z e;have out2:∀c,H c=none->c∉ds:=λc e z=>c2 c z e;have ap:Ap z TI TO i1 i2 (i1::cs) (i2::ds):=⟨by simp,by simp,by simp[f.c.symm,out1 z (n z (by simp))],by simp[f.d.symm,out2 z (n z (by simp))],by simp[f.h,out1 TO (n TO (by simp))],by simp[f.i,out2 TO (n TO (by simp))],f.b,by simp[f.j,out2 i1 (n i1 (by simp))],by simp[f.j.symm,out1 i2 (n i2 (by simp))]⟩
  refine next_item (D1 X.A.in1 hd) (D2 X.A.in1 hd) ap h1 h2 h3 (a1 i h4) (a2 i h5) (af.mp g1).1 (af.mp g2).1 λu v h' tk pu pv z' to' s1' s2' pr sz kp=>?_;obtain⟨x',q1,r1⟩:=d1 i u pu;obtain⟨y',q2,r2⟩:=d2 i v pv;rw[g1]at q1;cases q1
  rw[g2]at q2;cases q2
  refine⟨_,rfl,wpAny_letOwnedTupleGo_zip z' λh2' z2' sb=>?_⟩;have hp:H s.heap.objs.size=none:=I.hok.fresh (aI _);have lt:∀c∈[z,TI,TO,i1,i2],c<s.heap.objs.size:=λc hc=>by
   simp only[aR,bg,cE]at hc
   rcases hc with rfl|rfl|rfl|rfl|rfl
   ·exact aV h1
   ·exact aV h2
   ·exact aV h3
   ·obtain⟨_,e,_⟩:=a4y h4;exact aV e
   ·obtain⟨_,e,_⟩:=a4y h5;exact aV e
  have all:∀c o,c∉[z,TI,TO,i1,i2]->s.heap.get? c=some o->h2'.get? c=some o:=λc o nc e=>by
   simp only[aR,bg,cE,not_or]at nc;exact(sb.2 c nc.1).trans (kp c o nc.1 nc.2.2.1 nc.2.2.2.1 nc.2.2.2.2 e)
  have nT:∀c∈[z,TI,TO,i1,i2],c≠s.heap.objs.size:=λc hc=>bR (lt c hc);have I0:Inv X aA σ (upd H s.heap.objs.size (.tup [x,y])) {s with heap:=s.heap.push {cls:=.type "tuple",data:=.seq #[u,v]} } :=
   I.laid (t':=s.toks) (o:=.tup [x,y]) (λb o e=>ag _ e) (aI _) ⟨by show 2<=sizeLine;decide,[u,v],.cons r1 (.cons r2 .nil),⟨_,aW _ rfl,rfl,_,rfl⟩⟩
  have I1:Inv X aA σ (upd H s.heap.objs.size (.tup [x,y])) {s with heap:=h2',toks:=tk}:=by
   refine a92 (s:={s with heap:=s.heap.push {cls:=.type "tuple",data:=.seq #[u,v]} }) (ch:=[z,TI,TO,i1,i2]) I0 (λb hb=>?_) λc o nc e=>?_
   ·obtain⟨f0,f1⟩:=hf b hb;exact⟨by rw[jg (nT b hb)];exact f0,f1⟩
   ·rcases Heap.get?_push_cases e with⟨rfl,rfl⟩|e
    ·exact(sb.2 _ (nT z (by simp)).symm).trans pr
    ·exact all c o nc e
  refine⟨.ref s.heap.objs.size,_,I1,rfl,⟨xs,ys,x,y,_,e1,e2,g1,g2,hp,rfl,rfl⟩,⟨z2',?_,⟨u,v,(sb.2 _ f.b).trans to'⟩,a2m (b1 _ _ s1') λob e=>(sb.2 _ f.c).trans e,a2m (b2 _ _ s2') λob e=>(sb.2 _ f.d).trans e⟩,λb hb=>?_⟩
  ·exact(sb.2 _ f.a).trans (kp TI _ f.a f.e f.f f.g h2)
  ·rw[jg (nT b hb)];exact n b hb
 done:=by
  intro X hP hw hK hc i aA s σ H E I hf st hg
  subst hP hw hK;obtain⟨xs,ys,e1,e2,g⟩:=hg;obtain⟨h1,h2,⟨a,b,h3⟩,h4,h5⟩:=st;have n:∀c∈[z,TI,TO,i1,i2],H c=none:=λc hc=>(hf c hc).1;obtain⟨cs,P1,S1,D1,a1,b1,c1,d1⟩:=a4z I (t:=t1) e1 (n i1 (by simp))
  obtain⟨ds,P2,S2,D2,a2,b2,c2,d2⟩:=a4z I (t:=t2) e2 (n i2 (by simp))
  have hd:=I.ok.hd hc;have out1:∀c,H c=none->c∉cs:=λc e z=>c1 c z e;have out2:∀c,H c=none->c∉ds:=λc e z=>c2 c z e;have ap:Ap z TI TO i1 i2 (i1::cs) (i2::ds):=⟨by simp,by simp,by simp[f.c.symm,out1 z (n z (by simp))],by simp[f.d.symm,out2 z (n z (by simp))],by simp[f.h,out1 TO (n TO (by simp))],by simp[f.i,out2 TO (n TO (by simp))],f.b,by simp[f.j,out2 i1 (n i1 (by simp))],by simp[f.j.symm,out1 i2 (n i2 (by simp))]⟩
  refine next_end (D1 X.A.in1 hd) (D2 X.A.in1 hd) ap h1 h2 h3 (a1 i h4) (a2 i h5) g λh' tk kp=>⟨rfl,a92 I hf λc o nc e=>?_⟩;simp only[aR,bg,cE,not_or]at nc;exact kp c o nc.1 nc.2.2.1 nc.2.2.2.1 nc.2.2.2.2 e
 self:=λ_ _ _ _ _ st h=>wpAny_pyIter_zip st.1 h
theorem ahd(c:cont h k us)(o:Obj):cont (h.push o) k us:=by
 cases k with
 |tup a=>obtain⟨ob,e,r⟩:=c;exact⟨ob,ag _ e,r⟩
 |lst a=>obtain⟨ob,e,r⟩:=c;exact⟨ob,ag _ e,r⟩
 |str x=>trivial
theorem a4b{s:Shared}(c:cont s.heap k us)(q:Q (.ref s.heap.objs.size) {s with heap:=s.heap.push (iob t k)}) :
  wpAny (model prog w) A (pyIter (val t k)) Q E s:=by
 cases k with
 |tup a=>exact wpAny_pyIter_tuple c q
 |lst a=>exact g9 c q
 |str x=>exact wpAny_pyIter_strU q
def mk2(h:Heap)(t1 t2:Tok)(k1 k2:Srk):Heap:=(h.push (iob t1 k1)).push (iob t2 k2)
def mk5(h:Heap)(t1 t2:Tok)(k1 k2:Srk):Heap :=
 (((mk2 h t1 t2 k1 k2).push {cls:=.type "tuple",data:=.seq #[.ref h.objs.size,.ref (h.objs.size+1)]}).push {cls:=.type "tuple",data:=.seq #[.none,.none]}).push
  {cls:=.type "zip",data:=.fields #[.none,.bool false,.bool false,.ref (h.objs.size+2),.ref (h.objs.size+3)]}
theorem akz(t1 t2:Tok)(k1 k2:Srk)(us1 us2:List Value):Meets (Builtin.«zip.__new__» ⟨[.type "zip",val t1 k1,val t2 k2],[]⟩)
  (λ_ R s=>cont s.heap k1 us1/\cont s.heap k2 us2/\R (.ok (.ret (.ref (s.heap.objs.size+4)))) {s with heap:=mk5 s.heap t1 t2 k1 k2}) :=
 .of_wp λprog w A R s h=>by
  obtain⟨hp,g,d,tk,os⟩:=s;obtain⟨c1,c2,h⟩:=h;have sub:=sub_zip;have c1':cont (Shared.heap ⟨hp,g,d,tk,os⟩) k1 us1:=c1;have c2':cont (Shared.heap ⟨hp.push (iob t1 k1),g,d,tk,os⟩) k2 us2:=ahd c2 _
  wp_walk using a4b (t:=t1) c1',a4b (t:=t2) c2'
  refine⟨_,rfl,?_⟩;simpa[mk5,mk2,cN,ownedTupleFields,Nat.add_assoc] using h
theorem ayn(n:Nat):Far (n+4) (n+2) (n+3) n (n+1):=by
 refine⟨?_,?_,?_,?_,?_,?_,?_,?_,?_,?_⟩<;>(intro z;have z:(_:Nat)=_:=z;omega)
theorem b0z(n b:Nat)(h:b∈[n+4,n+2,n+3,n,n+1]):n<=b:=by
 simp only[aR,bg,cE]at h;omega
section
variable{X:Cx}{elts:List Expr}{x1:Nat}{tpos:Pos}
def b11(ta:TA):TI:=λσ H R=>ta σ H λvs H1=>∃k1 k2 xs ys,vs=[Srk.v k1,Srk.v k2]/\its H1 k1=some xs/\its H1 k2=some ys/\R (ItZ k1 k2) H1
theorem ahe{k:Srk}(r:RelV k.v u):∃t,u=val t k:=by
 cases k with
 |tup a=>cases r;exact⟨0,rfl⟩
 |lst a=>cases r;exact⟨0,rfl⟩
 |str x=>obtain⟨t,rfl⟩:=r;exact⟨t,rfl⟩
theorem auk(hg:Gl X "zip")(hm:X.mg "zip" = none)(hb:bootBuiltins "zip" = some (.type "zip"))(ha:PA X [e1,e2] ta)
  (h1:starEach [e1,e2] X.env=[(false,eval e1 X.env),(false,eval e2 X.env)]:=by rfl) (h2:starEach [e2] X.env=[(false,eval e2 X.env)]:=by rfl):PI X (.Tuple elts x1 tpos) (.Call (.Name "zip" p) [e1,e2] [] pos) (b11 ta):=by
 intro aA s σ H R I h
 refine cQ (a6i I hg hm hb ?_ (by decide) (by decide))
 refine cJ (thn (ha pos aA s σ H _ I h) λus s1 ⟨vs,H1,I1,r1,q1⟩=>?_) (by rw[h1,h2]) (by rw[h2];rfl)
 obtain⟨k1,k2,xs,ys,rfl,e1,e2,q⟩:=q1;obtain⟨v1,v2,rfl,rv1,rv2⟩:=vals2 r1;obtain⟨t1,rfl⟩:=ahe rv1;obtain⟨t2,rfl⟩:=ahe rv2;obtain⟨us1,c1,_⟩:=a71 I1 e1;obtain⟨us2,c2,_⟩:=a71 I1 e2;refine callType_new F.called_zip (by decide) (F.typeCall_zip_2 _ _) (F.newCall_zip_2 _ _) (λobj=>F.args_object_init_3 obj _ _) F.entry_zip_new (akz t1 t2 k1 k2 us1 us2) ⟨c1,c2,?_⟩
 have z2:(mk2 s1.heap t1 t2 k1 k2).objs.size=s1.heap.objs.size+2:=by simp[mk2,cN]
 have at0:(mk5 s1.heap t1 t2 k1 k2).get? s1.heap.objs.size=some (iob t1 k1):=by
  unfold mk5 mk2;exact ag _ (ag _ (ag _ (ag _ (aW _ (by cases k1<;>rfl)))))
 have at1:(mk5 s1.heap t1 t2 k1 k2).get? (s1.heap.objs.size+1)=some (iob t2 k2):=by
  unfold mk5 mk2;have:=aW (o:=iob t2 k2) (s1.heap.push (iob t1 k1)) (by cases k2<;>rfl)
  rw[cN]at this;exact ag _ (ag _ (ag _ this))
 have at2:IsPair (mk5 s1.heap t1 t2 k1 k2) (s1.heap.objs.size+2) (.ref s1.heap.objs.size) (.ref (s1.heap.objs.size+1)):=by
  unfold mk5;rw[<-z2];exact ag _ (ag _ (aW _ rfl))
 have at3:IsPair (mk5 s1.heap t1 t2 k1 k2) (s1.heap.objs.size+3) .none .none:=by
  unfold mk5;have:=aW (o:={cls:=.type "tuple",data:=.seq #[.none,.none]}) ((mk2 s1.heap t1 t2 k1 k2).push {cls:=.type "tuple",data:=.seq #[.ref s1.heap.objs.size,.ref (s1.heap.objs.size+1)]}) rfl;rw[cN,z2]at this;exact ag _ this
 have at4:IsZip (mk5 s1.heap t1 t2 k1 k2) (s1.heap.objs.size+4) (s1.heap.objs.size+2) (s1.heap.objs.size+3) .none:=by
  unfold mk5;have:=aW (o:={cls:=.type "zip",data:=.fields #[.none,.bool false,.bool false,.ref (s1.heap.objs.size+2),.ref (s1.heap.objs.size+3)]}) (((mk2 s1.heap t1 t2 k1 k2).push {cls:=.type "tuple",data:=.seq #[.ref s1.heap.objs.size,.ref (s1.heap.objs.size+1)]}).push {cls:=.type "tuple",data:=.seq #[.none,.none]}) rfl;rw[cN,cN,z2]at this;exact this
 have keepA:∀b o,s1.heap.get? b=some o->(mk5 s1.heap t1 t2 k1 k2).get? b=some o:=λb o e=>by
  unfold mk5 mk2;exact ag _ (ag _ (ag _ (ag _ (ag _ e))))
 have I2:Inv X aA σ H1 {s1 with heap:=mk5 s1.heap t1 t2 k1 k2}:=I1.kept (t':=s1.toks) keepA
 refine⟨⟨_,at4,rfl⟩,?_⟩;refine wpAny_pyIter_zip (s:={s1 with heap:=mk5 s1.heap t1 t2 k1 k2}) at4 ?_
 refine⟨s1.heap.objs.size+4,[s1.heap.objs.size+4,s1.heap.objs.size+2,s1.heap.objs.size+3,s1.heap.objs.size,s1.heap.objs.size+1],tnZ _ _ _ _ _ t1 t2 k1 k2,ItZ k1 k2,H1,rfl,I2,aky (ayn s1.heap.objs.size),
  ⟨at4,at2,⟨_,_,at3⟩,aym at0,aym at1⟩,λb hb=>?_,q⟩
 have:s1.heap.objs.size<=b:=b0z _ b hb
 exact I1.fpOk this (I1.hok.fresh this)
end
end ZP
namespace MI
open L2 ZP
def srcOf(d:D)(h:Hd):Option (List D×(Hd->Prop)):=match d with
 |.tup xs=>some (xs,λ_=>True)
 |.rol xs=>some (xs,λ_=>True)
 |.str x=>some (a0s x,λ_=>True)
 |.ref i=>(match h[i]? with|some (.lst xs)=>some (xs,λh=>h[i]? = some (.lst xs))|_=>none)
 |_=>none
def axe(x y:D)(h:Hd):R Itm:=match srcOf x h,srcOf y h with
 |some (xs,c1),some (ys,c2)=>.ok ⟨(xs.zip ys).map λp=>.tup [p.1,p.2],λh=>c1 h/\c2 h⟩ h
 |_,_=>.no
def acd(f g:SE):SI:=λτ h=>(f τ h).bind λx h1=>(g τ h1).bind λy h2=>axe x y h2
theorem ahf(r:Rep K ι H v d)(hr:HRep K ι H h)(e:srcOf d h=some (xs,ck)) :
  ∃k:Srk,v=k.v/\ck h/\∀ι' H' h',Gr ι H ι' H'->HRep K ι' H' h'->ck h'->∃vs,its H' k=some vs/\Reps K ι' H' vs xs:=by
 cases r with
 |@tup a vs ys ha rs =>
  cases e
  exact⟨.tup a,rfl,True.intro,λι' H' h' g _ _=>⟨vs,by simp[its,g.tup _ _ ha],rs.mono g⟩⟩
 |@rol a vs ys ha rs =>
  cases e
  refine⟨.lst a,rfl,True.intro,λι' H' h' g _ _=>⟨vs,?_,rs.mono g⟩⟩;obtain⟨o,q⟩:=ha.mono g;simp[its,q]
 |str x =>
  cases e
  exact⟨.str x,rfl,True.intro,λι' H' h' g _ _=>⟨_,rfl,a81 x⟩⟩
 |@ref a i ha =>
  obtain⟨ob,e1,e2⟩:=hr.at ha
  cases ob with
  |lst zs =>
   simp only[srcOf,e1]at e;cases e
   refine⟨.lst a,rfl,e1,λι' H' h' g hr' c=>?_⟩;obtain⟨us,q1,q2⟩:=hr'.obj i a _ (g.at ha) c;exact⟨us,by simp[its,q1],q2⟩
  |dK _=>simp only[srcOf,e1]at e;cases e
  |dT _=>simp only[srcOf,e1]at e;cases e
  |ins _ _=>simp only[srcOf,e1]at e;cases e
 |_=>cases e
theorem ahg(hg:Gl X "zip")(hm:X.mg "zip" = none)(hb:bootBuiltins "zip" = some (.type "zip"))(ha:ME X E e1 f)(hb':ME X E e2 g)
  (h1:starEach [e1,e2] X.env=[(false,eval e1 X.env),(false,eval e2 X.env)]:=by rfl) (h2:starEach [e2] X.env=[(false,eval e2 X.env)]:=by rfl) :
  MI X E (.Tuple elts x1 tpos) (.Call (.Name "zip" p) [e1,e2] [] pos) (acd f g):=by
 rintro aA s σ H Rr I ⟨ι,τ,h,S,Rh,o⟩
 refine auk hg hm hb (vp ha (vp hb' a7n (by rw[h2];rfl)) (by rw[h1,h2])) h1 h2 aA s σ H Rr I ?_
 refine⟨ι,τ,h,S,Rh,bx o λd h1 ι1 H1 v g1 r1 hr1 o1=>?_⟩;refine⟨ι1,τ,h1,S.mono g1,hr1,bx o1 λd2 h2 ι2 H2 u g2 r2 hr2 o2=>?_⟩;unfold axe at o2
 split at o2
 ·rename_i xs c1 ys c2 q1 q2;obtain⟨k1,rfl,k1c,k1f⟩:=ahf (r1.mono g2) hr2 q1;obtain⟨k2,rfl,k2c,k2f⟩:=ahf r2 hr2 q2;obtain⟨vs1,w1,w2⟩:=k1f ι2 H2 h2 (.refl _ _) hr2 k1c;obtain⟨vs2,w3,w4⟩:=k2f ι2 H2 h2 (.refl _ _) hr2 k2c;refine⟨k1,k2,vs1,vs2,rfl,w1,w3,o2 ι2 H2 _ (.refl _ _) ?_ hr2⟩
  intro ι3 H3 h3 g3 hr3 c
  obtain⟨us1,a1,a2⟩:=k1f ι3 H3 h3 g3 hr3 c.1;obtain⟨us2,a3,a4⟩:=k2f ι3 H3 h3 g3 hr3 c.2;refine⟨λi d ed=>?_,us1,us2,a1,a3,?_⟩
  ·simp only[aM,aP]at ed;obtain⟨⟨x,y⟩,ez,rfl⟩:=ed;obtain⟨ex,ey⟩:=eG.mp ez;obtain⟨v1,b1,b2⟩:=a2.get ex;obtain⟨v2,b3,b4⟩:=a4.get ey;refine⟨⟨us1,us2,v1,v2,a1,a3,b1,b3⟩,λx H' yl=>?_⟩;obtain⟨xs',ys',x',y',p,c1,c2,c3,c4,c5,rfl,rfl⟩:=yl;rw[a1]at c1;cases c1
   rw[a3]at c2;cases c2
   rw[b1]at c3;cases c3
   rw[b3]at c4;cases c4
   exact⟨a02 c5 _,.tup qp (.cons (b2.mono (a02 c5 _)) (.cons (b4.mono (a02 c5 _)) .nil)),hr3.aside c5 _⟩
  ·rw[ai,gQ,a2.len,a4.len];omega
 ·exact o2.elim
theorem ahh:bootBuiltins "zip" = some (.type "zip"):=by first|exact PySem.boot_zip|exact PyProof.Rows.boot_zip|rfl
end MI
namespace MI
open L2
section
variable{P:Program}{w:World}{K:Fg}{mg:Str->Option Value}{base:Heap}
theorem ayo:FnOk P w K mg base CX0 k f fd ps (yh K ps.length λ_ _=>.no) :=
 ⟨λvs H Q E h=>h.1,λA outer s H args us vs Q E hr he hb hv hs=>by obtain⟨_,ι,ds,h,_,_,o⟩:=hs;exact o.elim⟩
end
def FrzOf(L:List Addr)(H H2:Hp):Prop:=∀a,(a∉L->H2 a=H a)/\(a∈L->∃o u,H a=some u/\H2 a=some (.frz o u))
def aan(H:Hp)(L:List Addr):Prop:=∀a∈L,(∃xs,H a=some (.lst xs))\/(∃kvs,H a=some (.dK kvs))\/(∃kvs,H a=some (.dT kvs))\/∃C dx fs,H a=some (.ins C dx fs)
def still:HO->Prop
 |.lst _=>False|.dK _=>False|.dT _=>False|.ins _ _ _=>False
 |_=>True
theorem FrzOf.still(f:FrzOf L H H2)(ab:aan H L)(e:H a=some u)(st:MI.still u):H2 a=some u:=by
 rw[(f a).1 λz=>?_]
 ·exact e
 ·rcases ab a z with⟨_,q⟩|⟨_,q⟩|⟨_,q⟩|⟨_,_,_,q⟩<;>(rw[e]at q;cases q;exact st)
theorem Inv.frz{X:Cx}{aA:List (Addr×Obj)}{σ:St}{H:Hp}{s:Shared}{L:List Addr}(I:Inv X aA σ H s)(ab:aan H L):∃H2,FrzOf L H H2/\Inv X aA σ H2 s:=by
 have obj:∀a∈L,∀u,H a=some u->∃o,s.heap.get? a=some o:=λa ha u e=>by
  rcases ab a ha with⟨_,q⟩|⟨_,q⟩|⟨_,q⟩|⟨_,_,_,q⟩
  ·obtain⟨_,_,_,_,z⟩:=I.hok a _ q;exact⟨_,z⟩
  ·obtain⟨_,_,_,_,z⟩:=I.hok a _ q;obtain⟨o,_,_,z,_⟩:=z;exact⟨o,z⟩
  ·obtain⟨_,_,_,_,o,_,_,z,_⟩:=I.hok a _ q;exact⟨o,z⟩
  ·obtain⟨_,_,_,z,_⟩:=I.hok a _ q;exact⟨_,z⟩
 let H2:Hp:=λa=>if a∈L then (match s.heap.get? a,H a with|some o,some u=>some (.frz o u)|_,w=>w) else H a
 have f:FrzOf L H H2:=λa=>⟨λh=>by simp[H2,h],λh=>by
  obtain⟨u,e⟩:∃u,H a=some u:=by
   rcases ab a h with⟨_,q⟩|⟨_,q⟩|⟨_,q⟩|⟨_,_,_,q⟩<;>exact⟨_,q⟩
  obtain⟨o,eo⟩:=obj a h u e;exact⟨o,u,e,by simp[H2,h,e,eo]⟩⟩
 refine⟨H2,f,?_⟩;have mv:∀a u,ObjOk X.prog X.w H s.heap a u->ObjOk X.prog X.w H2 s.heap a u:=λa u x=>x.stay (λb v _ q=>q) (λc q=>f.still ab q True.intro) λc xs q=>f.still ab q True.intro;have ok:HOk X.prog X.w H2 s.heap:=λa u e=>by
  by_cases hl:a∈L
  ·obtain⟨u0,e0⟩:∃u,H a=some u:=by
    rcases ab a hl with⟨_,q⟩|⟨_,q⟩|⟨_,q⟩|⟨_,_,_,q⟩<;>exact⟨_,q⟩
   obtain⟨o,eo⟩:=obj a hl u0 e0;have e':H2 a=some (.frz o u0):=by simp[H2,hl,e0,eo]
   rw[e']at e;cases e
   exact⟨eo,mv a u0 (I.hok a u0 e0)⟩
  ·rw[(f a).1 hl]at e;exact mv a u (I.hok a u e)
 have fn:∀b,H b=none->H2 b=none:=λb n=>by
  rw[(f b).1 λz=>?_]
  ·exact n
  ·rcases ab b z with⟨_,q⟩|⟨_,q⟩|⟨_,q⟩|⟨_,_,_,q⟩<;>(rw[n]at q;cases q)
 have un:Un X.fs [] H H2 s.heap s.heap:=⟨λb o q _ _ _=>q,λb o q _ _ _=>⟨o.slots,q⟩,λb o _ n _=>fn b n,λb o q _=>⟨o,q⟩,λb xs q=>f.still ab q True.intro,λb o u q=>f.still ab q True.intro,λb ps q=>⟨#[],by rw[f.still ab q True.intro];simp⟩⟩
 exact I.un (t':=s.toks) un ok
theorem a82(h:PE X e t):PE X e (λσ H Q=>t σ H λv H1=>∃L,aan H1 L/\∀H2,FrzOf L H1 H2->Q v H2):=λaA s σ H Q I q =>
 thn (h aA s σ H _ I q) λu s' ⟨v,H1,I1,r,L,ab,k⟩=>let ⟨H2,f,I2⟩:=Inv.frz I1 ab; ⟨v,H2,I2,r,k H2 f⟩
def a00{α β:Type}(f:α->Option β):List α->Option (List β)
 |[]=>some []
 |x::xs=>match f x,a00 f xs with|some y,some ys=>some (y::ys)|_,_=>none
open Classical in
noncomputable def a1q(n:Nat)(h:Hd):Nat->D->Option D
 |0,_=>none
 |k+1,d=>if clo n d then some d else match d with
  |.tup xs=>(a00 (a1q n h k) xs).map .tup
  |.rol xs=>(a00 (a1q n h k) xs).map .rol
  |.scr xs=>(a00 (a1q n h k) xs).map .scr
  |.rod ks xs=>(a00 (a1q n h k) xs).map (.rod ks)
  |.rdT ks xs=>(a00 (a1q n h k) xs).map (.rdT ks)
  |.ins c ks xs=>(a00 (a1q n h k) xs).map (.ins c ks)
  |.ref i=>match h[i]? with
   |some (.lst xs)=>(a00 (a1q n h k) xs).map .rol
   |some (.dK kvs)=>(a00 (a1q n h k) (kvs.map (·.2))).map (.rod (kvs.map (·.1)))
   |some (.dT kvs)=>(a00 (a1q n h k) (kvs.map (·.2))).map (.rdT (kvs.map (·.1)))
   |some (.ins c kvs)=>(a00 (a1q n h k) (kvs.map (·.2))).map (.ins c (kvs.map (·.1)))
   |none=>none
  |_=>none
open Classical in
noncomputable def aul(n:Nat)(h:Hd)(k:Nat)(o:O):Option O:=if a0j n o then some o else match o with
 |.lst xs=>(a00 (a1q n h k) xs).map .lst
 |.dK kvs=>(a00 (a1q n h k) (kvs.map (·.2))).map λys=>.dK ((kvs.map (·.1)).zip ys)
 |.dT kvs=>(a00 (a1q n h k) (kvs.map (·.2))).map λys=>.dT ((kvs.map (·.1)).zip ys)
 |.ins c kvs=>(a00 (a1q n h k) (kvs.map (·.2))).map λys=>.ins c ((kvs.map (·.1)).zip ys)
abbrev FU:Nat:=20
noncomputable def ace(n:Nat):R D->R D
 |.ok d h1=>match a1q n h1 FU d,a00 (aul n h1 FU) (h1.take n) with|some d',some g=>.ok d' g|_,_=>.no
 |_=>.no
open Classical in
noncomputable def as7(n:Nat):R D->R D
 | .ok (.ref i) h1=>(match h1[i]? with
   |some o=>if n<=i/\a0j n o/\∀u∈h1.take n,a0j n u then .ok (.ref n) (h1.take n++[o]) else .no
   |none=>.no)
 |_=>.no
section
variable{K:Fg}{ι ι':List Addr}{H H' H2:Hp}{h1:Hd}{n:Nat}{L:List Addr}
theorem adu(f:FrzOf L H' H2)(ab:aan H' L)(κ:List Addr):Gw κ H' κ H2:=⟨⟨[],by simp⟩,λa vs e=>f.still ab e True.intro,λa o u e=>f.still ab e True.intro⟩
theorem lu(ih:∀{v d d'},Rep K ι H v d->f d=some d'->Rep K κ H2 v d'):∀{vs:List V} {ds ds':List D},Reps K ι H vs ds->a00 f ds=some ds'->Reps K κ H2 vs ds'
 |_,_,_,.nil,e=>by cases e;exact .nil
 |_,x::xs,_,.cons r rs,e=>by
  unfold a00 at e
  split at e
  ·rename_i y ys h1 h2;cases e
   exact .cons (ih r h1) (lu ih rs h2)
  ·cases e
theorem a72(hr:HRep K ι' H' h1)(hL:∀(i:Nat) a,ι'[i]? = some a->n<=i->a∈L)(f:FrzOf L H' H2)(ab:aan H' L):∀(k:Nat) {v:V} {d d':D},Rep K ι' H' v d->a1q n h1 k d=some d'->Rep K (ι'.take n) H2 v d':=by
 intro k
 induction k with
 |zero=>intro v d d' r e;cases e
 |succ k ih =>
  intro v d d' r e
  unfold a1q at e
  split at e
  ·rename_i c;cases e
   exact(r.cut c).monoW (adu f ab _)
  ·rename_i c
   cases r with
   |tup h rs =>
    simp only[aP]at e;obtain⟨ys,e1,rfl⟩:=e;exact .tup (f.still ab h True.intro) (lu (λr e=>ih r e) rs e1)
   |rol h rs =>
    simp only[aP]at e;obtain⟨ys,e1,rfl⟩:=e;exact .rol (h.monoW (adu f ab ι')) (lu (λr e=>ih r e) rs e1)
   |scr h rs =>
    simp only[aP]at e;obtain⟨ys,e1,rfl⟩:=e;exact .scr (h.monoW (adu f ab ι')) (lu (λr e=>ih r e) rs e1)
   |rod h ek rs =>
    simp only[aP]at e;obtain⟨ys,e1,rfl⟩:=e;exact .rod (f.still ab h True.intro) ek (lu (λr e=>ih r e) rs e1)
   |rdT h ek rs =>
    simp only[aP]at e;obtain⟨ys,e1,rfl⟩:=e;exact .rdT (f.still ab h True.intro) ek (lu (λr e=>ih r e) rs e1)
   |@ref a i ha =>
    have hi:n<=i:=by
     simp only[clo]at c;omega
    obtain⟨o,u,e1,e2⟩:=(f a).2 (hL i a ha hi);obtain⟨ob,h3,h4⟩:=hr.at ha;simp only[h3]at e
    cases ob with
    |lst xs =>
     simp only[aP]at e;obtain⟨ys,e3,rfl⟩:=e;obtain⟨vs,h5,h6⟩:=h4;rw[e1]at h5;cases h5
     exact .rol ⟨o,e2⟩ (lu (λr e=>ih r e) h6 e3)
    |dK kvs =>
     simp only[aP]at e;obtain⟨ys,e3,rfl⟩:=e;obtain⟨us,h5,h6,h7⟩:=h4;rw[e1]at h5;cases h5
     exact .rod e2 h6 (lu (λr e=>ih r e) h7 e3)
    |dT kvs =>
     simp only[aP]at e;obtain⟨ys,e3,rfl⟩:=e;obtain⟨us,h5,h6,h7⟩:=h4;rw[e1]at h5;cases h5
     exact .rdT e2 h6 (lu (λr e=>ih r e) h7 e3)
    |ins c kvs =>
     simp only[aP]at e;obtain⟨ys,e3,rfl⟩:=e;obtain⟨C,dx,us,h5,hn,h6,h7⟩:=h4;rw[e1]at h5;cases h5
     exact .ins e2 hn h6 (lu (λr e=>ih r e) h7 e3)
   |non=>simp only[clo,dN]at c
   |exc _ _ _=>simp only[clo,dN]at c
   |ins h hn ek rs =>
    simp only[aP]at e;obtain⟨ys,e1,rfl⟩:=e;exact .ins (f.still ab h True.intro) hn ek (lu (λr e=>ih r e) rs e1)
   |bl b=>simp only[clo,dN]at c
   |int b=>simp only[clo,dN]at c
   |str b=>simp only[clo,dN]at c
   |ty b=>simp only[clo,dN]at c
theorem a93{κ:Type}{H:Hp}{us:List (κ×V)}{ks:List κ}{ys:List D}(e:us.map (·.1)=ks)(r:Reps K ι H (us.map (·.2)) ys):KRep K ι H us (ks.zip ys):=by
 have l:ks.length=ys.length:=by rw[<-e,ai,<-r.len,ai]
 refine⟨?_,?_⟩
 ·rw[List.map_fst_zip (by omega)];exact e
 ·rw[List.map_snd_zip (by omega)];exact r
theorem aq5(hr:HRep K ι' H' h1)(hL:∀(i:Nat) a,ι'[i]? = some a->n<=i->a∈L)(f:FrzOf L H' H2)(ab:aan H' L){k:Nat}(na:a∉L)(r:ORep K ι' H' a o)(e:aul n h1 k o=some o'):ORep K (ι'.take n) H2 a o':=by
 have same:H2 a=H' a:=(f a).1 na;unfold aul at e
 split at e
 ·rename_i c;cases e
  exact(r.cut c).monoW (adu f ab _) same
 ·cases o with
  |lst xs =>
   simp only[aP]at e;obtain⟨ys,e1,rfl⟩:=e;obtain⟨vs,h3,h4⟩:=r;exact⟨vs,by rw[same];exact h3,lu (λr e=>a72 hr hL f ab k r e) h4 e1⟩
  |dK kvs =>
   simp only[aP]at e;obtain⟨ys,e1,rfl⟩:=e;obtain⟨us,h3,h4,h5⟩:=r;exact⟨us,by rw[same];exact h3,a93 h4 (lu (λr e=>a72 hr hL f ab k r e) h5 e1)⟩
  |dT kvs =>
   simp only[aP]at e;obtain⟨ys,e1,rfl⟩:=e;obtain⟨us,h3,h4,h5⟩:=r;exact⟨us,by rw[same];exact h3,a93 h4 (lu (λr e=>a72 hr hL f ab k r e) h5 e1)⟩
  |ins c kvs =>
   simp only[aP]at e;obtain⟨ys,e1,rfl⟩:=e;obtain⟨C,dx,us,h3,hn,h4,h5⟩:=r;exact⟨C,dx,us,by rw[same];exact h3,hn,a93 h4 (lu (λr e=>a72 hr hL f ab k r e) h5 e1)⟩
theorem a2n{α β:Type}{f:α->Option β}:∀{xs:List α} {ys:List β},a00 f xs=some ys->xs.length=ys.length/\∀(i:Nat) y,ys[i]? = some y->∃x,xs[i]? = some x/\f x=some y
 |[],_,e=>by cases e;exact⟨rfl,λi y e=>by simp at e⟩
 |x::xs,ys,e=>by
  unfold a00 at e
  split at e
  ·rename_i y ys h1 h2;cases e
   obtain⟨l,g⟩:=a2n h2;refine⟨by simp[l],λi z e=>?_⟩
   cases i with
   |zero=>simp at e;subst e;exact⟨x,rfl,h1⟩
   |succ i=>simpa using g i z (by simpa using e)
  ·cases e
theorem ahi(hr:HRep K ι' H' h1)(M:List Addr)(hM:∀a∈M,a∈ι'):aan H' M:=λa ha=>by
 obtain⟨i,hi⟩:=cD (hM a ha);obtain⟨o,_,q⟩:=hr.at hi
 cases o with
 |lst xs=>obtain⟨vs,h,_⟩:=q;exact .inl ⟨_,h⟩
 |dK xs=>obtain⟨vs,h,_⟩:=q;exact .inr (.inl ⟨_,h⟩)
 |dT xs=>obtain⟨vs,h,_⟩:=q;exact .inr (.inr (.inl ⟨_,h⟩))
 |ins _ _=>obtain⟨C,dx,vs,h,_⟩:=q;exact .inr (.inr (.inr ⟨_,_,_,h⟩))
theorem a73{α:Type}{l:List α}(nd:l.Nodup){i j:Nat}{a:α}(h1:l[i]? = some a)(h2:l[j]? = some a):i=j:=by
 obtain⟨l1,e1⟩:=af.mp h1;obtain⟨l2,e2⟩:=af.mp h2
 rcases Nat.lt_trichotomy i j with l|l|l
 ·exact absurd (e1.trans e2.symm) (cO.mp nd i j l1 l2 l)
 ·exact l
 ·exact absurd (e2.trans e1.symm) (cO.mp nd j i l2 l1 l)
theorem aum(g:Gr ι H ι' H')(f:FrzOf L H' H2)(ab:aan H' L)(hL:∀a∈L,H a=none)(hm:∀a∈m,H a=none):Gr ι H (ι++m) H2:=by
 refine⟨⟨m,rfl,hm⟩,λa vs e=>f.still ab (g.tup a vs e) True.intro,λa o u e=>f.still ab (g.frz a o u e) True.intro,λa u e hn=>?_,λa u e=>?_⟩
 ·rw[(f a).1 λz=>by rw[hL a z]at e;cases e]
  exact g.oth a u e hn
 ·obtain⟨u',e'⟩:=g.kp a u e;rw[(f a).1 λz=>by rw[hL a z]at e;cases e]
  exact⟨u',e'⟩
theorem ahj{d d':D}{v:V}{g':Hd}(g:Gr ι H ι' H')(rb:Rep K ι' H' v d)(hr:HRep K ι' H' h1)(e:ace ι.length (.ok d h1)=.ok d' g') :
  ∃L,aan H' L/\∀H2,FrzOf L H' H2->Gr ι H ι H2/\Rep K ι H2 v d'/\HRep K ι H2 g':=by
 obtain⟨m,rfl,hm⟩:=g.pre;have tk:(ι++m).take ι.length=ι:=by simp
 have ab:aan H' m:=ahi hr m λa ha=>bT _ ha;have hL:∀(i:Nat) a,(ι++m)[i]? = some a->ι.length<=i->a∈m:=λi a e hi=>by
  rw[aL hi]at e;exact aN e
 refine⟨m,ab,λH2 f=>?_⟩;unfold ace at e;simp only at e
 split at e
 ·rename_i dd gg e1 e2;cases e
  refine⟨by simpa using aum g f ab hm (m:=[]) (by simp),by have:=a72 hr hL f ab FU rb e1;rwa[tk]at this,?_⟩
  obtain⟨l,gt⟩:=a2n e2;have hl:=hr.len;have ln:ι.length<=h1.length:=by rw[<-hl];simp
  refine⟨(cB.mp hr.nd).1,by rw[<-l,aT];omega,λi a o q1 q2=>?_⟩
  obtain⟨x,hx,fx⟩:=gt i o q2;have hi:i<ι.length:=(af.mp q1).1;rw[eT,aO hi]at hx;have q3:(ι++m)[i]? = some a:=by rw[aJ hi];exact q1
  have na:a∉m:=λz=>(cB.mp hr.nd).2.2 a (aN q1) a z rfl;have:=aq5 hr hL f ab na (hr.obj i a x q3 hx) fx
  rwa[tk]at this
 ·cases e
theorem al0(g:Gr ι H ι' H')(rb:Rep K ι' H' v d)(hr:HRep K ι' H' h1)(e:as7 ι.length (.ok d h1)=.ok d' g') :
  ∃b,H b=none/\Gr ι H (ι++[b]) H'/\Rep K (ι++[b]) H' v d'/\HRep K (ι++[b]) H' g':=by
 obtain⟨m,rfl,hm⟩:=g.pre;have tk:(ι++m).take ι.length=ι:=by simp
 have up:∀b,Gw ι H' (ι++[b]) H':=λb=>⟨⟨[b],rfl⟩,λ_ _ h=>h,λ_ _ _ h=>h⟩
 cases rb with
 |@ref b i hb =>
  unfold as7 at e;simp only at e
  split at e
  ·rename_i ob ho
   split at e
   ·rename_i hc;obtain⟨hi,c1,c2⟩:=hc;cases e
    have hb':=hb;rw[aL hi]at hb';have bm:b∈m:=aN hb';obtain⟨nd1,nd2,nd3⟩:=cB.mp hr.nd;have hl:=hr.len;have ln:ι.length<=h1.length:=by rw[<-hl];simp
    have lt:(h1.take ι.length).length=ι.length:=by rw[aT];omega
    refine⟨b,hm b bm,⟨⟨[b],rfl,by simpa using hm b bm⟩,g.tup,g.frz,g.oth,g.kp⟩,.ref (by simp),?_⟩
    refine⟨cB.mpr ⟨nd1,by simp,λa ha c hc z=>nd3 a ha c (by rw[aw.mp hc];exact bm) z⟩,by simp[lt],λj a o q1 q2=>?_⟩
    by_cases hj:j<ι.length
    ·rw[aJ hj]at q1;rw[aJ (by omega)]at q2
     have q2':=q2;rw[eT,aO hj]at q2';have:=(hr.obj j a o (by rw[aJ hj];exact q1) q2').cut (c2 o (aN q2))
     rw[tk]at this;exact this.monoW (up b) rfl
    ·have hj2:j<(ι++[b]).length:=(af.mp q1).1;have:j=ι.length:=by simp at hj2;omega
     subst this;rw[aL (aI _)]at q1;rw[aL (by omega),lt]at q2
     simp at q1 q2
     subst q1 q2;have:=(hr.obj i b ob hb ho).cut c1;rw[tk]at this;exact this.monoW (up b) rfl
   ·cases e
  ·cases e
 |_=>cases e
end
noncomputable def sZ(f:SE):SE:=λτ h=>ace h.length (f τ h)
abbrev b12(Q:VK):VK:=λv H1=>∃L,aan H1 L/\∀H2,FrzOf L H1 H2->Q v H2
theorem ayp(q:lift K E (yq K) (sZ fa) σ H Q):lift K E (yq K) fa σ H (b12 Q):=by
 obtain⟨ι,τ,h,S,Rh,o⟩:=q;refine⟨ι,τ,h,S,Rh,?_⟩;unfold sZ at o;rw[<-Rh.len]at o
 cases hf:fa τ h with
 |ok d h1 =>
  rw[hf]at o
  intro ι' H' v g r hr
  cases hz:ace ι.length (.ok d h1) with
  |ok d' g' =>
   rw[hz]at o;obtain⟨L,ab,k⟩:=ahj g r hr hz;refine⟨L,ab,λH2 f=>?_⟩;obtain⟨k1,k2,k3⟩:=k H2 f;exact o ι H2 v k1 k2 k3
  |ex c hx=>unfold ace at hz;simp only at hz;split at hz<;>cases hz
  |no=>rw[hz]at o;exact o.elim
 |ex c h1=>rw[hf]at o;exact o.elim
 |no=>rw[hf]at o;exact o.elim
theorem a66(ha:ME X E e fa):ME X E e (sZ fa):=PE.weak (a82 ha) λσ H Q q=>ayp q
def refOf:D->Option Nat
 |.ref i=>some i
 |_=>none
def a3h(ds:List D):List Nat:=ds.filterMap refOf
def a1y:Nat->List D->List D
 |_,[]=>[]
 |k,d::ds=>match d with
  |.ref _=>.ref k::a1y (k+1) ds
  |d=>d::a1y k ds
def wy:Hd->List Nat->List O->Hd
 |h,i::is,o::os=>wy (h.set i o) is os
 |h,_,_=>h
def isRef(d:D):Prop:=∃i,d=.ref i
open Classical in
noncomputable def as8(m:Bool)(F:SF)(ds:List D)(h:Hd):R D:=match a00 (λi=>h[i]?) (a3h ds) with
 |none=>.no
 | some os=>if (a3h ds).Nodup/\(∀d∈ds,clo 0 d\/isRef d)/\(∀o∈os,a0j 0 o) then
   (match (if m then as7 os.length (F (a1y 0 ds) os) else ace os.length (F (a1y 0 ds) os)) with
   | .ok d h1=>if ∀o∈h1,a0j 0 o then
     (if m then .ok (.ref h.length) (wy h (a3h ds) h1++h1.drop os.length)
      else if clo 0 d then .ok d (wy h (a3h ds) h1) else .no) else .no
   |_=>.no)
  else .no
noncomputable def gq(m:Bool)(n:Nat)(F:SF):SF:=λds h=>if ds.length=n then as8 m F ds h else .no
section
variable{K:Fg}{ι ι':List Addr}{H H' H2:Hp}{h h1:Hd}{n:Nat}
theorem anr(κ:List Addr):Gw [] H κ H:=⟨⟨κ,rfl⟩,λ_ _ h=>h,λ_ _ _ h=>h⟩
theorem Rep.any(r:Rep K ι H v d)(c:MI.clo 0 d)(κ:List Addr):Rep K κ H v d:=by
 have:=r.cut c
 rw[eI]at this;exact this.monoW (anr κ)
theorem ORep.any(r:ORep K ι H a o)(c:a0j 0 o)(κ:List Addr):ORep K κ H a o:=by
 have:=r.cut c
 rw[eI]at this;exact this.monoW (anr κ) rfl
theorem aao{α:Type}(l:List α):∀{is:List Nat},(∀i∈is,i<l.length)->∃ys,a00 (λi=>l[i]?) is=some ys
 |[],_=>⟨[],rfl⟩
 |i::is,hi=>by
  obtain⟨ys,e⟩:=aao l (is:=is) λj hj=>hi j (aK _ hj);have:=hi i aQ;exact⟨l[i]::ys,by unfold a00;rw[e,ae this]⟩
theorem a5a:∀{ds:List D} {vs:List V} {pre κ:List Addr},Reps K ι H vs ds->(∀d∈ds,clo 0 d\/isRef d)->a00 (λi=>ι[i]?) (a3h ds)=some κ->Reps K (pre++κ) H vs (a1y pre.length ds)
 |[],_,_,_,.nil,_,_=>.nil
 |d::ds,_,pre,κ,.cons r rs,hc,e=>by
  have hc':∀d∈ds,clo 0 d\/isRef d:=λx hx=>hc x (aK _ hx)
  by_cases hd:isRef d
  ·obtain⟨i,rfl⟩:=hd;have e':a00 (λi=>ι[i]?) (i::a3h ds)=some κ:=e;unfold a00 at e'
   split at e'
   ·rename_i a κ' h1 h2
    cases e'
    cases r with
    |ref ha =>
     rw[ha]at h1;cases h1
     have:=a5a (pre:=pre++[a]) rs hc' h2
     simp only[dJ,List.singleton_append,ah,av]at this;refine .cons (.ref ?_) this;rw[aL (aI _)];simp
   ·cases e'
  ·have c:=(hc d aQ).resolve_right hd;have e1:a3h (d::ds)=a3h ds:=by
    unfold a3h
    cases d<;>first|rfl|exact absurd ⟨_,rfl⟩ hd
   have e2:a1y pre.length (d::ds)=d::a1y pre.length ds:=by
    cases d<;>first|rfl|exact absurd ⟨_,rfl⟩ hd
   rw[e1]at e;rw[e2];exact .cons (r.any c _) (a5a rs hc' e)
theorem a0u:∀{is:List Nat} {os:List O} {h:Hd},(wy h is os).length=h.length
 |[],_,_=>by simp[wy]
 |_::_,[],_=>by simp[wy]
 |i::is,o::os,h=>by rw[wy,a0u,cP]
theorem a5b:∀{is:List Nat} {os:List O} {h:Hd},i∉is->(wy h is os)[i]? = h[i]?
 |[],_,_,_=>by simp[wy]
 |_::_,[],_,_=>by simp[wy]
 |j::is,o::os,h,n=>by
  rw[wy,a5b λz=>n (aK _ z),cC λz=>n (by rw[z];exact aQ)]
theorem aap:∀{is:List Nat} {os:List O} {h:Hd} {j:Nat},is.Nodup->is[j]? = some i->os[j]? = some o->i<h.length->(wy h is os)[i]? = some o
 |[],_,_,_,_,e,_,_=>by simp at e
 |_::_,[],_,_,_,_,e,_=>by simp at e
 |k::is,o'::os,h,j,nd,e1,e2,hl=>by
  cases j with
  |zero =>
   simp at e1 e2
   subst e1 e2;rw[wy,a5b (dG.mp nd).1,bZ hl]
  |succ j =>
   rw[wy];exact aap (j:=j) (dG.mp nd).2 (by simpa using e1) (by simpa using e2) (by simpa using hl)
theorem aaq{α:Type}{l:List α}(nl:l.Nodup){is:List Nat}{ys:List α}(e:a00 (λi=>l[i]?) is=some ys)(ni:is.Nodup):ys.Nodup:=by
 obtain⟨le,g⟩:=a2n e;refine cO.mpr λi j hi hj lt z=>?_;obtain⟨x,h1,h2⟩:=g i _ (ae hi);obtain⟨y,h3,h4⟩:=g j _ (ae hj);rw[<-z]at h4;have:=a73 nl h2 h4;subst this;have:=a73 ni h1 h3;omega
theorem adv{is:List Nat}{κ m:List Addr}{g:Hd}(hr:HRep K ι H h)(e1:a00 (λi=>ι[i]?) is=some κ)(nd:is.Nodup)(gr:Gr κ H (κ++m) H2)(hg:HRep K (κ++m) H2 g)(cg:∀o∈g,a0j 0 o)(hm:m.length<=1) :
  Gr ι H (ι++m) H2/\HRep K (ι++m) H2 (wy h is g++g.drop κ.length):=by
 obtain⟨l1,g1⟩:=a2n e1;have mn:∀a∈m,H a=none:=by
  obtain⟨m',e,hm'⟩:=gr.pre;rw[List.append_cancel_left e];exact hm'
 have sub:∀a∈κ,a∈ι:=λa ha=>by
  obtain⟨j,hj⟩:=cD ha;obtain⟨i,_,q⟩:=g1 j a hj;exact aN q
 have some_of:∀a∈ι,∃u,H a=some u:=λa ha=>by
  obtain⟨i,hi⟩:=cD ha;obtain⟨o,_,q⟩:=hr.at hi;obtain⟨u,q,_⟩:=q.some;exact⟨u,q⟩
 have G:Gr ι H (ι++m) H2:=⟨⟨m,rfl,mn⟩,gr.tup,gr.frz,λa u e n=>gr.oth a u e λz=>n (sub a z),gr.kp⟩;have lg:=hg.len;rw[ah]at lg;refine⟨G,?_,?_,λj a o q1 q2=>?_⟩
 ·refine cB.mpr ⟨hr.nd,(cB.mp hg.nd).2.1,λa ha b hb z=>?_⟩;obtain⟨u,q⟩:=some_of a ha;rw[z,mn b hb]at q;cases q
 ·rw[ah,ah,a0u,bb,hr.len];omega
 ·by_cases hj:j<ι.length
  ·rw[aJ hj]at q1;rw[aJ (by rw[a0u,<-hr.len];exact hj)]at q2
   by_cases hp:j∈is
   ·obtain⟨k,hk⟩:=cD hp;have hkl:k<κ.length:=by rw[<-l1];exact(af.mp hk).1
    obtain⟨i,h3,h4⟩:=g1 k _ (ae hkl);rw[hk]at h3;cases h3
    rw[q1]at h4;have hkg:k<g.length:=by omega
    have e5:=aap (h:=h) nd hk (ae hkg) (by rw[<-hr.len];exact hj)
    rw[e5]at q2;cases q2
    have ea:(κ++m)[k]? = some a:=by rw[aJ hkl,ae hkl];exact h4.symm
    exact(hg.obj k a _ ea (ae hkg)).any (cg _ (aY hkg)) _
   ·rw[a5b hp]at q2;have r:=hr.obj j a o q1 q2;obtain⟨u,hu,_⟩:=r.some;have na:a∉κ:=λz=>by
     obtain⟨k,hk⟩:=cD z;obtain⟨i,h3,h4⟩:=g1 k a hk;have:=a73 hr.nd q1 h4;subst this;exact hp (aN h3)
    exact r.mono G (by rw[hu];exact gr.oth a u hu na)
  ·have q1':=q1;rw[aL (by omega)]at q1
   rw[aL (by rw[a0u,<-hr.len];omega),a0u,<-hr.len,eQ]at q2
   have ea:(κ++m)[κ.length+(j-ι.length)]? = some a:=by rw[aL (by omega)];simpa using q1
   exact(hg.obj _ a o ea q2).any (cg o (aN q2)) _
theorem a94{m:Bool}{F:SF}{vs:List V}{ds:List D}{Q:VK}(r:Reps K ι H vs ds)(hr:HRep K ι H h)(o:out K X0 (yq K) ι H (gq m n F ds h) Q)(E:XK) :
  yh K n F vs H (λv H1=>∃L,aan H1 L/\∀H2,FrzOf L H1 H2->Q v H2) E:=by
 unfold gq at o
 split at o
 ·rename_i hl;refine⟨by rw[r.len];exact hl,?_⟩
  unfold as8 at o
  split at o
  ·exact o.elim
  ·rename_i os hos
   split at o
   ·rename_i hc;obtain⟨nd,hd,hcl⟩:=hc;obtain⟨l0,g0⟩:=a2n hos;obtain⟨κ,e1⟩:=aao ι (is:=a3h ds) λi hi=>by
     obtain⟨j,hj⟩:=cD hi;have hjl:j<os.length:=by rw[<-l0];exact(af.mp hj).1
     obtain⟨x,h3,h4⟩:=g0 j _ (ae hjl);rw[hj]at h3;cases h3
     rw[hr.len];exact(af.mp h4).1
    obtain⟨l1,g1⟩:=a2n e1;have lk:κ.length=os.length:=by omega
    have R0:Reps K κ H vs (a1y 0 ds):=by simpa using a5a (pre:=[]) r hd e1
    have H0:HRep K κ H os:=by
     refine⟨aaq hr.nd e1 nd,lk,λj a ob q1 q2=>?_⟩;obtain⟨i,h3,h4⟩:=g1 j a q1;obtain⟨i',h5,h6⟩:=g0 j ob q2;rw[h3]at h5;cases h5
     exact(hr.obj i a ob h4 h6).any (hcl ob (aN q2)) _
    refine⟨κ,a1y 0 ds,os,R0,H0,?_⟩
    cases hF:F (a1y 0 ds) os with
    |no=>rw[hF]at o;cases m<;>exact o.elim
    |ex c hx=>rw[hF]at o;cases m<;>exact o.elim
    |ok d h1 =>
     rw[hF]at o
     intro ι' H' v g rb hr1
     rw[<-lk]at o
     cases m with
     |false =>
      simp only[dn,fW]at o
      cases hz:ace κ.length (.ok d h1) with
      |ok d' g' =>
       rw[hz]at o;simp only at o;obtain⟨L,ab,k⟩:=ahj g rb hr1 hz;refine⟨L,ab,λH2 f=>?_⟩;obtain⟨k1,k2,k3⟩:=k H2 f
       split at o
       ·rename_i cg
        split at o
        ·rename_i cd;have q:=adv (m:=[]) hr e1 nd (by simpa using k1) (by simpa using k3) cg (by simp)
         have lg:=k3.len;have dr:g'.drop κ.length=[]:=cb (by omega)
         rw[dr,bJ,bJ]at q;exact o ι H2 v q.1 (k2.any cd _) q.2
        ·exact o.elim
       ·exact o.elim
      |ex c hx=>rw[hz]at o;exact o.elim
      |no=>rw[hz]at o;exact o.elim
     |true =>
      simp only[dR]at o
      cases hz:as7 κ.length (.ok d h1) with
      |ok d' g' =>
       rw[hz]at o;simp only at o;obtain⟨b,hb,k1,k2,k3⟩:=al0 g rb hr1 hz;refine⟨[],λa ha=>(by simp at ha),λH2 f=>?_⟩
       have e2:H2=H':=by funext a;exact(f a).1 (by simp)
       subst e2
       split at o
       ·rename_i cg;have q:=adv (m:=[b]) hr e1 nd k1 k3 cg (by simp)
        refine o (ι++[b]) H2 v q.1 ?_ q.2;have hd':d'=.ref κ.length:=by
         unfold as7 at hz
         split at hz
         ·rename_i i h2 hh
          injection hh with z1 z2
          split at hz
          ·split at hz
           ·injection hz with z3 z4;exact z3.symm
           ·cases hz
          ·cases hz
         ·cases hz
        subst hd'
        cases k2 with
        |ref hk =>
         rw[aL (aI _)]at hk;simp at hk;subst hk;exact .ref (by rw[<-hr.len];simp)
       ·exact o.elim
      |ex c hx=>rw[hz]at o;exact o.elim
      |no=>rw[hz]at o;exact o.elim
   ·exact o.elim
 ·exact o.elim
end
theorem adw(m:Bool){X:Cx}(G:Dn X.prog X.w X.K X.mg X.base k x ps (yh X.K n F) f fd)(hr:Room k X.A)(hg:Gl X x)(ha:MA X X0 (e::es) ka)
  (hdb:(x == ("__debug__" : Str))=false:=by decide) (he:starEach (e::es) X.env=(false,eval e X.env)::starEach es X.env:=by rfl) (hpl:(backTo pos (starEach es X.env)).any (·.1)=false:=by rfl):ME X X0 (.Call (.Name x p) (e::es) [] pos) (sA (gq m n F) ka):=by
 refine PE.weak (a82 (a6k G.ok hr hg G.m G.kp G.b .nil akg ha hdb he hpl)) ?_
 rintro σ H Q ⟨ι,τ,h,S,Rh,o⟩
 refine⟨ι,τ,h,S,Rh,bx o λds h1 ι1 H1 vs g1 r1 hr1 o1=>?_⟩;rw[bJ];exact a94 r1 hr1 o1 _
theorem aar(m:Bool){X:Cx}(G:Dn X.prog X.w X.K X.mg X.base k x ps (yh X.K n F) f fd)(hr:Room k X.A)(hg:Gl X x)(hdb:(x == ("__debug__" : Str))=false:=by decide) :
  ME X X0 (.Call (.Name x p) [] [] pos) (sA (gq m n F) bu):=by
 refine PE.weak (a82 (akc G.ok hr hg G.m G.kp G.b .nil akg hdb)) ?_
 rintro σ H Q ⟨ι,τ,h,S,Rh,o⟩
 exact a94 (vs:=[]) .nil Rh o E0
def ant:SS:=λ_ _=>.no
section
variable{X:Cx}{E:XD}
theorem a83:MSs X E st ant:=λ_ _ _ _ _ _ ⟨_,_,_,_,_,o⟩=>o.elim
end
theorem anu(h:PS X st t):PS X st (λD σ H=>t {D with nx:=λσ' H1=>∃L,aan H1 L/\∀H2,FrzOf L H1 H2->D.nx σ' H2} σ H):=λaA s σ H D I q =>
 thn (h aA s σ H _ I q) λf s' k=>by
  cases f with
  |next =>
   obtain⟨σ',H1,I1,L,ab,k⟩:=k;obtain⟨H2,f,I2⟩:=Inv.frz I1 ab;exact⟨σ',H2,I2,k H2 f⟩
  |brk=>exact k
  |cont=>exact k
  |ret u=>exact k
theorem anv(q:a6x K E (j9 i f) N σ H):lift K E (yq K) f σ H (λv H1=>N.nx (σ.set i (some v)) H1):=by
 obtain⟨ι,τ,h,S,Rh,o⟩:=q;exact⟨ι,τ,h,S,Rh,v9 o λd h1 ι1 H1 v g1 r1 hr1 o1=>o1 ι1 H1 _ (.refl _ _) ((S.mono g1).set r1 i) hr1⟩
theorem aq6(ht:ajy K n g t)(q:lift K E (yq K) (jk fi t fe ix) σ H Q):agm (lift K E (ayk K) fi) (zb n ix) g (lift K E (yq K) fe) σ H Q:=by
 obtain⟨ι,τ,h,Sr,Rh,o⟩:=q;refine⟨ι,τ,h,Sr,Rh,bx o λit h1 ι1 H1 J g1 r1 hr1 o1=>?_⟩
 by_cases hl:it.xs.length<=LINE
 ·rw[aO hl]at o1;exact adi r1 ht (a65 (Sr.mono g1) ix) hr1 hl o1
 ·rw[bE hl]at o1;exact o1.elim
theorem al1(ht:ajy K n g t)(q:lift K E (yq K) (a3s fi t fc fe ix) σ H Q):a4v (lift K E (ayk K) fi) (zb n ix) g (lift K E anf fc) (lift K E (yq K) fe) σ H Q:=by
 obtain⟨ι,τ,h,Sr,Rh,o⟩:=q;refine⟨ι,τ,h,Sr,Rh,bx o λit h1 ι1 H1 J g1 r1 hr1 o1=>?_⟩
 by_cases hl:it.xs.length<=LINE
 ·rw[aO hl]at o1;exact aah r1 ht (a65 (Sr.mono g1) ix) hr1 hl o1
 ·rw[bE hl]at o1;exact o1.elim
section
variable{X:Cx}{E:XD}{aD tg aE cnd:Expr}{aB:Scope}{pos spos pos':Pos}{cl:List (Str×Addr)}{ts fr:List Str}{ix:List Nat}{fi:SI}{g:TG}{t:D->Option Sd}{fe:SE}{fc:ST}{i:Nat}{x:Str}
theorem a2o(hN:X.N.Nodup)(hi':X.N[i]? = some x)(hx:Loc X.env.scope x)(hc:X.calm=true)(S:CSc X aB cl ts fr ix)(hi:MI X E tg aE fi)(hg:∀C fp s H,PG (cxC X (ts++fr) aB cl C fp s H) tg g)(ht:ajy X.K ts.length g t)(he:∀C fp s H,ME (cxC X (ts++fr) aB cl C fp s H) E aD fe)
  (hs:∀x,foldedSetIterable aE X.env x=pure x:=by intro _;rfl) (hsw:swapsWith (.ListComp aD [⟨tg,aE,[],0⟩] aB pos) (some (.Name x pos')) spos.line X.env=pure true:=by rfl) (hf:Hf X x:=by first|exact .inl rfl|exact .inr rfl|assumption) :
  MS X E (.Assign [.Name x pos'] (.ListComp aD [⟨tg,aE,[],0⟩] aB pos) spos) (j9 i (sZ (jk fi t fe ix))) :=
 PS.weak (anu (akl (te:=lift X.K E (yq X.K) fe) hN hi' hx hc S hi hg he hs hsw hf)) λN σ H q=>aq6 ht (ayp (anv q))
theorem al2(hN:X.N.Nodup)(hi':X.N[i]? = some x)(hx:Loc X.env.scope x)(hc:X.calm=true)(S:CSc X aB cl ts fr ix)(hi:MI X E tg aE fi)(hg:∀C fp s H,PG (cxC X (ts++fr) aB cl C fp s H) tg g)(ht:ajy X.K ts.length g t)(he:∀C fp s H,ME (cxC X (ts++fr) aB cl C fp s H) E aD fe)
  (hq:∀C fp s H,MT (cxC X (ts++fr) aB cl C fp s H) E cnd fc)
  (hs:∀x,foldedSetIterable aE X.env x=pure x:=by intro _;rfl) (hsw:swapsWith (.ListComp aD [⟨tg,aE,[cnd],0⟩] aB pos) (some (.Name x pos')) spos.line X.env=pure true:=by rfl) (hf:Hf X x:=by first|exact .inl rfl|exact .inr rfl|assumption) :
  MS X E (.Assign [.Name x pos'] (.ListComp aD [⟨tg,aE,[cnd],0⟩] aB pos) spos) (j9 i (sZ (a3s fi t fc fe ix))) :=
 PS.weak (anu (af4 (te:=lift X.K E (yq X.K) fe) (tc:=lift X.K E anf fc) hN hi' hx hc S hi hg he hq hs hsw hf)) λN σ H q=>al1 ht (ayp (anv q))
end
theorem ahk(Fu:Fun K x qual st f fd)(S:FnScope N ps (bw st))
  (hb:∀(cdv:Value) (A:Around) (outer:List Env) (s:Shared) (H:Hp) (E:XK),Room k (A.deeper (PyProof.Rows.envOfC qual (bw st) s.heap.objs.size f cdv))->MSs (afv CX0 P w K mg base N qual (bw st) f cdv A outer s H E).nox X0 (qz st) b) :
  FnOk P w K mg base CX0 (k+1) f fd ps (yh K ps.length (km b N.length)):=au8 Fu S hb λds h _ _ _=>Rf.same rfl
end MI
namespace MI
open L2 HT
theorem af7{s:Shared}(ht:PyProof.Rows.IsTup s.heap t aC)(hs:s.heap.IsSliceOf sl vl vu .none)(pl:IsPart vl lo)(pu:IsPart vu hi)
  (hw:HT.sIx aC.size 0 lo=0/\HT.sIx aC.size aC.size hi=aC.size) (h:Q (.ref t) s):wpAny (model prog w) A (getItem (.ref t) (.ref sl)) Q E s:=by
 obtain⟨os,f1,f2,f3⟩:=id hs;have ty:s.TypeIs (.ref sl) "slice":=⟨os,f1,f2⟩;have tt:s.TypeIs (.ref t) "tuple":=ht.typeIs;rw[getItem]
 try apply dP
 first|(apply ar;apply aS)|skip
 apply ar;apply gu tt (by decide)
 apply ar
 apply cA (name:=Str.ofString "__getitem__") tt bF
 apply da bF tt eV _ (eZ _ _)
 change wpAny (model prog w) A.in1 (Builtin.Tuple.tupleItemsOf (.ref t)>>=_) _ _ s
 apply ar;apply fT ht
 apply ar;apply gN ty
 rw[aO (by decide)]
 apply ar;apply HT.a1m hs pl pu
 rw[hw.1,hw.2];dsimp only;rw[aO (by simp)]
 apply ar
 rw[Builtin.Tuple.tupleIsExact]
 apply ar;apply gN tt
 apply aS
 rw[aO (by decide)]
 apply ar;apply wpAny_rule
 apply aS
 exact⟨_,rfl,aS h⟩
def azm(K:Fg):V->Option Int->Option Int->Hp->VK->Prop:=λx lo hi H Q=>∃a xs,x=.ref a/\SqT K H a xs/\whole xs.length lo hi/\Q (.ref a) H
theorem al3:SlR X (azm X.K):=by
 intro aA s σ H x v vl vu lo hi sl Q I rx hs pl pu h
 obtain⟨a,xs,rfl,hx,hw,q⟩:=h;cases rx
 obtain⟨its,r,ht,hz⟩:=I.tuple hx;have aG:its.toArray.size=xs.length:=by rw[ax];exact r.length.symm
 exact⟨"tuple",_,bF.lookup,ht.typeIs,af7 ht hs pl pu (by rw[aG];exact hw) ⟨.ref a,H,I,rfl,q⟩⟩
def abr(d:D)(lo hi:Option Int)(h:Hd):R D:=match d with
 |.tup xs=>if whole xs.length lo hi then .ok (.tup xs) h else .ok (.tup (a6s xs lo hi)) h
 |d=>gSl d lo hi h
def yp(f:SE)(l u:SO):SE:=λτ h=>(f τ h).bind λd h1=>(l τ h1).bind λlo h2=>(u τ h2).bind λhi h3=>abr d lo hi h3
theorem aq7(rx:Rep K ι H x d)(hr:HRep K ι H h)(o:out K E (yq K) ι H (abr d lo hi h) Q):(ayd x lo hi H Q\/ay9 K x lo hi H Q\/ayb K x lo hi H Q)\/azm K x lo hi H Q:=by
 cases rx with
 |@tup p vs xs hp r =>
  by_cases hc:whole xs.length lo hi
  ·simp only[abr,aO hc]at o;exact .inr ⟨p,vs,rfl,SqT.of hp,by rw[r.len];exact hc,ans o (.tup hp r) hr⟩
  ·simp only[abr,bE hc]at o;exact .inl (.inr (.inl ⟨p,vs,rfl,SqT.of hp,by rw[r.len];exact hc,a0z (a3w r lo hi) hr o⟩))
 |non=>exact o.elim
 |bl _=>exact o.elim
 |int _=>exact o.elim
 |ty _=>exact o.elim
 |str z=>exact .inl (ado (.str z) hr o)
 |rol a b=>exact .inl (ado (.rol a b) hr o)
 |scr a b=>exact .inl (ado (.scr a b) hr o)
 |rod a b c=>exact o.elim
 |rdT a b c=>exact o.elim
 |exc a b c=>exact o.elim
 |ins _ _ _ _=>exact o.elim
 |ref a=>exact .inl (ado (.ref a) hr o)
theorem fu(he:ME X E e fa)(hl:MO X E lo l)(hu:MO X E hi u):ME X E (.Subscript e (.Slice lo hi none p2) pos) (yp fa l u):=by
 refine PE.weak (ake ((atx.or (atk.or apd)).or al3) he hl hu) ?_
 rintro σ H Q ⟨ι,τ,h,S,Rh,o⟩
 refine⟨ι,τ,h,S,Rh,bx o λd h1 ι1 H1 v g1 r1 hr1 o1=>?_⟩;refine⟨ι1,τ,h1,S.mono g1,hr1,bx o1 λlo h2 ι2 H2 lv g2 r2 hr2 o2=>?_⟩;refine⟨ι2,τ,h2,(S.mono g1).mono g2,hr2,bx o2 λhi h3 ι3 H3 hv g3 r3 hr3 o3=>?_⟩
 cases r2;cases r3
 exact aq7 ((r1.mono g2).mono g3) hr3 o3
end MI
namespace TPM
open PySem.W L2 HT MI
theorem a1o:fillsNumberSlot (.type "tuple") "mul" = pure false :=
 fillsNumberSlot_seq (id := "tuple.__mul__") (r:=some (.builtin "tuple.__rmul__")) fD.lookup (by decide +kernel) F.slot_tuple_rmul.lookup (by decide +kernel)
theorem ahl(t:Addr)(aC:Array Value)(n:Nat)(dd:Option Addr)(sl:Array (Option Value))(x:Int)(u:Tok)(h0:aC.isEmpty=false)(h2:2<=x)(h3:x<2^63)(hz:aC.size*x.toNat<=sizeLine) :
  Meets (Builtin.«tuple.__mul__» ⟨[.ref t,.int x u],[]⟩) (λ_ R s=>s.heap.get? t=some {cls:=.type "tuple",dict:=dd,data:=.seq aC n,slots:=sl}/\R (.ok (.ret (.ref s.heap.objs.size))) {s with heap:=s.heap.push {cls:=.type "tuple",data:=.seq (List.foldl (λx1 x2=>x1++x2) #[] (List.replicate x.toNat aC))} }) :=
 .of_wp λprog w A R s h=>by
  obtain⟨hp,g,d,tk,os⟩:=s;obtain⟨hl,h⟩:=h;have c1:¬ (decide (x < -2^63) || decide (x≥2^63))=true:=by
   rw[eS,eE,eE];omega
  have c2:¬ (aC.isEmpty || x == 1)=true:=by
   rw[h0,hJ];simp;omega
  have c3:¬ (decide (x<=0) || aC.isEmpty)=true:=by
   rw[h0,gZ,eE];omega
  have ex:((aC.size:Nat):Int)*x=((aC.size*x.toNat:Nat):Int):=by
   rw[Int.natCast_mul,Int.toNat_of_nonneg (by omega)]
  have sl':(sizeLine:Nat)<=(2^63-1) / 8:=by decide
  have c4:¬ (aC.size:Int)*x > (2^63-1) / 8:=by rw[ex];omega
  have c5:¬ Builtin.Tuple.tupleTooMany ((aC.size:Int)*x)=true:=by
   rw[ex];simp only[Builtin.Tuple.tupleTooMany,eE];omega
  wp_walk
  rw[bE c1]
  wp_walk
  rw[bE c2]
  wp_walk
  rw[bE c3]
  wp_walk
  rw[bE c4]
  wp_walk
  rw[bE c5]
  wp_walk
  have fs:¬ (List.foldl (λx1 x2=>x1++x2) #[] (List.replicate x.toNat aC)).size > sizeLine:=by
   have:=foldl_rep aC.toList x.toNat []
   rw[cV,Array.toArray_toList]at this;rw[show(#[]:Array Value)=([]:List Value).toArray from rfl,this,ax,len_rep,cU,eM]
   omega
  rw[bE fs]
  wp_walk
  exact⟨_,rfl,h⟩
theorem a5p(a:Int)(t:Tok)(l:Addr)(aC:Array Value)(n:Nat)(dd:Option Addr)(sl:Array (Option Value)) :
  Meets (Builtin.«int.__rmul__» ⟨[.int a t,.ref l],[]⟩) (λ_ R s=>s.heap.get? l=some {cls:=.type "tuple",dict:=dd,data:=.seq aC n,slots:=sl}/\R (.ok (.ret Value.notImplemented)) s):=by
 refine .of_wp λprog w A R s h=>?_;obtain⟨hp,g,d,tk,os⟩:=s;obtain⟨hl,h⟩:=h
 wp_walk
 exact⟨_,rfl,h⟩
theorem aas:seqRepeat? (.type "tuple")=pure (some (.builtin "tuple.__mul__")):=by
 unfold seqRepeat?;rw[seqSlot_of (T := "tuple") (name := "__mul__") (id := "tuple.__mul__") fD.lookup (by decide +kernel),seqSlot_of (T := "tuple") (name := "__rmul__") (id := "tuple.__rmul__") F.slot_tuple_rmul.lookup (by decide +kernel)]
 rfl
def al4(K:Fg):R2:=λx y H Q=>∃a k xs,x=.ref a/\y=.int k/\SqT K H a xs/\xs≠[]/\2<=k/\k<2^63/\xs.length*k.toNat<=sizeLine/\∀p,H p=none->Q (.ref p) (upd H p (.tup (List.replicate k.toNat xs).flatten))
theorem aq8:OpR X (binaryOp .Mult) (al4 X.K):=by
 intro aA s σ H x y v u Q I rx ry h
 obtain⟨a,k,xs,rfl,rfl,ha,hx,h1,h2,hz,q⟩:=h;cases rx
 obtain⟨t,rfl⟩:=ry;obtain⟨its,r1,p1,_⟩:=I.tuple ha;obtain⟨⟨cls,dd,data,sl⟩,ho,hc,n,hd⟩:=id p1;simp only at hc hd;subst hc hd;have he:its.toArray.isEmpty=false:=by
  cases its with
  |nil=>exact(hx (r1.nil_iff.mp rfl)).elim
  |cons _ _=>rfl
 have hz2:its.toArray.size*k.toNat<=sizeLine:=by rw[ax,<-r1.length];exact hz
 have hnew:List.foldl (λx1 x2=>x1++x2) #[] (List.replicate k.toNat its.toArray)=(List.replicate k.toNat its).flatten.toArray:=by
  have:=foldl_rep its k.toNat []
  rw[cV]at this;exact this
 refine dB (T := "tuple") (U := "int") (by decide) ⟨_,ho,rfl⟩ (λs'=>eL s' k t) a1o fL cW aas fw.lookup
  (de cW (eL s k t) fz (eY _ _) (a5p k t a its.toArray n dd sl)
   ⟨ho,rfl,⟨_,ho,rfl⟩,de fD ⟨_,ho,rfl⟩ F.entry_tuple_mul (F.args_tuple_mul_2 _ _) (ahl a its.toArray n dd sl k t he h1 h2 hz2) ⟨ho,?_⟩⟩)
 rw[hnew];refine⟨.ref s.heap.objs.size,_,I.laid (t':=s.toks) (o:=.tup (List.replicate k.toNat xs).flatten) (λb ob q=>ag _ q) (aI _) ?_,rfl,q _ (I.hok.fresh (aI _))⟩;exact⟨by rw[len_rep,eM];exact hz,_,r1.rep k.toNat,PyProof.Rows.IsTup.new _ _⟩
end TPM
namespace MI
open L2 TPM
open Classical in
noncomputable def al5(x y:D)(h:Hd):R D:=match x,y with
 |.tup xs,.int k=>if (xs≠[]/\2<=k/\k<2^63)/\xs.length*k.toNat<=LINE then .ok (.tup (List.replicate k.toNat xs).flatten) h else .no
 |x,y=>au9 x y h
theorem a95:a1p K al5 (λx y H Q=>(rI CMul (λi j=>.int (i*j)) x y H Q\/atp x y H Q)\/al4 K x y H Q):=by
 intro E ι H h x y dx dy Q rx ry hr o
 cases rx with
 |@tup a vs xs ha rs =>
  cases ry with
  |int k =>
   simp only[al5]at o
   split at o
   ·rename_i hc;refine .inr ⟨a,k,vs,rfl,rfl,SqT.of ha,λz=>?_,hc.1.2.1,hc.1.2.2,ll (by rw[rs.len];exact hc.2),a0z (rs.flat _) hr o⟩
    subst z;cases rs
    exact hc.1.1 rfl
   ·exact o.elim
  |_=>exact o.elim
 |int i=>exact .inl (agz _ _ _ _ _ _ _ _ _ (.int i) ry hr o)
 |ref e=>exact .inl (agz _ _ _ _ _ _ _ _ _ (.ref e) ry hr o)
 |_=>exact o.elim
end MI
namespace L2
open PyProof.Rows
theorem al6:azd X (axb X.K):=by
 intro aA s σ H o i ov iv Q I ro ri h
 obtain⟨p,xs,k,z,rfl,rfl,hq,he,q⟩:=h;cases ro
 obtain⟨t,rfl⟩:=ri;obtain⟨its,r,pl,hz⟩:=I.list hq;obtain⟨j,h1,h2,h3,h4,h5⟩:=a8m he;obtain⟨w,ew,rw'⟩:=r.get h2;have len:=r.length;have l63:=a5k;have done:EP X aA σ Q w s:=⟨z,H,I,rw',q⟩
 by_cases neg:k<0
 ·have ej:(k+(its.toArray.size:Int)).toNat=j:=by
   rw[gO neg h4]at h1;rw[ax,<-len];exact bO h1
  exact wpAny_getItem_list_neg pl.isList neg (by rw[ax];omega) (by omega) (by rw[ej];simpa using ew) done
 ·have ej:k.toNat=j:=by
   rw[gW (by omega) h5]at h1
   exact bO h1
  exact wpAny_getItem_list pl.isList (by omega) (by omega) (by rw[ej];simpa using ew) done
end L2
namespace MI
open L2
def ajz(x y:D)(h:Hd):R D:=match x,y with
 |.ref p,.int i=>(match h[p]? with|some (.lst xs)=>(match atI xs i with|some d=>.ok d h|none=>.no)|_=>.no)
 |_,_=>.no
theorem aq9:a1p K ajz (axb K):=by
 intro E ι H h x y dx dy Q rx ry hr o
 cases rx with
 |@ref p i hp =>
  cases ry with
  |int k =>
   simp only[ajz]at o
   split at o
   ·rename_i xs hx;obtain⟨vs,h3,h4⟩:=hr.lst hp hx
    split at o
    ·rename_i d he;obtain⟨v,h1,h2⟩:=adn h4 he;exact⟨p,vs,k,v,rfl,rfl,SqL.of h3,h1,ans o h2 hr⟩
    ·exact o.elim
   ·exact o.elim
  |_=>exact o.elim
 |_=>exact o.elim
def a2v(g:D->D->Hd->R D)(fo fi fe:SE):SS:=λτ h=>(fo τ h).fl λo h1=>(fi τ h1).fl λi h2=>(ajz o i h2).fl λx h3=>(fe τ h3).fl λy h4=>(g x y h4).fl λz h5=>match put o i z h5 with|some h6=>.nx τ h6|none=>.no
section
variable{X:Cx}{E:XD}{e o i:Expr}{fa fb fc:SE}{pos:Pos}
theorem acf(ho:ME X E o fa)(hi:ME X E i fb)(he:ME X E e fc)(hp:OpR X (inplaceOp op) r)(hs:a1p X.K gg r)
  (ha:∀ov iv new,augStore i ov iv new=(do holding [new,ov,iv] (setItem ov iv new);release [new,ov,iv] [];pure .next):=by intros;rfl):MS X E (.AugAssign (.Subscript o i tpos) op e pos) (a2v gg fa fb fc):=by
 refine PS.weak (aoz ho hi al6 he hp set_list ha) ?_
 rintro N σ H ⟨ι,τ,h,S,Rh,oo⟩
 refine⟨ι,τ,h,S,Rh,v9 oo λd h1 ι1 H1 v g1 r1 hr1 o1=>?_⟩;refine⟨ι1,τ,h1,S.mono g1,hr1,v9 o1 λd2 h2 ι2 H2 u g2 r2 hr2 o2=>?_⟩;refine aq9 E ι2 H2 h2 v u d d2 _ (r1.mono g2) r2 hr2 (v9 o2 λd3 h3 ι3 H3 w g3 r3 hr3 o3=>?_);have S3:=((S.mono g1).mono g2).mono g3;refine⟨ι3,τ,h3,S3,hr3,v9 o3 λd4 h4 ι4 H4 y g4 r4 hr4 o4=>?_⟩;refine hs E ι4 H4 h4 w y d3 d4 _ (r3.mono g4) r4 hr4 (v9 o4 λd5 h5 ι5 H5 z g5 r5 hr5 o5=>?_)
 cases hq:put d d2 d5 h5 with
 |none=>rw[hq]at o5;exact o5.elim
 |some h6 =>
  rw[hq]at o5;exact agt ((((r1.mono g2).mono g3).mono g4).mono g5) (((r2.mono g3).mono g4).mono g5) r5 hr5 hq λH' g6 hr6=>o5 ι5 H' σ g6 (((S3.mono g4).mono g5).mono g6) hr6
end
end MI
namespace TPM
open PySem.W L2 HT MI
theorem af8(t b:Addr)(items2:Array Value)(n n2:Nat)(dd dd2:Option Addr)(sl sl2:Array (Option Value)) :
  Meets (Builtin.«tuple.__add__» ⟨[.ref t,.ref b],[]⟩) (λ_ R s=>s.heap.get? t=some {cls:=.type "tuple",dict:=dd,data:=.seq #[] n,slots:=sl}/\s.heap.get? b=some {cls:=.type "tuple",dict:=dd2,data:=.seq items2 n2,slots:=sl2}/\R (.ok (.ret (.ref b))) s):=by
 refine .of_wp λprog w A R s h=>?_;obtain⟨hp,g,d,tk,os⟩:=s;obtain⟨hl,hb,h⟩:=h
 wp_walk
 refine wpAny_of_eq sub_tuple_self ?_
 wp_walk
 exact⟨_,rfl,h⟩
def aun(K:Fg):R2:=λx y H Q=>∃a b ys,x=.ref a/\y=.ref b/\SqT K H a []/\SqT K H b ys/\Q (.ref b) H
theorem aqa:OpR X (binaryOp .Add) (aun X.K):=by
 intro aA s σ H x y v u Q I rx ry h
 obtain⟨a,b,ys,rfl,rfl,ha,hb,q⟩:=h;cases rx
 cases ry
 obtain⟨its,r1,p1,_⟩:=I.tuple ha;obtain⟨its2,r2,p2,_⟩:=I.tuple hb;cases r1
 obtain⟨⟨cls,dd,data,sl⟩,ho,hc,n,hd⟩:=id p1;obtain⟨⟨cls2,dd2,data2,sl2⟩,ho2,hc2,n2,hd2⟩:=id p2;simp only at hc hd hc2 hd2;subst hc hd hc2 hd2;exact concat_meets ⟨_,ho,rfl⟩ ⟨_,ho2,rfl⟩ gJ seq_tuple_add F.slot_tuple_add F.entry_tuple_add (F.args_tuple_add_2 _ _) (af8 a b its2.toArray n n2 dd dd2 sl sl2) ⟨ho,ho2,⟨.ref b,H,I,rfl,q⟩⟩
end TPM
namespace TPM
open PySem.W L2 HT MI PyProof.Rows
theorem acg(n:Nat):Builtin.Slice.sliceAdjust none none (-1) (n:Int)=((n:Int)-1,-1):=by
 unfold Builtin.Slice.sliceAdjust;simp
theorem ach(n:Nat):Builtin.Slice.slicePlaces ((n:Int)-1) (-1) (-1)=n:=by
 unfold Builtin.Slice.slicePlaces;rw[bE (by decide)]
 by_cases z:n=0
 ·subst z;rfl
 ·rw[aO (by omega),show(- -1:Int)=1 from rfl,gM];omega
theorem aat{s:Shared}{n:Nat}(hs:s.heap.IsSliceOf sl .none .none (.int (-1) t))
  (h:Q ((n:Int)-1,-1,n) s):wpAny (model prog w) A (Builtin.Slice.sliceApplied (.ref sl) (pure (n:Int))) Q E s:=by
 obtain⟨os,hos,hcs,hds⟩:=id hs;rw[Builtin.Slice.sliceApplied,Builtin.Slice.sliceFields]
 apply ar;apply ar
 apply cL hos hds (x:=.none) rfl
 apply ar;apply cL hos hds (x:=.none) rfl
 apply ar;apply cL hos hds (x:=.int (-1) t) rfl
 apply aS
 apply ar;apply a0r (.int (-1) t)
 dsimp only[Option.getD];rw[bE (by decide)]
 apply ar;apply a0r .none
 apply ar;apply a0r .none
 apply ar;apply aS
 rw[acg];dsimp only;rw[ach];exact aS h
theorem adx{α β:Type}{f:α->Option β}{g:α->β}:∀{l:List α},(∀k∈l,f k=some (g k))->l.filterMap f=l.map g
 |[],_=>rfl
 |x::l,h=>by rw[cp,h x (aQ ..),bI,adx λk hk=>h k (aK _ hk)]
theorem ahm(xs:Array Value):((List.range xs.size).filterMap λ(k:Nat)=>xs[(((xs.size:Nat):Int)-1+(k:Int) * -1).toNat]?).toArray=xs.toList.reverse.toArray:=by
 congr 1
 apply eF
 intro i
 have e:(List.range xs.size).filterMap (λ(k:Nat)=>xs[(((xs.size:Nat):Int)-1+(k:Int) * -1).toNat]?)=(List.range xs.size).map λk=>xs[xs.size-1-k]?.getD default:=by
  apply adx
  intro k hk
  rw[bS]at hk;have:(((xs.size:Nat):Int)-1+(k:Int) * -1).toNat=xs.size-1-k:=by omega
  rw[this,dD (by omega)]
  rfl
 rw[e]
 by_cases hi:i<xs.size
 ·rw[aM,cy hi,fq (by simpa using hi)]
  simp
  rw[dD (by omega)]
  rfl
 ·rw[bQ (by simp;omega),bQ (by simp;omega)]
theorem ahn{s:Shared}(ht:PyProof.Rows.IsTup s.heap t aC)(hs:s.heap.IsSliceOf sl .none .none (.int (-1) u))
  (h:Q (.ref s.heap.objs.size) {s with heap:=s.heap.push {cls:=.type "tuple",data:=.seq aC.toList.reverse.toArray} }) (hsz:aC.size<=sizeLine):wpAny (model prog w) A (getItem (.ref t) (.ref sl)) Q E s:=by
 have fits:sizeOk (.seq aC.toList.reverse.toArray):=by
  show aC.toList.reverse.toArray.size<=sizeLine;rw[ax,cG,cU];exact hsz
 obtain⟨os,f1,f2,f3⟩:=id hs;have ty:s.TypeIs (.ref sl) "slice":=⟨os,f1,f2⟩;have tt:s.TypeIs (.ref t) "tuple":=ht.typeIs;rw[getItem]
 try apply dP
 first|(apply ar;apply aS)|skip
 apply ar;apply gu tt (by decide)
 apply ar
 apply cA (name:=Str.ofString "__getitem__") tt bF
 apply da bF tt eV _ (eZ _ _)
 change wpAny (model prog w) A.in1 (Builtin.Tuple.tupleItemsOf (.ref t)>>=_) _ _ s
 apply ar;apply fT ht
 apply ar;apply gN ty
 rw[aO (by decide)]
 apply ar;apply aat hs
 dsimp only;rw[bE (by simp),ahm]
 first
  |exact ar (m:=Builtin.Tuple.tupleExact _) (cI (aS ⟨_,rfl,aS h⟩) fits)
  |exact ar (ar (m:=Builtin.Tuple.tupleExact _) (cI (aS ⟨_,rfl,aS h⟩) fits))
def ayq(K:Fg)(te tk:TE):TE:=λσ H Q=>te σ H λx H1=>tk σ H1 λk H2=>k=.int (-1)/\∃a xs,x=.ref a/\SqT K H2 a xs/\∀p,H2 p=none->Q (.ref p) (upd H2 p (.tup xs.reverse))
theorem aqb{X:Cx}{e st:Expr}{te tk:TE}{p2 pos:Pos}(he:PE X e te)(hk:PE X st tk):PE X (.Subscript e (.Slice none none (some st) p2) pos) (ayq X.K te tk):=by
 intro aA s σ H Q I h
 refine Subscript_ (thn (he aA s σ H _ I h) λv s1 ⟨x,H1,I1,r1,q1⟩=>?_);refine gV ?_;rw[fI];refine aS (aS ?_);rw[gE];refine thn (hk aA s1 σ H1 _ I1 q1) ?_
 rintro u s3 ⟨k,H3,I3,rk,ek,a,xs,ea,hx,q⟩
 subst ek ea;obtain⟨t,rfl⟩:=rk;cases r1
 have I4:Inv X aA σ H3 {s3 with heap:=s3.heap.push {cls:=.type "slice",data:=.fields #[.none,.none,.int (-1) t]} }:=I3.kept (t':=s3.toks) λb ob q=>ag _ q
 obtain⟨its,r,ht,hz⟩:=I4.tuple hx;have aG:its.toArray.size=xs.length:=by rw[ax];exact r.length.symm
 refine tail_any (T := "tuple") (ops:=[.ref a,.ref s3.heap.objs.size]) ht.typeIs bF.lookup ?_ (by with_unfolding_all rfl)
 refine ahn ht (fX ..) ?_ (by rw[aG];exact hz)
 refine⟨.ref _,_,I4.laid (t':=s3.toks) (o:=.tup xs.reverse) (λb ob q=>ag _ q) (aI _) ?_,rfl,q _ (I4.hok.fresh (aI _))⟩;exact⟨by rw[cG];exact hz,_,r.reverse,PyProof.Rows.IsTup.new _ _⟩
end TPM
namespace MI
open L2 TPM
def al7(f g:SE):SE:=λτ h=>(f τ h).bind λd h1=>(g τ h1).bind λk h2=>match d,k with
 |.tup xs,.int i=>if i = -1 then .ok (.tup xs.reverse) h2 else .no
 |_,_=>.no
theorem a96:∀{vs:List V} {xs:List D} {ws:List V} {ys:List D},Reps K ι H vs xs->Reps K ι H ws ys->Reps K ι H (vs.reverse++ws) (xs.reverse++ys)
 |_,_,_,_,.nil,r2=>r2
 |_,_,_,_,.cons r rs,r2=>by
  rw[eD,eD,dJ,dJ];exact a96 rs (.cons r r2)
theorem aqc{X:Cx}{E:XD}{e st:Expr}{f g:SE}{p2 pos:Pos}(he:ME X E e f)(hk:ME X E st g):ME X E (.Subscript e (.Slice none none (some st) p2) pos) (al7 f g):=by
 refine PE.weak (aqb he hk) ?_
 rintro σ H Q ⟨ι,τ,h,S,Rh,o⟩
 refine⟨ι,τ,h,S,Rh,bx o λd h1 ι1 H1 v g1 r1 hr1 o1=>?_⟩;refine⟨ι1,τ,h1,S.mono g1,hr1,bx o1 λk h2 ι2 H2 u g2 r2 hr2 o2=>?_⟩;have r1':=r1.mono g2
 cases r1' with
 |@tup a vs xs ha rs =>
  cases r2 with
  |int i =>
   by_cases z:i = -1
   ·subst z;simp only[dR]at o2;have rr:=a96 rs .nil;rw[bJ,bJ]at rr;exact⟨rfl,a,vs,rfl,SqT.of ha,a0z rr hr2 o2⟩
   ·simp only[bE z]at o2;exact o2.elim
  |_=>exact o2.elim
 |_=>exact o2.elim
end MI
namespace L2
open PyProof.Rows
section
variable{X:Cx}
theorem Inv.lstR(I:Inv X aA σ H s)(hH:Rd H l (.lst xs)):xs.length<=sizeLine/\∃(its:List Value) (n:Nat),Vals xs its/\xs.length=its.length/\s.heap.get? l=some {cls:=.type "list",data:=.seq its.toArray n}:=by
 obtain⟨z,its,n,r,e⟩:=hH.ok I.hok;exact⟨z,its,n,r,r.length,e⟩
def auo:R2:=λx y H Q=>∃l b xs zs,x=.ref l/\y=.ref b/\Rd H l (.lst xs)/\Rd H b (.lst zs)/\xs.length+zs.length<=sizeLine/\∀p,H p=none->Q (.ref p) (upd H p (.lst (xs++zs)))
theorem aqd:OpR X (binaryOp .Add) auo:=λaA s σ H x y v u Q I rx ry ⟨l,b,xs,zs,ex,ey,h1,h2,hz,q⟩=>by
 subst ex ey;cases rx
 cases ry
 obtain⟨_,as,_,va,la,ea⟩:=I.lstR h1;obtain⟨_,bs,_,vb,lb,eb⟩:=I.lstR h2;have app:as.toArray++bs.toArray=(as++bs).toArray:=by simp
 refine PySem.P.add_list ea eb ?_ (by simp;omega)
 rw[app];exact⟨.ref _,_,I.lnew (t':=s.toks) (va.append vb) (by simpa using hz),rfl,q _ I.fresh⟩
def aup:R2:=λx y H Q=>∃l k xs,x=.ref l/\y=.int k/\Rd H l (.lst xs) /\ -(2^63)<=k/\k<2^63/\xs.length*k.toNat<=sizeLine/\∀p,H p=none->Q (.ref p) (upd H p (.lst (List.replicate k.toNat xs).flatten))
theorem aqe(its:List Value)(k:Nat):List.foldl (λx1 x2=>x1++x2) #[] (List.replicate (if its.toArray.isEmpty=true then 0 else k) its.toArray)=(List.replicate k its).flatten.toArray:=by
 have g:∀m:Nat,List.foldl (λx1 x2=>x1++x2) #[] (List.replicate m its.toArray)=(List.replicate m its).flatten.toArray:=λm=>by simpa using foldl_rep its m []
 cases its with
 |nil=>simp
 |cons a r=>rw[bE (by simp),g]
theorem aqf:OpR X (binaryOp .Mult) aup:=λaA s σ H x y v u Q I rx ry ⟨l,k,xs,ex,ey,h1,k1,k2,hz,q⟩=>by
 subst ex ey;cases rx
 obtain⟨t,rfl⟩:=ry;obtain⟨_,as,n,va,la,ea⟩:=I.lstR h1;have few:as.toArray.size*k.toNat<=sizeLine:=by rw[ax,<-la];exact hz
 have top:(sizeLine:Nat)<=(2^63-1) / 8:=by decide
 refine dB (T := "list") (U := "int") (by decide) ⟨_,ea,rfl⟩ (λs'=>eL s' k t) noFill_list_mul fL cW repeat_list fw.lookup
  (de cW (eL s k t) fz (eY _ _) (int___rmul___int_list k t l as.toArray n)
   ⟨ea,rfl,⟨_,ea,rfl⟩,de F.slot_list_mul ⟨_,ea,rfl⟩ F.entry_list_mul (F.args_list_mul_2 _ _)
    (eP l as.toArray n k t (by rw[fitsIndex_both k1 k2];exact br) (by omega) (by rw[ad7 few];exact br)) ⟨ea,?_⟩⟩)
 rw[aqe];exact⟨.ref _,_,I.lnew (t':=s.toks) (va.rep k.toNat) (by rw[len_rep,eM];exact hz),rfl,q _ I.fresh⟩
end
end L2
namespace MI
open L2 TPM
def yu(d:D)(h:Hd):Option (List D):=match d with
 |.rol xs=>some xs
 |.ref i=>(match h[i]? with|some (.lst xs)=>some xs|_=>none)
 |_=>none
section
variable{K:Fg}{ι:List Addr}{H:Hp}{h:Hd}
theorem a2p(r:Rep K ι H x d)(hr:HRep K ι H h)(e:yu d h=some xs):∃a vs,x=.ref a/\Rd H a (.lst vs)/\Reps K ι H vs xs:=by
 cases r with
 |@rol a vs ys hp rs=>cases e;exact⟨a,vs,rfl,.inr hp,rs⟩
 |@ref a i hp =>
  obtain⟨ob,e1,e2⟩:=hr.at hp;simp only[yu,e1]at e
  cases ob with
  |lst ys=>cases e;obtain⟨vs,h3,h4⟩:=e2;exact⟨a,vs,rfl,.inl h3,h4⟩
  |_=>cases e
 |_=>cases e
def ie:D->D->Hd->R D
 |.int i,.int j,h=>.ok (.int (i+j)) h
 |.str x,.str y,h=>if x.length+y.length<=LINE then .ok (.str (x++y)) h else .no
 |.tup [],.tup ys,h=>.ok (.tup ys) h
 |.tup (x::xs),.tup ys,h=>if (x::xs).length+ys.length<=LINE then .ok (.tup (x::xs++ys)) h else .no
 |x,y,h=>match yu x h,yu y h with
  |some xs,some ys=>if xs.length+ys.length<=LINE then .ok (.ref h.length) (h++[.lst (xs++ys)]) else .no
  |_,_=>.no
theorem aho(e1:yu x h=some xs)(e2:yu y h=some ys):ie x y h=if xs.length+ys.length<=LINE then .ok (.ref h.length) (h++[.lst (xs++ys)]) else .no:=by
 cases x<;>first|(cases e1;done)|(cases y<;>first|(cases e2;done)|(simp only[ie,e1,e2]))
theorem aqg(x y:D)(h:Hd):(∃i j,x=.int i/\y=.int j)\/(∃i j,x=.str i/\y=.str j)\/(∃xs ys,x=.tup xs/\y=.tup ys)\/(∃xs ys,yu x h=some xs/\yu y h=some ys)\/ie x y h=.no:=by
 cases e1:yu x h with
 |some xs =>
  cases e2:yu y h with
  |some ys=>exact .inr (.inr (.inr (.inl ⟨xs,ys,rfl,rfl⟩)))
  |none =>
   refine .inr (.inr (.inr (.inr ?_)))
   cases x<;>first|(cases e1;done)|(simp only[ie,e1,e2])
 |none =>
  cases x with
  |int i=>cases y<;>first|exact .inl ⟨_,_,rfl,rfl⟩|exact .inr (.inr (.inr (.inr rfl)))
  |str i=>cases y<;>first|exact .inr (.inl ⟨_,_,rfl,rfl⟩)|exact .inr (.inr (.inr (.inr rfl)))
  |tup i=>cases y<;>first|exact .inr (.inr (.inl ⟨_,_,rfl,rfl⟩))|(cases i<;>exact .inr (.inr (.inr (.inr rfl))))
  |_=>refine .inr (.inr (.inr (.inr ?_)));simp only[ie,e1]
theorem al8:a1p K ie (λx y H Q=>(rI0 (λi j=>.int (i+j)) x y H Q\/(∃i j,x=.str i/\y=.str j/\i.length+j.length<=sizeLine/\Q (.str (i++j)) H)\/atl K x y H Q\/auo x y H Q)\/aun K x y H Q):=by
 intro E ι H h x y dx dy Q rx ry hr o
 rcases aqg dx dy h with⟨i,j,rfl,rfl⟩|⟨i,j,rfl,rfl⟩|⟨xs,ys,rfl,rfl⟩|⟨xs,ys,e1,e2⟩|e
 ·cases rx;cases ry
  exact .inl (.inl ⟨i,j,rfl,rfl,ans o (.int _) hr⟩)
 ·cases rx;cases ry
  simp only[ie]at o
  split at o
  ·rename_i hc;exact .inl (.inr (.inl ⟨i,j,rfl,rfl,ll hc,ans o (.str _) hr⟩))
  ·exact o.elim
 ·cases rx with
  |@tup a vs _ ha r1 =>
  cases ry with
  |@tup b us _ hb r2 =>
  cases xs with
  |nil=>cases r1;exact .inr ⟨a,b,us,rfl,rfl,SqT.of ha,SqT.of hb,ans o (.tup hb r2) hr⟩
  |cons z xs =>
   simp only[ie]at o
   split at o
   ·rename_i hc;refine .inl (.inr (.inr (.inl ⟨a,b,vs,us,rfl,rfl,SqT.of ha,SqT.of hb,λz=>(by subst z;cases r1),ll (by rw[r1.len,r2.len];exact hc),λz=>?_,λ_=>?_⟩)))
    ·subst z;cases r2
     rw[bJ]at o;exact ans o (.tup ha r1) hr
    ·exact a0z (r1.app r2) hr o
   ·exact o.elim
 ·rw[aho e1 e2]at o;obtain⟨a,vs,rfl,h1,h2⟩:=a2p rx hr e1;obtain⟨b,us,rfl,h3,h4⟩:=a2p ry hr e2
  split at o
  ·rename_i hc;exact .inl (.inr (.inr (.inr ⟨a,b,vs,us,rfl,rfl,h1,h3,ll (by rw[h2.len,h4.len];exact hc),zc (h2.app h4) hr o⟩)))
  ·exact o.elim
 ·rw[e]at o;exact o.elim
theorem fj(ha:ME X E a fa)(hb:ME X E b fb):ME X E (.BinOp a .Add b pos) (s2 ie fa fb) :=
 ac2 (OpR.or (at9.or (aex.or (apb.or aqd))) aqa) al8 ha hb
open Classical in
noncomputable def a1r(x y:D)(h:Hd):R D:=match y with
 |.int k=>(match x with
  |.int i=>if CMul i k then .ok (.int (i*k)) h else .no
  |_=>match yu x h with
   |some xs=>if (-(2^63)<=k/\k<2^63)/\xs.length*k.toNat<=LINE then .ok (.ref h.length) (h++[.lst (List.replicate k.toNat xs).flatten]) else .no
   |none=>.no)
 |_=>.no
theorem al9:a1p K a1r (λx y H Q=>rI CMul (λi j=>.int (i*j)) x y H Q\/aup x y H Q):=by
 intro E ι H h x y dx dy Q rx ry hr o
 cases dy with
 |int k =>
  obtain rfl:=ah4 ry
  cases hx:yu dx h with
  |some xs =>
   obtain⟨a,vs,rfl,h1,h2⟩:=a2p rx hr hx;have o':out K E (yq K) ι H (if (-(2^63)<=k/\k<2^63)/\xs.length*k.toNat<=LINE then .ok (.ref h.length) (h++[.lst (List.replicate k.toNat xs).flatten]) else .no) Q:=by
    cases dx<;>first|(cases hx;done)|(simp only[a1r,hx]at o;exact o)
   split at o'
   ·rename_i hc;exact .inr ⟨a,k,vs,rfl,rfl,h1,hc.1.1,hc.1.2,ll (by rw[h2.len];exact hc.2),zc (h2.flat _) hr o'⟩
   ·exact o'.elim
  |none =>
   cases dx with
   |int i =>
    obtain rfl:=ah4 rx
    by_cases hc:CMul i k
    ·simp only[a1r,aO hc]at o;exact .inl ⟨i,k,rfl,rfl,hc,ans o (.int _) hr⟩
    ·simp only[a1r,bE hc]at o;exact o.elim
   |_=>simp only[a1r,hx]at o;exact o.elim
 |_=>exact o.elim
theorem a97(ha:ME X E a fa)(hb:ME X E b fb):ME X E (.BinOp a .Mult b pos) (s2 a1r fa fb):=ac2 (an5.or aqf) al9 ha hb
end
end MI
namespace MI
open L2
def a84(d:D)(h:Hd):Option (List Int):=match d with
 |.ref i=>(match h[i]? with|some (.lst xs)=>a8x xs|_=>none)
 |.rol xs=>a8x xs
 |_=>none
theorem aau(r:Rep K ι H v d)(hr:HRep K ι H h)(e:a84 d h=some ns):∃p,v=.ref p/\SqL K H p (ns.map V.int):=by
 unfold a84 at e
 split at e
 ·cases r with
  |@ref p _ hp =>
   split at e
   ·rename_i xs hx;obtain⟨vs,h3,h4⟩:=hr.lst hp hx;exact⟨p,rfl,SqL.of (by rw[h3,a3y h4 e])⟩
   ·cases e
 ·cases r with
  |@rol p vs xs hp r=>exact⟨p,rfl,by rw[<-a3y r e];exact hp.l⟩
 ·cases e
end MI
namespace L2
open PyProof.Rows
section
variable{X:Cx}
theorem a98:CallR X (.builtin "sorted") (λxs H Q=>∃(p:Addr) (ns:List Int),xs=[.ref p]/\SqL X.K H p (ns.map V.int)/\ns.length<64/\∀l,H l=none->Q (.ref l) (upd H l (.lst ((PySem.W.sortI ns).map V.int)))):=by
 intro aA s σ H xs us Q I r ⟨p,ns,e,hq,h64,q⟩
 subst e;obtain⟨u,rfl,ru⟩:=vals1 r;cases ru
 obtain⟨its,r',pl,hz⟩:=I.list hq;have hI:IntsAre its ns:=intsAre_of r';have hl:its.length=ns.length:=by have:=r'.length;simp at this;omega
 refine sorted_ints pl.isList hI (by omega) λout ns' a1 a2 a3=>?_
 obtain⟨e,he⟩:=sortedAll_at s.heap its out;have e2:ns'=PySem.W.sortI ns:=PySem.W.eq_sortI a2 a3;subst e2;have ln:(PySem.W.sortI ns).length=ns.length:=(PySem.W.sortI_perm ns).length_eq;refine⟨.ref (s.heap.objs.size+1),_,I.laid (t':=s.toks) (λ_ _=>sortedAll_old) (gX _) (show ObjOk X.prog X.w _ _ _ (.lst ((PySem.W.sortI ns).map V.int)) from ⟨by rw[ai,ln];have:=eX;omega,out.toList,e,a6q a1,by simpa[seqObj] using he⟩),rfl,q _ (I.hok.fresh (gX _))⟩
end
end L2
namespace MI
open L2
def a3i:List D->Hd->R D
 |[d],h=>(match a84 d h with|some ns=>if ns.length<64 then .ok (.ref h.length) (h++[.lst ((PySem.W.sortI ns).map D.int)]) else .no|none=>.no)
 |_,_=>.no
theorem a85:∀ns:List Int,Reps K ι H (ns.map V.int) (ns.map D.int)
 |[]=>.nil
 |n::ns=>.cons (.int n) (a85 ns)
theorem af9:afw K a3i (λxs H Q=>∃(p:Addr) (ns:List Int),xs=[.ref p]/\SqL K H p (ns.map V.int)/\ns.length<64/\∀l,H l=none->Q (.ref l) (upd H l (.lst ((PySem.W.sortI ns).map V.int)))):=by
 intro E ι H h xs ds Q r hr o
 unfold a3i at o
 split at o
 ·cases r with
  |cons r rs =>
   cases rs
   split at o
   ·rename_i ns e
    split at o
    ·rename_i hl;obtain⟨p,rfl,q⟩:=aau r hr e;exact⟨p,ns,rfl,q,hl,zc (a85 _) hr o⟩
    ·exact o.elim
   ·exact o.elim
 ·exact o.elim
end MI
namespace L2
open PyProof.Rows
def ixI(n:Int):List Int->Option Nat
 |[]=>none
 |a::l=>if a=n then some 0 else (ixI n l).map (·+1)
theorem ady:∀{l:List Int} {j:Nat},ixI n l=some j->l[j]? = some n/\∀i,i<j->l[i]?≠some n
 |[],_,h=>by cases h
 |a::l,j,h=>by
  unfold ixI at h
  split at h
  ·rename_i e;cases h
   exact⟨by rw[e];rfl,λi hi=>absurd hi (Nat.not_lt_zero i)⟩
  ·rename_i e;obtain⟨k,hk,rfl⟩:=aP.mp h;obtain⟨h1,h2⟩:=ady hk;refine⟨h1,λi hi=>?_⟩
   cases i with
   |zero=>intro z;exact e (bO z)
   |succ i=>exact h2 i (Nat.lt_of_succ_lt_succ hi)
theorem adz:∀{l:List Int},n∈l->∃j,ixI n l=some j
 |[],h=>by cases h
 |a::l,h=>by
  unfold ixI
  split
  ·exact⟨0,rfl⟩
  ·rename_i e
   rcases aR.mp h with h|h
   ·exact absurd h.symm e
   ·obtain⟨j,hj⟩:=adz h;exact⟨j+1,by rw[hj];rfl⟩
def eqI(n:Int):Value->Bool
 |.int a _=>a == n
 |_=>false
def ahp(K:Fg):V->List V->Hp->VK->Prop:=λx vs H Q=>∃(l:Addr) (ns:List Int) (n:Int) (j:Nat),x=.ref l/\vs=[.int n]/\SqL K H l (ns.map V.int)/\ixI n ns=some j/\Q (.int (j:Nat)) H
theorem ahq:MtR X "list.index" (ahp X.K):=by
 intro aA s σ H x vs v us Q I rx rv h
 obtain⟨l,ns,n,j,rfl,rfl,hq,hj,q⟩:=h;cases rx
 obtain⟨u,rfl,ru⟩:=rv.one;obtain⟨t,rfl⟩:=ru;obtain⟨its,r,⟨⟨cls,dict,data,slots⟩,m,e1,e2,e3,e4⟩,hz⟩:=I.list hq;have e2:cls=.type "list":=e2;have e3:dict=none:=e3;have e4:data=.seq its.toArray m:=e4;subst e2 e3 e4;have hl:its.length=ns.length:=by have:=r.length;simp at this;omega
 have each:∀i (h:i<its.length),∃a t,its[i]=.int a t/\ns[i]? = some a:=λi h=>by
  obtain⟨y,h1,h2⟩:=r.get (show(ns.map V.int)[i]? = some (V.int (ns[i]'(by omega))) by rw[aM,ae (by omega)];rfl)
  obtain⟨t,rfl⟩:=h2;exact⟨_,t,(af.mp h1).2,ae _⟩
 obtain⟨p1,p2⟩:=ady hj;have jl:j<ns.length:=(af.mp p1).1;rw[ai]at hz;rw[eX]at hz;refine de F.slot_list_index ⟨_,e1,rfl⟩ F.entry_list_index (F.args_list_index_2 _ _)
  (SeqAt.list_indexAt l its.toArray m none slots (.int n t) (eqI n) j (by simp;omega) (by omega) ?_ ?_) ⟨e1,λy hy=>?_,.int (j:Nat),H,I.tok _,⟨_,rfl⟩,q⟩
 ·obtain⟨a,t,h1,h2⟩:=each j (by omega)
  rw[p1]at h2;cases h2
  rw[List.getElem_toArray,h1];exact fE _
 ·intro i hi hij
  obtain⟨a,t,h1,h2⟩:=each i (by simpa using hi)
  rw[List.getElem_toArray,h1];exact cF.mpr λz=>p2 i hij (by rw[h2,z])
 ·obtain⟨i,hi,rfl⟩:=fO (List.mem_toArray.mp hy);obtain⟨a,t',h1,_⟩:=each i hi;rw[h1];exact SeqAt.EqAt.int_int a t' n t
end L2
namespace MI
open L2
def a74(d:D)(ds:List D)(h:Hd):R D:=match a84 d h,ds with
 |some ns,[.int n]=>(match ixI n ns with|some j=>.ok (.int (j:Nat)) h|none=>.no)
 |_,_=>.no
theorem afa:apz K a74 (ahp K):=by
 intro E ι H h x dx xs ds Q rx r hr o
 unfold a74 at o
 split at o
 ·rename_i ns n e
  cases r with
  |cons r rs =>
   cases r;cases rs
   split at o
   ·rename_i j hj;obtain⟨p,rfl,q⟩:=aau rx hr e;exact⟨p,ns,n,j,rfl,rfl,q,hj,ans o (.int _) hr⟩
   ·exact o.elim
 ·exact o.elim
def azn:D->Option Key
 |.int i=>some (.inl i)
 |.str x=>some (.inr x)
 |_=>none
def b14:D->Option (List Key)
 |.tup xs=>a00 azn xs
 |_=>none
def putD{κ:Type}[DecidableEq κ](kvs:List (κ×D))(k:κ)(d:D):List (κ×D):=if (kvs.any λkv=>decide (kv.1=k))=true then kvs.map λkv=>if kv.1=k then (kv.1,d) else kv else kvs++[(k,d)]
section
variable{K:Fg}{ι:List Addr}{H:Hp}{h:Hd}
variable{X:Cx}{E:XD}{a b e o i:Expr}{fa fb fc:SE}{pos:Pos}
def b15(o k v:D)(h:Hd):Option Hd:=match o with
 |.ref i=>(match h[i]? with
  |some (.dK kvs)=>(match azn k with|some kk=>if kvs.length<LINE then some (h.set i (.dK (putD kvs kk v))) else none|none=>none)
  |some (.dT kvs)=>(match b14 k with|some kk=>if kvs.length<LINE then some (h.set i (.dT (putD kvs kk v))) else none|none=>none)
  |_=>none)
 |_=>none
def ala(fe fo fi:SE):SS:=λτ h=>(fe τ h).fl λv h1=>(fo τ h1).fl λo h2=>(fi τ h2).fl λk h3=>match b15 o k v h3 with|some h4=>.nx τ h4|none=>.no
end
end MI
namespace ZP
open PySem.Builtin PySem.Builtin.SmallTypes L2
def a5q(it:Addr):Obj:={cls:=.type "enumerate",data:=.fields #[.none,.bool false,.ref it,rawInt 0,.none,.none]}
theorem ahr(t:Tok)(k:Srk)(us:List Value):Meets (Builtin.«enumerate.__new__» ⟨[.type "enumerate",val t k],[]⟩)
  (λ_ R s=>cont s.heap k us/\R (.ok (.ret (.ref (s.heap.objs.size+1)))) {s with heap:=(s.heap.push (iob t k)).push (a5q s.heap.objs.size)}) :=
 .of_wp λprog w A R s h=>by
  obtain⟨hp,g,d,tk,os⟩:=s;obtain⟨c,h⟩:=h;have sub:=sub_enumerate;have c':cont (Shared.heap ⟨hp,g,d,tk,os⟩) k us:=c;have fin:R (.ok (.ret (.ref (hp.push (iob t k)).objs.size))) {heap:=(hp.push (iob t k)).push (a5q hp.objs.size),gens:=g,drawn:=d,toks:=tk,os:=os}:=by simpa[cN] using h
  wp_walk
  refine wpAny_stack_any λst=>aS ?_
  split
  ·rename_i cl _ _ _ _ _
   cases (cl == Value.type "enumerate")
   ·wp_walk using a4b (t:=t) c'
    exact⟨_,rfl,fin⟩
   ·wp_walk using a4b (t:=t) c'
    exact⟨_,rfl,fin⟩
  ·wp_walk using a4b (t:=t) c'
   exact⟨_,rfl,fin⟩
def ItE(k:Srk):It where
 go:=λi H=>∃xs x,its H k=some xs/\xs[i]? = some x
 yld:=λi H v H'=>∃xs x p,its H k=some xs/\xs[i]? = some x/\H p=none/\v=.ref p/\H'=upd H p (.tup [.int i,x])
 stop:=λi H=>∃xs,its H k=some xs/\i=xs.length
def tnE(e it:Addr)(t:Tok)(k:Srk)(i:Nat)(h:Heap):Prop:=(∃old,IsEnum h e it i old)/\own it t k i h
theorem ahs(ne:e≠it):Turn P w K (.Tuple elts x1 pos) (ItE k) [e,it] e (tnE e it t k) where
 mem:=by simp
 obj:=λi h st b hb=>by
  obtain⟨⟨old,h1⟩,h4⟩:=st;simp only[aR,bg,cE]at hb
  rcases hb with rfl|rfl
  ·exact⟨_,h1,λv z=>(by cases z)⟩
  ·exact a4y h4
 keep:=λi h h' st kk=>by
  obtain⟨⟨old,h1⟩,h4⟩:=st;exact⟨⟨old,kk e (by simp) _ h1⟩,a2m h4 λob q=>kk it (by simp) ob q⟩
 item:=by
  intro X hP hw hK hc i aA s σ H E I hf st hg
  subst hP hw hK;obtain⟨xs,x,e1,g1⟩:=hg;obtain⟨⟨old,h1⟩,h4⟩:=st;have n:∀c∈[e,it],H c=none:=λc hc=>(hf c hc).1;obtain⟨cs,P1,S1,D1,a1,b1,c1,d1⟩:=a4z I (t:=t) e1 (n it (by simp))
  have hd:=I.ok.hd hc;have ef:e∉it::cs:=by
   intro z
   rcases aR.mp z with z|z
   ·exact ne z
   ·exact c1 e z (n e (by simp))
  refine wpAny_pyNext_enum_itemD (D1 X.A.in1 hd) h1 (a1 i h4) (af.mp g1).1 ne ef λu h' tk pu eo s1' pr sz kp=>?_;obtain⟨x',q1,r1⟩:=d1 i u pu;rw[g1]at q1;cases q1
  refine⟨_,rfl,wpAny_letOwnedTupleGo_enum eo λh2' z2' sb=>?_⟩;have hp:H s.heap.objs.size=none:=I.hok.fresh (aI _);have lt:∀c∈[e,it],c<s.heap.objs.size:=λc hc=>by
   simp only[aR,bg,cE]at hc
   rcases hc with rfl|rfl
   ·exact aV h1
   ·obtain⟨_,q,_⟩:=a4y h4;exact aV q
  have nT:∀c∈[e,it],c≠s.heap.objs.size:=λc hc=>bR (lt c hc);have all:∀c o,c∉[e,it]->s.heap.get? c=some o->h2'.get? c=some o:=λc o nc q=>by
   simp only[aR,bg,cE,not_or]at nc;exact(sb.2 c nc.1).trans (kp c o nc.1 nc.2 q)
  have I0:Inv X aA σ (upd H s.heap.objs.size (.tup [.int i,x])) {s with heap:=s.heap.push {cls:=.type "tuple",data:=.seq #[.int i tk,u]} } :=
   I.laid (t':=s.toks) (o:=.tup [.int i,x]) (λb o q=>ag _ q) (aI _) ⟨by show 2<=sizeLine;decide,[.int i tk,u],.cons ⟨tk,rfl⟩ (.cons r1 .nil),⟨_,aW _ rfl,rfl,_,rfl⟩⟩
  have I1:Inv X aA σ (upd H s.heap.objs.size (.tup [.int i,x])) {s with heap:=h2',toks:=tk+1}:=by
   refine a92 (s:={s with heap:=s.heap.push {cls:=.type "tuple",data:=.seq #[.int i tk,u]} }) (ch:=[e,it]) I0 (λb hb=>?_) λc o nc q=>?_
   ·obtain⟨f0,f1⟩:=hf b hb;exact⟨by rw[jg (nT b hb)];exact f0,f1⟩
   ·rcases Heap.get?_push_cases q with⟨rfl,rfl⟩|q
    ·exact(sb.2 _ (nT e (by simp)).symm).trans pr
    ·exact all c o nc q
  refine⟨.ref s.heap.objs.size,_,I1,rfl,⟨xs,x,_,e1,g1,hp,rfl,rfl⟩,⟨⟨u,by simpa using z2'⟩,a2m (b1 _ _ s1') λob q=>(sb.2 _ ne.symm).trans q⟩,λb hb=>?_⟩
  rw[jg (nT b hb)];exact n b hb
 done:=by
  intro X hP hw hK hc i aA s σ H E I hf st hg
  subst hP hw hK;obtain⟨xs,e1,rfl⟩:=hg;obtain⟨⟨old,h1⟩,h4⟩:=st;have n:∀c∈[e,it],H c=none:=λc hc=>(hf c hc).1;obtain⟨cs,P1,S1,D1,a1,b1,c1,d1⟩:=a4z I (t:=t) e1 (n it (by simp))
  have hd:=I.ok.hd hc;refine wpAny_pyNext_enum_endD (D1 X.A.in1 hd) h1 (a1 _ h4) λh' ex=>⟨rfl,a92 (t':=s.toks) I hf λc o nc q=>?_⟩;simp only[aR,bg,cE,not_or]at nc;exact ex c o nc.2 q
 self:=λ_ _ _ _ _ st h=>by
  obtain⟨⟨old,h1⟩,_⟩:=st;exact wpAny_pyIter_enum h1 h
section
variable{X:Cx}{elts:List Expr}{x1:Nat}{tpos:Pos}
def ayr(ta:TA):TI:=λσ H R=>ta σ H λvs H1=>∃k xs,vs=[Srk.v k]/\its H1 k=some xs/\R (ItE k) H1
theorem aqh(hg:Gl X "enumerate")(hm:X.mg "enumerate" = none)(ha:PA X [e1] ta)
  (h1:starEach [e1] X.env=[(false,eval e1 X.env)]:=by rfl):PI X (.Tuple elts x1 tpos) (.Call (.Name "enumerate" p) [e1] [] pos) (ayr ta):=by
 intro aA s σ H R I h
 refine cQ (a6i I hg hm PyProof.Rows.boot_enumerate ?_ (by decide) (by decide))
 refine cJ (thn (ha pos aA s σ H _ I h) λus s1 ⟨vs,H1,I1,r1,q1⟩=>?_) (by rw[h1];rfl) (by rfl)
 obtain⟨k,xs,rfl,e1,q⟩:=q1;obtain⟨v1,rfl,rv1⟩:=vals1 r1;obtain⟨t,rfl⟩:=ahe rv1;obtain⟨us1,c1,_⟩:=a71 I1 e1;refine callType_new F.called_enumerate (by decide) (F.typeCall_enumerate_1 _) (F.newCall_enumerate_1 _) (λobj=>F.args_object_init_2 obj _) F.entry_enumerate_new (ahr t k us1) ⟨c1,?_⟩
 have at0:((s1.heap.push (iob t k)).push (a5q s1.heap.objs.size)).get? s1.heap.objs.size=some (iob t k):=ag _ (aW _ (by cases k<;>rfl))
 have at1:IsEnum ((s1.heap.push (iob t k)).push (a5q s1.heap.objs.size)) (s1.heap.objs.size+1) s1.heap.objs.size 0 .none:=by
  have:=aW (o:=a5q s1.heap.objs.size) (s1.heap.push (iob t k)) rfl
  rw[cN]at this;exact this
 have keepA:∀b o,s1.heap.get? b=some o->((s1.heap.push (iob t k)).push (a5q s1.heap.objs.size)).get? b=some o:=λb o q=>ag _ (ag _ q);have I2:Inv X aA σ H1 {s1 with heap:=(s1.heap.push (iob t k)).push (a5q s1.heap.objs.size)}:=I1.kept (t':=s1.toks) keepA
 refine⟨⟨_,at1,rfl⟩,?_⟩;refine wpAny_pyIter_enum (s:={s1 with heap:=(s1.heap.push (iob t k)).push (a5q s1.heap.objs.size)}) at1 ?_
 refine⟨s1.heap.objs.size+1,[s1.heap.objs.size+1,s1.heap.objs.size],tnE _ _ t k,ItE k,H1,rfl,I2,ahs (by intro z;have z:(_:Nat)=_:=z;omega),⟨⟨.none,at1⟩,aym at0⟩,λb hb=>?_,q⟩
 have:s1.heap.objs.size<=b:=by
  simp only[aR,bg,cE]at hb
  rcases hb with rfl|rfl
  ·exact gX _
  ·exact aI _
 exact I1.fpOk this (I1.hok.fresh this)
end
end ZP
namespace MI
open L2 ZP
def alb(x:D)(h:Hd):R Itm:=match srcOf x h with
 |some (xs,c)=>.ok ⟨((List.range xs.length).zip xs).map λp=>.tup [.int (p.1:Nat),p.2],c⟩ h
 |none=>.no
def aci(f:SE):SI:=λτ h=>(f τ h).bind alb
theorem aqi(hg:Gl X "enumerate")(hm:X.mg "enumerate" = none)(ha:ME X E e1 f)
  (h1:starEach [e1] X.env=[(false,eval e1 X.env)]:=by rfl):MI X E (.Tuple elts x1 tpos) (.Call (.Name "enumerate" p) [e1] [] pos) (aci f):=by
 rintro aA s σ H Rr I ⟨ι,τ,h,S,Rh,o⟩
 refine aqh hg hm (vp ha a7n (by rw[h1];rfl)) h1 aA s σ H Rr I ?_
 refine⟨ι,τ,h,S,Rh,bx o λd h1 ι1 H1 v g1 r1 hr1 o1=>?_⟩;unfold alb at o1
 split at o1
 ·rename_i xs c q1;obtain⟨k,rfl,kc,kf⟩:=ahf r1 hr1 q1;obtain⟨vs,w1,w2⟩:=kf ι1 H1 h1 (.refl _ _) hr1 kc;refine⟨k,vs,rfl,w1,o1 ι1 H1 _ (.refl _ _) ?_ hr1⟩
  intro ι3 H3 h3 g3 hr3 c3
  obtain⟨us,a1,a2⟩:=kf ι3 H3 h3 g3 hr3 c3;refine⟨λi d ed=>?_,us,a1,?_⟩
  ·simp only[aM,aP]at ed;obtain⟨⟨j,y⟩,ez,rfl⟩:=ed;obtain⟨ex,ey⟩:=eG.mp ez;have hj:j=i:=by
    obtain⟨_,q⟩:=af.mp ex;simpa using q.symm
   subst hj;obtain⟨v2,b3,b4⟩:=a2.get ey;refine⟨⟨us,v2,a1,b3⟩,λx H' yl=>?_⟩;obtain⟨xs',x',p,c1,c3,c5,rfl,rfl⟩:=yl;rw[a1]at c1;cases c1
   rw[b3]at c3;cases c3
   exact⟨a02 c5 _,.tup qp (.cons (.int _) (.cons (b4.mono (a02 c5 _)) .nil)),hr3.aside c5 _⟩
  ·rw[ai,gQ,aX,a2.len];omega
 ·exact o1.elim
end MI
namespace MI
open L2
def b16(lo:Int)(n:Nat):List D:=(List.range n).map λi=>D.int (lo-(i:Nat))
def auq(ds:List D)(h:Hd):R Itm:=match ds with
 |[.int i,.int j,.int k]=>if k = -1/\B62 i/\B62 j then .ok ⟨b16 i (i-j).toNat,λ_=>True⟩ h else .no
 |_=>.no
theorem aht:bootBuiltins "sorted" = some (.builtin "sorted"):=by decide +kernel
theorem ahu:bootBuiltins "repr" = some (.builtin "repr"):=by decide +kernel
theorem bf{α β:Type}(a:α)(h:Hd)(k:α->Hd->R β):(R.ok a h).bind k=k a h:=rfl
theorem a1z{α:Type}(a:α)(h:Hd)(k:α->Hd->Fl):(R.ok a h).fl k=k a h:=rfl
def thn(r:Fl)(g:SS):Fl:=match r with|.nx τ h=>g τ h|r=>r
theorem xm(f g:SS)(τ:Sd)(h:Hd):dm f g τ h=thn (f τ h) g:=by unfold dm thn;cases f τ h<;>rfl
theorem a0v(τ:Sd)(h:Hd)(g:SS):thn (.nx τ h) g=g τ h:=rfl
theorem ae0(d:D)(h:Hd)(g:SS):thn (.rt d h) g=.rt d h:=rfl
def toR(r:Fl):R D:=match r with|.rt d h1=>.ok d h1|.nx _ h1=>.ok .non h1|.ex c h1=>.ex c h1|_=>.no
theorem dw(b:SS)(n:Nat)(ds:List D)(h:Hd):km b n ds h=toR (b (a3u n ds) h):=by unfold km toR;cases b (a3u n ds) h<;>rfl
theorem aav(d:D)(h:Hd):toR (.rt d h)=.ok d h:=rfl
theorem ae1(τ:Sd)(h:Hd):toR (.nx τ h)=.ok .non h:=rfl
theorem qw:∀{xs:List D},clos n xs↔∀x∈xs,clo n x
 |[]=>by simp[clos]
 |x::xs=>by simp[clos,qw (xs:=xs)]
theorem dg(i:Int):clo n (.int i):=by simp[clo]
theorem jc(i:Str):clo n (.str i):=by simp[clo]
theorem qy(i:Bool):clo n (.bl i):=by simp[clo]
theorem ahv:clo n .non:=by simp[clo]
theorem mj:clos n []:=by simp[clos]
theorem g8(a:clo n x)(b:clos n xs):clos n (x::xs):=by simp only[clos];exact⟨a,b⟩
theorem my(h:clos n xs):clo n (.tup xs):=by simpa[clo] using h
theorem jq(h:clos n xs):clo n (.rol xs):=by simpa[clo] using h
theorem dj{α:Type}{n:Nat}{f:α->D}{l:List α}(h:∀a∈l,clo n (f a)):clos n (l.map f):=by
 rw[qw]
 intro x hx
 obtain⟨a,ha,rfl⟩:=bG.mp hx;exact h a ha
mutual
theorem aaw(hm:n<=m):∀{d:D},clo n d->clo m d
 |.non,_=>by simp[clo]
 |.bl _,_=>by simp[clo]
 |.int _,_=>by simp[clo]
 |.str _,_=>by simp[clo]
 |.ty _,_=>by simp[clo]
 |.tup xs,h=>by simp only[clo]at h ⊢;exact wg hm h
 |.rol xs,h=>by simp only[clo]at h ⊢;exact wg hm h
 |.scr xs,h=>by simp only[clo]at h ⊢;exact wg hm h
 |.rod _ xs,h=>by simp only[clo]at h ⊢;exact wg hm h
 |.rdT _ xs,h=>by simp only[clo]at h ⊢;exact wg hm h
 |.exc _,_=>by simp[clo]
 |.ins _ _ xs,h=>by simp only[clo]at h ⊢;exact wg hm h
 |.ref i,h=>by simp only[clo]at h ⊢;omega
theorem wg(hm:n<=m):∀{xs:List D},clos n xs->clos m xs
 |[],_=>by simp[clos]
 |x::xs,h=>by simp only[clos]at h ⊢;exact⟨aaw hm h.1,wg hm h.2⟩
end
theorem n6(hm:n<=m)(h:a0j n o):a0j m o:=by
 cases o with
 |lst xs=>exact wg hm h
 |dK kvs=>exact wg hm h
 |dT kvs=>exact wg hm h
 |ins _ _=>exact wg hm h
theorem acj{α:Type}{f:α->Option α}:∀{xs:List α},(∀x∈xs,f x=some x)->a00 f xs=some xs
 |[],_=>rfl
 |x::xs,h=>by
  unfold a00;rw[h x aQ,acj λy hy=>h y (aK _ hy)]
theorem a4c(c:clo n d):a1q n h (k+1) d=some d:=by unfold a1q;rw[aO c]
theorem alc(c:a0j n o):aul n h k o=some o:=by unfold aul;rw[aO c]
theorem a4d{n k i:Nat}{h:Hd}{xs:List D}(hi:n<=i)(e:h[i]? = some (.lst xs))(c:clos n xs):a1q n h (k+2) (.ref i)=some (.rol xs):=by
 unfold a1q;rw[bE (by simp only[clo];omega)]
 simp only[e];rw[acj λx hx=>a4c (qw.mp c x hx)];rfl
theorem a99(e:a00 (a1q n h k) xs=some ys)(nc:¬ clos n xs):a1q n h (k+1) (.tup xs)=some (.tup ys):=by
 unfold a1q;rw[bE (by simpa only[clo] using nc)]
 simp only[e,dO]
theorem a5c{n:Nat}{d d':D}{h1:Hd}(e:a1q n h1 FU d=some d')(c:∀o∈h1.take n,a0j n o):ace n (.ok d h1)=.ok d' (h1.take n):=by
 unfold ace;simp only[e];rw[acj λo ho=>alc (c o ho)]
theorem jy{h1:Hd}(e:clo n d)(c:∀o∈h1.take n,a0j n o):ace n (.ok d h1)=.ok d (h1.take n):=a5c (a4c e) c
theorem a4e(hi:n<=i)(e:h1[i]? = some (.lst xs))(cx:clos n xs)(c:∀o∈h1.take n,a0j n o):ace n (.ok (.ref i) h1)=.ok (.rol xs) (h1.take n):=a5c (a4d hi e cx) c
theorem a1c(e:f τ h=.ok (.ref h.length) (h++[.lst xs]))(cx:clos h.length xs)(c:∀o∈h,a0j h.length o):sZ f τ h=.ok (.rol xs) h:=by
 unfold sZ;rw[e,a4e (aI _) (by simp) cx (by simpa using c)]
 simp
def Pu(F:SF)(n:Nat)(ds:List D)(d:D):Prop:=∀h,gq false n F ds h=.ok d h
def Dr(F:SF)(n:Nat)(ds:List D)(o:O)(d:D)(o':O):Prop:=∀p h,h[p]? = some o->gq false n F (.ref p::ds) h=.ok d (h.set p o')
theorem a67:∀{ds:List D},(∀d∈ds,clo 0 d)->a3h ds=[]/\a1y 0 ds=ds/\∀k,a1y k ds=ds
 |[],_=>⟨rfl,rfl,λ_=>rfl⟩
 |d::ds,h=>by
  obtain⟨a,b,c⟩:=a67 (ds:=ds) λx hx=>h x (aK _ hx);have hd:=h d aQ;have nr:refOf d=none:=by cases d<;>first|rfl|(simp only[clo]at hd;omega)
  refine⟨?_,?_,λk=>?_⟩
  ·simpa[a3h,nr] using a
  ·cases d<;>first|(simp only[clo]at hd;omega)|(simp only[a1y,b])
  ·cases d<;>first|(simp only[clo]at hd;omega)|(simp only[a1y,c])
theorem Pu.of{ds:List D}(hn:ds.length=n)(cd:∀x∈ds,clo 0 x)(e:F ds []=r)(z:ace 0 r=.ok d [])(c:clo 0 d):Pu F n ds d:=λh=>by
 obtain⟨p1,p2,_⟩:=a67 cd;unfold gq;rw[aO hn];unfold as8;rw[p1];simp only[a00,fP,dn,fW];rw[aO ⟨eJ,λx hx=>.inl (cd x hx),λo ho=>by simp at ho⟩,p2,e,z]
 simp[c,wy]
theorem Dr.of{ds:List D}(hn:ds.length+1=n)(cd:∀x∈ds,clo 0 x)(co:a0j 0 o)(e:F (.ref 0::ds) [o]=r)(z:ace 1 r=.ok d [o'])(c:clo 0 d)(co':a0j 0 o'):Dr F n ds o d o':=λp h hp=>by
 obtain⟨p1,_,p3⟩:=a67 cd;have e1:a3h (.ref p::ds)=[p]:=by
  have:a3h (.ref p::ds)=p::a3h ds:=rfl
  rw[this,p1]
 have e2:a1y 0 (.ref p::ds)=.ref 0::ds:=by
  have:a1y 0 (.ref p::ds)=.ref 0::a1y 1 ds:=rfl
  rw[this,p3]
 unfold gq;rw[aO (by simpa using hn)]
 unfold as8;rw[e1];simp only[a00,hp,av,dn,fW];have all:∀x∈(D.ref p::ds),clo 0 x\/isRef x:=λx hx=>by
  rcases aR.mp hx with rfl|hx
  ·exact .inr ⟨p,rfl⟩
  ·exact .inl (cd x hx)
 rw[aO ⟨by simp,all,λu hu=>by rw[aw.mp hu];exact co⟩,e2,e,z]
 simp[c,co',wy]
theorem aur{ds:List D}(hn:ds.length=n)(cd:∀x∈ds,clo 0 x)(e:F ds []=.ok (.ref i) h1)(ho:h1[i]? = some o)(co:a0j 0 o)(h:Hd):gq true n F ds h=.ok (.ref h.length) (h++[o]):=by
 obtain⟨p1,p2,_⟩:=a67 cd;unfold gq;rw[aO hn];unfold as8;rw[p1];simp only[a00,fP,dR];rw[aO ⟨eJ,λx hx=>.inl (cd x hx),λo ho=>by simp at ho⟩,p2,e]
 unfold as7;simp only[ho];rw[aO ⟨bq _,co,by simp⟩]
 simp[co,wy]
theorem ae2(g:SG)(b:SS)(τ:Sd)(h:Hd):forL (λ_=>True) g b [] τ h=.nx τ h:=by rw[forL,aO True.intro]
def trn(r:Fl)(k:Sd->Hd->Fl):Fl:=match r with|.nx τ h=>k τ h|.ct τ h=>k τ h|.bk τ h=>.nx τ h|r=>r
theorem aax(g:SG)(b:SS)(x:D)(xs:List D)(τ τ1:Sd)(h h1:Hd)(e:g x τ h=.nx τ1 h1):forL (λ_=>True) g b (x::xs) τ h=trn (b τ1 h1) (forL (λ_=>True) g b xs):=by
 rw[forL,aO True.intro,e];dsimp only;unfold trn
 cases b τ1 h1<;>rfl
theorem anw(τ:Sd)(h:Hd)(k:Sd->Hd->Fl):trn (.nx τ h) k=k τ h:=rfl
theorem anx(d:D)(h:Hd)(k:Sd->Hd->Fl):trn (.rt d h) k=.rt d h:=rfl
theorem ae3{g:SG}{b:SS}{α:Type}(f:α->D)(I:List α->Sd->Hd->Prop)(Rt:D->Hd->Prop):∀(xs pre:List α) (τ:Sd) (h:Hd),
  (∀pre' x post τ h,pre++xs=pre'++x::post->I pre' τ h->∃τ1 h1,g (f x) τ h=.nx τ1 h1/\((∃τ2 h2,b τ1 h1=.nx τ2 h2/\I (pre'++[x]) τ2 h2)\/∃d h2,b τ1 h1=.rt d h2/\Rt d h2))->I pre τ h->
  (∃τ' h',forL (λ_=>True) g b (xs.map f) τ h=.nx τ' h'/\I (pre++xs) τ' h')\/∃d h',forL (λ_=>True) g b (xs.map f) τ h=.rt d h'/\Rt d h'
 |[],pre,τ,h,_,i0=>.inl ⟨τ,h,ae2 ..,by simpa using i0⟩
 |x::xs,pre,τ,h,st,i0=>by
  obtain⟨τ1,h1,e1,q⟩:=st pre x xs τ h rfl i0;rw[bI,aax _ _ _ _ _ _ _ _ e1]
  rcases q with⟨τ2,h2,e2,i2⟩|⟨d,h2,e2,r⟩
  ·rw[e2,anw];have:=ae3 f I Rt xs (pre++[x]) τ2 h2 (λpre' y post τ h e=>st pre' y post τ h (by simpa using e)) i2
   simpa using this
  ·rw[e2,anx];exact .inr ⟨d,h2,rfl,r⟩
theorem nu{g:SG}{b:SS}{α:Type}(f:α->D)(I:List α->Sd->Hd->Prop)(xs:List α)(τ:Sd)(h:Hd)
  (st:∀pre x post τ h,xs=pre++x::post->I pre τ h->∃τ1 h1,g (f x) τ h=.nx τ1 h1/\∃τ2 h2,b τ1 h1=.nx τ2 h2/\I (pre++[x]) τ2 h2) (i0:I [] τ h) :
  ∃τ' h',forL (λ_=>True) g b (xs.map f) τ h=.nx τ' h'/\I xs τ' h':=by
 rcases ae3 f I (λ_ _=>False) xs [] τ h (λpre' x post τ h e i=>let ⟨τ1,h1,a,b⟩:=st pre' x post τ h e i; ⟨τ1,h1,a,.inl b⟩) i0 with⟨τ',h',a,b⟩|⟨_,_,_,z⟩
 ·exact⟨τ',h',a,b⟩
 ·exact z.elim
theorem a9a{f:D->Hd->R D}{α:Type}(g:α->D)(I:List α->List D->Hd->Prop):∀(xs pre:List α) (ys:List D) (h:Hd),
  (∀pre' x post ys h,pre++xs=pre'++x::post->I pre' ys h->∃y h',f (g x) h=.ok y h'/\I (pre'++[x]) (ys++[y]) h')->I pre ys h->∃zs h',mapR (λ_=>True) f (xs.map g) h=.ok zs h'/\I (pre++xs) (ys++zs) h'
 |[],pre,ys,h,_,i0=>⟨[],h,by rw[e9,mapR,aO True.intro],by simpa using i0⟩
 |x::xs,pre,ys,h,st,i0=>by
  obtain⟨y,h1,e1,i1⟩:=st pre x xs ys h rfl i0;obtain⟨zs,h',e2,i2⟩:=a9a g I xs (pre++[x]) (ys++[y]) h1 (λpre' z post ys h e=>st pre' z post ys h (by simpa using e)) i1
  refine⟨y::zs,h',?_,by simpa using i2⟩
  rw[bI,mapR,aO True.intro,e1];show(mapR _ f (xs.map g) h1).bind _=_;rw[e2];rfl
theorem aay{f:D->Hd->R D}{α:Type}(g F:α->D){h:Hd}:∀{xs:List α},(∀x∈xs,f (g x) h=.ok (F x) h)->mapR (λ_=>True) f (xs.map g) h=.ok (xs.map F) h
 |[],_=>by rw[e9,mapR,aO True.intro];rfl
 |x::xs,st=>by
  rw[bI,mapR,aO True.intro,st x aQ];show(mapR _ f (xs.map g) h).bind _=_;rw[aay g F λy hy=>st y (aK _ hy)];rfl
theorem aaz{f:D->Hd->R (Option D)}{α:Type}(g:α->D)(F:α->Option D){h:Hd}:∀{xs:List α},(∀x∈xs,f (g x) h=.ok (F x) h)->ajx (λ_=>True) f (xs.map g) h=.ok (xs.filterMap F) h
 |[],_=>by rw[e9,ajx,aO True.intro];rfl
 |x::xs,st=>by
  rw[bI,ajx,aO True.intro,st x aQ];show(ajx _ f (xs.map g) h).bind _=_;rw[aaz g F λy hy=>st y (aK _ hy)];show R.ok ((F x).toList++xs.filterMap F) h=_
  cases e:F x<;>simp[cp,e]
theorem ald(I:Nat->Sd->Hd->Prop)(N:Sd->Hd->Prop)(Rt:D->Hd->Prop)
  (st:∀m τ h,I m τ h->(∃h1,c τ h=.ok false h1/\N τ h1)\/∃h1,c τ h=.ok true h1/\((∃τ2 h2 m',f τ h1=.nx τ2 h2/\m'<m/\I m' τ2 h2)\/∃d h2,f τ h1=.rt d h2/\Rt d h2)) :
  ∀(m n:Nat) (τ:Sd) (h:Hd),m<n->I m τ h->(∃τ' h',sWh c f n τ h=.nx τ' h'/\N τ' h')\/∃d h',sWh c f n τ h=.rt d h'/\Rt d h':=by
 intro m
 induction m using Nat.strongRecOn with
 |ind m ih =>
  intro n τ h hn i0
  cases n with
  |zero=>omega
  |succ n =>
   rcases st m τ h i0 with⟨h1,e1,q⟩|⟨h1,e1,q⟩
   ·exact .inl ⟨τ,h1,by rw[sWh,e1];rfl,q⟩
   ·rcases q with⟨τ2,h2,m',e2,lt,i2⟩|⟨d,h2,e2,r⟩
    ·have e3:sWh c f (n+1) τ h=sWh c f n τ2 h2:=by
      rw[sWh,e1,a1z,aO rfl,e2]
     rw[e3];exact ih m' lt n τ2 h2 (by omega) i2
    ·refine .inr ⟨d,h2,?_,r⟩;rw[sWh,e1,a1z,aO rfl,e2]
structure KD (P:Program) (w:World) (K:Fg) (a:Addr) (kvs:List (Str×Str)):Prop where
 sys:(a == sysModules)=false
 ex:∃(o:Obj) (vs:List (Key×Value)),K.lookup a=some o/\KV (kvs.map λp=>((.inr p.1:Key),V.str p.2)) vs/\∀h:Heap,h.get? a=some o->h.DictOf (a6h P w) a vs
section
variable{X:Cx}{E:XD}{e:Expr}{fa:SE}{pos p:Pos}{a:Addr}{kvs:List (Str×Str)}{x:Str}
theorem KD.at(kd:KD X.prog X.w X.K a kvs)(I:Inv X aA σ H s):∃vs,KV (kvs.map λp=>((.inr p.1:Key),V.str p.2)) vs/\s.heap.DictOf (a6h X.prog X.w) a vs:=by
 obtain⟨o,vs,l,r,d⟩:=kd.ex;exact⟨vs,r,d _ (I.bk _ _ (I.mod.kin _ _ l))⟩
end
mutual
def toPy:D->Option PyData
 |.non=>some .none
 |.bl b=>some (.bool b)
 |.int i=>some (.int i)
 |.str x=>some (.str x)
 |.tup xs=>(ab0 xs).map .tuple
 |.rol xs=>(ab0 xs).map .list
 |.rod [] []=>some (.dict [])
 |_=>none
def ab0:List D->Option (List PyData)
 |[]=>some []
 |x::xs=>match toPy x,ab0 xs with|some p,some ps=>some (p::ps)|_,_=>none
end
mutual
def noL:D->Bool
 |.rol _=>false
 |.tup xs=>as9 xs
 |_=>true
def as9:List D->Bool
 |[]=>true
 |x::xs=>noL x && as9 xs
end
section
variable{P:Program}{w:World}{K:Fg}{ι:List Addr}{H:Hp}{h:Heap}
mutual
theorem ahw(ok:HOk P w H h):∀(d:D) {v:V} {u:Value} {p:PyData},Rep K ι H v d->RelV v u->toPy d=some p->∃as,Reads h u p as/\(noL d=true->sysModules∉as)
 |.non=>by
  rename_i v u p
  intro rp r e
  cases rp;cases e
  obtain rfl:u=Value.none:=r
  exact⟨_,.none,λ_=>by simp⟩
 |.bl b=>by
  rename_i v u p
  intro rp r e
  cases rp;cases e
  obtain rfl:u=Value.bool b:=r
  exact⟨_,.bool b,λ_=>by simp⟩
 |.int i=>by
  rename_i v u p
  intro rp r e
  cases rp;cases e
  obtain⟨t,rfl⟩:=r;exact⟨_,.int i t,λ_=>by simp⟩
 |.str x=>by
  rename_i v u p
  intro rp r e
  cases rp;cases e
  obtain⟨t,rfl⟩:=r;exact⟨_,.str x t,λ_=>by simp⟩
 |.tup xs=>by
  rename_i v u p
  intro rp r e
  cases rp with
  |@tup a _ _ hp rs =>
  simp only[toPy,aP]at e;obtain⟨ps,e,rfl⟩:=e;obtain rfl:u=Value.ref a:=r;obtain⟨_,its,vr,o,e1,e2,n,e3⟩:=(show ObjOk P w H h a (.tup _) from ok a _ hp)
  obtain⟨as,q,s⟩:=a9b ok xs rs vr e;exact⟨as,.tuple e1 e2 e3 q,λz=>s (by simpa[noL] using z)⟩
 |.rol xs=>by
  rename_i v u p
  intro rp r e
  cases rp with
  |@rol a _ _ hp rs =>
  simp only[toPy,aP]at e;obtain⟨ps,e,rfl⟩:=e;obtain rfl:u=Value.ref a:=r;obtain⟨o,hp⟩:=hp;obtain⟨_,_,its,n,vr,e1⟩:=(show ObjOk P w H h a (.frz o (.lst _)) from ok a _ hp)
  obtain⟨as,q,s⟩:=a9b ok xs rs vr e;exact⟨a::as,.list e1 rfl rfl q,λz=>by simp[noL]at z⟩
 |.rod ks xs=>by
  rename_i v u p
  intro rp r e
  cases ks with
  |cons k ks=>simp[toPy]at e
  |nil =>
   cases xs with
   |cons x xs=>simp[toPy]at e
   |nil =>
    cases rp with
    |@rod a _ us _ _ hp ek rs =>
    simp only[toPy,Option.some.injEq]at e;subst e;obtain rfl:u=Value.ref a:=r;obtain⟨_,_,sy,vs,kv,o,es,ep,e1,e2,e3,_,pr,_⟩:=(show ObjOk P w H h a (.frz _ (.dK _)) from ok a _ hp)
    have us0:=List.map_eq_nil_iff.mp ek;subst us0;cases kv
    have:es.toList=[]:=by cases hh:es.toList with|nil=>rfl|cons x y=>rw[hh]at pr;cases pr
    refine⟨_,.dict (kvs:=[]) e1 e2.1 e3 (by rw[this];exact .nil) (by rw[this];exact .nil),λ_=>?_⟩
    intro z
    simp at z
    subst z;simp at sy
 |.ty _=>by intro rp r e;simp[toPy]at e
 |.scr _=>by intro rp r e;simp[toPy]at e
 |.ref _=>by intro rp r e;simp[toPy]at e
 |.rdT _ _=>by intro rp r e;simp[toPy]at e
 |.exc _=>by intro rp r e;simp[toPy]at e
 |.ins _ _ _=>by intro rp r e;simp[toPy]at e
theorem a9b(ok:HOk P w H h):∀(ds:List D) {vs:List V} {us:List Value} {ps:List PyData},Reps K ι H vs ds->Vals vs us->ab0 ds=some ps->∃as,ReadsAll h us ps as/\(as9 ds=true->sysModules∉as)
 |[]=>by
  intro rs qs e
  cases rs;cases qs;cases e
  exact⟨[],.nil,λ_=>by simp⟩
 |d::ds=>by
  intro rs qs e
  cases rs with
  |cons r rs =>
  cases qs with
  |cons q qs =>
  simp only[ab0]at e
  split at e
  ·rename_i p ps' e1 e2;cases e
   obtain⟨as,a1,s1⟩:=ahw ok d r q e1;obtain⟨bs,a2,s2⟩:=a9b ok ds rs qs e2;refine⟨as++bs,.cons a1 a2,λz=>?_⟩;simp only[as9,bV]at z
   intro m
   rcases bo.mp m with m|m
   ·exact s1 z.1 m
   ·exact s2 z.2 m
  ·cases e
end
theorem aqj(ok:HOk P w H h){v:V}{d:D}{u:Value}{p:PyData}(rp:Rep K ι H v d)(r:RelV v u)(e:toPy d=some p):∃as,Reads h u p as/\(noL d=true->sysModules∉as):=ahw ok d rp r e
end
def okR(d:D)(p:PyData):Prop:=(p.hasDict=true->noL d=true)/\p.showable=true/\p.depth<=60/\p.shown.length<=sizeLine
def aus(K:Fg):List V->Hp->VK->Prop:=λxs H Q=>∃v ι d p,xs=[v]/\Rep K ι H v d/\toPy d=some p/\okR d p/\Q (.str p.shown) H
theorem ab1{X:Cx}(hg:X.A.guards=some [])(hu:X.A.units+64<cLine):CallR X (.builtin "repr") (aus X.K):=by
 intro aA s σ H xs us Q I r ⟨v,ι,d,p,ex,rp,ep,⟨hd,hs,dp,sz⟩,q⟩
 subst ex;obtain⟨u,rfl,rx⟩:=vals1 r;have big:∀a:Addr,u=.ref a->wpAny (model X.prog X.w) X.A (call (.builtin "repr") [u]) (EP X aA σ Q) X.xe s:=λa eu=>by
  subst eu;obtain⟨as,rd,sy⟩:=aqj I.hok rp rx ep;exact repr_of_reads' rd hs (λz=>sy (hd z)) hg (by omega) (λb o e=>e) (λh' u tk hk=>⟨.str p.shown,H,I.kept hk,⟨u,rfl⟩,q⟩) sz
 cases rp with
 |non =>
  cases ep
  obtain rfl:u=Value.none:=rx
  exact PySem.P.repr_of_none ⟨.str _,H,I.tok _,⟨_,rfl⟩,q⟩
 |bl b =>
  cases ep
  obtain rfl:u=Value.bool b:=rx
  exact PySem.P.repr_of_bool ⟨.str _,H,I.tok _,⟨_,rfl⟩,q⟩
 |int i =>
  cases ep
  obtain⟨t,rfl⟩:=rx;exact PySem.P.repr_of_int (by simpa[PyData.showable] using hs) ⟨.str _,H,I.tok _,⟨_,rfl⟩,q⟩
 |str x =>
  cases ep
  obtain⟨t,rfl⟩:=rx;exact PySem.P.repr_of_str ⟨.str _,H,I.tok _,⟨_,rfl⟩,q⟩ sz
 |@tup a vs xs hp r=>exact big a rx
 |@rol a vs xs hp r=>exact big a rx
 |@rod a o us ks xs hp ek rs=>exact big a rx
 |ty _=>cases ep
 |scr _ _=>cases ep
 |ref _=>cases ep
 |rdT _ _ _=>cases ep
 |exc _ _ _=>cases ep
 |ins _ _ _ _=>cases ep
open Classical in
noncomputable def afb:List D->Hd->R D
 |[x],h=>(match toPy x with|some p=>if okR x p then .ok (.str p.shown) h else .no|none=>.no)
 |_,_=>.no
theorem ae4:afw K afb (aus K):=by
 intro E ι H h xs ds Q r hr o
 unfold afb at o
 split at o
 ·split at o
  ·rename_i p ep
   split at o
   ·rename_i ok
    cases r with
    |cons r rs =>
     cases rs
     exact⟨_,ι,_,p,rfl,r,ep,ok,ans o (.str _) hr⟩
   ·exact o.elim
  ·exact o.elim
 ·exact o.elim
theorem jd:CallR X (.builtin "isinstance") (λxs H Q=>∃a o us T b,xs=[.ref a,.ty T]/\H a=some (.frz o (.dK us))/\PySem.W.kitOne X.K (.type "dict") (.type T)=some b/\Q (.bl b) H):=by
 intro aA s σ H xs us Q I r h
 obtain⟨a,o,kv,T,b,rfl,ea,e,q⟩:=h;obtain⟨u,w',rfl,rx,rt⟩:=vals2 r;cases rt
 obtain rfl:u=Value.ref a:=rx
 obtain⟨_,_,_,vs,_,p⟩:=(show ObjOk X.prog X.w H s.heap a (.frz o (.dK kv)) from I.hok a _ ea)
 obtain⟨o',es,ep,h1,h2,_⟩:=p;exact bU gc I.kIn ⟨o',h1,h2.1⟩ e (λz=>nomatch z) λtk=>⟨.bl b,H,I.tok tk,rfl,q⟩
def jz:List D->Hd->R D
 |[.rod ks xs,.ty T],h=>(match a7z "dict" T with|some b=>.ok (.bl b) h|none=>.no)
 |ds,h=>aa1 ds h
theorem uh:afw K jz (λxs H Q=>(∃x T t b,xs=[x,.ty T]/\TyOf K H x t/\PySem.W.kitOne K t (.type T)=some b/\Q (.bl b) H)\/∃a o us T b,xs=[.ref a,.ty T]/\H a=some (.frz o (.dK us))/\PySem.W.kitOne K (.type "dict") (.type T)=some b/\Q (.bl b) H):=by
 intro E ι H h xs ds Q r hr o
 unfold jz at o
 split at o
 ·split at o
  ·rename_i b hb
   cases r with
   |cons r1 rs =>
    cases rs with
    |cons r2 rs2 =>
     cases rs2
     cases r2
     cases r1 with
     |rod hp ek rr=>exact .inr ⟨_,_,_,_,b,rfl,hp,ah8 hb,ans o (.bl _) hr⟩
  ·exact o.elim
 ·exact .inl (apy E ι H h xs _ Q r hr o)
end MI
namespace TPM
open PySem.W L2 HT MI PyProof.Rows
theorem ahx(n:Nat):Builtin.Str.strSliceIndices none none (-1) n=(List.range n).map λk=>n-1-k:=by
 unfold Builtin.Str.strSliceIndices;dsimp only;rw[bE (by decide),bE (by decide)]
 unfold sliceRange;dsimp only;rw[bE (by decide)]
 have c:(if (n:Int)-1 > -1 then ((n:Int)-1 - -1 - -1-1) / (- -1) else 0).toNat=n:=by
  by_cases z:n=0
  ·subst z;rfl
  ·rw[aO (by omega),show(- -1:Int)=1 from rfl,gM];omega
 rw[c];exact cZ λk hk=>by rw[bS]at hk;omega
theorem afc(xs:List Nat):((List.range xs.length).map λk=>xs.length-1-k).filterMap (xs[·]?)=xs.reverse:=by
 apply eF
 intro i
 have e:((List.range xs.length).map λk=>xs.length-1-k).filterMap (xs[·]?)=((List.range xs.length).map λk=>xs.length-1-k).map λk=>xs[k]?.getD 0:=by
  apply adx
  intro k hk
  obtain⟨j,hj,rfl⟩:=bG.mp hk;rw[bS]at hj;rw[ae (by omega)]
  rfl
 rw[e]
 by_cases hi:i<xs.length
 ·rw[aM,aM,cy hi,fq hi];simp;rw[ae (by omega)]
  rfl
 ·rw[bQ (by simp;omega),bQ (by simp;omega)]
def aut(te tk:TE):TE:=λσ H Q=>te σ H λx H1=>tk σ H1 λk H2=>k=.int (-1)/\∃z,x=.str z/\z.length<=sizeLine/\Q (.str ⟨z.cps.toList.reverse.toArray⟩) H2
theorem ale{X:Cx}{e st:Expr}{te tk:TE}{p2 pos:Pos}(he:PE X e te)(hk:PE X st tk):PE X (.Subscript e (.Slice none none (some st) p2) pos) (aut te tk):=by
 intro aA s σ H Q I h
 refine Subscript_ (thn (he aA s σ H _ I h) λv s1 ⟨x,H1,I1,r1,q1⟩=>?_);refine gV ?_;rw[fI];refine aS (aS ?_);rw[gE];refine thn (hk aA s1 σ H1 _ I1 q1) ?_
 rintro u s3 ⟨k,H3,I3,rk,ek,z,ez,hz,q⟩
 subst ek ez;obtain⟨t,rfl⟩:=rk;obtain⟨t1,rfl⟩:=r1;have I4:Inv X aA σ H3 {s3 with heap:=s3.heap.push {cls:=.type "slice",data:=.fields #[.none,.none,.int (-1) t]} }:=I3.kept (t':=s3.toks) λb ob q=>ag _ q
 refine tail_any (T := "str") (ops:=[.str z t1,.ref s3.heap.objs.size]) (gA _ z t1) fA.lookup ?_ (by with_unfolding_all rfl)
 refine wpAny_getItem_str_slice (l:=none) (u:=none) (st:=some (-1,t)) ⟨_,aW _ rfl,rfl,rfl⟩ rfl ?_;have hl:z.cps.toList.length=z.length:=by simp[Str.length]
 have hp:slicePicked z none none (some (-1,t))=(List.range z.length).map λk=>z.length-1-k:=by
  unfold slicePicked;exact ahx z.length
 have e:(⟨((slicePicked z none none (some (-1,t))).filterMap (z.cps[·]?)).toArray⟩:Str)=⟨z.cps.toList.reverse.toArray⟩:=by
  rw[hp,<-hl];have:=afc z.cps.toList;simp only[Array.getElem?_toList]at this;rw[this]
 unfold sliceMade;rw[bE (by simp),e]
 refine⟨?_,.str _,H3,I4.tok _,⟨_,rfl⟩,q⟩;show z.cps.toList.reverse.toArray.size<=sizeLine;rw[ax,cG,hl];exact hz
end TPM
namespace MI
open L2 TPM
def ab2(f g:SE):SE:=λτ h=>(f τ h).bind λd h1=>(g τ h1).bind λk h2=>match d,k with
 |.str z,.int i=>if i = -1/\z.length<=LINE then .ok (.str ⟨z.cps.toList.reverse.toArray⟩) h2 else .no
 |_,_=>.no
theorem alf{X:Cx}{E:XD}{e st:Expr}{f g:SE}{p2 pos:Pos}(he:ME X E e f)(hk:ME X E st g):ME X E (.Subscript e (.Slice none none (some st) p2) pos) (ab2 f g):=by
 refine PE.weak (ale he hk) ?_
 rintro σ H Q ⟨ι,τ,h,S,Rh,o⟩
 refine⟨ι,τ,h,S,Rh,bx o λd h1 ι1 H1 v g1 r1 hr1 o1=>?_⟩;refine⟨ι1,τ,h1,S.mono g1,hr1,bx o1 λk h2 ι2 H2 u g2 r2 hr2 o2=>?_⟩;have r1':=r1.mono g2
 cases r1' with
 |str z =>
  cases r2 with
  |int i =>
   by_cases c:i = -1/\z.length<=LINE
   ·simp only[aO c]at o2;obtain⟨c1,c2⟩:=c;subst c1;exact⟨rfl,z,rfl,a8o c2,ans o2 (.str _) hr2⟩
   ·simp only[bE c]at o2;exact o2.elim
  |_=>exact o2.elim
 |_=>exact o2.elim
end MI
namespace SRC
open L2 MI
noncomputable def zg:SE :=
 (s2 ie (s2 a1r (sI 2) (sA axd (ak (sV 0) bu))) (sA apw (ak (s2 gLt (sV 0) (sI 0)) bu)))
noncomputable def a04:SS :=
 (dm (j9 1 (sZ (jk (sIt (sZ (yp (sV 0) oN (oS (sI 63))))) t1 zg [])))
 (sr (sA a1u (ak (sV 1) (ak (sI 0) (ak (sI 0) (ak (sI 0) (ak (s2 a5n (sA auh (ak (sV 1) bu)) (sI 2147483647)) bu))))))))
noncomputable def a2q:SS :=
 (dm (a2v a1x (sV 0) (sI 3) (sI 1))
 (dm (sIf (a7s (sT (s2 hEq (s2 gIx (sV 0) (sI 2)) (sI 0))) (sT (s2 gLt (s2 gIx (sV 0) (sI 1)) (sA qu (ak (s2 gIx (sV 0) (sI 0)) bu)))))
 (dm (j9 2 (s2 gIx (s2 gIx (sV 0) (sI 0)) (s2 gIx (sV 0) (sI 1))))
 (dm (a2v a1x (sV 0) (sI 1) (sI 1))
 (sIf (sT (s2 gGe (sV 2) (s2 a7x (sI 10) (sI 18))))
 (abp (sV 2) (sV 0) (sI 2))
 (abp (s2 a5n (s2 ie (s2 a1r (s2 gIx (sV 0) (sI 4)) (sI 31)) (sV 2)) (sI 2147483647)) (sV 0) (sI 4)))))
 sNx)
 (dm (sIf (sT (s2 gGt (s2 gIx (sV 0) (sI 2)) (sI 0)))
 (dm (j9 3 (s2 a5n (s2 gIx (sV 0) (sI 2)) (sV 1)))
 (dm (a2v aa0 (sV 0) (sI 2) (sV 1))
 (sr (sV 3))))
 sNx)
 (dm (j9 3 (s2 a5n (s2 a7x (s2 ie (s2 ie (s2 gIx (sV 0) (sI 4)) (sI 1)) (s2 a1r (s2 gIx (sV 0) (sI 3)) (sI 7919))) (sI 3)) (sI 2147483647)))
 (sr (s2 a5n (s2 aa0 (s2 a5n (s2 a7x (s2 ie (s2 a1r (sV 3) (sI 48271)) (s2 gIx (sV 0) (sI 3))) (sI 2)) (sI 2147483629)) (sI 64)) (sV 1)))))))
noncomputable def zj:SS :=
 (dm (j9 0 (sC (.str " !\"#$&'()*+,-./0123456789:;<=>?@ABCDEFGHIJKLMNOPQRSTUVWXYZ[\\]^_`")))
 (sr (s2 ie (sV 0) (sC (.str "abcdefghijklmnopqrstuvwxyz{|}~\n")))))
noncomputable def zp(aa:SF)(cj:SF):SS :=
 (dm (j9 4 (sA (gq false 2 aa) (ak (sV 0) (ak (sA qu (ak (sV 1) bu)) bu))))
 (dm (afx 2 a1x (s2 gIx (sV 1) (sV 4)))
 (j9 1 (s2 ie (yp (sV 1) oN (oS (sV 4))) (yp (sV 1) (oS (s2 ie (sV 4) (sI 1))) oN)))))
noncomputable def a05(aa:SF)(cj:SF):SS :=
 (dm (j9 1 (sA (gq false 0 cj) bu))
 (dm (j9 2 (sC (.str "")))
 (dm (a2u (sRg yt (ak (s2 ie (sI 1) (sA (gq false 2 aa) (ak (sV 0) (ak (sI 6) bu)))) bu)) (kN 3) (zp aa cj))
 (sr (sV 2)))))
noncomputable def qg(aa:SF):SE :=
 (sA (gq false 2 aa) (ak (sV 1) (ak (sV 2) bu)))
noncomputable def xn(aa:SF):SE :=
 (af6 (a7s (sT (s2 gLt (s2 gIx (sV 2) (sV 0)) (sI 0))) (sT (s2 gLe (sV 0) (sV 3)))) (s2 a9z (sV 1) (sI 1)) (sV 0))
noncomputable def ux(aa:SF):SE :=
 (sV 1)
noncomputable def qi(aa:SF):SS :=
 (dm (j9 7 (sZ (jk (sIt (sV 1)) t1 (qg aa) [0,2])))
 (dm (sIf (sT (s2 gGt (sV 5) (sI 0)))
 (j9 7 (sZ (jk (sIt (sV 7)) t1 (xn aa) [2,3,4])))
 sNx)
 (dm (sIf (a7s (sT (s2 hEq (sV 5) (sI 1))) (sT (s2 hEq (sV 4) (s2 a9z (sV 2) (sI 1)))))
 (j9 7 (sZ (jk (sIt (sV 7)) t1 (ux aa) [4])))
 sNx)
 (uw (sML a5o (sV 6) (ak (sV 7) bu))))))
noncomputable def xq:SS :=
 (dm (j9 3 (s2 gIx (s2 gIx (s2 gIx (sV 0) (sI 1)) (sV 3)) (sMS aak (s2 gIx (sV 0) (sI 0)) (ak (s2 gIx (sV 1) (sV 5)) bu))))
 (sIf (sT (s2 gGe (s2 gIx (s2 gIx (sV 0) (sI 2)) (sV 3)) (sI 0)))
 (j9 4 (sA ur (ak (s2 gIx (s2 gIx (sV 0) (sI 2)) (sV 3)) (ak (s2 ie (sV 5) (sI 1)) bu))))
 sNx))
noncomputable def a1d:SS :=
 (dm (j9 3 (sI 0))
 (dm (j9 4 (sC .non))
 (dm (a2u (sRg a7h (ak (sV 2) (ak (sA qu (ak (sV 1) bu)) bu))) (kN 5) xq)
 (sr (sV 4)))))
noncomputable def m9:SS :=
 (sIf (sOr (a4r (a4q (sA jz (ak (sV 2) (ak (sC (.ty "int")) bu))))) (a4q (sA jz (ak (sV 2) (ak (sC (.ty "bool")) bu)))))
 (sr (sC (.bl false)))
 sNx)
noncomputable def ul:SS :=
 (dm (sIf (sOr (a4r (a4q (sA jz (ak (sV 0) (ak (sC (.ty "tuple")) bu))))) (sT (s2 hNe (sA qu (ak (sV 0) bu)) (sV 1))))
 (sr (sC (.bl false)))
 sNx)
 (dm (a2u (sIt (sV 0)) (kN 2) m9)
 (sr (sC (.bl true)))))
end SRC
namespace L2
open PySem.W PyProof.Rows
structure Air (stack:List Env) (H:Hp) (h0 B:Heap) (a C:Addr) (t:Value) (h:Heap):Prop where
 fly:Heap.FlyingW B stack a (.ref C) t h
 bk:∀b o,h.get? b=some o->b∉frs stack->(H b≠none\/∃o0,h0.get? b=some o0)->B.get? b=some o
def CXE(P:Program)(w:World):CXT:=λouter H s E e s' =>
 ∃a C t B H',e=.ref a/\s'.os=s.os/\AllBare s'.gens/\Un (frs outer) [] H H' s.heap s'.heap/\HOk P w H' s'.heap/\Air outer H' s.heap B a C t s'.heap/\E (.ref C) none H'
section
variable{P:Program}{w:World}{H H':Hp}{h h':Heap}
theorem HOk.is(x:HOk P w H h)(e:H a=some o):∃ob,h.get? a=some ob:=by
 have:=x a o e
 cases o with
 |lst xs=>obtain⟨_,_,_,_,e⟩:=this;exact⟨_,e⟩
 |tup xs=>obtain⟨_,_,_,ob,e,_⟩:=this;exact⟨_,e⟩
 |dK kvs=>obtain⟨_,_,_,_,o,_,_,e,_⟩:=this;exact⟨_,e⟩
 |dT kvs=>obtain⟨_,_,_,_,o,_,_,e,_⟩:=this;exact⟨_,e⟩
 |set S n=>obtain⟨o,_,_,_,e,_⟩:=this;exact⟨_,e⟩
 |ins C dx fs=>obtain⟨_,_,_,e,_⟩:=this;exact⟨_,e⟩
 |own y=>exact this
 |xd fs=>obtain⟨_,⟨_,_,_,e,_⟩,_⟩:=this;exact⟨_,e⟩
 |rng lo hi=>obtain⟨_,_,_,e⟩:=this;exact⟨_,e⟩
 |frz ob u=>exact⟨_,this.1⟩
 |tbl ps=>exact⟨_,this⟩
 |met f y=>exact⟨_,this⟩
 |ext φ=>exact this.2.1
theorem HOk.track(x:HOk P w H h)(k:∀b u,H b≠none->h.get? b=some u->h'.get? b=some u):HOk P w H h':=λa o e =>
 (x a o e).stay (λb u hb q=>k b u (by
  rcases hb with rfl|hb
  ·rw[e];simp
  ·rw[hb];simp) q) (λ_ q=>q) λ_ _ q=>q
end
section
variable{P:Program}{w:World}{K:Fg}{mg:Str->Option Value}{base:Heap}{N:List Str}{qual:Str}{aB:Scope}{f:Addr}{cd:Value}{A:Around}{outer:List Env}{s0:Shared}{H0:Hp}{E:XK}{aA:List (Addr×Obj)}{σ:St}{H:Hp}{s:Shared}
abbrev cxE(P:Program)(w:World)(K:Fg)(mg:Str->Option Value)(base:Heap)(N:List Str)(qual:Str)(aB:Scope)(f:Addr)(cd:Value)(A:Around)(outer:List Env)(s:Shared)(H:Hp)(E:XK):Cx:=afv (CXE P w) P w K mg base N qual aB f cd A outer s H E
theorem ae5{B:Heap}{h2:Heap}(I:Inv (cxE P w K mg base N qual aB f cd A outer s0 H0 E) aA σ H {s with heap:=h1})(hB:∀b o,h1.get? b=some o->b∉frs (envOfC qual aB s0.heap.objs.size f cd::outer)->(H b≠none\/∃o0,s0.heap.get? b=some o0)->B.get? b=some o)
  (sl:∀b o,h1.get? b=some o->b∈frs outer->∃sl,h2.get? b=some {o with slots:=sl}) (fly:Heap.FlyingW B outer a (.ref C) t h2) (e:E (.ref C) none H):CXE P w outer H0 s0 E (.ref a) {s with heap:=h2}:=by
 have lo:∀b,b∈frs (envOfC qual aB s0.heap.objs.size f cd::outer)->b=s0.heap.objs.size\/b∈frs outer:=λb hb=>by
  unfold frs at hb ⊢;rw[cp]at hb
  rcases aR.mp hb with rfl|hb
  ·exact .inl rfl
  ·exact .inr hb
 have stk:∀b,b∈frs (envOfC qual aB s0.heap.objs.size f cd::outer)->H b=none:=λb hb=>I.stkFree b hb;have old:∀b o,s0.heap.get? b=some o->b∉frs outer->b∉frs (envOfC qual aB s0.heap.objs.size f cd::outer):=λb o q n z=>by
  rcases lo b z with rfl|z
  ·exact absurd (aV q) (cM _)
  ·exact n z
 have tr:∀b u,H b≠none->h1.get? b=some u->h2.get? b=some u:=λb u hn q=>fly.1 _ _ (hB b u q (λz=>hn (stk b z)) (.inl hn));have ba:=I.base;refine⟨a,C,t,B,H,rfl,I.os,I.bare,⟨?_,?_,ba.free,?_,ba.tups,ba.frzs,ba.tbls⟩,I.hok.track tr,⟨fly,?_⟩,e⟩
 ·intro b o q n hf hx
  exact fly.1 _ _ (hB b o (ba.keep b o q n hf hx) (old b o q hf) (.inr ⟨o,q⟩))
 ·intro b o q n hf hx
  obtain⟨s1,q1⟩:=ba.slot b o q n hf hx;obtain⟨s2,q2⟩:=sl b _ q1 hf;exact⟨s2,q2⟩
 ·intro b o q hx
  obtain⟨o1,q1⟩:=ba.there b o q hx
  by_cases hf:b∈frs outer
  ·obtain⟨s2,q2⟩:=sl b _ q1 hf;exact⟨_,q2⟩
  ·exact⟨_,fly.1 _ _ (hB b o1 q1 (old b o q hf) (.inr ⟨o,q⟩))⟩
 ·intro b o q nf c
  have hh:b∉frs (envOfC qual aB s0.heap.objs.size f cd::outer):=λz=>by
   rcases c with c|⟨o0,c⟩
   ·exact c (stk b z)
   ·exact old b o0 c nf z
  obtain⟨o1,q1⟩:∃o1,h1.get? b=some o1:=by
   rcases c with c|⟨o0,c⟩
   ·cases e1:H b with
    |none=>exact absurd e1 c
    |some u=>exact I.hok.is e1
   ·exact ba.there b o0 c (by intro z;cases z)
  have q2:=hB b o1 q1 hh c;have q3:=fly.1 _ _ q2;rw[q3]at q;cases q
  exact q2
theorem a5d(I:Inv X aA σ H s)(hb:b∈frs X.stack)(q:s.heap.get? b=some o):∀vs,o.data≠.fields vs:=by
 obtain⟨_,o1,q1,d⟩:=I.stack.mem hb;rw[q]at q1;cases q1
 exact d
theorem ays(hE:∀C H,E' (.ref C) none H->E (.ref C) none H):a7o (CXE P w) (cxE P w K mg base N qual aB f cd A outer s0 H0 E) E':=by
 rintro aA σ H s e s' I ⟨a,C,t,B,H',rfl,os,bare,un,hok,air,e⟩
 have I2:Inv (cxE P w K mg base N qual aB f cd A outer s0 H0 E) aA σ H' s':=I.call' os un hok bare (by intro b z;cases z)
 have hin:∀b,b∈frs outer->b∈frs (envOfC qual aB s0.heap.objs.size f cd::outer):=λb hb=>by
  unfold frs at hb ⊢;rw[cp];exact aK _ hb
 refine wpAny_leaves_onW (base:=B) I.ok.frames (L:=s0.heap.objs.size) rfl air.fly λh2 fl up=>?_;refine ae5 (h1:=s'.heap) I2 (λb o q nf c=>air.bk b o q nf ?_) (λb o q hb=>up b o q (a5d I2 (hin b hb) q)) fl (hE _ _ e)
 rcases c with c|⟨o0,c⟩
 ·exact .inl c
 ·exact .inr (I.base.there b o0 c (by intro z;cases z))
theorem ayt(I:Inv (cxE P w K mg base N qual aB f cd A outer s0 H0 E) aA σ H s)(mk:Heap.MadeExcOf s.heap h' a (.ref C) args)(e:E (.ref C) none H):(cxE P w K mg base N qual aB f cd A outer s0 H0 E).xe (.ref a) {s with heap:=h' }:=by
 have hin:∀b,b∈frs outer->b∈frs (envOfC qual aB s0.heap.objs.size f cd::outer):=λb hb=>by
  unfold frs at hb ⊢;rw[cp];exact aK _ hb
 have st:=I.stack;refine wpAny_leaves_madeW (base:=hideAll s.heap (frs (envOfC qual aB s0.heap.objs.size f cd::outer))) (h:=s.heap) I.ok.frames (L:=s0.heap.objs.size) rfl (λb o q=>of_hideAll _ q) (funFrames_hide st λenv he b hb=>fV.mpr ⟨env,he,hb⟩) mk λh2 t fl tu bt up=>?_;exact ae5 (h1:=s.heap) I (λb o q nf _=>hideAll_get _ q nf) (λb o q hb=>up b o (mk.keeps b o q) (a5d I (hin b hb) q)) fl e
end
structure XCls (K:Fg) (C:Addr):Prop where
 obj:∃(nm q:Str) (N:Addr) (bs bm:List Value) (hdct:Bool) (sn:List Str) (sub:List Value) (ab:Bool) (col:Option Bool) (dd:Option Addr) (k0 k1 k2 k3 k5:Option Value),
  K.lookup C=some (excClassObj nm q C N bs bm hdct sn sub ab col dd k0 k1 k2 k3 k5 "ValueError.__new__")/\nsOkIn K N=true/\nsIn K N "__init__" = some none/\tailIn K [.type "ValueError",.type "Exception",.type "BaseException",.type "object"] bm=true
def auu(t:TA)(Ex:Hp->Prop):TS:=λ_ σ H=>t σ H λvs H1=>vs.length<=sizeLine/\Ex H1
section
variable{X:Cx}{C:Addr}{x:Str}{np cpos pos:Pos}{e:Expr}{es:List Expr}{t:TA}{Ex:Hp->Prop}
theorem alg(hC:XCls X.K C)(hg:Gl X x)(hm:X.mg x=some (.ref C))(hc:X.calm=true)(ha:PA X (e::es) t)
  (lk:∀(aA:List (Addr×Obj)) (σ:St) (H:Hp) (s:Shared) (h':Heap) (a:Addr) (args:List Value),Inv X aA σ H s->Heap.MadeExcOf s.heap h' a (.ref C) args->Ex H->X.xe (.ref a) {s with heap:=h' })
  (hdb:(x == ("__debug__" : Str))=false:=by decide) (he:starEach (e::es) X.env=(false,eval e X.env)::starEach es X.env:=by rfl) (hpl:(backTo cpos (starEach es X.env)).any (·.1)=false:=by rfl) :
  PS X (.Raise (some (.Call (.Name x np) (e::es) [] cpos)) none pos) (auu t Ex):=by
 intro aA s σ H D I h
 obtain⟨nm,q,N,bs,bm,hdct,sn,sub,ab,col,dd,k0,k1,k2,k3,k5,lo,ok,ni,ti⟩:=hC.obj;refine wpAny_Raise_call_subT (C:=C) (nm:=nm) (q:=q) (N:=N) (bs:=bs) (bm:=bm) (hdct:=hdct) (sn:=sn) (sub:=sub) (ab:=ab) (col:=col) (dd:=dd) (k0:=k0) (k1:=k1) (k2:=k2) (k3:=k3) (k5:=k5)
  fU (mN:=X.base.nsMap N) ((tail_of_in I.kIn ti).hasType fU.hasBase) (I.ok.hd hc) (by rw[he];show(false || (backTo cpos (starEach es X.env)).any (·.1))=false;rw[hpl];rfl) (nsMap_none_of_in I.ok.mod.kin ok ni) (a4s I hg hm ⟨rfl,?_⟩ hdb)
 have h2:=ha cpos aA s σ H _ I h;rw[he]at h2 ⊢;refine fF (thn h2 λus s1 ⟨vs,H1,I1,r,z,ex⟩=>?_);exact⟨rfl,by rw[<-r.length];exact z,I1.kIn _ _ lo,.keeps (.of_isNs (isNs_of_in I1.ok.mod.kin ok)) I1.bk,tail_of_in I1.kIn ti,λh' a mk=>lk aA σ H1 s1 h' a us I1 mk ex⟩
end
end L2
namespace L2
open PySem.W PyProof.Rows Builtin Builtin.ObjectAttr Builtin.Getset_descriptor
section
variable{prog:Program}{w:World}{A:Around}{E:Value->Shared->Prop}{s:Shared}{K:Frag}{x D:Addr}{ox:Obj}{odo:Option Obj}
structure XKit (K:Frag) (D:Addr):Prop where
 ga:findIn K (.ref D) "__getattribute__" = some (some (.builtin "BaseException.__getattribute__"))
 gn:findIn K (.ref D) "__getattr__" = some none
 cl:(clsIn K D).isSome=true
 ca:findIn K (.ref D) "__class__" = some (some (.builtin "object.__class__"))
 sp:specialIn K (.builtin "object.__class__") "__get__" = some (some (.builtin "getset_descriptor.__get__"))
 tk:takesIn K (.builtin "object.__class__")=some true
 ob:mroIn K D (.type "object")=some true
 be:subIn K (.ref D) (.type "BaseException")=some true
 kc:kitCls K (.ref D) (.ref D)=some true
abbrev ExAt(x D:Addr)(h:Heap):Prop:=∃o,h.get? x=some o/\o.cls=.ref D
theorem ExAt.ty(I:ExAt x D h):Looks M h (typeOf (.ref x)) (.ref D):=by
 obtain⟨o,q,c⟩:=I;exact c ▸ (Looks.ld q).andThen .now
theorem aqk(Z:XKit K D)(X:K.In s.heap)(I:ExAt x D s.heap)(h:R (.ok (.ret (.ref D))) s):codeAny (model prog w) A (.call (.builtin "getset_descriptor.__get__") ⟨[.builtin "object.__class__",.ref x,tp],[]⟩) R s:=by
 obtain⟨hh,g,d,t,os⟩:=s;have T0:=ExAt.ty (M:=model prog w) I;have T1:=looks_mroIn (M:=model prog w) X Z.ob;refine codeAny_call_builtin KF.slot_gs.plain KF.entry_gs (KF.slot_gs.check _ _ _ _ _ _ _ _ KF.type_class (KF.args_gs _ _ _) ?_);unfold Builtin.«getset_descriptor.__get__» descrGet;rw[dga_obj];refine ar (aS ?_);unfold descrGetter descrCheckInstance descrNameAndClass isInstance;simp only[KF.owner_class]
 repeat lk
 refine⟨Code.quiet_builtin _ (by decide +kernel),codeAny_builtin KF.entry_class ?_⟩;unfold Builtin.«object.__class__» shownTypeOf
 repeat lk
 exact h
theorem alh(Z:XKit K D)(X:K.In h):Looks M h (Builtin.ObjectAttr.find (.ref x) (.ref D) "__class__") (.bind (.builtin "getset_descriptor.__get__") (.builtin "object.__class__")):=by
 refine(looks_findIn X Z.ca).andThen (Looks.andThen (a:=some (.builtin "getset_descriptor.__get__")) (looks_specialIn X Z.sp) (Looks.andThen (a:=some (.builtin "getset_descriptor.__get__",.builtin "object.__class__")) ?_ (Looks.tag .now)));exact(looks_takesIn X Z.tk).andThen .now
theorem ahy(Z:XKit K D)(X:K.In s.heap)(I:ExAt x D s.heap)(h:Q (some (.ref D)) {s with toks:=s.toks+1}):wpAny (model prog w) A (getAttr? (.ref x) "__class__") Q E s:=by
 obtain⟨hh,g,d,t,os⟩:=s;have T0:=ExAt.ty (M:=model prog w) I;have T1:=looks_findIn (M:=model prog w) X Z.ga;have T2:=looks_findIn (M:=model prog w) X Z.gn;have T3:=alh (M:=model prog w) (x:=x) Z X;have T4:Looks (model prog w) hh (isInstance (.ref x) (.type "BaseException")) true:=T0.andThen (looks_subIn X Z.be);have f3:=fQ.ga.bind (.ref x);have nb:(Value.builtin "BaseException.__getattribute__" == Value.builtin "object.__getattribute__")=false:=by decide +kernel
 have nh:(onTheHeap (Value.ref D) && Value.builtin "BaseException.__getattribute__" == Value.builtin "object.__getattribute__")=false:=by rw[nb];rfl
 unfold getAttr? getAttrBy? getAttrBy;refine ar (wpAny_mkText (ar (gH (dP (ar (T0.at (ar (T1.at ?_))))))));dsimp only;rw[nh,bE br];unfold getAttrByItsOwn;show wpAny _ _ (typeLookup (.ref D) "__getattr__">>=λbefore=>_) _ _ _;refine ar (T2.at (ar (gH (dP ?_))));show wpAny _ _ (boundAndCalled _ _ _) _ _ _;unfold boundAndCalled;rw[f3];refine ar (aS (wpAny_call (codeAny_call_builtin fQ.ga.plain PySem.F.entry_bexc_ga ?_)))
 have k1:builtinKind "BaseException.__getattribute__" = some .slot:=by decide +kernel
 have k2:splitId "BaseException.__getattribute__" = some ("BaseException", "__getattribute__"):=by decide +kernel
 have k3:=PySem.F.args_bexc_ga (.ref x) (.str "__class__" t);simp only[checkBuiltinCall,k1,k2];show wpAny _ _ (isInstance (.ref x) (.type "BaseException")>>=λb=>_) _ _ _;refine ar (T4.at ?_);rw[bE (by decide)]
 refine cH (Q:=λ_ s'=>s'=⟨hh,g,d,t+1,os⟩) (E:=λ_ _=>False) ?_ (λu s' e=>?_) (λ_ _ z=>z.elim)
 ·repeat (any_goals (first|assumption|rfl|wp_step))
 ·subst e;unfold Builtin.«object.__getattribute__»
  repeat (first|with_reducible refine T0.at ?_|with_reducible refine T3.at ?_|wp_step)
  exact aqk (s:=⟨hh,g,d,t+1,os⟩) Z X I (aS (handed_on rfl (aS h)))
theorem XKit.at(Z:XKit K D):∃c o cd sl,K.lookup D=some ⟨c,o,.cls cd,sl⟩:=by
 have:=Z.cl
 unfold clsIn at this
 split at this
 ·exact⟨_,_,_,_, ‹_›⟩
 ·cases this
theorem XKit.no(Z:XKit K D){its:List Value}(X:K.In h)(q:h.get? tp=some ⟨.type "tuple",dd,.seq its.toArray n,sl⟩):(Value.ref D == .ref tp)=false :=
 cF.mpr λe=>by
  obtain⟨_,_,_,_,lo⟩:=Z.at;rw[Value.ref.inj e]at lo;have:=X _ _ lo;rw[q]at this;cases this
theorem ae6(Z:XKit K D):KitX K (.ref x) (.ref D) (ExAt x D) :=
 ⟨λ_ _ _ I=>ExAt.ty I,λ_ _ X _=>(kit_cls X Z.kc).2.1,λ_ _ _ _ _ _ X q=>Z.no X q,λX I q=>ahy Z X I q⟩
end
end L2
namespace L2
open PySem.W PyProof.Rows
section
variable{X:Cx}{aA:List (Addr×Obj)}{σ:St}{H H1 H':Hp}{s s1 s':Shared}
theorem a9c(I:Inv X aA σ H s)(hN:X.N.Nodup)(hi:X.N[i]? = some n)(hk:X.env.scope.names.lookup n=some .local)
  (h:∀s',Inv X aA (σ.set i none) H s'->Q () s'):wpAny M A (do bindName X.env n .none;unbindBehindTheSuite X.env n pos) Q E s:=by
 obtain⟨m,hn,hl⟩:=id I.loc;have hcls:(X.env.scope.kind == .class || (X.env.scope.kind == .module && X.env.locals != X.env.globals))=false:=by rw[I.ok.kind];rfl
 have cne:=I.cne;obtain⟨oL,_,_,hoL,_⟩:=id hn;refine wpAny_nameGoes_keeps hk hn hcls λh' v hn' hs=>h _ ?_;have far:∀b o,X.s₀.heap.get? b=some o->b≠X.env.locals:=λb o e=>bR (aZ (aV e) I.ok.above);refine⟨I.ok,I.os,I.bare,⟨λb o e n hb hx=>(hs.2 b (far b o e)).trans (I.base.keep b o e n hb hx),λb o e n hb hx=>?_,I.base.free,λb o e hx=>?_,I.base.tups,I.base.frzs,I.base.tbls⟩,⟨_,hn',λj y v' e1 e2 e3=>?_⟩,λy c e=>?_,I.free,I.freeC,λp hp=>?_,I.hok.track λb u hb q=>?_,by simpa using I.len⟩
 ·obtain⟨sl,q⟩:=I.base.slot b o e n hb hx;exact⟨sl,(hs.2 b (far b o e)).trans q⟩
 ·obtain⟨o1,q⟩:=I.base.there b o e hx;exact⟨o1,(hs.2 b (far b o e)).trans q⟩
 ·have ji:j≠i:=λz=>by
   subst z;rw[List.getElem?_set]at e2;simp at e2
  rw[cC (g7 ji)]at e2;obtain⟨u',r',q⟩:=hl j y v' e1 e2 e3;refine⟨u',r',?_⟩
  rcases q with⟨k,e⟩|⟨k,c,e,z⟩
  ·refine .inl ⟨k,?_⟩;have:y≠n:=λe=>ji (a8i hN e1 (e ▸ hi));simp[this,e]
  ·exact .inr ⟨k,c,e,z.sameBut hs (cne y c e)⟩
 ·obtain⟨w',z⟩:=I.cell y c e;exact⟨w',z.sameBut hs (cne y c e)⟩
 ·obtain⟨e,n,ne,nf,d⟩:=I.pin p hp;exact⟨(hs.2 p.1 ne).trans e,n,ne,nf,d⟩
 ·refine(hs.2 b λz=>?_).trans q;subst z;exact hb I.free
theorem anz(I1:Inv X aA σ H1 s1)(os:s'.os=s1.os)(bare:AllBare s'.gens)(un:Un (frs X.stack) [] H1 H' s1.heap s'.heap)(hok:HOk X.prog X.w H' s'.heap)(air:Air X.stack H' s1.heap B a C t s'.heap)
  (st:B.StaysIn h5) (up:s'.heap.UpToSlots h5) (tk:Nat):Inv X aA σ H' {s' with heap:=h5,toks:=tk}:=by
 have I2:Inv X aA σ H' s':=I1.call' os un hok bare (by intro b z;cases z)
 refine I1.call' (s':={s' with heap:=h5,toks:=tk}) os ⟨λb o q n hf hx=>?_,λb o q n hf hx=>?_,un.free,λb o q hx=>?_,un.tups,un.frzs,un.tbls⟩ (hok.track λb u hn q=>?_) bare (by intro b z;cases z)
 ·exact st _ _ (air.bk b o (un.keep b o q n hf hx) hf (.inr ⟨o,q⟩))
 ·obtain⟨s2,q2⟩:=un.slot b o q n hf hx;obtain⟨s3,q3⟩:=up b _ q2 (a5d I2 hf q2);exact⟨s3,q3⟩
 ·obtain⟨o1,q1⟩:=un.there b o q hx
  by_cases hf:b∈frs X.stack
  ·obtain⟨s3,q3⟩:=up b _ q1 (a5d I2 hf q1);exact⟨_,q3⟩
  ·exact⟨_,st _ _ (air.bk b o1 q1 hf (.inr ⟨o,q⟩))⟩
 ·exact st _ _ (air.bk b u q (λz=>hn (I2.stkFree b z)) (.inl hn))
abbrev Cx.inEx(X:Cx)(a:Addr):Cx:={X with A:=X.A.mark (some (.ref a)),calm:=false,xe:=λ_ _=>False}
theorem Cx.Ok.inEx(ok:X.Ok)(a:Addr):(X.inEx a).Ok:=⟨ok.mod,ok.kind,ok.glob,ok.blt,ok.above,ok.inj,ok.has,ok.cab,λz=>(Bool.noConfusion (show false=true from z)),ok.frames,ok.stk,ok.exf,ok.bs,ok.bsz,ok.noex,ok.exfs,ok.funs,ok.frf⟩
theorem Inv.inEx(I:Inv X aA σ H s)(a:Addr):Inv (X.inEx a) aA σ H s:=⟨I.ok.inEx a,I.os,I.bare,I.base,I.loc,I.cell,I.free,I.freeC,I.pin,I.hok,I.len⟩
theorem Inv.outEx(ok:X.Ok)(I:Inv (X.inEx a) aA σ H s):Inv X aA σ H s:=⟨ok,I.os,I.bare,I.base,I.loc,I.cell,I.free,I.freeC,I.pin,I.hok,I.len⟩
def exO(a:Addr):HO:=.ext λh=>∃o,h.get? a=some o
theorem Inv.exc(I:Inv X aA σ H s)(I1:Inv X aA σ H1 s1)(he:s.heap.get? a=some oe)(ha:H a=none)(na:s1.heap.get? a=none):Inv X aA σ (upd H a (.frz oe (exO a))) s:=by
 have old:∀b o,s1.heap.get? b=some o->b≠a:=λb o q z=>by subst z;rw[na]at q;cases q
 have sm:∀b o,s1.heap.get? b=some o->upd H a (.frz oe (exO a)) b=H b:=λb o q=>jg (old b o q);have kp:∀b u,H b=some u->upd H a (.frz oe (exO a)) b=some u:=λb u q=>by
  rw[jg]
  ·exact q
  ·intro z;subst z;rw[ha]at q;cases q
 have ba:=I.base;refine⟨I.ok,I.os,I.bare,⟨ba.keep,ba.slot,λb o q n hx=>?_,ba.there,λb xs q=>kp _ _ (ba.tups b xs q),λb o u q=>kp _ _ (ba.frzs b o u q),λb ps q=>?_⟩,I.loc,I.cell,?_,λy c e=>?_,λp hp=>?_,λb u q=>?_,I.len⟩
 ·obtain⟨o1,q1⟩:=I1.base.there b o q hx;rw[sm b o1 q1];exact ba.free b o q n hx
 ·obtain⟨more,q1⟩:=ba.tbls b ps q;exact⟨more,kp _ _ q1⟩
 ·obtain⟨_,⟨o,_,_,q,_⟩,_⟩:=I1.loc;rw[sm _ _ q];exact I.free
 ·obtain⟨v,o,q,_⟩:=I1.cell y c e;rw[sm _ _ q];exact I.freeC y c e
 ·obtain⟨e,n,ne,nf,d⟩:=I.pin p hp;exact⟨e,by rw[sm _ _ (I1.pin p hp).1];exact n,ne,nf,d⟩
 ·by_cases hb:b=a
  ·subst hb;rw[qp]at q;cases q
   exact⟨he,⟨oe,he⟩,⟨oe,he⟩,λh1 h2 ⟨o,q⟩ k=>⟨o,k o q⟩⟩
  ·rw[jg hb]at q;exact(I.hok b u q).stay (λ_ _ _ z=>z) (λc z=>kp _ _ z) λc xs z=>kp _ _ z
end
def XP(X:Cx)(aA:List (Addr×Obj))(σ:St)(E:XK)(e:Value)(s':Shared):Prop:=∃s1 H1,Inv X aA σ H1 s1/\CXE X.prog X.w X.stack H1 s1 E e s'
structure Hnd (X:Cx) (R:Addr) (x n:Str) (i:Nat):Prop where
 hg:Gl X x
 hm:X.mg x=some (.ref R)
 nd:X.N.Nodup
 hi:X.N[i]? = some n
 lo:X.env.scope.names.lookup n=some .local
 st:X.stack=X.env::X.outer/\X.env.frame=some X.env.locals
 db:(x == ("__debug__" : Str))=false
section
variable{X:Cx}{aA:List (Addr×Obj)}{σ:St}{s s':Shared}
def ayu(D:Ends)(i:Nat):Ends:={nx:=λσ H=>D.nx (σ.set i none) H,rt:=D.rt,bk:=λσ H=>D.bk (σ.set i none) H,ct:=λσ H=>D.ct (σ.set i none) H}
theorem ali(N:Hnd X R x n i)(hs:∀a,PSs (X.inEx a) (b0::suite) ts)
  (mt:∀C H,E (.ref C) none H->exmOne X.K (.ref C) (.ref R)=some true/\∀a oe,oe.cls=.ref C->H a=none->ts (ayu D i) (σ.set i (some (.ref a))) (upd H a (.frz oe (exO a))))
  (h:XP X aA σ E e s') :
  wpAny (model X.prog X.w) X.A (noteFrame e X.env) (λ_ s2=>wpAny (model X.prog X.w) X.A (setFlight e none) (λ_ s3=>wpAny (model X.prog X.w) X.A (handleBy e X.env [.ExceptHandler (some (.Name x np)) (some n) (b0::suite) pos]) (SP X aA D) X.xe s3) X.xe s2) X.xe s':=by
 obtain⟨s1,H1,I1,a,C,t,B,H',rfl,os,bare,un,hok,air,e⟩:=h;obtain⟨mt1,mt2⟩:=mt C H' e;have ok:=I1.ok;have fr:X.A.frames=some (X.env::X.outer):=by rw[<-N.st.1];exact ok.frames
 have fl:=air.fly;rw[N.st.1]at fl;have na:s1.heap.get? a=none:=by
  cases q:s1.heap.get? a with
  |none=>rfl
  |some o =>
   obtain⟨oe,vs,he,_,hd,_⟩:=fl.first
   have I2:Inv X aA σ H' s':=I1.call' os un hok bare (by intro b z;cases z)
   have nf:a∉frs X.stack:=λz=>a5d I2 z he _ hd;have:=air.bk a oe he nf (.inr ⟨o,q⟩);rw[fl.2.1]at this;cases this
 have ha:H' a=none:=by
  cases q:H' a with
  |none=>rfl
  |some u =>
   obtain⟨oe,vs,he,_,hd,_⟩:=fl.first
   have I2:Inv X aA σ H' s':=I1.call' os un hok bare (by intro b z;cases z)
   have nf:a∉frs X.stack:=λz=>a5d I2 z he _ hd;have:=air.bk a oe he nf (.inl (by rw[q];simp))
   rw[fl.2.1]at this;cases this
 refine wpAny_looks_onW fr N.st.2 fl λh4 held4 up4=>?_;refine wpAny_landsW held4 λh5 fl5 up5=>?_;have I5:=anz I1 os bare un hok air fl5.1 (up4.trans up5) s'.toks;obtain⟨ob,hob,hobc⟩:=fl5.there;have I5m:=I5.inEx a;refine wpAny_handleBy_cons (codeAny_handlers_test (a4s I5m N.hg N.hm ?_ N.db)) (by intro q;cases q)
 have LT:Looks (model X.prog X.w) h5 (typeOf (.ref a)) (.ref C):=hobc ▸ (Looks.ld hob).andThen .now;refine(exm_one I5.kIn LT mt1).here ?_;refine codeAny_handlers_suite_as ?_;refine lands_againW fl5 λh6 fl6 up6=>?_;have I6:=anz I1 os bare un hok air fl6.1 ((up4.trans up5).trans up6) s'.toks;obtain⟨oe,vs,he,hec,hed,_⟩:=fl6.first
 have I7:=(I6.exc I1 he ha na).inEx a;refine a5x (X:=X.inEx a) I7 N.nd N.hi (.inl N.lo) (v:=.ref a) rfl (λs8 I8=>?_) (.inr N.lo);refine cH (hs a aA s8 _ _ (ayu D i) I8 (mt2 a oe hec ha)) (λf s9 q=>?_) λ_ _ z=>z.elim;show wpAny (model X.prog X.w) X.A (do bindName X.env n .none;unbindBehindTheSuite X.env n pos) (λ_ s3=>SP X aA D f s3) X.xe s9
 cases f with
 |next =>
  obtain⟨σ',H9,I9,q⟩:=q;exact a9c (I9.outEx ok) N.nd N.hi N.lo λs10 I10=>⟨_,H9,I10,q⟩
 |brk =>
  obtain⟨σ',H9,I9,q⟩:=q;exact a9c (I9.outEx ok) N.nd N.hi N.lo λs10 I10=>⟨_,H9,I10,q⟩
 |cont =>
  obtain⟨σ',H9,I9,q⟩:=q;exact a9c (I9.outEx ok) N.nd N.hi N.lo λs10 I10=>⟨_,H9,I10,q⟩
 |ret u =>
  obtain⟨v,σ',H9,I9,r,q⟩:=q;exact a9c (I9.outEx ok) N.nd N.hi N.lo λs10 I10=>⟨v,_,H9,I10,r,q⟩
def PEx(X:Cx)(e:Expr)(t:St->Hp->VK->XK->Prop):Prop :=
 ∀(aA:List (Addr×Obj)) (s:Shared) (σ:St) (H:Hp) (Q:VK) (E:XK),Inv X aA σ H s->t σ H Q E->wpAny (model X.prog X.w) X.A (eval e X.env) (EP X aA σ Q) (XP X aA σ E) s
def PSx(X:Cx)(st:List Stmt)(t:Ends->XK->St->Hp->Prop):Prop :=
 ∀(aA:List (Addr×Obj)) (s:Shared) (σ:St) (H:Hp) (D:Ends) (E:XK),Inv X aA σ H s->t D E σ H->wpAny (model X.prog X.w) X.A (execs st X.env) (SP X aA D) (XP X aA σ E) s
variable{e:Expr}{es:List Expr}{pos:Pos}
theorem ahz{st:Stmt}{D:Ends}{W:Value->Shared->Prop}(h:wpAny (model X.prog X.w) X.A (exec st X.env) (SP X aA D) W s):wpAny (model X.prog X.w) X.A (execs [st] X.env) (SP X aA D) W s:=by
 refine gI (thn h λf s1 q=>?_)
 cases f with
 |next=>exact e7 q
 |ret v=>exact q
 |brk=>exact q
 |cont=>exact q
theorem alj{t:St->Hp->VK->XK->Prop}(he:PEx X e t)(hs:swapsWith e none pos.line X.env=pure false:=by rfl):PSx X [.Expr e pos] (λD E σ H=>t σ H (λ_ H1=>D.nx σ H1) E):=by
 intro aA s σ H D E I h
 exact ahz (wpAny_Expr_any (thn (he aA s σ H _ E I h) λv s1 ⟨x,H1,I1,r1,q1⟩=>⟨σ,H1,I1,q1⟩) I.quiet hs)
theorem auv(N:Hnd X R x n i)(hb:PSx X body t)(hs:∀a,PSs (X.inEx a) (b0::suite) ts) :
  PS X (.Try body [.ExceptHandler (some (.Name x np)) (some n) (b0::suite) hp] [] [] pos) (λD σ H=>t D (λcls d H'=>∃C,cls=.ref C/\exmOne X.K (.ref C) (.ref R)=some true/\∀a oe,oe.cls=.ref C->H' a=none->ts (ayu D i) (σ.set i (some (.ref a))) (upd H' a (.frz oe (exO a)))) σ H):=by
 intro aA s σ H D I h
 refine wpAny_Try_except (cH (hb aA s σ H D _ I h) (λf s1 q=>?_) λe s1 q=>ali N hs (λC H' z=>?_) q)
 ·cases f with
  |next=>exact e7 q
  |ret v=>exact q
  |brk=>exact q
  |cont=>exact q
 ·obtain⟨C',z,m1,m2⟩:=z;cases z
  exact⟨m1,m2⟩
theorem alk(F:FnOk X.prog X.w X.K X.mg X.base (CXE X.prog X.w) k f fd ps sp)(hr:Room k X.A)(hg:Gl X x)(hm:X.mg x=some (.ref f))(hk:PySem.W.keepIn X.K (.ref f)=true)(hb:Binds X.K fd ps [])
  (ha:PA X.nox (e::es) t) (hdb:(x == ("__debug__" : Str))=false:=by decide) (he:starEach (e::es) X.env=(false,eval e X.env)::starEach es X.env:=by rfl) (hpl:(backTo pos (starEach es X.env)).any (·.1)=false:=by rfl) :
  PEx X (.Call (.Name x p) (e::es) [] pos) (λσ H Q E=>t σ H λvs H1=>sp vs H1 Q E):=by
 intro aA s σ H Q E I h
 refine cQ (a4s I hg hm ?_ hdb);refine PySem.W.callWith_K (h₀:=X.base) I.ok.mod.kin hk (cH (ha pos aA s σ H _ (I.wish _) h) (λus s1 ⟨vs,H1,I1,r,q⟩=>⟨I1.unwish.kIn,?_⟩) λ_ _ z=>z.elim) he hpl;have I1:=I1.unwish;have hl:us.length=ps.length:=by rw[<-r.length];exact F.len _ _ _ _ q
 have bd:=hb s1 us I1.kIn (by rw[bJ];exact hl)
 rw[bJ]at bd;refine wpAny_call (gL (F.run X.A X.stack s1 H1 ⟨us,[]⟩ us vs Q E hr I1.env0 bd r q) λr s' hq=>?_)
 cases r with
 |error e=>exact⟨s1,H1,I1,hq⟩
 |ok fl =>
  cases fl with
  |ret u=>exact I1.after hq
  |next=>exact False.elim hq
  |brk=>exact False.elim hq
  |cont=>exact False.elim hq
end
end L2
namespace MI
open L2
def afy(mg:Str->Option Value)(E:XK):XD:=λc _ H' _=>∃C,mg c=some (.ref C)/\E (.ref C) none H'
def spX(K:Fg)(mg:Str->Option Value)(n:Nat)(F:SF):Sp:=λvs H Q E=>vs.length=n/\∃ι ds h,Reps K ι H vs ds/\HRep K ι H h/\out K (afy mg E) (yq K) ι H (F ds h) Q
structure DnX (P:Program) (w:World) (K:Fg) (mg:Str->Option Value) (base:Heap) (k:Nat) (x:Str) (ps:List Str) (sp:Sp) (f:Addr) (fd:FuncData):Prop where
 ok:FnOk P w K mg base (CXE P w) k f fd ps sp
 m:mg x=some (.ref f)
 kp:PySem.W.keepIn K (.ref f)=true
 b:Binds K fd ps []
theorem ack(Fu:Fun K x qual st f fd)(S:FnScope N ps (bw st))
  (hb:∀(cdv:Value) (A:Around) (outer:List Env) (s:Shared) (H:Hp) (E:XK),Room k (A.deeper (PyProof.Rows.envOfC qual (bw st) s.heap.objs.size f cdv))->MSs (cxE P w K mg base N qual (bw st) f cdv A outer s H E) (afy mg E) (qz st) b) :
  FnOk P w K mg base (CXE P w) (k+1) f fd ps (spX K mg ps.length (km b N.length)):=by
 obtain⟨oc,od,kV,doc,pm,an,cdv,ct,osl,rfl,lk,hcd⟩:=Fu.ex;refine atj lk hcd S (λvs H Q E h=>h.1) λA outer s H vs Q E hr h=>⟨_,hb cdv A outer s H E hr,?_⟩;obtain⟨hl,ι,ds,h,r,hr',o⟩:=h;refine⟨ι,a3u N.length ds,h,a7w r,hr',?_⟩;unfold km at o
 cases hbd:b (a3u N.length ds) h with
 |rt d h1=>rw[hbd]at o;exact o
 |nx τ h1=>rw[hbd]at o;exact λι' H' σ' g1 S1 hr1=>o ι' H' .non g1 .non hr1
 |ex c h1=>rw[hbd]at o;exact o
 |bk τ h1=>rw[hbd]at o;exact o.elim
 |ct τ h1=>rw[hbd]at o;exact o.elim
 |no=>rw[hbd]at o;exact o.elim
section
variable{K:Fg}{ι:List Addr}{H:Hp}{h:Hd}{n:Nat}
noncomputable def yw(n:Nat)(F:SF):SF:=λds h=>open Classical in if ∀d∈ds,clo 0 d then (match F ds [] with|.ex c _=>if ds.length=n then .ex c h else .no|_=>gq false n F ds h) else .no
theorem noex:gq m n F ds h≠.ex c h1:=by
 unfold gq
 split
 ·unfold as8
  intro e
  repeat (first|(split at e)|cases e)
 ·intro e;cases e
theorem ae7(ne:∀c h1,r≠.ex c h1)(o:out K E (yq K) ι H r Q):out K E' (yq K) ι H r Q:=by
 cases r with
 |ok a h=>exact o
 |ex c h=>exact absurd rfl (ne c h)
 |no=>exact o
theorem HRep.stays(hr:HRep K ι H h)(k:∀a u,H a=some u->H' a=some u):Gr ι H ι H'/\HRep K ι H' h:=by
 have G:Gr ι H ι H':=⟨⟨[],by simp,by simp⟩,λa vs q=>k _ _ q,λa o u q=>k _ _ q,λa u q _=>k _ _ q,λa u q=>⟨u,k _ _ q⟩⟩
 refine⟨G,hr.nd,hr.len,λi a o e1 e2=>?_⟩;have r:=hr.obj i a o e1 e2;obtain⟨u,hu,_⟩:=r.some;exact r.mono G (by rw[hu];exact k a u hu)
theorem a75:∀{ds:List D},(∀d∈ds,clo 0 d)->clos 0 ds
 |[],_=>by simp[clos]
 |d::ds,h=>by simp only[clos];exact⟨h d aQ,a75 λx hx=>h x (aK _ hx)⟩
theorem a9d(r:Reps K ι H vs ds)(hr:HRep K ι H h)(o:out K E2 (yq K) ι H (yw n F ds h) Q)(hE:∀c H' ,Gr ι H ι H'->HRep K ι H' h->E2 c ι H' h->afy mg E c ι H' h) :
  spX K mg n F vs H (λv H1=>∃L,aan H1 L/\∀H2,FrzOf L H1 H2->Q v H2) E:=by
 unfold yw at o
 split at o
 ·rename_i hc;have ok:out K E2 (yq K) ι H (gq false n F ds h) Q->spX K mg n F vs H (λv H1=>∃L,aan H1 L/\∀H2,FrzOf L H1 H2->Q v H2) E:=λo=>by
   obtain⟨l,ι0,ds0,h0,r0,hr0,o0⟩:=a94 r hr (ae7 (E':=X0) (λc h1=>noex) o) E;refine⟨l,ι0,ds0,h0,r0,hr0,?_⟩
   cases e:F ds0 h0 with
   |ok a h1=>rw[e]at o0;exact o0
   |ex c h1=>rw[e]at o0;exact λι' H' g hr=>(o0 ι' H' g hr).elim
   |no=>rw[e]at o0;exact o0
  split at o
  ·rename_i c hx e
   split at o
   ·rename_i hl;have R0:Reps K [] H vs ds:=by
     have:=r.cut (a75 hc)
     rwa[eI]at this
    refine⟨by rw[r.len];exact hl,[],ds,[],R0,⟨eJ,rfl,λi a o e1=>by simp at e1⟩,?_⟩
    rw[e]
    intro ι' H' g _
    obtain⟨G,hr'⟩:=hr.stays λa u q=>g.oth a u q (by simp)
    exact hE c H' G hr' (o ι H' G hr')
   ·exact o.elim
  ·exact ok o
 ·exact o.elim
end
theorem a9e(m:Bool){X:Cx}(G:Dn X.prog X.w X.K X.mg X.base k x ps (yh X.K n F) f fd)(hr:Room k X.A)(hg:Gl X x)(ha:MA X E (e::es) ka)
  (hdb:(x == ("__debug__" : Str))=false:=by decide) (he:starEach (e::es) X.env=(false,eval e X.env)::starEach es X.env:=by rfl) (hpl:(backTo pos (starEach es X.env)).any (·.1)=false:=by rfl):ME X E (.Call (.Name x p) (e::es) [] pos) (sA (gq m n F) ka):=by
 refine PE.weak (a82 (a6k G.ok hr hg G.m G.kp G.b .nil akg ha hdb he hpl)) ?_
 rintro σ H Q ⟨ι,τ,h,S,Rh,o⟩
 refine⟨ι,τ,h,S,Rh,bx o λds h1 ι1 H1 vs g1 r1 hr1 o1=>?_⟩;rw[bJ];exact a94 r1 hr1 (ae7 (λc h1=>noex) o1) _
theorem a76{X:Cx}(G:DnX X.prog X.w X.K X.mg X.base k x ps (spX X.K X.mg n F) f fd)(hr:Room k X.A)(hg:Gl X x)(ha:MA X X0 (e::es) ka)
  (hdb:(x == ("__debug__" : Str))=false:=by decide) (he:starEach (e::es) X.env=(false,eval e X.env)::starEach es X.env:=by rfl) (hpl:(backTo pos (starEach es X.env)).any (·.1)=false:=by rfl):ME X X0 (.Call (.Name x p) (e::es) [] pos) (sA (yw n F) ka):=by
 have ps0:a7o (CXE X.prog X.w) X E0:=by
  rintro aA σ H s e s' I ⟨a,C,t,B,H',rfl,os,bare,un,hok,air,z⟩
  exact z.elim
 refine PE.weak (a82 (a6k G.ok hr hg G.m G.kp G.b .nil ps0 ha hdb he hpl)) ?_
 rintro σ H Q ⟨ι,τ,h,S,Rh,o⟩
 refine⟨ι,τ,h,S,Rh,bx o λds h1 ι1 H1 vs g1 r1 hr1 o1=>?_⟩;rw[bJ];exact a9d r1 hr1 o1 λc H' _ _ z=>z.elim
section
variable{P:Program}{w:World}{K:Fg}{mg:Str->Option Value}{base:Heap}{N:List Str}{qual:Str}{aB:Scope}{fa:Addr}{cd:Value}{A:Around}{outer:List Env}{s0:Shared}{H0:Hp}{E:XK}
theorem ae8(G:DnX P w K mg base k x ps (spX K mg n F) f fd)(hr:Room k (cxE P w K mg base N qual aB fa cd A outer s0 H0 E).A)(hg:Gl (cxE P w K mg base N qual aB fa cd A outer s0 H0 E) x)(ha:MA (cxE P w K mg base N qual aB fa cd A outer s0 H0 E) (afy mg E) (e::es) ka)
  (hdb:(x == ("__debug__" : Str))=false:=by decide) (he:starEach (e::es) (cxE P w K mg base N qual aB fa cd A outer s0 H0 E).env=(false,eval e (cxE P w K mg base N qual aB fa cd A outer s0 H0 E).env)::starEach es (cxE P w K mg base N qual aB fa cd A outer s0 H0 E).env:=by rfl) (hpl:(backTo pos (starEach es (cxE P w K mg base N qual aB fa cd A outer s0 H0 E).env)).any (·.1)=false:=by rfl) :
  ME (cxE P w K mg base N qual aB fa cd A outer s0 H0 E) (afy mg E) (.Call (.Name x p) (e::es) [] pos) (sA (yw n F) ka):=by
 refine PE.weak (a82 (a6k (X:=cxE P w K mg base N qual aB fa cd A outer s0 H0 E) G.ok hr hg G.m G.kp G.b .nil (ays λ_ _ z=>z) ha hdb he hpl)) ?_
 rintro σ H Q ⟨ι,τ,h,S,Rh,o⟩
 refine⟨ι,τ,h,S,Rh,bx o λds h1 ι1 H1 vs g1 r1 hr1 o1=>?_⟩;rw[bJ];exact a9d r1 hr1 o1 λc H' _ _ z=>z
def ab3(c:Str)(ka:SA):SS:=λτ h=>(ka τ h).fl λds h1=>if ds.length<=LINE then .ex c h1 else .no
theorem alm(hC:XCls K C)(hg:Gl (cxE P w K mg base N qual aB fa cd A outer s0 H0 E) x)(hm:mg x=some (.ref C))(ha:MA (cxE P w K mg base N qual aB fa cd A outer s0 H0 E) (afy mg E) (e::es) ka)
  (hdb:(x == ("__debug__" : Str))=false:=by decide) (he:starEach (e::es) (cxE P w K mg base N qual aB fa cd A outer s0 H0 E).env=(false,eval e (cxE P w K mg base N qual aB fa cd A outer s0 H0 E).env)::starEach es (cxE P w K mg base N qual aB fa cd A outer s0 H0 E).env:=by rfl) (hpl:(backTo cpos (starEach es (cxE P w K mg base N qual aB fa cd A outer s0 H0 E).env)).any (·.1)=false:=by rfl) :
  MS (cxE P w K mg base N qual aB fa cd A outer s0 H0 E) (afy mg E) (.Raise (some (.Call (.Name x np) (e::es) [] cpos)) none pos) (ab3 x ka):=by
 refine PS.weak (alg (X:=cxE P w K mg base N qual aB fa cd A outer s0 H0 E) (Ex:=λH=>E (.ref C) none H) hC hg hm rfl ha (λaA σ H s h' a args I mk z=>ayt I mk z) hdb he hpl) ?_
 rintro D σ H ⟨ι,τ,h,S,Rh,o⟩
 refine⟨ι,τ,h,S,Rh,v9 o λds h1 ι1 H1 vs g1 r1 hr1 o1=>?_⟩
 split at o1
 ·rename_i hl;obtain⟨C',e1,z⟩:=o1 ι1 H1 (.refl _ _) hr1;rw[hm]at e1;cases e1
  exact⟨by rw[r1.len];exact a8o hl,z⟩
 ·exact o1.elim
end
def noX{α:Type}:R α->R α
 |.ex _ _=>.no
 |r=>r
def qA{α:Type}(ka:Sd->Hd->R α):Sd->Hd->R α:=λτ h=>noX (ka τ h)
abbrev MEx(X:Cx)(e:Expr)(f:SE):Prop:=PEx X e λσ H Q E=>lift X.K (afy X.mg E) (yq X.K) f σ H Q
abbrev MSx(X:Cx)(st:List Stmt)(f:SS):Prop:=PSx X st λD E σ H=>a6x X.K (afy X.mg E) f D σ H
section
variable{X:Cx}
theorem aql(h:PEx X e t):PEx X e (λσ H Q E=>t σ H (λv H1=>∃L,aan H1 L/\∀H2,FrzOf L H1 H2->Q v H2) E):=λaA s σ H Q E I q =>
 L2.thn (h aA s σ H _ E I q) λu s' ⟨v,H1,I1,r,L,ab,k⟩=>let ⟨H2,f,I2⟩:=Inv.frz I1 ab; ⟨v,H2,I2,r,k H2 f⟩
theorem aqm(G:DnX X.prog X.w X.K X.mg X.base k x ps (spX X.K X.mg n F) f fd)(hr:Room k X.A)(hg:Gl X x)(ha:MA X.nox X0 (e::es) ka)
  (hdb:(x == ("__debug__" : Str))=false:=by decide) (he:starEach (e::es) X.env=(false,eval e X.env)::starEach es X.env:=by rfl) (hpl:(backTo pos (starEach es X.env)).any (·.1)=false:=by rfl):MEx X (.Call (.Name x p) (e::es) [] pos) (sA (yw n F) (qA ka)):=by
 intro aA s σ H Q E I ⟨ι,τ,h,S,Rh,o⟩
 refine aql (alk G.ok hr hg G.m G.kp G.b ha hdb he hpl) aA s σ H Q E I ⟨ι,τ,h,S,Rh,?_⟩;have o2:=bx o (P:=λvs H1=>spX X.K X.mg n F vs H1 (λv H1=>∃L,aan H1 L/\∀H2,FrzOf L H1 H2->Q v H2) E) λds h1 ι1 H1 vs g1 r1 hr1 o1=>a9d r1 hr1 o1 λc H' _ _ z=>z;unfold qA at o2
 cases e1:ka τ h with
 |ok a h1=>rw[e1]at o2;exact o2
 |ex c h1=>rw[e1]at o2;exact o2.elim
 |no=>rw[e1]at o2;exact o2
theorem aqn{pos:Pos}(he:MEx X e f)(hs:swapsWith e none pos.line X.env=pure false:=by rfl):MSx X [.Expr e pos] (uw f):=λaA s σ H D E I ⟨ι,τ,h,S,Rh,o⟩ =>
 alj he hs aA s σ H D E I ⟨ι,τ,h,S,Rh,v9 o λd h1 ι1 H1 v g1 r1 hr1 o1=>o1 ι1 H1 _ (.refl _ _) (S.mono g1) hr1⟩
def auw(i:Nat)(cs:Str->Bool)(fb fs:SS):SS:=λτ h=>match fb τ h with
 | .ex c h1=>if cs c=true then (match fs (τ.set i (some (.exc c))) h1 with
   |.nx τ' h'=>.nx (τ'.set i none) h'|.rt d h'=>.rt d h'|.bk τ' h'=>.bk (τ'.set i none) h'|.ct τ' h'=>.ct (τ'.set i none) h'|_=>.no) else .no
 |r=>r
theorem SRep.off(S:SRep K ι H σ τ)(i:Nat):SRep K ι H (σ.set i none) (τ.set i none):=by
 refine⟨by simp[S.len],λj d e=>?_⟩
 by_cases hj:i=j
 ·subst hj;rw[List.getElem?_set]at e;simp at e
 ·rw[cC hj]at e ⊢;exact S.val j d e
theorem auy{R:Addr}{x n:Str}{i:Nat}{np hp pos:Pos}{body:List Stmt}{b0:Stmt}{suite:List Stmt}{cs:Str->Bool}{fb fs:SS}(N:Hnd X R x n i)
  (hcs:∀c,cs c=true->∃C,X.mg c=some (.ref C)/\PySem.W.nsIn X.K mainGlobals c=some (some (.ref C))/\PySem.W.exmOne X.K (.ref C) (.ref R)=some true)
  (hb:MSx X body fb) (hs:∀a,MSs (X.inEx a) X0 (b0::suite) fs):MS X X0 (.Try body [.ExceptHandler (some (.Name x np)) (some n) (b0::suite) hp] [] [] pos) (auw i cs fb fs):=by
 refine PS.weak (auv (ts:=a6x X.K X0 fs) N hb hs) λD σ H ⟨ι,τ,h,S,Rh,o⟩=>⟨ι,τ,h,S,Rh,?_⟩;unfold auw at o
 cases e:fb τ h with
 |nx τ' h'=>rw[e]at o;exact o
 |rt d h'=>rw[e]at o;exact o
 |bk τ' h'=>rw[e]at o;exact o
 |ct τ' h'=>rw[e]at o;exact o
 |no=>rw[e]at o;exact o
 |ex c h1 =>
  rw[e]at o;dsimp only at o
  split at o
  ·rename_i hc;obtain⟨C,m,ns,ex⟩:=hcs c hc
   intro ι' H' g hr
   refine⟨C,m,C,rfl,ex,λa oe hoe ha=>?_⟩;have G:=g.trans (a02 (ι:=ι') ha (.frz oe (L2.exO a)));refine⟨ι',τ.set i (some (.exc c)),h1,(S.mono G).set (.exc (o:=oe) (C:=C) qp hoe ns) i,hr.aside ha _,?_⟩;have o1:=uv o G
   cases e2:fs (τ.set i (some (.exc c))) h1 with
   |nx τ' h'=>rw[e2]at o1;exact λι2 H2 σ' g2 S2 hr2=>o1 ι2 H2 _ g2 (S2.off i) hr2
   |bk τ' h'=>rw[e2]at o1;exact λι2 H2 σ' g2 S2 hr2=>o1 ι2 H2 _ g2 (S2.off i) hr2
   |ct τ' h'=>rw[e2]at o1;exact λι2 H2 σ' g2 S2 hr2=>o1 ι2 H2 _ g2 (S2.off i) hr2
   |rt d h'=>rw[e2]at o1;exact o1
   |ex c' h'=>rw[e2]at o1;exact o1.elim
   |no=>rw[e2]at o1;exact o1.elim
  ·exact o.elim
end
section
variable{X:Cx}
def vc(v:V)(cv:Value):Prop:=(∃C,v=.ref C/\cv=.ref C)\/∃T,v=.ty T/\cv=.type T
theorem vc.eq(h:vc v cv)(r:RelV v u):u=cv:=by
 rcases h with⟨C,rfl,rfl⟩|⟨T,rfl,rfl⟩
 ·exact r
 ·cases r;rfl
theorem auz(I:L2.Inv X aA σ H s)(e:H a=some (.frz o (exO a)))(c:o.cls=.ref C):ExAt a C s.heap:=⟨o,(show ObjOk X.prog X.w H s.heap a (.frz o (exO a)) from I.hok a _ e).1,c⟩
theorem aln:CallR X (.builtin "isinstance") (λxs H Q=>∃a o C v cv b,xs=[.ref a,v]/\vc v cv/\H a=some (.frz o (exO a))/\o.cls=.ref C/\XKit X.K C/\PySem.W.kitOne X.K (.ref C) cv=some b/\Q (.bl b) H):=by
 intro aA s σ H xs us Q I r h
 obtain⟨a,o,C,v,cv,b,rfl,hv,ea,hc,Z,e,q⟩:=h;obtain⟨u,w',rfl,rx,rt⟩:=vals2 r;obtain rfl:u=Value.ref a:=rx;obtain rfl:=hv.eq rt;exact bU (ae6 Z) I.kIn (auz I ea hc) e (λz=>nomatch z) λtk=>⟨.bl b,H,I.tok tk,rfl,q⟩
theorem ab4:∀{cs:List Addr} {us:List Value},Vals (cs.map V.ref) us->us=cs.map Value.ref
 |[],_,r=>by cases r;rfl
 |c::cs,us,r=>by
  cases r with
  |cons r rs =>
   rw[bI,<-ab4 rs]
   congr 1
theorem ai0:CallR X (.builtin "isinstance") (λxs H Q=>∃a o C tp,∃cs:List Addr,∃b,xs=[.ref a,.ref tp]/\H tp=some (.tup (cs.map V.ref))/\H a=some (.frz o (exO a))/\o.cls=.ref C/\XKit X.K C/\PySem.W.kitAny X.K (.ref C) (cs.map Value.ref)=some b/\Q (.bl b) H):=by
 intro aA s σ H xs us Q I r h
 obtain⟨a,o,C,tp,cs,b,rfl,et,ea,hc,Z,e,q⟩:=h;obtain⟨u,w',rfl,rx,rt⟩:=vals2 r;obtain rfl:u=Value.ref a:=rx;obtain rfl:w'=Value.ref tp:=rt;obtain⟨_,its,vr,o',h1,h2,h3⟩:=(show ObjOk X.prog X.w H s.heap tp (.tup (cs.map V.ref)) from I.hok tp _ et)
 obtain rfl:=ab4 vr
 obtain⟨n,h3⟩:=h3;have htp:s.heap.get? tp=some ⟨.type "tuple",o'.dict,.seq (cs.map Value.ref).toArray n,o'.slots⟩:=by
  rw[h1];obtain⟨c,dd,dt,sl⟩:=o';simp only at h2 h3;rw[h2,h3]
 exact PySem.W.kia_tup (ae6 Z) I.kIn (auz I ea hc) htp e (λz=>nomatch z) λtk=>⟨.bl b,H,I.tok tk,rfl,q⟩
def alo(i:Nat)(f:Str->Option Bool):SE:=λτ h=>match τ[i]? with
 |some (some (.exc c))=>(match f c with|some b=>.ok (.bl b) h|none=>.no)
 |_=>.no
variable{E:XD}
theorem ao0(S:SRep K ι H σ τ)(o:out K E (yq K) ι H (alo i f τ h) Q) :
  ∃a ob C c b,σ[i]? = some (some (.ref a))/\H a=some (.frz ob (exO a))/\ob.cls=.ref C/\PySem.W.nsIn K mainGlobals c=some (some (.ref C))/\f c=some b/\out K E (yq K) ι H (.ok (.bl b) h) Q:=by
 unfold alo at o
 split at o
 ·rename_i c e;obtain⟨v,e1,r⟩:=S.val i _ e
  cases r with
  |exc q hc hn =>
   split at o
   ·rename_i b hb;exact⟨_,_,_,c,b,e1,q,hc,hn,hb,o⟩
   ·exact o.elim
 ·exact o.elim
theorem ao1(hg:Gl X "isinstance")(hm:X.mg "isinstance" = none)(hb:bootBuiltins "isinstance" = some (.builtin "isinstance"))(hN:X.N[i]? = some n)(hv:Vis X.env.scope n)(hc:PE X (.Name x px) (tC v))(hvc:vc v cv)
  (hf:∀c b C,f c=some b->PySem.W.nsIn X.K mainGlobals c=some (some (.ref C))->XKit X.K C/\PySem.W.kitOne X.K (.ref C) cv=some b)
  (hd:(n == ("__debug__" : Str))=false:=by decide) (hcd:(n == ("__classdict__" : Str))=false:=by decide):ME X E (.Call (.Name "isinstance" p0) [.Name n pn,.Name x px] [] pos) (alo i f):=by
 refine PE.weak (a8k aln hg hm hb (vp (ag1 hN hv hd hcd) (vp hc a7n))) ?_
 rintro σ H Q ⟨ι,τ,h,S,Rh,o⟩
 obtain⟨a,ob,C,c,b,e1,q,oc,ns,fb,o1⟩:=ao0 S o;obtain⟨Z,ki⟩:=hf c b C fb ns;exact⟨_,e1,a,ob,C,v,cv,b,rfl,hvc,q,oc,Z,ki,o1 ι H _ (.refl _ _) (.bl b) Rh⟩
theorem aqo{cs:List Addr}(hg:Gl X "isinstance")(hm:X.mg "isinstance" = none)(hb:bootBuiltins "isinstance" = some (.builtin "isinstance"))(hN:X.N[i]? = some n)(hv:Vis X.env.scope n)(hc:PA X es t)(ht:∀σ H (Q:List V->Hp->Prop),Q (cs.map V.ref) H->t σ H Q)(hl:cs.length<=sizeLine)
  (hf:∀c b C,f c=some b->PySem.W.nsIn X.K mainGlobals c=some (some (.ref C))->XKit X.K C/\PySem.W.kitAny X.K (.ref C) (cs.map Value.ref)=some b)
  (hd:(n == ("__debug__" : Str))=false:=by decide) (hcd:(n == ("__classdict__" : Str))=false:=by decide):ME X E (.Call (.Name "isinstance" p0) [.Name n pn,.Tuple es k px] [] pos) (alo i f):=by
 refine PE.weak (a8k ai0 hg hm hb (vp (ag1 hN hv hd hcd) (vp (an7 hc) a7n))) ?_
 rintro σ H Q ⟨ι,τ,h,S,Rh,o⟩
 obtain⟨a,ob,C,c,b,e1,q,oc,ns,fb,o1⟩:=ao0 S o;obtain⟨Z,ki⟩:=hf c b C fb ns;refine⟨_,e1,ht _ _ _ ⟨by rw[ai];exact hl,λp hp=>?_⟩⟩
 have G:=a02 (ι:=ι) hp (.tup (cs.map V.ref));exact⟨a,ob,C,p,cs,b,rfl,qp,G.frz _ _ _ q,oc,Z,ki,o1 ι _ _ G (.bl b) (Rh.aside hp _)⟩
end
section
variable{K:Fg}{ι:List Addr}{H:Hp}{h:Hd}{n:Nat}
open Classical in
noncomputable def acl(n:Nat)(F:SF):SF:=λds h=>if (∀d∈ds,clo 0 d)/\ds.length=n then (match F ds [] with
 |.ok (.tup [.ref i,e]) h1=>(match h1[i]? with|some o=>if a0j 0 o/\clo 0 e then .ok (.tup [.ref h.length,e]) (h++[o]) else .no|none=>.no)
 |_=>.no) else .no
end
def qS(f:SS):SS:=λτ h=>match f τ h with|.ex _ _=>.no|r=>r
theorem av0{X:Cx}(h:PS X.nox st t):PS X st t:=λaA s σ H D I hw =>
 cH (h aA s σ H D (I.wish _) hw) (λ_ _ q=>q.unwish) λ_ _ z=>False.elim z
theorem b17{X:Cx}(h:MS X.nox X0 st f):MS X E st (qS f):=by
 refine PS.weak (av0 h) λD σ H ⟨ι,τ,hp,S,Rh,o⟩=>⟨ι,τ,hp,S,Rh,?_⟩;unfold qS at o
 cases e:f τ hp with
 |nx τ' h'=>rw[e]at o;exact o
 |rt d h'=>rw[e]at o;exact o
 |bk τ' h'=>rw[e]at o;exact o
 |ct τ' h'=>rw[e]at o;exact o
 |no=>rw[e]at o;exact o
 |ex c h1=>rw[e]at o;exact o.elim
end MI
namespace EVX
open L2 MI
theorem aqp{ds:List D}(hn:ds.length=n)(cd:∀x∈ds,MI.clo 0 x)(e:F ds []=.ok (.tup [.ref i,d]) h1)(ho:h1[i]? = some o)(co:a0j 0 o)(c:MI.clo 0 d):acl n F ds h=.ok (.tup [.ref h.length,d]) (h++[o]):=by
 unfold acl;rw[aO ⟨cd,hn⟩,e];dsimp only;rw[ho];dsimp only;rw[aO ⟨co,c⟩]
theorem b18(e:f τ h=.nx τ1 h1):qS f τ h=.nx τ1 h1:=by unfold qS;rw[e]
end EVX
namespace AT
open L2
theorem alp{α:Type}(x0:α)(xs:List α):atI (x0::xs) 0=some x0:=xf (j:=0) rfl
theorem alq{α:Type}(x0 x1:α)(xs:List α):atI (x0::x1::xs) 1=some x1:=xf (j:=1) rfl
theorem alr{α:Type}(x0 x1 x2:α)(xs:List α):atI (x0::x1::x2::xs) 2=some x2:=xf (j:=2) rfl
theorem als{α:Type}(x0 x1 x2 x3:α)(xs:List α):atI (x0::x1::x2::x3::xs) 3=some x3:=xf (j:=3) rfl
theorem alu{α:Type}(x0 x1 x2 x3 x4:α)(xs:List α):atI (x0::x1::x2::x3::x4::xs) 4=some x4:=xf (j:=4) rfl
theorem alv{α:Type}(x0 x1 x2 x3 x4 x5:α)(xs:List α):atI (x0::x1::x2::x3::x4::x5::xs) 5=some x5:=xf (j:=5) rfl
theorem alw{α:Type}(x0 x1 x2 x3 x4 x5 x6:α)(xs:List α):atI (x0::x1::x2::x3::x4::x5::x6::xs) 6=some x6:=xf (j:=6) rfl
theorem alx{α:Type}(x0 x1 x2 x3 x4 x5 x6 x7:α)(xs:List α):atI (x0::x1::x2::x3::x4::x5::x6::x7::xs) 7=some x7:=xf (j:=7) rfl
theorem x10:ixN 1 0=some 0:=rfl
theorem x20:ixN 2 0=some 0:=rfl
theorem x21:ixN 2 1=some 1:=rfl
theorem x30:ixN 3 0=some 0:=rfl
theorem x31:ixN 3 1=some 1:=rfl
theorem x32:ixN 3 2=some 2:=rfl
theorem x40:ixN 4 0=some 0:=rfl
theorem x41:ixN 4 1=some 1:=rfl
theorem x42:ixN 4 2=some 2:=rfl
theorem x43:ixN 4 3=some 3:=rfl
theorem x50:ixN 5 0=some 0:=rfl
theorem x51:ixN 5 1=some 1:=rfl
theorem x52:ixN 5 2=some 2:=rfl
theorem x53:ixN 5 3=some 3:=rfl
theorem x54:ixN 5 4=some 4:=rfl
theorem x60:ixN 6 0=some 0:=rfl
theorem x61:ixN 6 1=some 1:=rfl
theorem x62:ixN 6 2=some 2:=rfl
theorem x63:ixN 6 3=some 3:=rfl
theorem x64:ixN 6 4=some 4:=rfl
theorem x65:ixN 6 5=some 5:=rfl
theorem x70:ixN 7 0=some 0:=rfl
theorem x71:ixN 7 1=some 1:=rfl
theorem x72:ixN 7 2=some 2:=rfl
theorem x73:ixN 7 3=some 3:=rfl
theorem x74:ixN 7 4=some 4:=rfl
theorem x75:ixN 7 5=some 5:=rfl
theorem x76:ixN 7 6=some 6:=rfl
def azo(x:Int):Int:=if x<0 then -x else x
theorem ai1(x:Int)(h:MI.Hd):MI.axd [.int x] h=.ok (.int (azo x)) h:=rfl
theorem p18(h:MI.Hd):MI.a7x (.int 10) (.int 18) h=.ok (.int 1000000000000000000) h:=by rw[MI.a7x,aO (by decide)];rfl
theorem av1{i:Int}(c:0<=j/\j<=1000000/\i.natAbs<2^64):MI.a7x (.int i) (.int j) h=.ok (.int (i^j.toNat)) h:=by rw[MI.a7x,aO c]
end AT
namespace MI
open L2 SeqAt
def azp(neg:Bool)(K:Fg):R2:=λx y H Q=>∃(ι:List Addr) (p q:Addr) (vs us:List V) (xs ys:List D),x=.ref p/\y=.ref q/\Rd H p (.lst vs)/\Rd H q (.lst us)/\Reps K ι H vs xs/\Reps K ι H us ys/\xs.all (pur 59)=true/\ys.all (pur 59)=true/\Q (.bl (if neg then !a5w xs ys else a5w xs ys)) H
theorem aly(I:Inv X aA σ H s)(hu:X.A.units+64<cLine)(h1:Rd H p (.lst vs))(h2:Rd H q (.lst us))(rs:Reps X.K ι H vs xs)(qs:Reps X.K ι H us ys)(p1:xs.all (pur 59)=true)(p2:ys.all (pur 59)=true) :
  RcAt X.A s (.ref p) (.ref q) (a5w xs ys)/\RcNeAt X.A s (.ref p) (.ref q) (!a5w xs ys):=by
 obtain⟨its,r1,pl1,z1⟩:=I.list (.inl h1);obtain⟨its2,r2,pl2,z2⟩:=I.list (.inl h2);have l1:its.toArray.size=xs.length:=by rw[ax,<-r1.length,rs.len]
 have l2:its2.toArray.size=ys.length:=by rw[ax,<-r2.length,qs.len]
 by_cases hl:xs.length=ys.length
 ·have step:∀j (h1:j<its.toArray.size) (h2:j<its2.toArray.size),EqAt X.A.in1 s its.toArray[j] its2.toArray[j] (pairE xs ys j):=λj h1 h2=>by
   have j1:j<xs.length:=by omega
   have j2:j<ys.length:=by omega
   obtain⟨v1,e1,q1⟩:=rs.get (ae j1);obtain⟨v2,e2,q2⟩:=qs.get (ae j2);obtain⟨u1,e3,q3⟩:=r1.get e1;obtain⟨u2,e4,q4⟩:=r2.get e2;have f1:its.toArray[j]=u1:=by simpa using (af.mp e3).2
   have f2:its2.toArray[j]=u2:=by simpa using (af.mp e4).2
   have pe:pairE xs ys j=eqD xs[j] ys[j]:=by simp[pairE,ae j1,ae j2]
   rw[f1,f2,pe];rw[bN]at p1 p2;exact anq I.hok 59 X.A.in1 q1 q2 q3 q4 (p1 _ (aY j1)) (p2 _ (aY j2)) (by rw[gK];omega)
  have c1:=RcAt.lists (A:=X.A) (s:=s) (e:=pairE xs ys) pl1.isList pl2.isList (by omega) (by omega) step
  have c2:=RcNeAt.lists (A:=X.A) (s:=s) (e:=pairE xs ys) pl1.isList pl2.isList (by omega) (by omega) step
  have ea:=a3z xs ys;rw[hl,Nat.min_self,fE,Bool.and_true,<-hl]at ea;rw[l1,ea]at c1 c2;exact⟨c1,c2⟩
 ·have ne:(its.toArray.size != its2.toArray.size)=true:=by rw[l1,l2];simpa using hl
  have ea:=a3z xs ys;rw[cF.mpr hl,gU]at ea;rw[<-ea];exact⟨RcAt.lists_lengths pl1.isList pl2.isList ne (by omega),RcNeAt.lists_lengths pl1.isList pl2.isList ne (by omega)⟩
theorem av2{X:Cx}(hu:X.A.units+64<cLine):OpR X (compareOp .NotEq) (azp true X.K):=by
 intro aA s σ H x y v u Q I rx ry h
 obtain⟨ι,p,q,vs,us,xs,ys,rfl,rfl,h1,h2,r1,r2,p1,p2,hq⟩:=h
 cases rx;cases ry
 exact(aly I hu h1 h2 r1 r2 p1 p2).2 X.prog X.w X.xe _ ⟨.bl _,H,I,rfl,hq⟩
def aqq(neg:Bool)(x y:D)(h:Hd):R D:=match yu x h,yu y h with
 |some xs,some ys=>if xs.all (pur 59)=true/\ys.all (pur 59)=true then .ok (.bl (if neg then !a5w xs ys else a5w xs ys)) h else .no
 |_,_=>.no
theorem aqr(neg:Bool):a1p K (aqq neg) (azp neg K):=by
 intro E ι H h x y dx dy Q rx ry hr o
 unfold aqq at o
 split at o
 ·rename_i xs ys e1 e2
  split at o
  ·rename_i hc;obtain⟨a,vs,rfl,h1,r1⟩:=a2p rx hr e1;obtain⟨b,us,rfl,h2,r2⟩:=a2p ry hr e2;exact⟨ι,a,b,vs,us,xs,ys,rfl,rfl,h1,h2,r1,r2,hc.1,hc.2,ans o (.bl _) hr⟩
  ·exact o.elim
 ·exact o.elim
end MI
namespace SETH
def it:Nat->Nat->Nat
 |0,x=>x
 |n+1,x=>it n (5*x+1)
theorem ai2(m:Nat):∀(n x:Nat),it (n+m) x=it m (it n x)
 |0,x=>by rw[Nat.zero_add];rfl
 |n+1,x=>by rw[show n+1+m=(n+m)+1 by omega];exact ai2 m n _
theorem ao2:∀k:Nat,∃c,∀x,it (2^k) x=(4*(2^k*(2*c+1))+1)*x+2^k*(2*c+1)
 |0=>⟨0,λx=>by show 5*x+1=_;omega⟩
 |k+1=>by
  obtain⟨c,h⟩:=ao2 k;refine⟨2*c*(2^k*(2*c+1))+c+2^k*(2*c+1),λx=>?_⟩;have e:2^(k+1)=2^k+2^k:=by rw[Nat.pow_succ];omega
  rw[e,ai2,h,h]
  generalize 2^k=P
  grind
theorem full:∀(k x y:Nat),∃n,n<2^k/\it n x%2^k=y%2^k
 |0,x,y=>⟨0,by decide,by rw[Nat.pow_zero,Nat.mod_one,Nat.mod_one]⟩
 |k+1,x,y=>by
  obtain⟨n,hn,e⟩:=full k x y;obtain⟨c,h⟩:=ao2 k;have hp:0<2^k:=Nat.pow_pos (by decide)
  rw[Nat.pow_succ]
  by_cases q:it n x / 2^k%2=y / 2^k%2
  ·exact⟨n,by omega,by rw[gY,gY,e,q]⟩
  ·refine⟨n+2^k,by omega,?_⟩
   rw[ai2,h]
   generalize 2^k=P at *
   generalize it n x=z at *
   have:(4*(P*(2*c+1))+1)*z+P*(2*c+1)=(z+P)+P*2*(2*(2*c+1)*z+c):=by grind
   rw[this,Nat.add_mul_mod_self_left,gY,gY,Nat.add_mod_right,e,Nat.add_div_right _ hp]
   congr 2
   omega
def im(M:Nat):Nat->Nat->Nat
 |0,x=>x
 |n+1,x=>im M n ((x*5+1)%M)
theorem av3(M:Nat):∀(n x:Nat),im M n x%M=it n x%M
 |0,x=>rfl
 |n+1,x=>by
  show im M n _%M=it n _%M;rw[av3 M n];have:∀n a b,a%M=b%M->it n a%M=it n b%M:=by
   intro n
   induction n with
   |zero=>exact λa b h=>h
   |succ n ih=>exact λa b h=>ih _ _ (by rw[Nat.add_mod,Nat.mul_mod,h,<-Nat.mul_mod,<-Nat.add_mod])
  exact this n _ _ (by rw[Nat.mod_mod,eM])
theorem av4(hM:0<M):∀(n x:Nat),x<M->im M n x<M
 |0,x,h=>h
 |n+1,x,h=>av4 hM n _ (Nat.mod_lt _ hM)
theorem aqs(hx:x<2^k)(hy:y<2^k):∃n,n<2^k/\im (2^k) n x=y:=by
 obtain⟨n,hn,e⟩:=full k x y;refine⟨n,hn,?_⟩;rw[<-av3,Nat.mod_eq_of_lt hy,Nat.mod_eq_of_lt (av4 (by omega) n x hx)]at e
 exact e
open PySem.SetTable
def ls(mask:Nat):Nat->Nat×Nat->Nat×Nat
 |0,x=>x
 |n+1,x=>ls mask n (leap mask x.1 x.2)
theorem ao3(mask m:Nat):∀(n:Nat) (x:Nat×Nat),ls mask (n+m) x=ls mask m (ls mask n x)
 |0,x=>by rw[Nat.zero_add];rfl
 |n+1,x=>by rw[show n+1+m=(n+m)+1 by omega];exact ao3 mask m n _
theorem a86(mask:Nat):∀(n:Nat) (x:Nat×Nat),(ls mask n x).2=x.2 / 32^n
 |0,x=>by rw[Nat.pow_zero,Nat.div_one];rfl
 |n+1,x=>by
  show(ls mask n _).2=_;rw[a86 mask n,Nat.pow_succ,eM,<-Nat.div_div_eq_div_mul];rfl
theorem av5(mask:Nat):∀(n:Nat) (x:Nat×Nat),x.1<=mask->(ls mask n x).1<=mask
 |0,x,h=>h
 |n+1,x,h=>av5 mask n _ (Nat.le_of_lt_succ (Nat.mod_lt _ (fk _)))
theorem av6(mask:Nat):∀(n i:Nat),ls mask n (i,0)=(im (mask+1) n i,0)
 |0,i=>rfl
 |n+1,i=>by
  show ls mask n (leap mask i 0)=(im (mask+1) n _,0);rw[<-av6 mask n];rfl
theorem hit{mask k i p y:Nat}(hk:mask+1=2^k)(hi:i<=mask)(hp:p<2^64)(hy:y<=mask):∃m,m<mask+14/\(ls mask m (i,p)).1=y:=by
 have e:ls mask 13 (i,p)=((ls mask 13 (i,p)).1,0):=by
  refine Prod.ext rfl ?_;rw[a86];show p / 32^13=0;exact Nat.div_eq_of_lt (by omega)
 have h13:=av5 mask 13 (i,p) hi;obtain⟨n,hn,en⟩:=aqs (k:=k) (x:=(ls mask 13 (i,p)).1) (y:=y) (by omega) (by omega)
 refine⟨13+n,by omega,?_⟩
 rw[ao3,e,av6];show im (mask+1) n _=y;rw[hk];exact en
end SETH
namespace MI
open L2
def Bz(j:Int):Prop:=0<=j/\j<2^62
instance (j:Int):Decidable (Bz j):=by unfold Bz;exact inferInstance
end MI
namespace STP
open L2 MI
noncomputable def yj:SE :=
 (s2 (gIn false) (sV 0) (sV 1))
noncomputable def uy:SS :=
 (sr (a0y (sA jz (ak (sV 1) (ak (sC (.ty "str")) bu))) (sA ah9 (ak (sZ (jk (sIt (sV 1)) t1 yj [0])) bu))))
noncomputable def xj(jj:SF):SS :=
 (sr (s2 gIx (sA (gq false 3 jj) (ak (sV 0) (ak (sV 1) (ak (sV 2) bu)))) (s1 a5v (sI 1))))
noncomputable def qd:SS :=
 (uw (sML a5o (sV 6) (ak (s2 gIx (s2 gIx (sV 4) (s2 gIx (sV 6) (s1 a5v (sI 1)))) (sMS a80 (sV 3) (ak (sV 7) bu))) bu)))
noncomputable def um:SS :=
 (dm (abq (sV 0) (a7u 3 (o7 (kN 3) (o7 (kN 4) (o7 (kN 5) a8s)))))
 (dm (j9 6 (sA a1u (ak (sV 1) bu)))
 (dm (a2u (sIt (sV 2)) (kN 7) qd)
 (sr (sV 6)))))
end STP
namespace TPM
open PySem.W L2 HT MI
theorem afd(t:Addr)(aC:Array Value)(n:Nat)(dd:Option Addr)(sl:Array (Option Value))(u:Tok) :
  Meets (Builtin.«tuple.__mul__» ⟨[.ref t,.int 1 u],[]⟩) (λ_ R s=>s.heap.get? t=some {cls:=.type "tuple",dict:=dd,data:=.seq aC n,slots:=sl}/\R (.ok (.ret (.ref t))) s) :=
 .of_wp λprog w A R s h=>by
  obtain⟨hp,g,d,tk,os⟩:=s;obtain⟨hl,h⟩:=h
  wp_walk
  exact⟨_,rfl,h⟩
def aqt(K:Fg):R2:=λx y H Q=>∃a xs,x=.ref a/\y=.int 1/\SqT K H a xs/\Q (.ref a) H
theorem aqu:OpR X (binaryOp .Mult) (aqt X.K):=by
 intro aA s σ H x y v u Q I rx ry h
 obtain⟨a,xs,rfl,rfl,ha,q⟩:=h;cases rx
 obtain⟨t,rfl⟩:=ry;obtain⟨its,r1,p1,_⟩:=I.tuple ha;obtain⟨⟨cls,dd,data,sl⟩,ho,hc,n,hd⟩:=id p1;simp only at hc hd;subst hc hd;exact dB (T := "tuple") (U := "int") (by decide) ⟨_,ho,rfl⟩ (λs'=>eL s' 1 t) a1o fL cW aas fw.lookup
  (de cW (eL s 1 t) fz (eY _ _) (a5p 1 t a its.toArray n dd sl)
   ⟨ho,rfl,⟨_,ho,rfl⟩,de fD ⟨_,ho,rfl⟩ F.entry_tuple_mul (F.args_tuple_mul_2 _ _) (afd a its.toArray n dd sl t) ⟨ho,.ref a,H,I,rfl,q⟩⟩)
end TPM
namespace MI
open L2 TPM
noncomputable def alz(x y:D)(h:Hd):R D:=match x,y with
 |.tup xs,.int k=>if k=1 then .ok (.tup xs) h else al5 (.tup xs) (.int k) h
 |x,y=>al5 x y h
theorem a68:a1p K alz (λx y H Q=>((rI CMul (λi j=>.int (i*j)) x y H Q\/atp x y H Q)\/al4 K x y H Q)\/aqt K x y H Q):=by
 intro E ι H h x y dx dy Q rx ry hr o
 cases rx with
 |@tup a vs xs ha rs =>
  cases ry with
  |int k =>
   simp only[alz]at o
   split at o
   ·rename_i hc;subst hc;exact .inr ⟨a,vs,rfl,rfl,SqT.of ha,ans o (.tup ha rs) hr⟩
   ·exact .inl (a95 _ _ _ _ _ _ _ _ _ (.tup ha rs) (.int k) hr o)
  |_=>exact o.elim
 |int i=>exact .inl (a95 _ _ _ _ _ _ _ _ _ (.int i) ry hr o)
 |ref e=>exact .inl (a95 _ _ _ _ _ _ _ _ _ (.ref e) ry hr o)
 |_=>exact o.elim
end MI
namespace MI
open L2
abbrev S(l:List Nat):Str:=⟨l.toArray⟩
theorem a4f(l:List Nat):(S l).cps.toList=l:=by simp
theorem a9f(l:List Nat):(S l).length=l.length:=by simp[Str.length]
theorem am0(x:Str):S x.cps.toList=x:=by cases x;simp
theorem aqv(a b:List Nat):S a++S b=S (a++b):=by rw[<-am0 (S a++S b),ayf]
section
variable{h:Hd}{a b l:List Nat}{i:Nat}{c:Nat}
theorem av7(hl:l.length<=LINE)(e:l[i]? = some c):gIx (.str (S l)) (.int (i:Nat)) h=.ok (.str (S [c])) h:=by
 unfold gIx;simp only[a9f,aO hl,a4f,xf e]
theorem afe(hl:a.length+b.length<=LINE):ie (.str (S a)) (.str (S b)) h=.ok (.str (S (a++b))) h:=by
 unfold ie;simp only[a9f,aO hl,aqv]
theorem a9g(hl:l.length<=LINE):qu [.str (S l)] h=.ok (.int l.length) h:=by
 unfold qu;simp only[a9f,aO hl]
theorem ao4(k:Nat)(hl:l.length<=LINE):abr (.str (S l)) none (some (k:Int)) h=.ok (.str (S (l.take k))) h:=by
 show gSl (.str (S l)) none (some (k:Int)) h=_;unfold gSl;simp only[a9f,aO hl,a4f,abz]
theorem ai3(k:Nat)(hl:l.length<=LINE):abr (.str (S l)) (some (k:Int)) none h=.ok (.str (S (l.drop k))) h:=by
 show gSl (.str (S l)) (some (k:Int)) none h=_;unfold gSl;simp only[a9f,aO hl,a4f,aae]
end
section
variable{h:Hd}{i j:Int}{xs ys:List D}
theorem a6n:gIx (.tup xs) (.int i) h=(match atI xs i with|some d=>.ok d h|none=>.no):=rfl
theorem a87:gIx (.rol xs) (.int i) h=(match atI xs i with|some d=>.ok d h|none=>.no):=rfl
theorem a77:gIx (.ref k) (.int i) h=(match a0q (.ref k) h with|some xs=>(match atI xs i with|some d=>.ok d h|none=>.no)|none=>.no):=rfl
theorem ut:qu [.tup xs] h=.ok (.int xs.length) h:=rfl
theorem a0k:qu [.rol xs] h=.ok (.int xs.length) h:=rfl
theorem a78:qu [.ref k] h=(match a0q (.ref k) h with|some xs=>.ok (.int xs.length) h|none=>.no):=rfl
theorem u5:ie (.int i) (.int j) h=.ok (.int (i+j)) h:=rfl
theorem a2a:a1x (.int i) (.int j) h=.ok (.int (i+j)) h:=rfl
open Classical in
theorem a5r:a1r (.int i) (.int j) h=if CMul i j then .ok (.int (i*j)) h else .no:=by unfold a1r;rfl
theorem jh(b:Bool):tru (.bl b) h=.ok b h:=rfl
theorem a9h:tru (.int i) h=.ok (i != 0) h:=rfl
theorem a9i:tru (.rol xs) h=.ok (!xs.isEmpty) h:=rfl
theorem a9j:tru (.tup xs) h=.ok (!xs.isEmpty) h:=rfl
theorem a9k:tru .non h=.ok false h:=rfl
theorem acn:hEq (.int i) (.int j) h=.ok (.bl (i == j)) h:=rfl
theorem afg:hNe (.int i) (.int j) h=.ok (.bl (!(i == j))) h:=rfl
theorem am1(a b:Bool):hEq (.bl a) (.bl b) h=.ok (.bl (a == b)) h:=rfl
theorem am2(a b:Bool):hNe (.bl a) (.bl b) h=.ok (.bl (!(a == b))) h:=rfl
theorem ae9(x:D):gIs x .non h=.ok (.bl (a70 x)) h:=by cases x<;>rfl
theorem a0w(x:D):aaj x .non h=.ok (.bl (!a70 x)) h:=by cases x<;>rfl
theorem am3(a b:Bool):gIs (.bl a) (.bl b) h=.ok (.bl (a == b)) h:=rfl
theorem a69(a b:Bool):aaj (.bl a) (.bl b) h=.ok (.bl (a != b)) h:=rfl
theorem axf:a70 (.int i)=false:=rfl
theorem axg(x:Str):a70 (.str x)=false:=rfl
theorem axh:a70 .non=true:=rfl
theorem axi:a70 (.tup xs)=false:=rfl
end
theorem ayv(n:Nat):rng 0 n=(List.range n).map λi:Nat=>D.int (i:Nat):=by
 unfold rng;exact cZ λi _=>by rw[Int.zero_add]
theorem ayw(a:Int)(n:Nat):rng a n=(List.range n).map λi:Nat=>D.int (a+(i:Nat)):=rfl
theorem aco(h:n<=LINE):B62 (n:Int):=by
 have:n<=16777216:=h
 unfold B62;omega
theorem ab5(h:Hd)(z:n<=LINE):yt [.int (n:Nat)] h=.ok ⟨(List.range n).map λi:Nat=>D.int (i:Nat),λ_=>True⟩ h:=by
 unfold yt;simp only[aco z,dR,dH,ayv]
theorem av8(h:Hd)(za:a<=LINE)(z:n<=LINE):a7h [.int (a:Nat),.int (n:Nat)] h=.ok ⟨(List.range (n-a)).map λi:Nat=>D.int ((a+i:Nat)),λ_=>True⟩ h:=by
 unfold a7h;simp only[aco z,aco za,and_self,dR,ayw];rw[show((n:Int)-(a:Int)).toNat=n-a by omega]
 congr 2
theorem ayx(e:f τ h=.ok d h):ak f bu τ h=.ok [d] h:=by unfold ak bu;rw[e];rfl
theorem a1s(e:f τ h=.ok c h)(e':g τ h=.ok d h):ak f (ak g bu) τ h=.ok [c,d] h:=by unfold ak;rw[e,bf,e',bf];rfl
theorem acp(e:f τ h=.ok (.int (n:Nat)) h)(z:n<=LINE):sRg yt (ak f bu) τ h=.ok ⟨(List.range n).map λi:Nat=>D.int (i:Nat),λ_=>True⟩ h:=by
 unfold sRg;rw[ayx e,bf];exact ab5 h z
theorem ai4(e':g τ h=.ok (.int (a:Nat)) h)(e:f τ h=.ok (.int (n:Nat)) h)(za:a<=LINE)(z:n<=LINE):sRg a7h (ak g (ak f bu)) τ h=.ok ⟨(List.range (n-a)).map λi:Nat=>D.int ((a+i:Nat)),λ_=>True⟩ h:=by
 unfold sRg;rw[a1s e' e,bf];exact av8 h za z
theorem bc(e:τ[i]? = some (some d)):sV i τ h=.ok d h:=by unfold sV;rw[e]
theorem qe{fi:SI}{t:D->Option Sd}{fe:SE}{ix:List Nat}{τ:Sd}{h:Hd}{α:Type}(g F:α->D)(xs:List α)(e:fi τ h=.ok ⟨xs.map g,λ_=>True⟩ h)(z:xs.length<=LINE)
  (st:∀x∈xs,a7i t fe (frs' ix τ) (g x) h=.ok (F x) h):jk fi t fe ix τ h=.ok (.ref h.length) (h++[.lst (xs.map F)]):=by
 unfold jk;rw[e,bf];dsimp only;rw[aO (by rw[ai];exact z),aay g F st]
 rfl
theorem ab6{fi:SI}{t:D->Option Sd}{c:ST}{fe:SE}{ix:List Nat}{τ:Sd}{h:Hd}{α:Type}(g:α->D)(F:α->Option D)(xs:List α)(e:fi τ h=.ok ⟨xs.map g,λ_=>True⟩ h)(z:xs.length<=LINE)
  (st:∀x∈xs,ac3 t c fe (frs' ix τ) (g x) h=.ok (F x) h):a3s fi t c fe ix τ h=.ok (.ref h.length) (h++[.lst (xs.filterMap F)]):=by
 unfold a3s;rw[e,bf];dsimp only;rw[aO (by rw[ai];exact z),aaz g F st]
 rfl
theorem u6(fe:SE)(r:Sd)(x:D)(h:Hd):a7i t1 fe r x h=fe (some x::r) h:=rfl
theorem aqw(c:ST)(fe:SE)(r:Sd)(x:D)(h:Hd):ac3 t1 c fe r x h=(c (some x::r) h).bind λb h1=>if b=true then (fe (some x::r) h1).bind λy h2=>.ok (some y) h2 else .ok none h1:=rfl
theorem aea(i:Nat)(ix:List Nat)(τ:Sd):frs' (i::ix) τ=(τ[i]?).join::frs' ix τ:=rfl
theorem ai5(τ:Sd):frs' [] τ=[]:=rfl
section
variable{f k f1 f2 f3:SE}{c c1 c2:ST}{g p q:SS}{τ τ1:Sd}{h h1 h2 h3 h4:Hd}{a b d v:D}{i:Nat}{t u:Bool}
theorem azq(d:D)(τ:Sd)(h:Hd):sC d τ h=.ok d h:=rfl
theorem azr(e3:G [] h=.ok v h1):sA G bu τ h=.ok v h1:=e3
theorem p7(e1:f τ h=.ok a h1)(e3:G [a] h1=.ok v h2):sA G (ak f bu) τ h=.ok v h2:=by
 have:ak f bu τ h=.ok [a] h1:=by unfold ak;rw[e1];rfl
 unfold sA;rw[this,bf,e3]
theorem kh(e1:f τ h=.ok a h1)(e2:k τ h1=.ok b h2)(e3:G [a,b] h2=.ok v h3):sA G (ak f (ak k bu)) τ h=.ok v h3:=by
 have:ak f (ak k bu) τ h=.ok [a,b] h2:=by unfold ak;rw[e1,bf,e2];rfl
 unfold sA;rw[this,bf,e3]
theorem a7j(e0:f1 τ h=.ok d h1)(e1:f τ h1=.ok a h2)(e2:k τ h2=.ok b h3)(e3:G [d,a,b] h3=.ok v h4):sA G (ak f1 (ak f (ak k bu))) τ h=.ok v h4:=by
 have:ak f1 (ak f (ak k bu)) τ h=.ok [d,a,b] h3:=by unfold ak;rw[e0,bf,e1,bf,e2];rfl
 unfold sA;rw[this,bf,e3]
theorem jr(e:f τ h=.ok d h1):dm (j9 i f) g τ h=g (τ.set i (some d)) h1:=by
 rw[xm];unfold j9;rw[e];rfl
theorem acq(e:f τ h=.ok d h1):j9 i f τ h=.nx (τ.set i (some d)) h1:=by
 unfold j9;rw[e];rfl
theorem u9(e:p τ h=.nx τ1 h1):dm p g τ h=g τ1 h1:=by rw[xm,e];rfl
theorem a3j(e:p τ h=.rt d h1):dm p g τ h=.rt d h1:=by rw[xm,e];rfl
theorem ifT(e:c τ h=.ok true h1):sIf c p q τ h=p τ h1:=by unfold sIf;rw[e];rfl
theorem ifF(e:c τ h=.ok false h1):sIf c p q τ h=q τ h1:=by unfold sIf;rw[e];rfl
theorem ifN(e:c τ h=.ok false h1):dm (sIf c p sNx) g τ h=g τ h1:=by rw[xm,ifF e];rfl
theorem tof(e:f τ h=.ok (.bl t) h1):sT f τ h=.ok t h1:=by unfold sT;rw[e];rfl
theorem uc(e:f τ h=.ok d h1)(e':tru d h1=.ok t h2):a4q f τ h=.ok t h2:=by unfold a4q;rw[e,bf,e']
theorem ao5(e:c1 τ h=.ok true h1)(e':c2 τ h1=.ok t h2):a7s c1 c2 τ h=.ok t h2:=by unfold a7s;rw[e,bf,aO rfl,e']
theorem axj(e:c1 τ h=.ok false h1):a7s c1 c2 τ h=.ok false h1:=by unfold a7s;rw[e,bf,bE (by simp)]
theorem orT(e:c1 τ h=.ok true h1):sOr c1 c2 τ h=.ok true h1:=by unfold sOr;rw[e,bf,aO rfl]
theorem orF(e:c1 τ h=.ok false h1)(e':c2 τ h1=.ok t h2):sOr c1 c2 τ h=.ok t h2:=by unfold sOr;rw[e,bf,bE (by simp),e']
theorem av9(e:c τ h=.ok t h1):a4r c τ h=.ok (!t) h1:=by unfold a4r;rw[e];rfl
theorem a79(e:c τ h=.ok true h1):a4r c τ h=.ok false h1:=av9 e
theorem aqx(e:c τ h=.ok false h1):a4r c τ h=.ok true h1:=av9 e
theorem nq(e:f τ h=.ok d h1):sr f τ h=.rt d h1:=by unfold sr;rw[e];rfl
theorem acr(e:f τ h=.ok (.bl true) h1)(e':k τ h1=.ok d h2):a0y f k τ h=.ok d h2:=by unfold a0y;rw[e,bf];exact e'
theorem a06(e1:f τ h=.ok d h1)(l:isL d h1=true)(e2:A τ h1=.ok ds h2)(e3:G d ds h2=.ok v h3):uw (sML G f A) τ h=.nx τ h3:=by
 unfold uw sML;rw[e1,bf,aO l,e2,bf,e3];rfl
theorem ayy(e1:f τ h=.ok d h1)(l:isL d h1=true)(e2:A τ h1=.ok ds h2)(e3:G d ds h2=.ok v h3):sML G f A τ h=.ok v h3:=by
 unfold sML;rw[e1,bf,aO l,e2,bf,e3]
theorem arg1(e:f τ h=.ok d h1):ak f bu τ h=.ok [d] h1:=by unfold ak bu;rw[e];rfl
theorem kj(e1:f τ h=.ok a h1)(e2:k τ h1=.ok b h2)(e3:G a b h2=.ok v h3):s2 G f k τ h=.ok v h3:=by
 unfold s2;rw[e1,bf,e2,bf,e3]
theorem a01(e:τ[i]? = some (some a))(e3:G a d h=.ok v h3):s2 G (sV i) (sC d) τ h=.ok v h3:=kj (bc e) (azq _ _ _) e3
theorem ckk:sC d τ h=.ok d h:=rfl
theorem tvc(e:τ[i]? = some (some a))(e3:G a d h=.ok (.bl t) h3):sT (s2 G (sV i) (sC d)) τ h=.ok t h3:=tof (kj (bc e) (azq _ _ _) e3)
theorem t2s(e1:f τ h=.ok a h1)(e2:k τ h1=.ok b h2)(e3:G a b h2=.ok (.bl t) h3):sT (s2 G f k) τ h=.ok t h3:=tof (kj e1 e2 e3)
theorem ifr(e:c τ h=.ok true h1)(e2:f τ h1=.ok d h2):sIf c (sr f) q τ h=.rt d h2:=aH (ifT e) (nq e2)
theorem ets{rr:R D}(e:f τ h=.ok d h1)(e2:toR (g (τ.set i (some d)) h1)=rr):toR (dm (j9 i f) g τ h)=rr:=by rw[jr e,e2]
theorem eti{rr:R D}(e:c τ h=.ok false h1)(e2:toR (g τ h1)=rr):toR (dm (sIf c p sNx) g τ h)=rr:=by rw[ifN e,e2]
theorem etr{fa fb:Fl}{rr:R D}(e:fa=fb)(e2:toR fb=rr):toR fa=rr:=by rw[e,e2]
theorem afh(e1:f τ h=.ok a h1)(e3:G a h1=.ok v h2):s1 G f τ h=.ok v h2:=by
 unfold s1;rw[e1,bf,e3]
theorem am4(ht:τ[i]? = some (some a))(e:f τ h=.ok b h1)(e2:G a b h1=.ok d h2):afx i G f τ h=.nx (τ.set i (some d)) h2:=by
 unfold afx;rw[ht];dsimp only;rw[e,a1z,e2];rfl
theorem afi(e:f τ h=.ok d h1)(e2:G d τ h1=.nx τ1 h2):abq f G τ h=.nx τ1 h2:=by
 unfold abq;rw[e,a1z,e2]
theorem ai6(e1:f1 τ h=.ok v h1)(e2:f2 τ h1=.ok a h2)(e3:f3 τ h2=.ok b h3)(e4:put a b v h3=some h4):abp f1 f2 f3 τ h=.nx τ h4:=by
 unfold abp;rw[e1,a1z,e2,a1z,e3,a1z,e4]
theorem a3k{fi:SI}{G:SG}{b:SS}{xs:List D}{ck:Hd->Prop}(e:fi τ h=.ok ⟨xs,ck⟩ h1):dm (a2u fi G b) g τ h=thn (forL ck G b xs τ h1) g:=by
 rw[xm];unfold a2u;rw[e];rfl
theorem a6a(e:f τ h=.ok d h1)(e2:agv d h1=.ok ⟨xs,ck⟩ h1):sIt f τ h=.ok ⟨xs,ck⟩ h1:=by
 unfold sIt;rw[e,bf,e2]
theorem a07(e:h[i]? = some (.lst xs))(z:xs.length<LINE):a5o (.ref i) [a] h=.ok .non (h.set i (.lst (xs++[a]))):=by
 unfold a5o;simp only[e,aO z]
theorem ava(e:h[i]? = some (.lst xs)):isL (.ref i) h=true:=by unfold isL;simp only[e]
theorem aqy(e:h[i]? = some (.lst xs))(hj:j<xs.length):put (.ref i) (.int (j:Nat)) v h=some (h.set i (.lst (xs.set j v))):=by
 have:ixN xs.length (j:Int)=some j:=by unfold ixN;rw[aO (by omega),aO (by omega)];simp
 unfold put;simp only[e,this]
theorem a2x(e:h[i]? = some (.lst xs))(hj:xs[j]? = some y):gIx (.ref i) (.int (j:Nat)) h=.ok y h:=by
 rw[a77];unfold a0q;simp only[e,xf hj]
theorem asa(hj:xs[j]? = some y):gIx (.rol xs) (.int (j:Nat)) h=.ok y h:=by
 rw[a87];simp only[xf hj]
theorem a7a(hj:xs[j]? = some y):gIx (.tup xs) (.int (j:Nat)) h=.ok y h:=by
 rw[a6n];simp only[xf hj]
theorem a5e(e:h[i]? = some (.lst xs)):qu [.ref i] h=.ok (.int (xs.length:Nat)) h:=by
 rw[a78];unfold a0q;simp only[e]
theorem ai7(e:h[i]? = some (.lst xs)):uq [.ref i] h=.ok (.tup xs) h:=by
 unfold uq a0q;simp only[e]
theorem div_ii(c:0<y/\y<1073741824):aa0 (.int x) (.int y) h=.ok (.int (x / y)) h:=by unfold aa0;exact aO c
theorem a88(c:0<y):a5n (.int x) (.int y) h=.ok (.int (x%y)) h:=by unfold a5n;exact aO c
theorem ayz(c:y<x):gGt (.int x) (.int y) h=.ok (.bl true) h:=by unfold gGt;simp only[c,decide_true]
theorem aqz(c:¬ y<x):gGt (.int x) (.int y) h=.ok (.bl false) h:=by unfold gGt;simp only[c,gR]
theorem am5(c:x<y):gLt (.int x) (.int y) h=.ok (.bl true) h:=by unfold gLt;simp only[c,decide_true]
theorem afj(c:¬ x<y):gLt (.int x) (.int y) h=.ok (.bl false) h:=by unfold gLt;simp only[c,gR]
theorem a2b(c:x=y):hEq (.int x) (.int y) h=.ok (.bl true) h:=by rw[acn,c,fE]
theorem yx(c:¬ x=y):hEq (.int x) (.int y) h=.ok (.bl false) h:=by rw[acn,cF.mpr c]
theorem ab7(c:x=y):hNe (.int x) (.int y) h=.ok (.bl false) h:=by rw[afg,c,fE];rfl
theorem avb(c:¬ x=y):hNe (.int x) (.int y) h=.ok (.bl true) h:=by rw[afg,cF.mpr c];rfl
theorem a5f(x:Int):a5v (.int x) h=.ok (.int (-x)) h:=rfl
theorem a89(x y:Int):MI.a9z (.int x) (.int y) h=.ok (.int (x-y)) h:=rfl
theorem dh(h:n<=1000000):n<=LINE:=by show n<=16777216;omega
theorem a08(h:n<=1000000):n<LINE:=by show n<16777216;omega
theorem ao6:MI.ur [a,b] h=.ok (.tup [a,b]) h:=by unfold MI.ur;rw[aO (dh (by simp))]
theorem ar0:MI.ur [a,b,v] h=.ok (.tup [a,b,v]) h:=by unfold MI.ur;rw[aO (dh (by simp))]
end
end MI
namespace L2
open PyProof.Rows
theorem aeb(x:Array Nat):∀(n:Nat) (a:Array Nat),(List.replicate n x).foldl (·++·) a=(a.toList++(List.replicate n x.toList).flatten).toArray
 |0,a=>by simp
 |n+1,a=>by rw[cw,List.foldl_cons,aeb x n];simp[cw]
theorem am6{α:Type}(n:Nat)(l:List α):(List.replicate n l).flatten.length=n*l.length:=by simp
def avc:R2:=λx y H Q=>∃z k,x=.str z/\y=.int k /\ -1000000<=k/\k<=1000000/\z.length*k.toNat<=sizeLine/\Q (.str ⟨((List.replicate k.toNat z.cps.toList).flatten).toArray⟩) H
theorem ar3{X:Cx}:OpR X (binaryOp .Mult) avc:=by
 intro aA s σ H x y v u Q I rx ry ⟨z,k,ex,ey,k1,k2,hz,q⟩
 subst ex ey;obtain⟨t,rfl⟩:=rx;obtain⟨t',rfl⟩:=ry;refine P.mul_str (by rw[bp (by omega),bp (by omega)];rfl) (λh1 h2=>?_) (λ_ _=>?_) ?_
 ·have hs:=eX;have hx:z.length<=sizeLine:=by
   have:1<=k.toNat:=by omega
   exact bX (Nat.le_mul_of_pos_right _ this) hz
  have:(1000000000:Int)<=(2^63-1) / k:=by
   rw[Int.le_ediv_iff_mul_le (by omega)]
   omega
  omega
 ·exact bp (Nat.not_lt.mpr hz)
 ·split
  ·rename_i h1;have:k.toNat=0:=by omega
   refine⟨by decide,.str _,H,I.tok _,⟨_,rfl⟩,?_⟩
   rw[this]at q;exact q
  ·split
   ·rename_i h1 h2;rw[eS]at h2;refine⟨.str z,H,I,⟨_,rfl⟩,?_⟩;have e:(⟨((List.replicate k.toNat z.cps.toList).flatten).toArray⟩:Str)=z:=by
     rcases h2 with h2|h2
     ·have:k=1:=by simpa using h2
      subst this;simp
     ·have h0:z.length=0:=by simpa using h2
      have:z.cps.toList=[]:=dS.mp (by rw[cU];exact h0)
      rw[this];obtain⟨c⟩:=z;have:c = #[]:=by simpa using this
      subst this;simp
    rw[e]at q;exact q
   ·have e:(⟨(List.replicate k.toNat z.cps).foldl (·++·) #[]⟩:Str)=⟨((List.replicate k.toNat z.cps.toList).flatten).toArray⟩:=by rw[aeb];simp
    rw[e];refine⟨?_,.str _,H,I.tok _,⟨_,rfl⟩,q⟩;show((List.replicate k.toNat z.cps.toList).flatten).toArray.size<=_;have hl:((List.replicate k.toNat z.cps.toList).flatten).toArray.size=z.length*k.toNat:=by
     rw[ax,am6];exact eM _ _
    omega
def az0(i j:Int):Prop:=i.natAbs<2^1000/\j.natAbs<2^1000
theorem ar4{X:Cx}:OpR X (binaryOp .Mult) (rI az0 λi j=>.int (i*j)):=opI λ_ _ _ _ _ _ _ hc q=>P.mul_int q (IntMulOk.of_le (intBits_le_iff.mpr hc.1) (intBits_le_iff.mpr hc.2) (by omega))
end L2
namespace MI
open L2 TPM
open Classical in
noncomputable def ab8(x y:D)(h:Hd):R D:=match x,y with
 |.str z,.int k=>if (-1000000<=k/\k<=1000000)/\z.length*k.toNat<=LINE then .ok (.str ⟨((List.replicate k.toNat z.cps.toList).flatten).toArray⟩) h else .no
 |.int i,.int j=>if az0 i j then .ok (.int (i*j)) h else alz (.int i) (.int j) h
 |x,y=>alz x y h
theorem am7{K:Fg}:a1p K ab8 (λx y H Q=>((((rI CMul (λi j=>.int (i*j)) x y H Q\/atp x y H Q)\/al4 K x y H Q)\/aqt K x y H Q)\/rI az0 (λi j=>.int (i*j)) x y H Q)\/avc x y H Q):=by
 intro E ι H h x y dx dy Q rx ry hr o
 cases rx with
 |str z =>
  cases ry with
  |int k =>
   simp only[ab8]at o
   split at o
   ·rename_i hc;exact .inr ⟨z,k,rfl,rfl,hc.1.1,hc.1.2,ll hc.2,ans o (.str _) hr⟩
   ·exact o.elim
  |_=>exact o.elim
 |int i =>
  cases ry with
  |int j =>
   simp only[ab8]at o
   split at o
   ·rename_i hc;exact .inl (.inr ⟨i,j,rfl,rfl,hc,ans o (.int _) hr⟩)
   ·exact .inl (.inl (a68 _ _ _ _ _ _ _ _ _ (.int i) (.int j) hr o))
  |_=>exact o.elim
 |@tup a vs xs ha rs=>exact .inl (.inl (a68 _ _ _ _ _ _ _ _ _ (.tup ha rs) ry hr o))
 |ref e=>exact .inl (.inl (a68 _ _ _ _ _ _ _ _ _ (.ref e) ry hr o))
 |_=>first|exact o.elim|exact .inl (.inl (a68 _ _ _ _ _ _ _ _ _ (by assumption) ry hr o))
theorem ar5{X:Cx}{E:XD}{a b:Expr}{fa fb:SE}{pos:Pos}(ha:ME X E a fa)(hb:ME X E b fb):ME X E (.BinOp a .Mult b pos) (s2 ab8 fa fb):=ac2 (((((an5.or atq).or aq8).or aqu).or ar4).or ar3) am7 ha hb
open Classical in
theorem avd{l:List Nat}{k:Nat}{h:Hd}(hk:k<=1000)(hl:l.length<=1000):ab8 (.str (S l)) (.int (k:Nat)) h=.ok (.str (S (List.replicate k l).flatten)) h:=by
 have:ab8 (.str (S l)) (.int (k:Nat)) h=if (-1000000<=(k:Int)/\(k:Int)<=1000000)/\(S l).length*(k:Int).toNat<=LINE then .ok (.str ⟨((List.replicate (k:Int).toNat (S l).cps.toList).flatten).toArray⟩) h else .no:=rfl
 have hz:(S l).length*(k:Int).toNat<=LINE:=by
  rw[a9f,dH];exact dh (bX (fh hl hk) (by omega))
 rw[this,aO ⟨by omega,hz⟩,dH]
end MI
namespace CAS
open L2 MI
noncomputable def xr(aa:SF):SS :=
 (uw (sML a5o (sV 3) (ak (af6 (sT (s2 hEq (sA (gq false 2 aa) (ak (sV 0) (ak (sI 3) bu))) (sI 0))) (sA (gq false 2 aa) (ak (sV 0) (ak (sI 6) bu))) (s1 a5v (sI 1))) bu)))
noncomputable def qg(aa:SF):SE :=
 (sA (gq false 2 aa) (ak (sV 1) (ak (sV 2) bu)))
noncomputable def xn(aa:SF):SE :=
 (af6 (a7s (sT (s2 gLt (s2 gIx (sV 2) (sV 0)) (sI 0))) (sT (s2 gLe (sV 0) (sV 3)))) (s2 a9z (sV 1) (sI 1)) (sV 0))
noncomputable def ux(aa:SF):SE :=
 (sV 1)
noncomputable def qi(aa:SF):SS :=
 (dm (j9 7 (sZ (jk (sIt (sV 1)) t1 (qg aa) [0,2])))
 (dm (sIf (sT (s2 gGt (sV 5) (sI 0)))
 (j9 7 (sZ (jk (sIt (sV 7)) t1 (xn aa) [2,3,4])))
 sNx)
 (dm (sIf (a7s (sT (s2 hEq (sV 5) (sI 1))) (sT (s2 hEq (sV 4) (s2 a9z (sV 2) (sI 1)))))
 (j9 7 (sZ (jk (sIt (sV 7)) t1 (ux aa) [4])))
 sNx)
 (uw (sML a5o (sV 6) (ak (sV 7) bu))))))
noncomputable def a7b(aa:SF):SS :=
 (dm (j9 3 (sA a1u (ak (s1 a5v (sI 1)) bu)))
 (dm (a2u (sRg a7h (ak (sI 1) (ak (sV 2) bu))) (kN 4) (xr aa))
 (dm (j9 5 (sA (gq false 2 aa) (ak (sV 0) (ak (sI 3) bu))))
 (dm (j9 6 (sA a1u bu))
 (dm (a2u (sRg yt (ak (sV 2) bu)) (kN 4) (qi aa))
 (sr (sA ur (ak (sV 6) (ak (sV 3) bu)))))))))
noncomputable def a0l(aa:SF):SE :=
 (s1 a5v (sI 1))
noncomputable def a7k(aa:SF):SE :=
 (s2 gIx (sV 2) (sA (gq false 2 aa) (ak (sV 1) (ak (sA qu (ak (sV 2) bu)) bu))))
noncomputable def a0m(aa:SF):SE :=
 (s1 a5v (sI 1))
noncomputable def qj(aa:SF):SS :=
 (dm (j9 9 (sMS aak (sV 1) (ak (sV 8) bu)))
 (dm (sIf (sT (s2 gLt (s2 gIx (s2 gIx (sV 3) (sV 7)) (sV 9)) (sI 0)))
 (dm (abp (sA qu (ak (sV 3) bu)) (s2 gIx (sV 3) (sV 7)) (sV 9))
 (dm (uw (sML a5o (sV 3) (ak (jk (sIt (sV 1)) t1 (a0m aa) []) bu)))
 (uw (sML a5o (sV 4) (ak (s1 a5v (sI 1)) bu)))))
 sNx)
 (j9 7 (s2 gIx (s2 gIx (sV 3) (sV 7)) (sV 9)))))
noncomputable def xu(aa:SF):SS :=
 (dm (j9 6 (sMS aam (sC (.str "")) (ak (sZ (jk (sRg yt (ak (s2 ie (sI 1) (sA (gq false 2 aa) (ak (sV 0) (ak (sI 4) bu)))) bu)) t1 (a7k aa) [0,1])) bu)))
 (dm (sIf (a7s (sT (s2 (aqq true) (sV 2) (sZ (sA a1u bu)))) (sT (s2 hEq (sA (gq false 2 aa) (ak (sV 0) (ak (sI 2) bu))) (sI 0))))
 (j9 6 (yp (s2 ie (s2 gIx (sV 2) (sA (gq false 2 aa) (ak (sV 0) (ak (sA qu (ak (sV 2) bu)) bu)))) (sV 6)) oN (oS (sI 6))))
 sNx)
 (dm (uw (sML a5o (sV 2) (ak (sV 6) bu)))
 (dm (j9 7 (sI 0))
 (dm (a2u (sIt (sV 6)) (kN 8) (qj aa))
 (abp (sA (gq false 2 aa) (ak (sV 0) (ak (sI 6) bu))) (sV 4) (sV 7)))))))
noncomputable def yc(aa:SF):SS :=
 (dm (j9 7 (sA (gq false 2 aa) (ak (sV 0) (ak (sA qu (ak (sV 3) bu)) bu))))
 (dm (j9 9 (sA (gq false 2 aa) (ak (sV 0) (ak (sA qu (ak (sV 1) bu)) bu))))
 (sIf (sT (s2 gLt (s2 gIx (s2 gIx (sV 3) (sV 7)) (sV 9)) (sI 0)))
 (abp (s2 ie (sI 1) (sA (gq false 2 aa) (ak (sV 0) (ak (s2 a9z (sA qu (ak (sV 3) bu)) (sI 1)) bu)))) (s2 gIx (sV 3) (sV 7)) (sV 9))
 sNx)))
noncomputable def a2y(aa:SF):SE :=
 (af6 (sT (s2 gGe (sV 0) (sI 0))) (sV 0) (sA qu (ak (sV 1) bu)))
noncomputable def a0n(aa:SF):SE :=
 (sZ (jk (sIt (sV 0)) t1 (a2y aa) [1]))
noncomputable def a2z(aa:SF):SE :=
 (sA qu (ak (sV 1) bu))
noncomputable def a1e(aa:SF):SS :=
 (dm (j9 2 (sA a1u bu))
 (dm (j9 3 (sA a1u (ak (jk (sIt (sV 1)) t1 (a0l aa) []) bu)))
 (dm (j9 4 (sA a1u (ak (s1 a5v (sI 1)) bu)))
 (dm (a2u (sRg yt (ak (s2 ie (sI 1) (sA (gq false 2 aa) (ak (sV 0) (ak (sI 5) bu)))) bu)) (kN 5) (xu aa))
 (dm (a2u (sRg yt (ak (sA (gq false 2 aa) (ak (sV 0) (ak (sI 3) bu))) bu)) (kN 5) (yc aa))
 (dm (j9 10 (sZ (jk (sIt (sV 3)) t1 (a0n aa) [3])))
 (sr (sA ur (ak (sV 2) (ak (sZ (s2 ie (sV 10) (sZ (sA a1u (ak (sZ (jk (sIt (sV 1)) t1 (a2z aa) [3])) bu))))) (ak (sZ (s2 ie (sV 4) (sZ (sA a1u (ak (s1 a5v (sI 1)) bu))))) bu)))))))))))
noncomputable def a09:SS :=
 (sIf (sT (s2 (gIn true) (sV 5) (sV 3)))
 (uw (sML a5o (sV 3) (ak (sV 5) bu)))
 sNx)
noncomputable def a2c:ST :=
 (sT (s2 gLt (sV 4) (sA qu (ak (sV 3) bu))))
noncomputable def a0a:SS :=
 (dm (a2u (sIt (s2 gIx (sV 1) (s2 gIx (sV 3) (sV 4)))) (kN 5) a09)
 (afx 4 a1x (sI 1)))
noncomputable def a2d:SE :=
 (sML a74 (sV 1) (ak (sV 0) bu))
noncomputable def a0b:SE :=
 (sA uq (ak (sZ (jk (sIt (s2 gIx (sV 1) (sV 0))) t1 a2d [2])) bu))
noncomputable def a0c:SE :=
 (s2 gIx (sV 1) (sV 0))
noncomputable def a4g:SS :=
 (dm (j9 3 (sA a1u (ak (sI 0) bu)))
 (dm (j9 4 (sI 0))
 (dm (sWh a2c a0a 100000)
 (dm (j9 3 (sA a3i (ak (sV 3) bu)))
 (dm (j9 6 (sA uq (ak (sZ (jk (sIt (sV 3)) t1 a0b [1,3])) bu)))
 (sr (sA ur (ak (sV 0) (ak (sV 6) (ak (sA uq (ak (sZ (jk (sIt (sV 3)) t1 a0c [2])) bu)) bu))))))))))
noncomputable def a4h(aa:SF)(j4:SF)(m5:SF)(j7:SF)(iu:SF):SE :=
 (s2 gIx (sV 2) (sA (gq false 2 aa) (ak (sV 1) (ak (sA qu (ak (sV 2) bu)) bu))))
noncomputable def wj(aa:SF)(j4:SF)(m5:SF)(j7:SF)(iu:SF):SS :=
 (dm (j9 9 (s2 gIx (sV 7) (sA (gq false 2 aa) (ak (sV 0) (ak (sA qu (ak (sV 7) bu)) bu)))))
 (dm (j9 10 (sA (gq false 2 aa) (ak (sV 0) (ak (sI 6) bu))))
 (dm (sIf (sT (s2 hEq (sV 10) (sI 0)))
 (j9 9 (yp (sV 9) oN (oS (sA (gq false 2 aa) (ak (sV 0) (ak (sA qu (ak (sV 9) bu)) bu))))))
 sNx)
 (dm (sIf (sT (s2 hEq (sV 10) (sI 1)))
 (j9 9 (s2 gIx (sV 3) (sA (gq false 2 aa) (ak (sV 0) (ak (sA qu (ak (sV 3) bu)) bu)))))
 sNx)
 (afx 6 a1x (sV 9))))))
noncomputable def a2r(aa:SF)(j4:SF)(m5:SF)(j7:SF)(iu:SF):SS :=
 (dm (j9 1 (sA (gq false 2 aa) (ak (sV 0) (ak (sI 4) bu))))
 (dm (j9 2 (sA (gq false 2 aa) (ak (sV 0) (ak (sI 8) bu))))
 (dm (j9 3 (sA (gq false 1 iu) (ak (sV 0) bu)))
 (dm (sIf (sT (s2 hEq (sV 1) (sI 0)))
 (dm (abq (sA (gq false 3 j7) (ak (sV 0) (ak (sV 3) (ak (s2 ie (sI 1) (sA (gq false 2 aa) (ak (sV 0) (ak (s2 gIx (sA ur (ak (sI 8) (ak (sI 32) bu))) (s2 aa0 (sV 2) (sI 7))) bu)))) bu)))) (a7u 2 (o7 (kN 4) (o7 (kN 5) a8s))))
 (j9 6 (sMS aam (sC (.str "")) (ak (sZ (jk (sRg yt (ak (sA (gq false 2 aa) (ak (sV 0) (ak (sI 25) bu))) bu)) t1 (a4h aa j4 m5 j7 iu) [0,3])) bu))))
 (dm (abq (sA (gq false 2 j4) (ak (sV 0) (ak (sV 3) bu))) (a7u 3 (o7 (kN 7) (o7 (kN 4) (o7 (kN 5) a8s)))))
 (dm (j9 6 (sC (.str "")))
 (a2u (sRg yt (ak (sA (gq false 2 aa) (ak (sV 0) (ak (sI 12) bu))) bu)) (kN 8) (wj aa j4 m5 j7 iu)))))
 (dm (sIf (sT (s2 hEq (sV 2) (sI 3)))
 (j9 6 (yp (s2 ab8 (sV 6) (sI 240)) oN (oS (sA (gq false 2 aa) (ak (sV 0) (ak (sI 241) bu))))))
 sNx)
 (sr (sA ur (ak (sA (gq false 3 m5) (ak (sV 3) (ak (sV 4) (ak (sV 5) bu)))) (ak (sV 6) bu)))))))))
end CAS
namespace L2
open PyProof.Rows
theorem pick_from(vs:List Value){n:Nat}(hn:n<=vs.length):(sliceRange ((n:Int)-1) (-1) (-1)).filterMap (vs.toArray[·]?)=(vs.take n).reverse:=by
 have c:sliceRange ((n:Int)-1) (-1) (-1)=(List.range n).map λk=>n-1-k:=by
  unfold sliceRange;have e:(if (-1:Int) > 0 then (if (n:Int)-1 < -1 then (-1-((n:Int)-1) + -1-1) / -1 else 0) else (if (n:Int)-1 > -1 then ((n:Int)-1 - -1 - -1-1) / (- -1) else 0)).toNat=n:=by
   rw[bE (by decide)]
   by_cases z:n=0
   ·subst z;rfl
   ·rw[aO (by omega),show(- -1:Int)=1 from rfl,gM];omega
  dsimp only;rw[e];refine cZ λk hk=>?_;have:=bS.mp hk;omega
 rw[c,List.filterMap_map];refine eF λi=>?_;have e:(List.range n).filterMap ((λj=>vs.toArray[j]?) ∘ λk=>n-1-k)=(List.range n).map λk=>vs[n-1-k]?.getD default:=by
  refine TPM.adx λk hk=>?_;have:=bS.mp hk;show vs.toArray[n-1-k]? = _;rw[List.getElem?_toArray,ae (by omega)]
  rfl
 rw[e]
 by_cases hi:i<n
 ·rw[aM,cy hi,fq (by rw[aT];omega),aT,eR hn,gp (by omega),ae (by omega)]
  show some (vs[n-1-i]?.getD default)=_;rw[ae (by omega)]
  rfl
 ·rw[bQ (by simp;omega),bQ (by simp;omega)]
def bk{α:Type}(l:Option Int)(xs:List α):List α:=match l with
 |none=>xs.reverse
 |some _=>xs.dropLast.reverse
theorem ar6(vs:List Value)(l:Option Int)(hl:l=none\/l=some (-2)):slicePick vs.toArray l none (some (-1))=(bk l vs).toArray:=by
 unfold slicePick
 congr 1
 rw[ax]
 rcases hl with rfl|rfl
 ·show(sliceRange ((vs.length:Int)-1) (-1) (-1)).filterMap _=_;rw[pick_from vs (aI _),List.take_length];rfl
 ·have e:(sliceBounds (some (-2)) none (some (-1)) vs.length).1=((vs.length-1:Nat):Int)-1:=by
   show max (-1) (min (if (-2:Int)<0 then -2+(vs.length:Int) else -2) ((vs.length:Int)-1))=_
   rw[aO (by decide)]
   omega
  rw[e];show(sliceRange (((vs.length-1:Nat):Int)-1) (-1) (-1)).filterMap _=_;rw[pick_from vs (by omega),<-dv]
  rfl
theorem ave{α:Type}(l:Option Int)(xs:List α):(bk l xs).length<=xs.length:=by
 cases l with
 |none=>show xs.reverse.length<=_;rw[cG];exact aI _
 |some _=>show xs.dropLast.reverse.length<=_;rw[cG,List.length_dropLast];omega
theorem ar7{vs:List V}{us:List Value}(r:Vals vs us)(l:Option Int):Vals (bk l vs) (bk l us):=by
 cases l with
 |none=>exact r.reverse
 |some _ =>
  show Vals vs.dropLast.reverse us.dropLast.reverse;rw[dv,dv,r.length];exact(r.take _).reverse
def avf(K:Fg)(te:TE)(tl:TO)(tk:TE):TE:=λσ H Q=>te σ H λx H1=>tl σ H1 λl H2=>tk σ H2 λk H3=>k=.int (-1)/\(l=none\/l=some (-2))/\∃a xs,x=.ref a/\SqL K H3 a xs/\∀p,H3 p=none->Q (.ref p) (upd H3 p (.lst (bk l xs)))
theorem am8{X:Cx}{e st:Expr}{lo:Option Expr}{te tk:TE}{tl:TO}{p2 pos:Pos}(he:PE X e te)(hl:PO X lo tl)(hk:PE X st tk):PE X (.Subscript e (.Slice lo none (some st) p2) pos) (avf X.K te tl tk):=by
 intro aA s σ H Q I h
 refine Subscript_ (thn (he aA s σ H _ I h) λv s1 ⟨x,H1,I1,r1,q1⟩=>?_);refine gV (thn (hl aA s1 σ H1 _ I1 q1) λvl s2 ⟨l,H2,I2,pl,q2⟩=>?_);rw[fI];refine aS ?_;rw[gE];refine thn (hk aA s2 σ H2 _ I2 q2) ?_
 rintro u s3 ⟨k,H3,I3,rk,ek,ol,a,xs,ea,hx,q⟩
 subst ek ea;obtain⟨t,rfl⟩:=rk;cases r1
 have I4:Inv X aA σ H3 {s3 with heap:=s3.heap.push {cls:=.type "slice",data:=.fields #[vl,.none,.int (-1) t]} }:=I3.kept (t':=s3.toks) λb ob q=>ag _ q
 obtain⟨its,r,ht,hz⟩:=I4.list hx;have aG:=r.length;refine tail_any (T := "list") (ops:=[.ref a,.ref s3.heap.objs.size]) ht.isList.typeIs gv.lookup ?_ (by with_unfolding_all rfl)
 refine wpAny_getItem_list_slice (st:=some (-1)) ht.isList (fX ..) pl .none (.int _ _) (by simp) ?_ (by rw[ax]<;>omega)
 rw[ar6 its l ol];refine⟨.ref _,_,I4.laid (t':=s3.toks) (o:=.lst (bk l xs)) (λb ob q=>ag _ q) (aI _) ?_,rfl,q _ (I4.hok.fresh (aI _))⟩;exact⟨bX (ave l xs) hz,_,0,ar7 r l,aW _ rfl⟩
end L2
namespace MI
open L2
def aec(x:D)(l:Option Int)(k:D)(h:Hd):R D:=match yu x h,k with
 |some xs,.int i=>if i = -1/\(l=none\/l=some (-2)) then .ok (.ref h.length) (h++[.lst (bk l xs)]) else .no
 |_,_=>.no
theorem ar8{K:Fg}{ι:List Addr}{H:Hp}{vs:List V}{xs:List D}(r:Reps K ι H vs xs)(l:Option Int):Reps K ι H (bk l vs) (bk l xs):=by
 have rv:∀{vs:List V} {xs:List D},Reps K ι H vs xs->Reps K ι H vs.reverse xs.reverse:=λr=>by
  have:=a96 r .nil
  rw[bJ,bJ]at this;exact this
 cases l with
 |none=>exact rv r
 |some _ =>
  show Reps K ι H vs.dropLast.reverse xs.dropLast.reverse;rw[dv,dv,r.len];exact rv (r.take _)
abbrev sO:=Sd->Hd->R (Option Int)
def aed(f:SE)(l:sO)(g:SE):SE:=λτ h=>(f τ h).bind λd h1=>(l τ h1).bind λo h2=>(g τ h2).bind λk h3=>aec d o k h3
theorem am9{X:Cx}{E:XD}{e st:Expr}{lo:Option Expr}{f g:SE}{l:sO}{p2 pos:Pos}(he:ME X E e f)(hl:MO X E lo l)(hk:ME X E st g):ME X E (.Subscript e (.Slice lo none (some st) p2) pos) (aed f l g):=by
 refine PE.weak (am8 he hl hk) ?_
 rintro σ H Q ⟨ι,τ,h,S,Rh,o⟩
 refine⟨ι,τ,h,S,Rh,bx o λd h1 ι1 H1 v g1 r1 hr1 o1=>?_⟩;refine⟨ι1,τ,h1,S.mono g1,hr1,bx o1 λlo h2 ι2 H2 lv g2 r2 hr2 o2=>?_⟩;refine⟨ι2,τ,h2,(S.mono g1).mono g2,hr2,bx o2 λk h3 ι3 H3 u g3 r3 hr3 o3=>?_⟩;have r2:lv=lo:=r2;subst r2;unfold aec at o3
 split at o3
 ·rename_i xs i e1
  by_cases c:i = -1/\(lv=none\/lv=some (-2))
  ·rw[aO c]at o3;obtain⟨b,us,rfl,h5,h6⟩:=a2p ((r1.mono g2).mono g3) hr3 e1;cases r3
   exact⟨by rw[c.1],c.2,b,us,rfl,.inl h5,zc (ar8 h6 lv) hr3 o3⟩
  ·rw[bE c]at o3;exact o3.elim
 ·exact o3.elim
theorem ar9{xs:List D}{h:Hd}{i:Nat}(e:h[i]? = some (.lst xs)):aec (.ref i) none (.int (-1)) h=.ok (.ref h.length) (h++[.lst xs.reverse]):=by
 unfold aec yu;simp only[e,and_true,true_and,true_or,dR];rfl
section
variable{K:Fg}{ι:List Addr}{H:Hp}{h:Hd}{n:Nat}
theorem ai8(r:Reps K ι H vs ds)(hr:HRep K ι H h)(o:out K E2 (yq K) ι H (acl n F ds h) Q):yh K n F vs H Q E0:=by
 unfold acl at o
 split at o
 ·rename_i hc
  split at o
  ·rename_i i e h1 ef
   split at o
   ·rename_i ob ho
    split at o
    ·rename_i cc;have R0:Reps K [] H vs ds:=by
      have:=r.cut (a75 hc.1)
      rwa[eI]at this
     refine⟨by rw[r.len];exact hc.2,[],ds,[],R0,⟨eJ,rfl,λi a o e1=>by simp at e1⟩,?_⟩
     rw[ef]
     intro ι' H' v g rb hr1
     obtain⟨m,em,hm⟩:=g.pre;rw[cV]at em;subst em;obtain⟨G0,hr'⟩:=hr.stays (H':=H') λa u q=>g.oth a u q (by simp)
     cases rb with
     |@tup p ws _ hp rs =>
      cases rs with
      |cons r1 rs =>
       cases r1 with
       |@ref b _ hb =>
        cases rs with
        |cons r2 rs =>
         cases rs
         have bm:b∈ι':=aN hb;have bn:H b=none:=hm b bm;have nb:b∉ι:=λz=>by
          obtain⟨j,hj,e⟩:=fO z;have q1:ι[j]? = some b:=by rw[ae hj,e]
          have hj2:j<h.length:=by rw[<-hr.len];exact hj
          obtain⟨u,hu,_⟩:=(hr.obj j b h[j] q1 (ae hj2)).some;rw[bn]at hu;cases hu
         have up:∀κ:List Addr,Gw [] H' κ H':=λκ=>⟨⟨κ,rfl⟩,λ_ _ h=>h,λ_ _ _ h=>h⟩;have up2:Gw ι H' (ι++[b]) H':=⟨⟨[b],rfl⟩,λ_ _ h=>h,λ_ _ _ h=>h⟩;have r2':=r2.cut cc.2;rw[eI]at r2';have o1:=(hr1.obj i b ob hb ho).cut cc.1;rw[eI]at o1;refine o (ι++[b]) H' _ ⟨⟨[b],rfl,by simpa using bn⟩,g.tup,g.frz,λa u q _=>g.oth a u q (by simp),g.kp⟩ (.tup hp (.cons (.ref (by rw[<-hr.len];simp)) (.cons (r2'.monoW (up _)) .nil))) ⟨?_,?_,λj a u q1 q2=>?_⟩
         ·exact cB.mpr ⟨hr.nd,by simp,λa ha c hc z=>nb (by rw[<-aw.mp hc,<-z];exact ha)⟩
         ·rw[ah,ah,hr.len];rfl
         ·by_cases hj:j<ι.length
          ·rw[aJ hj]at q1;rw[aJ (by rw[<-hr.len];exact hj)]at q2
           exact(hr'.obj j a u q1 q2).monoW up2 rfl
          ·have hj2:j<(ι++[b]).length:=(af.mp q1).1;have:j=ι.length:=by simp at hj2;omega
           subst this;rw[aL (aI _)]at q1;rw[aL (by rw[hr.len];exact aI _)]at q2
           simp[hr.len]at q1 q2
           subst q1 q2;exact o1.monoW (up _) rfl
    ·exact o.elim
   ·exact o.elim
  ·exact o.elim
 ·exact o.elim
end
theorem ai9{X:Cx}(G:Dn X.prog X.w X.K X.mg X.base k x ps (yh X.K n F) f fd)(hr:Room k X.A)(hg:Gl X x)(ha:MA X X0 (e::es) ka)
  (hdb:(x == ("__debug__" : Str))=false:=by decide) (he:starEach (e::es) X.env=(false,eval e X.env)::starEach es X.env:=by rfl) (hpl:(backTo pos (starEach es X.env)).any (·.1)=false:=by rfl):ME X X0 (.Call (.Name x p) (e::es) [] pos) (sA (acl n F) ka):=by
 refine PE.weak (a6k G.ok hr hg G.m G.kp G.b .nil akg ha hdb he hpl) λσ H Q ⟨ι,τ,h,S,Rh,o⟩=>?_;refine⟨ι,τ,h,S,Rh,bx o λds h1 ι1 H1 vs g1 r1 hr1 o1=>?_⟩;rw[bJ];exact ai8 r1 hr1 o1
end MI
namespace K55
open L2 MI
def a2e:Str->Option Bool:=λc=>if c = "NoText" then some true else none
def a9l:Str->Option Bool:=λc=>if c = "NoText" then some true else none
def gf:Str->Option Bool:=λc=>if c = "NoText" then some false else none
def a1f:Str->Bool:=λc=>decide (c = "NoText")
noncomputable def zq:SS :=
 (sr (a0y (sA jz (ak (sV 0) (ak (sC (.ty "int")) bu))) (aaf (sA jz (ak (sV 0) (ak (sC (.ty "bool")) bu))))))
noncomputable def a6b:SS :=
 (sr (a0y (sA jz (ak (sV 0) (ak (sC (.ty "tuple")) bu))) (sCh gLe gLe (sV 1) (sA qu (ak (sV 0) bu)) (sV 2))))
noncomputable def a0d(m7:SF)(v7:SF)(jw:SF):SE :=
 (sA (gq false 2 jw) (ak (sV 0) (ak (sV 1) bu)))
noncomputable def a2f(m7:SF)(v7:SF)(jw:SF):SS :=
 (dm (sIf (a4r (a4q (sA jz (ak (sV 1) (ak (sC (.ty "tuple")) bu)))))
 (sr (a0y (sA (gq false 1 m7) (ak (sV 0) bu)) (s2 hEq (sV 0) (sV 1))))
 sNx)
 (dm (sIf (a4r (a4q (sA (gq false 3 v7) (ak (sV 0) (ak (sA qu (ak (sV 1) bu)) (ak (sA qu (ak (sV 1) bu)) bu))))))
 (sr (sC (.bl false)))
 sNx)
 (sr (sA ah9 (ak (sZ (jk (acd (sV 0) (sV 1)) (tN 2) (a0d m7 v7 jw) [])) bu)))))
noncomputable def uo(lz:SF):SS :=
 (dm (sIf (a4r (a4q (sA (gq false 2 lz) (ak (sV 0) (ak (sV 1) bu)))))
 (ab3 "NoText" (ak (sC (.str "no text of the tongue")) bu))
 sNx)
 (sr (sV 1)))
noncomputable def wk(du:SF)(jt:SF):SS :=
 (uw (sML a5o (sV 2) (ak (sA (gq false 3 jt) (ak (sV 0) (ak (sV 3) (ak (s2 gIx (sV 2) (s1 a5v (sI 1))) bu)))) bu)))
noncomputable def vg(du:SF)(jt:SF):SS :=
 (dm (uw (sA (yw 2 du) (ak (s2 gIx (sV 0) (sI 0)) (ak (sV 1) bu))))
 (dm (j9 2 (sA a1u (ak (sA ur bu) bu)))
 (dm (qS (a2u (sIt (ab2 (sV 1) (s1 a5v (sI 1)))) (kN 3) (wk du jt)))
 (sr (sA uq (ak (sZ (aed (sV 2) oN (s1 a5v (sI 1)))) bu))))))
noncomputable def a3a:SE :=
 (s2 gIx (sV 0) (sV 1))
noncomputable def a3b:SE :=
 (sV 0)
noncomputable def uz:ST :=
 (sOr (sT (s2 hNe (s2 gIx (sV 3) (sV 1)) (s1 a5v (sI 1)))) (sT (s2 (gIn false) (sV 1) (sV 2))))
noncomputable def a1g:SS :=
 (dm (abq (sV 0) (a7u 3 (o7 (kN 3) (o7 (kN 4) (o7 (kN 5) a8s)))))
 (dm (j9 6 (sMS a80 (sV 3) (ak (sV 1) bu)))
 (dm (j9 7 (sZ (jk (sIt (sV 4)) t1 a3a [6])))
 (sr (sA uq (ak (sZ (a3s (aci (sV 7)) (tN 2) uz a3b [2,5])) bu))))))
noncomputable def a1h(gj:SF)(jw:SF):SS :=
 (sr (sA (gq false 2 jw) (ak (sV 2) (ak (sA (yw 2 gj) (ak (sV 0) (ak (sV 1) bu))) bu))))
noncomputable def a1i(di:SF):ST :=
 (sT (s2 (gIn false) (sV 7) (s2 gIx (sV 2) (sV 5))))
noncomputable def a1j(di:SF):SS :=
 (dm (j9 7 (sA (gq false 3 di) (ak (sV 0) (ak (sV 7) (ak (s2 gIx (sV 1) (sV 5)) bu)))))
 (afx 5 a1x (sI 1)))
noncomputable def a3l(di:SF):ST :=
 (sT (s2 (gIn false) (sI 0) (s2 gIx (sV 2) (sV 5))))
noncomputable def a3m(di:SF):SS :=
 (dm (j9 6 (sV 5))
 (dm (j9 7 (sI 0))
 (dm (sWh (a1i di) (a1j di) 100000)
 (uw (sML a5o (sV 4) (ak (sA ur (ak (s2 gIx (sV 3) (sV 7)) (ak (sV 6) (ak (sV 5) bu)))) bu))))))
noncomputable def a6c(di:SF):SS :=
 (dm (j9 3 (s2 gIx (sV 0) (sI 2)))
 (dm (j9 4 (sA a1u bu))
 (dm (j9 5 (sI 0))
 (dm (sWh (a3l di) (a3m di) 100000)
 (sr (sA ur (ak (sV 4) (ak (sV 5) bu))))))))
noncomputable def ud(bz:SF):SS :=
 (sIf (sOr (a4r (a4q (sA (gq false 2 bz) (ak (sV 2) (ak (sI 3) bu))))) (sT (s2 hNe (sV 2) (sV 3))))
 ant
 sNx)
noncomputable def vh(bz:SF):SS :=
 (dm (sIf (sOr (a4r (a4q (sA jz (ak (sV 0) (ak (sC (.ty "list")) bu))))) (sT (s2 hNe (sA qu (ak (sV 0) bu)) (sA qu (ak (sV 1) bu)))))
 ant
 sNx)
 (dm (a2u (acd (sV 0) (sV 1)) (a7u 2 (o7 (kN 2) (o7 (kN 3) a8s))) (ud bz))
 (sr (sC (.bl true)))))
noncomputable def a5s(aa:SF)(cj:SF):SE :=
 (sV 0)
noncomputable def a5t(aa:SF)(cj:SF):SE :=
 (sV 0)
noncomputable def a0e(aa:SF)(cj:SF):ST :=
 (sT (s2 (gIn true) (sV 0) (sV 1)))
noncomputable def a2g(aa:SF)(cj:SF):SS :=
 (dm (j9 2 (yp (sV 2) oN (oS (sI 200))))
 (dm (j9 3 (sA (gq false 2 aa) (ak (sV 0) (ak (sI 8) bu))))
 (dm (sIf (sT (s2 gLt (sV 3) (sI 5)))
 (sr (s2 gIx (sA ur (ak (sC .non) (ak (sI 7) (ak (sZ (jk (sIt (sV 2)) t1 (a5s aa cj) [])) (ak (sA ur (ak (sV 2) bu)) (ak (sZ aca) bu)))))) (sV 3)))
 sNx)
 (dm (j9 4 (sZ (a3s (sIt (sA (gq false 0 cj) bu)) t1 (a0e aa cj) (a5t aa cj) [1])))
 (dm (j9 5 (sA (gq false 2 aa) (ak (sV 0) (ak (s2 ie (sA qu (ak (sV 2) bu)) (sI 1)) bu))))
 (sr (s2 ie (s2 ie (yp (sV 2) oN (oS (sV 5))) (s2 gIx (sV 4) (sA (gq false 2 aa) (ak (sV 0) (ak (sA qu (ak (sV 4) bu)) bu))))) (yp (sV 2) (oS (sV 5)) oN))))))))
noncomputable def a1k:SS :=
 (sr (a0y (sA jz (ak (sV 0) (ak (sC (.ty "bool")) bu))) (s2 hEq (sV 0) (sV 1))))
noncomputable def a0f:SS :=
 (dm (j9 6 (s2 gIx (s2 gIx (s2 gIx (sV 0) (sI 1)) (sV 6)) (sMS aak (s2 gIx (sV 0) (sI 0)) (ak (sV 8) bu))))
 (j9 7 (ajw (sV 7) (s2 gGe (s2 gIx (s2 gIx (sV 0) (sI 2)) (sV 6)) (sI 0)))))
noncomputable def a0g:SS :=
 (dm (j9 6 (sV 5))
 (dm (j9 7 (sC (.bl false)))
 (dm (a2u (sIt (yp (sV 1) (oS (sV 3)) oN)) (kN 8) a0f)
 (sIf (a4q (sV 7))
 (uw (sML a5o (sV 4) (ak (sV 5) bu)))
 sNx))))
noncomputable def a2h:SS :=
 (dm (j9 4 (sA a1u bu))
 (dm (a2u (sRg yt (ak (sA qu (ak (s2 gIx (sV 0) (sI 1)) bu)) bu)) (kN 5) a0g)
 (uw (sML a5o (sV 2) (ak (sA uq (ak (sV 4) bu)) bu)))))
noncomputable def a4i:SS :=
 (dm (j9 2 (sA a1u bu))
 (dm (a2u (sRg yt (ak (s2 ie (sA qu (ak (sV 1) bu)) (sI 1)) bu)) (kN 3) a2h)
 (sr (sA uq (ak (sV 2) bu)))))
noncomputable def a0h(dq:SF):ST :=
 (sT (s2 aaj (sV 4) (sC .non)))
noncomputable def ym(dq:SF):SS :=
 (dm (uw (sML a5o (sV 2) (ak (sA ur (ak (s2 gIx (sV 4) (sI 0)) (ak (sV 3) (ak (s2 gIx (sV 4) (sI 1)) bu)))) bu)))
 (dm (j9 3 (s2 gIx (sV 4) (sI 1)))
 (j9 4 (sA (gq false 3 dq) (ak (sV 0) (ak (sV 1) (ak (sV 3) bu)))))))
noncomputable def a0x(dq:SF):SS :=
 (dm (j9 2 (sA a1u bu))
 (dm (j9 3 (sI 0))
 (dm (j9 4 (sA (gq false 3 dq) (ak (sV 0) (ak (sV 1) (ak (sV 3) bu)))))
 (dm (sWh (a0h dq) (ym dq) 100000)
 (sr (sA ur (ak (sV 2) (ak (sV 3) bu))))))))
noncomputable def zr(aa:SF):SE :=
 (sV 0)
noncomputable def ig(aa:SF):SS :=
 (dm (j9 3 (sA (gq false 2 aa) (ak (sV 0) (ak (s2 ie (sA qu (ak (sV 1) bu)) (sI 1)) bu))))
 (dm (j9 4 (sA (gq false 2 aa) (ak (sV 0) (ak (sI 9) bu))))
 (dm (sIf (sT (s2 gGt (sV 4) (sI 6)))
 (sr (s2 gIx (sA ur (ak (sC .non) (ak (sI 7) (ak (sC (.bl true)) (ak (sC (.str "0")) (ak (sC (.str "")) (ak (sZ aca) bu))))))) (sA (gq false 2 aa) (ak (sV 0) (ak (sI 6) bu)))))
 sNx)
 (dm (sIf (sT (s2 hEq (sV 4) (sI 0)))
 (sr (s2 ie (s2 ie (yp (sV 1) oN (oS (sV 3))) (sA ur (ak (sA (gq false 2 aa) (ak (sV 0) (ak (s2 ie (sV 2) (sI 1)) bu))) bu))) (yp (sV 1) (oS (sV 3)) oN)))
 sNx)
 (dm (sIf (sT (s2 hEq (sV 4) (sI 1)))
 (sr (s2 ie (s2 ie (yp (sV 1) oN (oS (sV 3))) (al7 (yp (sV 1) (oS (sV 3)) (oS (s2 ie (sV 3) (sI 2)))) (s1 a5v (sI 1)))) (yp (sV 1) (oS (s2 ie (sV 3) (sI 2))) oN)))
 sNx)
 (dm (sIf (sT (s2 hEq (sV 4) (sI 2)))
 (sr (jk (sIt (sV 1)) t1 (zr aa) []))
 sNx)
 (dm (sIf (sT (s2 hEq (sV 4) (sI 3)))
 (sr (s2 ie (s2 ie (yp (sV 1) oN (oS (sV 3))) (yp (sV 1) (oS (sV 3)) (oS (s2 ie (sV 3) (sI 1))))) (yp (sV 1) (oS (sV 3)) oN)))
 sNx)
 (dm (j9 5 (sA ur (ak (sA ur bu) (ak (sA ur (ak (sC .non) bu)) (ak (s2 gIx (sA ur (ak (sA ur (ak (sC (.bl true)) bu)) (ak (sA ur (ak (sZ (sA a1u (ak (sI 0) bu))) bu)) (ak (sA ur (ak (sZ aca) bu)) (ak (sA ur (ak (sA ur (ak (sI 0) bu)) bu)) bu))))) (sA (gq false 2 aa) (ak (sV 0) (ak (sI 4) bu)))) bu)))))
 (sr (s2 ie (s2 ie (yp (sV 1) oN (oS (sV 3))) (s2 gIx (sV 5) (s2 a9z (sV 4) (sI 4)))) (yp (sV 1) (oS (s2 ie (sV 3) (sI 1))) oN)))))))))))
noncomputable def a2i(aa:SF)(dz:SF):SE :=
 (sV 0)
noncomputable def o8(aa:SF)(dz:SF):SS :=
 (dm (j9 3 (sA (gq false 2 aa) (ak (sV 0) (ak (sA qu (ak (sV 1) bu)) bu))))
 (dm (j9 4 (sA (gq false 2 aa) (ak (sV 0) (ak (sI 14) bu))))
 (dm (sIf (sT (s2 gLt (sV 4) (sI 2)))
 (sr (sV 1))
 sNx)
 (dm (sIf (sT (s2 gLt (sV 4) (sI 10)))
 (sr (s2 ie (s2 ie (yp (sV 1) oN (oS (sV 3))) (sA ur (ak (sA (gq false 3 dz) (ak (sV 0) (ak (s2 gIx (sV 1) (sV 3)) (ak (sV 2) bu)))) bu))) (yp (sV 1) (oS (s2 ie (sV 3) (sI 1))) oN)))
 sNx)
 (dm (sIf (sT (s2 hEq (sV 4) (sI 10)))
 (sr (s2 ie (yp (sV 1) oN (oS (sV 3))) (yp (sV 1) (oS (s2 ie (sV 3) (sI 1))) oN)))
 sNx)
 (dm (sIf (sT (s2 hEq (sV 4) (sI 11)))
 (sr (s2 ie (s2 ie (yp (sV 1) oN (oS (sV 3))) (sA ur (ak (s2 gIx (sV 1) (sV 3)) bu))) (yp (sV 1) (oS (sV 3)) oN)))
 sNx)
 (sr (s2 gIx (sA ur (ak (sZ (jk (sIt (sV 1)) t1 (a2i aa dz) [])) (ak (s2 gIx (sA ur (ak (sC .non) (ak (sI 7) (ak (sC (.bl true)) (ak (sC (.str "")) (ak (sZ aca) bu)))))) (sA (gq false 2 aa) (ak (sV 0) (ak (sI 5) bu)))) bu))) (s2 a9z (sV 4) (sI 12))))))))))
noncomputable def qm(bz:SF):SS :=
 (sIf (sOr (a4r (a4q (sA jz (ak (sV 2) (ak (sC (.ty "tuple")) bu))))) (sOr (a4r (a4q (sA (gq false 2 bz) (ak (sV 2) (ak (sA qu (ak (sV 2) bu)) bu))))) (sT (s2 hNe (sV 2) (sV 3)))))
 (sr (sC (.bl false)))
 sNx)
noncomputable def a1l(bz:SF):SS :=
 (dm (sIf (sOr (a4r (a4q (sA jz (ak (sV 0) (ak (sC (.ty "tuple")) bu))))) (sT (s2 hNe (sA qu (ak (sV 0) bu)) (sA qu (ak (sV 1) bu)))))
 (sr (sC (.bl false)))
 sNx)
 (dm (a2u (acd (sV 0) (sV 1)) (a7u 2 (o7 (kN 2) (o7 (kN 3) a8s))) (qm bz))
 (sr (sC (.bl true)))))
noncomputable def yz(gj:SF):SS :=
 (dm (j9 2 (sC .non))
 (dm (auw 3 a1f
 (uw (sA (yw 2 gj) (qA (ak (sV 0) (ak (sV 1) bu)))))
 (dm (j9 2 (sA ur (ak (alo 3 a9l) (ak (alo 3 a2e) bu))))
 (j9 2 (s2 ie (sV 2) (sA ur (ak (alo 3 gf) bu))))))
 (sr (s2 hEq (sV 2) (sA ur (ak (sC (.bl true)) (ak (sC (.bl true)) (ak (sC (.bl false)) bu))))))))
noncomputable def ama(wu:SF)(vm:SF)(v5:SF)(zx:SF)(p8:SF)(bz:SF)(jo:SF)(ph:SF)(oh:SF)(mq:SF)(v8:SF)(gj:SF)(ye:SF)(nj:SF):SS :=
 (dm (j9 1 (sA (gq true 1 oh) (ak (sV 0) bu)))
 (dm (abq (sA (gq false 1 vm) (ak (sV 1) bu)) (a7u 2 (o7 (kN 2) (o7 (kN 3) a8s))))
 (dm (j9 3 (yp (sV 3) oN (oS (sI 60))))
 (dm (j9 4 (sA (gq false 2 zx) (ak (sV 2) (ak (sV 3) bu))))
 (dm (j9 5 (sA (yw 2 gj) (ak (sV 2) (ak (sV 3) bu))))
 (dm (sIf (sOr (a4r (a4q (sA (gq false 2 p8) (ak (sV 5) (ak (sV 4) bu))))) (a4r (a4q (sA (gq false 2 ph) (ak (sV 2) (ak (sA (gq false 3 wu) (ak (sV 1) (ak (s2 gIx (sV 2) (sI 0)) (ak (sV 3) bu)))) bu))))))
 ant
 sNx)
 (dm (j9 6 (sA (gq false 3 mq) (ak (sV 1) (ak (sV 4) (ak (sA qu (ak (s2 gIx (sV 2) (sI 1)) bu)) bu)))))
 (dm (j9 7 (sA afb (ak (sV 6) bu)))
 (dm (sIf (sOr (a4r (a4q (sA (gq false 2 v8) (ak (sA (yw 3 nj) (ak (sV 2) (ak (sV 3) (ak (sV 6) bu)))) (ak (sA (gq false 2 p8) (ak (sV 6) (ak (sV 4) bu))) bu))))) (sT (s2 hNe (sA afb (ak (sV 6) bu)) (sV 7))))
 ant
 sNx)
 (dm (abq (sA (gq false 2 v5) (ak (sV 2) (ak (sV 3) bu))) (a7u 2 (o7 (kN 8) (o7 (kN 9) a8s))))
 (dm (j9 10 (sA (acl 3 ye) (ak (sV 2) (ak (sV 3) (ak (sV 4) bu)))))
 (dm (sIf (sOr (a4r (a4q (sA jz (ak (sV 10) (ak (sC (.ty "tuple")) bu))))) (sOr (sT (s2 hNe (sA qu (ak (sV 10) bu)) (sI 2))) (a4r (a4q (sA (gq false 2 bz) (ak (yp (sV 10) (oS (sI 1)) oN) (ak (sI 1) bu)))))))
 ant
 sNx)
 (dm (sIf (sOr (a4r (a4q (sA (gq false 2 jo) (ak (s2 gIx (sV 10) (sI 0)) (ak (sV 8) bu))))) (sT (s2 hNe (s2 gIx (sV 10) (sI 1)) (sV 9))))
 ant
 sNx)
 (dm (uw (sML a5o (s2 gIx (sV 10) (sI 0)) (ak (sA ur (ak (sI 0) (ak (sI 0) (ak (sI 0) bu)))) bu)))
 (sr (a0y (sA (gq false 2 jo) (ak (s2 gIx (sA (gq false 3 ye) (ak (sV 2) (ak (sV 3) (ak (sV 5) bu)))) (sI 0)) (ak (sV 8) bu))) (s2 gIs (sA (yw 3 nj) (ak (sV 2) (ak (sV 3) (ak (sV 5) bu)))) (sC (.bl true)))))))))))))))))))
end K55
namespace MI
open L2
theorem cu(ha:ME X E a fa)(hb:ME X E b fb)(hp:a6m b:=by exact λ_ _=>rfl):ME X E (.Subscript a b pos) (s2 gIx fa fb):=apt ha hb hp
theorem ik(i:Nat)(hN:X.N.Nodup)(he:ME X E e fa)(hi:X.N[i]? = some x:=by rfl)(hx:Loc X.env.scope x:=by first|exact Or.inl rfl|exact Or.inr rfl)(hs:swapsWith e (some (.Name x pos')) pos.line X.env=pure false:=by rfl)(hf:Hf X x:=by first|exact .inl rfl|exact .inr rfl|assumption) :
  MS X E (.Assign [.Name x pos'] e pos) (j9 i fa):=ang hN hi hx he hs hf
theorem jb{X:Cx}(G:Dn X.prog X.w X.K X.mg X.base k x ps (yh X.K n F) f fd)(hr:Room k' X.A)(hk:k<=k')(ha:MA X X0 (e::es) ka)(hg:Gl X x:=by rfl)
  (hdb:(x == ("__debug__" : Str))=false:=by decide) (he:starEach (e::es) X.env=(false,eval e X.env)::starEach es X.env:=by rfl) (hpl:(backTo pos (starEach es X.env)).any (·.1)=false:=by rfl):ME X X0 (.Call (.Name x p) (e::es) [] pos) (sA (gq false n F) ka):=adw false G (hr.mono hk) hg ha hdb he hpl
theorem ju(hm:X.mg "len" = none)(ha:MA X E [e] ka)(hg:Gl X "len":=by rfl)(he:starEach [e] X.env=(false,eval e X.env)::starEach [] X.env:=by rfl)(hpl:(backTo pos (starEach [] X.env)).any (·.1)=false:=by rfl):ME X E (.Call (.Name "len" p) [e] [] pos) (sA qu ka) :=
 a0i (L2.CallR.or aaa aab) apu hg hm aty ha (by decide) (by decide) he hpl
theorem o9(ho:OpR X (compareOp op) r)(hs:a1p X.K g r)(ha:ME X E a fa)(hb:ME X E b fb)(hm:behindInMarks op b=false:=by exact a5j _):MT X E (.Compare a [op] [b] pos) (sT (s2 g fa fb)):=a3g ho hs ha hb hm
theorem zu(hu:X.A.units+64<cLine)(ha:ME X E a fa)(hb:ME X E b fb):MT X E (.Compare a [.Eq] [b] pos) (sT (s2 hEq fa fb)):=a3g (adt hu) a90 ha hb (a5j _)
theorem pgn(i:Nat)(hN:N.Nodup:=by decide +kernel)(hi:N[i]? = some x:=by rfl)(hx:∀C fp s H,Loc (cxC X N aB cl C fp s H).env.scope x:=by exact λ_ _ _ _=>Or.inl rfl)(hf:∀C fp s H,(cxC X N aB cl C fp s H).fn x=true\/(cxC X N aB cl C fp s H).env.scope.names.lookup x=some .local:=by exact λ_ _ _ _=>.inr rfl) :
  ∀C fp s H,PG (cxC X N aB cl C fp s H) (.Name x pos) (a7f i):=λC fp s H=>abu (X:=cxC X N aB cl C fp s H) hN hi (hx C fp s H) (hf C fp s H)
theorem pgm(i:Nat)(hN:N.Nodup:=by decide +kernel)(hi:N[i]? = some x:=by rfl)(hx:Loc (cxC X N aB cl C fp s H).env.scope x:=by exact Or.inl rfl)(hf:(cxC X N aB cl C fp s H).fn x=true\/(cxC X N aB cl C fp s H).env.scope.names.lookup x=some .local:=by exact .inr rfl) :
  PG (cxC X N aB cl C fp s H) (.Name x pos) (a7f i):=abu (X:=cxC X N aB cl C fp s H) hN hi hx hf
def allP(P:α->Prop):List α->Prop
 |[]=>True
 |a::l=>P a/\allP P l
theorem allP.mem{P:α->Prop}:∀{l:List α},allP P l->∀a∈l,P a
 |b::l,h,a,m=>by
  rcases aR.mp m with rfl|m
  ·exact h.1
  ·exact h.2.mem a m
theorem a3n{X:Cx}(ts fr:List Str)(ix:List Nat)(clos:closureFor aB X.env=pure cl:=by rfl)(kind:aB.kind=.function:=by rfl)
  (nocell:(aB.names.all λp=>p.2 != .cell)=true:=by rfl) (names:(aB.names.all λp=>p.2 != .local || aB.names.lookup p.1 == some .local)=true:=by rfl) (sub:allP (λp=>X.env.cells.lookup p.1=some p.2) cl:=by repeat' constructor)
  (has:((relabel aB X.env).names.all λp => !(p.2 == .cell || p.2 == .free) || (cl.lookup p.1).isSome)=true:=by rfl) (nofn:(ts.all λy=>(relabel aB X.env).names.lookup y == some .local)=true:=by rfl)
  (len:ix.length=fr.length:=by rfl) (vis:((fr.zip ix).all λp=>X.N[p.2]? == some p.1 && (X.env.kindOf p.1 == some .cell || X.env.kindOf p.1 == some .free) && ((relabel aB X.env).names.lookup p.1 == some .cell || (relabel aB X.env).names.lookup p.1 == some .free))=true:=by rfl) :
  CSc X aB cl ts fr ix:=.of clos kind nocell names sub.mem has nofn len vis
theorem acs{aB:Scope}(ts:List Str)(kind:aB.kind=.function:=by rfl)(h:∀y∈aB.names,y.2≠.cell/\y.2≠.free:=by decide +kernel)(names:∀y∈aB.names,y.2=.local->aB.names.lookup y.1=some .local:=by decide +kernel)
  (ht:∀y∈ts,aB.names.lookup y=some .local:=by decide +kernel):CSc X aB [] ts [] []:=.noFree kind h names ht
section
variable{α:Type}{us:List α}
theorem len0{P:List α->Prop}(h:us.length=0)(k:P []):P us:=by cases us with|nil=>exact k|cons _ _=>cases h
theorem afk{P:List α->Prop}(h:us.length=n+1)(k:∀a vs,vs.length=n->P (a::vs)):P us:=by cases us with|nil=>cases h|cons a vs=>exact k a vs (gP h)
theorem azs{P:List α->Prop}(h:us.length=1)(k:∀a,P [a]):P us:=afk h λa _ h=>len0 (P:=λus=>P (a::us)) h (k a)
theorem azt{P:List α->Prop}(h:us.length=2)(k:∀a b,P [a,b]):P us:=afk h λa _ h=>azs (P:=λus=>P (a::us)) h (k a)
theorem azu{P:List α->Prop}(h:us.length=3)(k:∀a b c,P [a,b,c]):P us:=afk h λa _ h=>azt (P:=λus=>P (a::us)) h (k a)
theorem azv{P:List α->Prop}(h:us.length=4)(k:∀a b c d,P [a,b,c,d]):P us:=afk h λa _ h=>azu (P:=λus=>P (a::us)) h (k a)
theorem azw{P:List α->Prop}(h:us.length=5)(k:∀a b c d e,P [a,b,c,d,e]):P us:=afk h λa _ h=>azv (P:=λus=>P (a::us)) h (k a)
theorem b19{P:List α->Prop}(h:us.length=6)(k:∀a b c d e f,P [a,b,c,d,e,f]):P us:=afk h λa _ h=>azw (P:=λus=>P (a::us)) h (k a)
end
section
variable{X:Cx}
theorem avh{st:Stmt}{sts:List Stmt}{f g:SS}(h1:∀st',st'=st->MS X X0 st' f)(h2:MSs X X0 sts g):MSs X X0 (st::sts) (dm f g):=ao (h1 st rfl) h2
theorem aia{st:Stmt}{f:SS}(h1:∀st',st'=st->MS X X0 st' f):MSs X X0 [st] f:=bh (h1 st rfl)
theorem ara{st:Stmt}{e:Expr}{pos:Pos}{fa:SE}(h0:st=.Return (some e) pos)(he:∀e',e'=e->ME X X0 e' fa):MS X X0 st (sr fa):=by subst h0;exact j5 (he e rfl)
theorem b1a{st:Stmt}{e:Expr}{x:Str}{pos' pos:Pos}{fa:SE}(h0:st=.Assign [.Name x pos'] e pos)(i:Nat)(hN:X.N.Nodup)(he:∀e',e'=e->ME X X0 e' fa)(hi:X.N[i]? = some x:=by rfl)(hx:Loc X.env.scope x:=by first|exact Or.inl rfl|exact Or.inr rfl)(hs:swapsWith e (some (.Name x pos')) pos.line X.env=pure false:=by rfl)(hf:Hf X x:=by first|exact .inl rfl|exact .inr rfl|assumption):MS X X0 st (j9 i fa):=by
 subst h0;exact ang hN hi hx (he e rfl) hs hf
theorem a4j{e:Expr}{es x1 pos ka}(h0:e=.Tuple es x1 pos)(h:∀es',es'=es->MA X X0 es' ka):ME X X0 e (sA ur ka):=by subst h0;exact vq (h es rfl)
theorem aib{e a b:Expr}{pos fa fb}(h0:e=.Subscript a b pos)(ha:∀e',e'=a->ME X X0 e' fa)(hb:∀e',e'=b->ME X X0 e' fb)(hp:a6m b:=by exact λ_ _=>rfl):ME X X0 e (s2 gIx fa fb):=by subst h0;exact cu (ha a rfl) (hb b rfl) hp
theorem v4{es0:List Expr}{e es fa ka}(h0:es0=e::es)(ha:∀e',e'=e->ME X X0 e' fa)(hr:∀es',es'=es->MA X X0 es' ka)(hs:starEach (e::es) X.env=(false,eval e X.env)::starEach es X.env:=by rfl):MA X X0 es0 (ak fa ka):=by subst h0;exact aj (ha e rfl) (hr es rfl) hs
theorem a4k{es0:List Expr}(h0:es0=[]):MA X X0 es0 bu:=by subst h0;exact aq
end
end MI
namespace K55
open L2 MI
def top(i:Nat):Stmt:=PySem.Challenge.pw_nearreach_k55_rooms_with_a_kind_ahead.main.body.getD i (.Pass ⟨0,0,0,0⟩)
structure Nm (mg:Str->Option Value):Prop where
 ValueError:mg "ValueError" = none
 abs:mg "abs" = none
 all:mg "all" = none
 bool:mg "bool" = none
 enumerate:mg "enumerate" = none
 int:mg "int" = none
 isinstance:mg "isinstance" = none
 len:mg "len" = none
 list:mg "list" = none
 range:mg "range" = none
 repr:mg "repr" = none
 sorted:mg "sorted" = none
 str:mg "str" = none
 sum:mg "sum" = none
 tuple:mg "tuple" = none
 zip:mg "zip" = none
structure Xn (K:Fg) (mg:Str->Option Value) (y_NoText y_ReachError y_Closed y_NoTable y_NoWord y_Stopped y_TooMany y_Unlike:Addr):Prop where
 g_NoText:mg "NoText" = some (.ref y_NoText)
 g_ReachError:mg "ReachError" = some (.ref y_ReachError)
 g_Closed:mg "Closed" = some (.ref y_Closed)
 g_NoTable:mg "NoTable" = some (.ref y_NoTable)
 g_NoWord:mg "NoWord" = some (.ref y_NoWord)
 g_Stopped:mg "Stopped" = some (.ref y_Stopped)
 g_TooMany:mg "TooMany" = some (.ref y_TooMany)
 g_Unlike:mg "Unlike" = some (.ref y_Unlike)
 n_NoText:PySem.W.nsIn K mainGlobals "NoText" = some (some (.ref y_NoText))
 c_NoText:XCls K y_NoText
 k_NoText:XKit K y_NoText
 e_NoText_ReachError:PySem.W.exmOne K (.ref y_NoText) (.ref y_ReachError)=some true
 i_NoText_ValueError:PySem.W.kitOne K (.ref y_NoText) (.type "ValueError")=some true
 i_NoText_NoText:PySem.W.kitOne K (.ref y_NoText) (.ref y_NoText)=some true
 i_NoText_Closed_NoTable_NoWord_Stopped_TooMany_Unlike:PySem.W.kitAny K (.ref y_NoText) [.ref y_Closed,.ref y_NoTable,.ref y_NoWord,.ref y_Stopped,.ref y_TooMany,.ref y_Unlike]=some false
section
variable{K:Fg}{mg:Str->Option Value}{y_NoText y_ReachError y_Closed y_NoTable y_NoWord y_Stopped y_TooMany y_Unlike:Addr}
theorem a7l(Z:Xn K mg y_NoText y_ReachError y_Closed y_NoTable y_NoWord y_Stopped y_TooMany y_Unlike):∀c,a1f c=true->∃C,mg c=some (.ref C)/\PySem.W.nsIn K mainGlobals c=some (some (.ref C))/\PySem.W.exmOne K (.ref C) (.ref y_ReachError)=some true:=by
 intro c h
 simp only[a1f,eS,eE]at h;subst h
 ·exact⟨_,Z.g_NoText,Z.n_NoText,Z.e_NoText_ReachError⟩
theorem a9m(Z:Xn K mg y_NoText y_ReachError y_Closed y_NoTable y_NoWord y_Stopped y_TooMany y_Unlike):∀c b C,a2e c=some b->PySem.W.nsIn K mainGlobals c=some (some (.ref C))->XKit K C/\PySem.W.kitOne K (.ref C) (.type "ValueError")=some b:=by
 intro c b C h q
 unfold a2e at h
 by_cases e_NoText:c = "NoText"
 ·subst e_NoText;rw[aO rfl]at h;cases h;cases Z.n_NoText.symm.trans q;exact⟨Z.k_NoText,Z.i_NoText_ValueError⟩
 rw[bE e_NoText]at h;cases h
theorem aic(Z:Xn K mg y_NoText y_ReachError y_Closed y_NoTable y_NoWord y_Stopped y_TooMany y_Unlike):∀c b C,a9l c=some b->PySem.W.nsIn K mainGlobals c=some (some (.ref C))->XKit K C/\PySem.W.kitOne K (.ref C) (.ref y_NoText)=some b:=by
 intro c b C h q
 unfold a9l at h
 by_cases e_NoText:c = "NoText"
 ·subst e_NoText;rw[aO rfl]at h;cases h;cases Z.n_NoText.symm.trans q;exact⟨Z.k_NoText,Z.i_NoText_NoText⟩
 rw[bE e_NoText]at h;cases h
theorem n8(Z:Xn K mg y_NoText y_ReachError y_Closed y_NoTable y_NoWord y_Stopped y_TooMany y_Unlike):∀c b C,gf c=some b->PySem.W.nsIn K mainGlobals c=some (some (.ref C))->XKit K C/\PySem.W.kitAny K (.ref C) ([y_Closed,y_NoTable,y_NoWord,y_Stopped,y_TooMany,y_Unlike].map Value.ref)=some b:=by
 intro c b C h q
 unfold gf at h
 by_cases e_NoText:c = "NoText"
 ·subst e_NoText;rw[aO rfl]at h;cases h;cases Z.n_NoText.symm.trans q;exact⟨Z.k_NoText,Z.i_NoText_Closed_NoTable_NoWord_Stopped_TooMany_Unlike⟩
 rw[bE e_NoText]at h;cases h
end
section
variable{P:Program}{w:World}{K:Fg}{mg:Str->Option Value}{base:Heap}{f:Addr}
def MD(P:Program)(w:World)(K:Fg)(mg:Str->Option Value)(base:Heap)(f:Addr)(k:Nat)(N:List Str)(x:Str)(t:Stmt)(b:SS):Prop:=∀(cdv:Value) (A:Around) (outer:List Env) (s:Shared) (H:Hp) (E:XK),Room k (A.deeper (PyProof.Rows.envOfC x (bw t) s.heap.objs.size f cdv))->MSs (afv CX0 P w K mg base N x (bw t) f cdv A outer s H E).nox X0 (qz t) b
local macro_rules|`(tactic|walk_at "sc") => `(tactic|exact⟨rfl,rfl,rfl,by decide +kernel,rfl,by decide +kernel,by decide +kernel⟩)
theorem azx:FnScope ["thing"] ["thing"] (bw (top 1)):=by walk_at "sc"
theorem m_0(M:Nm mg):MD P w K mg base f k ["thing"] "is_number" (top 1) (zq):=λcdv A outer s H E hr =>
 have SC:=azx
 (bh (j5 (a7t (a0i (L2.CallR.or jm jd) uh rfl M.isinstance gk (aj (az 0) (aj (a4w rfl M.int agq) aq))) (a6z (au3 (a0i (L2.CallR.or jm jd) uh rfl M.isinstance gk (aj (az 0) (aj (a4w rfl M.bool acb) aq))))))))
theorem azy:FnScope ["thing", "low", "high"] ["thing", "low", "high"] (bw (top 2)):=by walk_at "sc"
theorem m_1(M:Nm mg):MD P w K mg base f k ["thing", "low", "high"] "is_row" (top 2) (a6b):=λcdv A outer s H E hr =>
 have SC:=azy
 (bh (j5 (a7t (a0i (L2.CallR.or jm jd) uh rfl M.isinstance gk (aj (az 0) (aj (a4w rfl M.tuple ug) aq))) (a6z (akm (ap1.or a6r) (ap1.or a6r) ah1 ah1 (az 1) (ju M.len (aj (az 0) aq)) (az 2))))))
theorem azz:FnScope ["thing", "told"] ["thing", "told"] (bw (top 3)):=by walk_at "sc"
theorem m_2(M:Nm mg)(D_0:Dn P w K mg base k_0 "is_number" ["thing"] (yh K 1 F_0) a_0 d_0)(h_0:k_0<=k)(D_1:Dn P w K mg base k_1 "is_row" ["thing", "low", "high"] (yh K 3 F_1) a_1 d_1)(h_1:k_1<=k)(D_2:Dn P w K mg base k_2 "is_same" ["thing", "told"] (yh K 2 F_2) a_2 d_2)(h_2:k_2<=k):MD P w K mg base f k ["thing", "told"] "is_same" (top 3) (a2f F_0 F_1 F_2):=λcdv A outer s H E hr =>
 have SC:=azz
 (ao (qb (yr (ww (a0i (L2.CallR.or jm jd) uh rfl M.isinstance gk (aj (az 1) (aj (a4w rfl M.tuple ug) aq)))))
 (bh (j5 (a7t (jb D_0 hr h_0 (aj (az 0) aq)) (a6z (a3f (adt hr.u) a90 (az 0) (az 1) (a5j _))))))
 iy)
 (ao (qb (yr (ww (jb D_1 hr h_1 (aj (az 0) (aj (ju M.len (aj (az 1) aq)) (aj (ju M.len (aj (az 1) aq)) aq))))))
 (bh (j5 a2t))
 iy)
 (bh (j5 (a0i (a6t rfl) aha rfl M.all ane (aj (a66 (vz rfl (acs ["one", "other"]) (ahg rfl M.zip ahh (az 0) (az 1)) (λ_ _ _ _=>ag3 rfl (a3o (pgm 0) (a3o (pgm 1) abv))) ank (λ_ _ _ _=>(jb D_2 hr h_2 (aj (az 0) (aj (az 1) aq)))))) aq))))))
theorem b00:FnScope ["tongue", "thing"] ["tongue", "thing"] (bw (top 14)):=by walk_at "sc"
theorem m_3(M:Nm mg):MD P w K mg base f k ["tongue", "thing"] "is_text" (top 14) (STP.uy):=λcdv A outer s H E hr =>
 have SC:=b00
 (bh (j5 (a7t (a0i (L2.CallR.or jm jd) uh rfl M.isinstance gk (aj (az 1) (aj (a4w rfl M.str atz) aq))) (a6z (a0i (a6t rfl) aha rfl M.all ane (aj (a66 (vz rfl (a3n ["sign"] ["tongue"] [0]) (qt (az 1)) (pgn 0) vf (λ_ _ _ _=>(a3f (a8p.or a3q) a8u (az 0) (az 1) (by with_unfolding_all rfl))))) aq))))))
theorem b01:FnScope ["tongue", "thing"] ["tongue", "thing"] (bw (top 16)):=by walk_at "sc"
theorem m_4{k:Nat}{y_NoText y_ReachError y_Closed y_NoTable y_NoWord y_Stopped y_TooMany y_Unlike:Addr}(Z:Xn K mg y_NoText y_ReachError y_Closed y_NoTable y_NoWord y_Stopped y_TooMany y_Unlike){a_3:Addr}{d_3:FuncData}{k_3:Nat}{F_3:SF}(D_3:Dn P w K mg base k_3 "is_text" ["tongue", "thing"] (yh K 2 F_3) a_3 d_3)(h_3:k_3<=k)(cdv:Value)(A:Around)(outer:List Env)(s:Shared)(H:Hp)(E:XK)(hr:Room k (A.deeper (PyProof.Rows.envOfC "looked_text" (bw (top 16)) s.heap.objs.size f cdv))):MSs (cxE P w K mg base ["tongue", "thing"] "looked_text" (bw (top 16)) f cdv A outer s H E) (afy mg E) (qz (top 16)) (uo F_3) :=
 have SC:=b01
 (ao (qb (yr (ww (a9e false D_3 (hr.mono h_3) rfl (aj (az 0) (aj (az 1) aq)))))
 (bh (alm Z.c_NoText rfl Z.g_NoText (aj a2w aq)))
 iy)
 (bh (j5 (az 1))))
theorem b02:FnScope ["table", "room", "word"] ["table", "room", "word"] (bw (top 17)):=by walk_at "sc"
theorem m_5(D_6:Dn P w K mg base k_6 "rooms_along" ["table", "room", "word"] (yh K 3 F_6) a_6 d_6)(h_6:k_6<=k):MD P w K mg base f k ["table", "room", "word"] "room_from" (top 17) (STP.xj F_6):=λcdv A outer s H E hr =>
 have SC:=b02
 (bh (j5 (cu (jb D_6 hr h_6 (aj (az 0) (aj (az 1) (aj (az 2) aq)))) (a03 au))))
theorem b03:FnScope ["table", "room", "word", "tongue", "goes", "kinds", "rooms", "sign"] ["table", "room", "word"] (bw (top 18)):=by walk_at "sc"
theorem m_6:MD P w K mg base f k ["table", "room", "word", "tongue", "goes", "kinds", "rooms", "sign"] "rooms_along" (top 18) (STP.um):=λcdv A outer s H E hr =>
 have SC:=b03
 (ao (a7v (az 0) (a5m rfl (jx (j6 (i:=3) SC.nd rfl (Or.inl rfl)) (jx (j6 (i:=4) SC.nd rfl (Or.inl rfl)) (jx (j6 (i:=5) SC.nd rfl (Or.inl rfl)) a1w)))))
 (ao (ik 6 SC.nd (yf (aj (az 1) aq)))
 (ao (yg bH rfl (qt (az 2)) (j6 (i:=7) SC.nd rfl (Or.inl rfl)) (bh (vy (a3x bC bD o6 xg (az 6) (aj (cu (cu (az 4) (cu (az 6) (a03 au))) (ac4 PySem.F.slot_str_index PySem.F.type_str_index adc aal (az 3) (aj (az 7) aq))) aq)))))
 (bh (j5 (az 6))))))
theorem b04:FnScope ["table", "text", "rows", "sign"] ["table", "text"] (bw (top 20)):=by walk_at "sc"
theorem m_7{k:Nat}(M:Nm mg){a_4:Addr}{d_4:FuncData}{k_4:Nat}{F_4:SF}(D_4:DnX P w K mg base k_4 "looked_text" ["tongue", "thing"] (spX K mg 2 F_4) a_4 d_4)(h_4:k_4<=k){a_8:Addr}{d_8:FuncData}{k_8:Nat}{F_8:SF}(D_8:Dn P w K mg base k_8 "row_ahead" ["table", "sign", "later"] (yh K 3 F_8) a_8 d_8)(h_8:k_8<=k)(cdv:Value)(A:Around)(outer:List Env)(s:Shared)(H:Hp)(E:XK)(hr:Room k (A.deeper (PyProof.Rows.envOfC "ahead_rows" (bw (top 20)) s.heap.objs.size f cdv))):MSs (cxE P w K mg base ["table", "text", "rows", "sign"] "ahead_rows" (bw (top 20)) f cdv A outer s H E) (afy mg E) (qz (top 20)) (vg F_4 F_8) :=
 have SC:=b04
 (ao (vy (ae8 D_4 (hr.mono h_4) rfl (aj (cu (az 0) au) (aj (az 1) aq))))
 (ao (ik 2 SC.nd (yf (aj (vq aq) aq)))
 (ao (b17 (yg bH rfl (qt (alf (az 1) (a03 au))) (j6 (i:=3) SC.nd rfl (Or.inl rfl)) (bh (vy (a3x bC bD o6 xg (az 2) (aj (a9e false D_8 (hr.mono h_8) rfl (aj (az 0) (aj (az 3) (aj (cu (az 2) (a03 au)) aq)))) aq))))))
 (bh (j5 (a1v (L2.CallR.or p6 (rz rfl)) zf rfl M.tuple ug (aj (a66 (am9 (az 2) jn (a03 au))) aq)))))))
theorem b05:FnScope ["table", "sign", "later", "tongue", "goes", "kinds", "number", "led"] ["table", "sign", "later"] (bw (top 21)):=by walk_at "sc"
theorem m_8(M:Nm mg):MD P w K mg base f k ["table", "sign", "later", "tongue", "goes", "kinds", "number", "led"] "row_ahead" (top 21) (a1g):=λcdv A outer s H E hr =>
 have SC:=b05
 (ao (a7v (az 0) (a5m rfl (jx (j6 (i:=3) SC.nd rfl (Or.inl rfl)) (jx (j6 (i:=4) SC.nd rfl (Or.inl rfl)) (jx (j6 (i:=5) SC.nd rfl (Or.inr rfl)) a1w)))))
 (ao (ik 6 SC.nd (ac4 PySem.F.slot_str_index PySem.F.type_str_index adc aal (az 3) (aj (az 1) aq)))
 (ao (a2o (i:=7) SC.nd rfl (Or.inl rfl) rfl (a3n ["row"] ["number"] [6]) (qt (az 4)) (pgn 0) vf (λ_ _ _ _=>(cu (az 0) (az 1))))
 (bh (j5 (a1v (L2.CallR.or p6 (rz rfl)) zf rfl M.tuple ug (aj (a66 (ako rfl (a3n ["room", "to"] ["later", "kinds"] [2,5]) (aqi rfl M.enumerate (az 7)) (λ_ _ _ _=>ag3 rfl (a3o (pgm 0) (a3o (pgm 1) abv))) ank (λ_ _ _ _=>(az 0)) (λ_ _ _ _=>(PW.pt (a4x (o9 (a4a hr.u) a1b (cu (az 3) (az 1)) (a03 au)) (a1t (a3g (a8p.or a3q) a8u (az 1) (az 2) (by with_unfolding_all rfl)))))))) aq)))))))
theorem b06:FnScope ["table", "text", "rows"] ["table", "text", "rows"] (bw (top 22)):=by walk_at "sc"
theorem m_9{k:Nat}{a_7:Addr}{d_7:FuncData}{k_7:Nat}{F_7:SF}(D_7:DnX P w K mg base k_7 "ahead_rows" ["table", "text"] (spX K mg 2 F_7) a_7 d_7)(h_7:k_7<=k){a_2:Addr}{d_2:FuncData}{k_2:Nat}{F_2:SF}(D_2:Dn P w K mg base k_2 "is_same" ["thing", "told"] (yh K 2 F_2) a_2 d_2)(h_2:k_2<=k)(cdv:Value)(A:Around)(outer:List Env)(s:Shared)(H:Hp)(E:XK)(hr:Room k (A.deeper (PyProof.Rows.envOfC "rows_hold" (bw (top 22)) s.heap.objs.size f cdv))):MSs (cxE P w K mg base ["table", "text", "rows"] "rows_hold" (bw (top 22)) f cdv A outer s H E) (afy mg E) (qz (top 22)) (a1h F_7 F_2) :=
 have SC:=b06
 (bh (j5 (a9e false D_2 (hr.mono h_2) rfl (aj (az 2) (aj (ae8 D_7 (hr.mono h_7) rfl (aj (az 0) (aj (az 1) aq))) aq)))))
theorem avi:FnScope ["table", "text", "rows", "kinds", "pieces", "place", "start", "room"] ["table", "text", "rows"] (bw (top 23)):=by walk_at "sc"
theorem b1b(D_5:Dn P w K mg base k_5 "room_from" ["table", "room", "word"] (yh K 3 F_5) a_5 d_5)(h_5:k_5<=k):MD P w K mg base f k ["table", "text", "rows", "kinds", "pieces", "place", "start", "room"] "cut_by" (top 23) (a6c F_5):=λcdv A outer s H E hr =>
 have SC:=avi
 (ao (ik 3 SC.nd (cu (az 0) au))
 (ao (ik 4 SC.nd (yf aq))
 (ao (ik 5 SC.nd au)
 (ao (a5y 100000 bH (a3g (a8p.or a3q) a8u au (cu (az 2) (az 5)) (by with_unfolding_all rfl)) (ao (ik 6 SC.nd (az 5))
 (ao (ik 7 SC.nd au)
 (ao (a5y 100000 bH (a3g (a8p.or a3q) a8u (az 7) (cu (az 2) (az 5)) (by with_unfolding_all rfl)) (ao (ik 7 SC.nd (jb D_5 hr h_5 (aj (az 0) (aj (az 7) (aj (cu (az 1) (az 5)) aq)))))
 (bh (adg (i:=5) SC.nd rfl (Or.inl rfl) (a4t.or wz) a2l au))))
 (bh (vy (a3x bC bD o6 xg (az 4) (aj (vq (aj (cu (az 3) (az 7)) (aj (az 6) (aj (az 5) aq)))) aq))))))))
 (bh (j5 (vq (aj (az 4) (aj (az 5) aq)))))))))
theorem avj:FnScope ["_law_script", "_law_cells"] ["_law_script"] (bw (top 25)):=by walk_at "sc"
theorem b1c(M:Nm mg):MD P w K mg base f k ["_law_script", "_law_cells"] "_law_source" (top 25) (SRC.a04):=λcdv A outer s H E hr =>
 have SC:=avj
 (ao (a2o (i:=1) SC.nd rfl (Or.inl rfl) rfl (acs ["_law_cell"]) (qt (a66 (fu (az 0) jn (jf au)))) (pgn 0) vf (λ_ _ _ _=>(fj (a97 au (a0i akb apv rfl M.abs au0 (aj (az 0) aq))) (a1v aga apx rfl M.int agq (aj (a3f (a8j.or vo) a3v (az 0) au (a5j _)) aq)))))
 (bh (j5 (yf (aj (az 1) (aj au (aj au (aj au (aj (a7y (a0i (af5 rfl) aq1 rfl M.sum auj (aj (az 1) aq)) au) aq)))))))))
theorem avk:FnScope ["_law_left", "_law_many", "_law_cell", "_law_told"] ["_law_left", "_law_many"] (bw (top 26)):=by walk_at "sc"
theorem b1d(M:Nm mg):MD P w K mg base f k ["_law_left", "_law_many", "_law_cell", "_law_told"] "_law_draw" (top 26) (SRC.a2q):=λcdv A outer s H E hr =>
 have SC:=avk
 (ao (acf (az 0) au au (a4t.or wz) a2l)
 (ao (qb (PW.pt (adf (zu hr.u (cu (az 0) au) au) (a8r (o9 (a8j.or vo) a3v (cu (az 0) au) (ju M.len (aj (cu (az 0) au) aq))))))
 (ao (ik 2 SC.nd (cu (cu (az 0) au) (cu (az 0) au)))
 (ao (acf (az 0) au au (a4t.or wz) a2l)
 (bh (qb (o9 ak8 adk (az 2) (ah0 au au))
 (bh (aag (az 2) (az 0) au))
 (bh (aag (a7y (fj (a97 (cu (az 0) au) au) (az 2)) au) (az 0) au))))))
 iy)
 (ao (qb (o9 ap2 ah2 (cu (az 0) au) au)
 (ao (ik 3 SC.nd (a7y (cu (az 0) au) (az 1)))
 (ao (acf (az 0) au (az 1) ak7 agy)
 (bh (j5 (az 3)))))
 iy)
 (ao (ik 3 SC.nd (a7y (ah0 (fj (fj (cu (az 0) au) au) (a97 (cu (az 0) au) au)) au) au))
 (bh (j5 (a7y (anm (a7y (ah0 (fj (a97 (az 3) au) (cu (az 0) au)) au) au) au) (az 1))))))))
theorem avl:FnScope ["_law_some"] [] (bw (top 27)):=by walk_at "sc"
theorem b1e:MD P w K mg base f k ["_law_some"] "_law_signs" (top 27) (SRC.zj):=λcdv A outer s H E hr =>
 have SC:=avl
 (ao (ik 0 SC.nd a2w)
 (bh (j5 (fj (az 0) a2w))))
theorem avm:FnScope ["_law_left", "_law_rest", "_law_told", "_law_k", "_law_at"] ["_law_left"] (bw (top 28)):=by walk_at "sc"
theorem b1f(M:Nm mg)(D_12:Dn P w K mg base k_12 "_law_draw" ["_law_left", "_law_many"] (yh K 2 F_12) a_12 d_12)(h_12:k_12<=k)(D_13:Dn P w K mg base k_13 "_law_signs" [] (yh K 0 F_13) a_13 d_13)(h_13:k_13<=k):MD P w K mg base f k ["_law_left", "_law_rest", "_law_told", "_law_k", "_law_at"] "_law_tongue" (top 28) (SRC.a05 F_12 F_13):=λcdv A outer s H E hr =>
 have SC:=avm
 (ao (ik 1 SC.nd (aar false D_13 (hr.mono h_13) rfl))
 (ao (ik 2 SC.nd a2w)
 (ao (yg bH rfl (a1a rfl M.range (aj (fj au (jb D_12 hr h_12 (aj (az 0) (aj au aq)))) aq)) (j6 (i:=3) SC.nd rfl (Or.inl rfl)) (ao (ik 4 SC.nd (jb D_12 hr h_12 (aj (az 0) (aj (ju M.len (aj (az 1) aq)) aq))))
 (ao (adg (i:=2) SC.nd rfl (Or.inl rfl) (a4t.or wz) a2l (cu (az 1) (az 4)))
 (bh (ik 1 SC.nd (fj (fu (az 1) jn (jf (az 4))) (fu (az 1) (jf (fj (az 4) au)) jn)))))))
 (bh (j5 (az 2))))))
theorem avn:FnScope ["_law_left", "_law_tongue_here", "_law_many", "_law_kinds", "_law_room", "_law_manner", "_law_goes", "_law_row"] ["_law_left", "_law_tongue_here", "_law_many"] (bw (top 29)):=by walk_at "sc"
theorem b1g(M:Nm mg)(D_12:Dn P w K mg base k_12 "_law_draw" ["_law_left", "_law_many"] (yh K 2 F_12) a_12 d_12)(h_12:k_12<=k):MD P w K mg base f k ["_law_left", "_law_tongue_here", "_law_many", "_law_kinds", "_law_room", "_law_manner", "_law_goes", "_law_row"] "_law_rooms" (top 29) (CAS.a7b F_12):=λcdv A outer s H E hr =>
 have SC:=avn
 (ao (ik 3 SC.nd (yf (aj (a03 au) aq)))
 (ao (yg bH rfl (agw rfl M.range (aj au (aj (az 2) aq))) (j6 (i:=4) SC.nd rfl (Or.inr rfl)) (bh (vy (a3x bC bD o6 xg (az 3) (aj (ags (zu hr.u (jb D_12 hr h_12 (aj (az 0) (aj au aq))) au) (jb D_12 hr h_12 (aj (az 0) (aj au aq))) (a03 au)) aq)))))
 (ao (ik 5 SC.nd (jb D_12 hr h_12 (aj (az 0) (aj au aq))))
 (ao (ik 6 SC.nd (yf aq))
 (ao (yg bH rfl (a1a rfl M.range (aj (az 2) aq)) (j6 (i:=4) SC.nd rfl (Or.inr rfl)) (ao (a2o (i:=7) SC.nd rfl (Or.inl rfl) rfl (a3n ["_law_sign"] ["_law_left", "_law_many"] [0,2]) (qt (az 1)) (pgn 0) vf (λ_ _ _ _=>(jb D_12 hr h_12 (aj (az 1) (aj (az 2) aq)))))
 (ao (qb (o9 ap2 ah2 (az 5) au)
 (bh (a2o (i:=7) SC.nd rfl (Or.inl rfl) rfl (a3n ["_law_to"] ["_law_many", "_law_kinds", "_law_room"] [2,3,4]) (qt (az 7)) (pgn 0) vf (λ_ _ _ _=>(ags (PW.pt (adf (o9 (a8j.or vo) a3v (cu (az 2) (az 0)) au) (a8r (o9 (ap1.or a6r) ah1 (az 0) (az 3))))) (aai (az 1) au) (az 0)))))
 iy)
 (ao (qb (PW.pt (adf (zu hr.u (az 5) au) (a8r (zu hr.u (az 4) (aai (az 2) au)))))
 (bh (a2o (i:=7) SC.nd rfl (Or.inl rfl) rfl (a3n ["_law_to"] ["_law_room"] [4]) (qt (az 7)) (pgn 0) vf (λ_ _ _ _=>(az 1))))
 iy)
 (bh (vy (a3x bC bD o6 xg (az 6) (aj (az 7) aq))))))))
 (bh (j5 (vq (aj (az 6) (aj (az 3) aq))))))))))
theorem avo:FnScope ["_law_left", "_law_tongue_here", "_law_words", "_law_goes", "_law_kinds", "_law_k", "_law_word", "_law_room", "_law_sign", "_law_at", "_law_rows"] ["_law_left", "_law_tongue_here"] (bw (top 30)):=by walk_at "sc"
theorem b1h(M:Nm mg)(D_12:Dn P w K mg base k_12 "_law_draw" ["_law_left", "_law_many"] (yh K 2 F_12) a_12 d_12)(h_12:k_12<=k):MD P w K mg base f k ["_law_left", "_law_tongue_here", "_law_words", "_law_goes", "_law_kinds", "_law_k", "_law_word", "_law_room", "_law_sign", "_law_at", "_law_rows"] "_law_grown" (top 30) (CAS.a1e F_12):=λcdv A outer s H E hr =>
 have SC:=avo
 (ao (ik 2 SC.nd (yf aq))
 (ao (ik 3 SC.nd (yf (aj (vz rfl (acs ["_law_sign"]) (qt (az 1)) (pgn 0) vf (λ_ _ _ _=>(a03 au))) aq)))
 (ao (ik 4 SC.nd (yf (aj (a03 au) aq)))
 (ao (yg bH rfl (a1a rfl M.range (aj (fj au (jb D_12 hr h_12 (aj (az 0) (aj au aq)))) aq)) (j6 (i:=5) SC.nd rfl (Or.inl rfl)) (ao (ik 6 SC.nd (ac4 PySem.F.slot_str_join PySem.F.type_str_join agr adp a2w (aj (a66 (vz rfl (a3n ["_law_j"] ["_law_left", "_law_tongue_here"] [0,1]) (a1a rfl M.range (aj (fj au (jb D_12 hr h_12 (aj (az 0) (aj au aq)))) aq)) (pgn 0) vf (λ_ _ _ _=>(cu (az 2) (jb D_12 hr h_12 (aj (az 1) (aj (ju M.len (aj (az 2) aq)) aq))))))) aq)))
 (ao (qb (PW.pt (adf (o9 (av2 hr.u) (aqr true) (az 2) (a66 (yf aq))) (a8r (zu hr.u (jb D_12 hr h_12 (aj (az 0) (aj au aq))) au))))
 (bh (ik 6 SC.nd (fu (fj (cu (az 2) (jb D_12 hr h_12 (aj (az 0) (aj (ju M.len (aj (az 2) aq)) aq)))) (az 6)) jn (jf au))))
 iy)
 (ao (vy (a3x bC bD o6 xg (az 2) (aj (az 6) aq)))
 (ao (ik 7 SC.nd au)
 (ao (yg bH rfl (qt (az 6)) (j6 (i:=8) SC.nd rfl (Or.inl rfl)) (ao (ik 9 SC.nd (ac4 ft fv ac1 a8v (az 1) (aj (az 8) aq)))
 (ao (qb (o9 (a8j.or vo) a3v (cu (cu (az 3) (az 7)) (az 9)) au)
 (ao (aag (ju M.len (aj (az 3) aq)) (cu (az 3) (az 7)) (az 9))
 (ao (vy (a3x bC bD o6 xg (az 3) (aj (vz rfl (acs ["_law_one"]) (qt (az 1)) (pgn 0) vf (λ_ _ _ _=>(a03 au))) aq)))
 (bh (vy (a3x bC bD o6 xg (az 4) (aj (a03 au) aq))))))
 iy)
 (bh (ik 7 SC.nd (cu (cu (az 3) (az 7)) (az 9)))))))
 (bh (aag (jb D_12 hr h_12 (aj (az 0) (aj au aq))) (az 4) (az 7)))))))))
 (ao (yg bH rfl (a1a rfl M.range (aj (jb D_12 hr h_12 (aj (az 0) (aj au aq))) aq)) (j6 (i:=5) SC.nd rfl (Or.inl rfl)) (ao (ik 7 SC.nd (jb D_12 hr h_12 (aj (az 0) (aj (ju M.len (aj (az 3) aq)) aq))))
 (ao (ik 9 SC.nd (jb D_12 hr h_12 (aj (az 0) (aj (ju M.len (aj (az 1) aq)) aq))))
 (bh (qb (o9 (a8j.or vo) a3v (cu (cu (az 3) (az 7)) (az 9)) au)
 (bh (aag (fj au (jb D_12 hr h_12 (aj (az 0) (aj (aai (ju M.len (aj (az 3) aq)) au) aq)))) (cu (az 3) (az 7)) (az 9)))
 iy)))))
 (ao (a2o (i:=10) SC.nd rfl (Or.inl rfl) rfl (a3n ["_law_row"] ["_law_goes"] [3]) (qt (az 3)) (pgn 0) vf (λ_ _ _ _=>(a66 (vz rfl (a3n ["_law_to"] ["_law_goes"] [1]) (qt (az 0)) (pgn 0) vf (λ_ _ _ _=>(ags (o9 ak8 adk (az 0) au) (az 0) (ju M.len (aj (az 1) aq))))))))
 (bh (j5 (vq (aj (az 2) (aj (a66 (fj (az 10) (a66 (yf (aj (a66 (vz rfl (a3n ["_law_sign"] ["_law_goes"] [3]) (qt (az 1)) (pgn 0) vf (λ_ _ _ _=>(ju M.len (aj (az 1) aq))))) aq))))) (aj (a66 (fj (az 4) (a66 (yf (aj (a03 au) aq))))) aq))))))))))))
theorem avp:FnScope ["_law_tongue_here", "_law_goes", "_law_kinds", "_law_met_here", "_law_at", "_law_to", "_law_rows"] ["_law_tongue_here", "_law_goes", "_law_kinds"] (bw (top 31)):=by walk_at "sc"
theorem b1i(M:Nm mg):MD P w K mg base f k ["_law_tongue_here", "_law_goes", "_law_kinds", "_law_met_here", "_law_at", "_law_to", "_law_rows"] "_law_met" (top 31) (CAS.a4g):=λcdv A outer s H E hr =>
 have SC:=avp
 (ao (ik 3 SC.nd (yf (aj au aq)))
 (ao (ik 4 SC.nd au)
 (ao (a5y 100000 bH (o9 (a8j.or vo) a3v (az 4) (ju M.len (aj (az 3) aq))) (ao (yg bH rfl (qt (cu (az 1) (cu (az 3) (az 4)))) (j6 (i:=5) SC.nd rfl (Or.inl rfl)) (bh (qb (a3g (a7q.or a5l) ah7 (az 5) (az 3) (by with_unfolding_all rfl))
 (bh (vy (a3x bC bD o6 xg (az 3) (aj (az 5) aq))))
 iy)))
 (bh (adg (i:=4) SC.nd rfl (Or.inl rfl) (a4t.or wz) a2l au))))
 (ao (ik 3 SC.nd (a0i a98 af9 rfl M.sorted aht (aj (az 3) aq)))
 (ao (ik 6 SC.nd (a1v (L2.CallR.or p6 (rz rfl)) zf rfl M.tuple ug (aj (a66 (vz rfl (a3n ["_law_room"] ["_law_goes", "_law_met_here"] [1,3]) (qt (az 3)) (pgn 0) vf (λ_ _ _ _=>(a1v (L2.CallR.or p6 (rz rfl)) zf rfl M.tuple ug (aj (a66 (vz rfl (a3n ["_law_to"] ["_law_met_here"] [2]) (qt (cu (az 1) (az 0))) (pgn 0) vf (λ_ _ _ _=>(a3x PySem.F.slot_list_index PySem.F.type_list_index ahq afa (az 1) (aj (az 0) aq))))) aq))))) aq)))
 (bh (j5 (vq (aj (az 0) (aj (az 6) (aj (a1v (L2.CallR.or p6 (rz rfl)) zf rfl M.tuple ug (aj (a66 (vz rfl (a3n ["_law_room"] ["_law_kinds"] [2]) (qt (az 3)) (pgn 0) vf (λ_ _ _ _=>(cu (az 1) (az 0))))) aq)) aq)))))))))))
theorem avq:FnScope ["_law_left", "_law_sort", "_law_size", "_law_tongue_here", "_law_goes", "_law_kinds", "_law_text", "_law_words", "_law_k", "_law_word", "_law_bent"] ["_law_left"] (bw (top 32)):=by walk_at "sc"
theorem b1j(M:Nm mg)(D_12:Dn P w K mg base k_12 "_law_draw" ["_law_left", "_law_many"] (yh K 2 F_12) a_12 d_12)(h_12:k_12<=k)(D_16:Dn P w K mg base k_16 "_law_grown" ["_law_left", "_law_tongue_here"] (yh K 2 F_16) a_16 d_16)(h_16:k_16<=k)(D_17:Dn P w K mg base k_17 "_law_met" ["_law_tongue_here", "_law_goes", "_law_kinds"] (yh K 3 F_17) a_17 d_17)(h_17:k_17<=k)(D_15:Dn P w K mg base k_15 "_law_rooms" ["_law_left", "_law_tongue_here", "_law_many"] (yh K 3 F_15) a_15 d_15)(h_15:k_15<=k)(D_14:Dn P w K mg base k_14 "_law_tongue" ["_law_left"] (yh K 1 F_14) a_14 d_14)(h_14:k_14<=k):MD P w K mg base f k ["_law_left", "_law_sort", "_law_size", "_law_tongue_here", "_law_goes", "_law_kinds", "_law_text", "_law_words", "_law_k", "_law_word", "_law_bent"] "_law_case" (top 32) (CAS.a2r F_12 F_16 F_17 F_15 F_14):=λcdv A outer s H E hr =>
 have SC:=avq
 (ao (ik 1 SC.nd (jb D_12 hr h_12 (aj (az 0) (aj au aq))))
 (ao (ik 2 SC.nd (jb D_12 hr h_12 (aj (az 0) (aj au aq))))
 (ao (ik 3 SC.nd (jb D_14 hr h_14 (aj (az 0) aq)))
 (ao (qb (zu hr.u (az 1) au)
 (ao (a7v (jb D_15 hr h_15 (aj (az 0) (aj (az 3) (aj (fj au (jb D_12 hr h_12 (aj (az 0) (aj (cu (vq (aj au (aj au aq))) (anm (az 2) au)) aq)))) aq)))) (a5m rfl (jx (j6 (i:=4) SC.nd rfl (Or.inl rfl)) (jx (j6 (i:=5) SC.nd rfl (Or.inl rfl)) a1w))))
 (bh (ik 6 SC.nd (ac4 PySem.F.slot_str_join PySem.F.type_str_join agr adp a2w (aj (a66 (vz rfl (a3n ["_law_k"] ["_law_left", "_law_tongue_here"] [0,3]) (a1a rfl M.range (aj (jb D_12 hr h_12 (aj (az 0) (aj au aq))) aq)) (pgn 0) vf (λ_ _ _ _=>(cu (az 2) (jb D_12 hr h_12 (aj (az 1) (aj (ju M.len (aj (az 2) aq)) aq))))))) aq)))))
 (ao (a7v (jb D_16 hr h_16 (aj (az 0) (aj (az 3) aq))) (a5m rfl (jx (j6 (i:=7) SC.nd rfl (Or.inl rfl)) (jx (j6 (i:=4) SC.nd rfl (Or.inl rfl)) (jx (j6 (i:=5) SC.nd rfl (Or.inl rfl)) a1w)))))
 (ao (ik 6 SC.nd a2w)
 (bh (yg bH rfl (a1a rfl M.range (aj (jb D_12 hr h_12 (aj (az 0) (aj au aq))) aq)) (j6 (i:=8) SC.nd rfl (Or.inl rfl)) (ao (ik 9 SC.nd (cu (az 7) (jb D_12 hr h_12 (aj (az 0) (aj (ju M.len (aj (az 7) aq)) aq)))))
 (ao (ik 10 SC.nd (jb D_12 hr h_12 (aj (az 0) (aj au aq))))
 (ao (qb (zu hr.u (az 10) au)
 (bh (ik 9 SC.nd (fu (az 9) jn (jf (jb D_12 hr h_12 (aj (az 0) (aj (ju M.len (aj (az 9) aq)) aq)))))))
 iy)
 (ao (qb (zu hr.u (az 10) au)
 (bh (ik 9 SC.nd (cu (az 3) (jb D_12 hr h_12 (aj (az 0) (aj (ju M.len (aj (az 3) aq)) aq))))))
 iy)
 (bh (adg (i:=6) SC.nd rfl (Or.inl rfl) (a4t.or wz) a2l (az 9))))))))))))
 (ao (qb (zu hr.u (az 2) au)
 (bh (ik 6 SC.nd (fu (ar5 (az 6) au) jn (jf (jb D_12 hr h_12 (aj (az 0) (aj au aq)))))))
 iy)
 (bh (j5 (vq (aj (jb D_17 hr h_17 (aj (az 3) (aj (az 4) (aj (az 5) aq)))) (aj (az 6) aq))))))))))
theorem avr:FnScope ["_law_table", "_law_text", "_law_at", "_law_room", "_law_due_here", "_law_place"] ["_law_table", "_law_text", "_law_at"] (bw (top 33)):=by walk_at "sc"
theorem b1k(M:Nm mg):MD P w K mg base f k ["_law_table", "_law_text", "_law_at", "_law_room", "_law_due_here", "_law_place"] "_law_first" (top 33) (SRC.a1d):=λcdv A outer s H E hr =>
 have SC:=avr
 (ao (ik 3 SC.nd au)
 (ao (ik 4 SC.nd a6y)
 (ao (yg bH rfl (agw rfl M.range (aj (az 2) (aj (ju M.len (aj (az 1) aq)) aq))) (j6 (i:=5) SC.nd rfl (Or.inl rfl)) (ao (ik 3 SC.nd (cu (cu (cu (az 0) au) (az 3)) (ac4 ft fv ac1 a8v (cu (az 0) au) (aj (cu (az 1) (az 5)) aq))))
 (bh (qb (o9 ak8 adk (cu (cu (az 0) au) (az 3)) au)
 (bh (ik 4 SC.nd (vq (aj (cu (cu (az 0) au) (az 3)) (aj (fj (az 5) au) aq)))))
 iy))))
 (bh (j5 (az 4))))))
theorem avs:FnScope ["_law_found", "_law_many", "_law_one"] ["_law_found", "_law_many"] (bw (top 34)):=by walk_at "sc"
theorem b1l(M:Nm mg):MD P w K mg base f k ["_law_found", "_law_many", "_law_one"] "_law_numbers" (top 34) (SRC.ul):=λcdv A outer s H E hr =>
 have SC:=avs
 (ao (qb (PW.pt (a4x (yr (ww (a0i (L2.CallR.or jm jd) uh rfl M.isinstance gk (aj (az 0) (aj (a4w rfl M.tuple ug) aq))))) (a1t (o9 (a4a hr.u) a1b (ju M.len (aj (az 0) aq)) (az 1)))))
 (bh (j5 a2t))
 iy)
 (ao (yg bH rfl (qt (az 0)) (j6 (i:=2) SC.nd rfl (Or.inl rfl)) (bh (qb (PW.pt (a4x (yr (ww (a0i (L2.CallR.or jm jd) uh rfl M.isinstance gk (aj (az 2) (aj (a4w rfl M.int agq) aq))))) (a1t (ww (a0i (L2.CallR.or jm jd) uh rfl M.isinstance gk (aj (az 2) (aj (a4w rfl M.bool acb) aq)))))))
 (bh (j5 a2t))
 iy)))
 (bh (j5 a2t))))
theorem avt:FnScope ["_law_found", "_law_due_here", "_law_one", "_law_piece"] ["_law_found", "_law_due_here"] (bw (top 35)):=by walk_at "sc"
theorem b1m(M:Nm mg)(D_20:Dn P w K mg base k_20 "_law_numbers" ["_law_found", "_law_many"] (yh K 2 F_20) a_20 d_20)(h_20:k_20<=k):MD P w K mg base f k ["_law_found", "_law_due_here", "_law_one", "_law_piece"] "_law_pieces" (top 35) (vh F_20):=λcdv A outer s H E hr =>
 have SC:=avt
 (ao (qb (PW.pt (a4x (yr (ww (a0i (L2.CallR.or jm jd) uh rfl M.isinstance gk (aj (az 0) (aj (a4w rfl M.list aph) aq))))) (a1t (o9 (a4a hr.u) a1b (ju M.len (aj (az 0) aq)) (ju M.len (aj (az 1) aq))))))
 a83
 iy)
 (ao (yg bH rfl (ahg rfl M.zip ahh (az 0) (az 1)) (a5m rfl (jx (j6 (i:=2) SC.nd rfl (Or.inl rfl)) (jx (j6 (i:=3) SC.nd rfl (Or.inl rfl)) a1w))) (bh (qb (PW.pt (a4x (yr (ww (jb D_20 hr h_20 (aj (az 2) (aj au aq))))) (a1t (o9 (a4a hr.u) a1b (az 2) (az 3)))))
 a83
 iy)))
 (bh (j5 a2t))))
theorem avu:FnScope ["_law_left", "_law_tongue_here", "_law_text", "_law_which", "_law_rest", "_law_at"] ["_law_left", "_law_tongue_here", "_law_text"] (bw (top 36)):=by walk_at "sc"
theorem b1n(M:Nm mg)(D_12:Dn P w K mg base k_12 "_law_draw" ["_law_left", "_law_many"] (yh K 2 F_12) a_12 d_12)(h_12:k_12<=k)(D_13:Dn P w K mg base k_13 "_law_signs" [] (yh K 0 F_13) a_13 d_13)(h_13:k_13<=k):MD P w K mg base f k ["_law_left", "_law_tongue_here", "_law_text", "_law_which", "_law_rest", "_law_at"] "_law_bad" (top 36) (a2g F_12 F_13):=λcdv A outer s H E hr =>
 have SC:=avu
 (ao (ik 2 SC.nd (fu (az 2) jn (jf au)))
 (ao (ik 3 SC.nd (jb D_12 hr h_12 (aj (az 0) (aj au aq))))
 (ao (qb (o9 (a8j.or vo) a3v (az 3) au)
 (aia (λst h=>ara h (λe h=>aib h (λe h=>a4j h (λes g=>v4 g (λe h=>by subst h;exact a6y) (λes g=>v4 g (λe h=>by subst h;exact au) (λes g=>v4 g (λe h=>by subst h;exact(a66 (vz rfl (acs ["_law_sign"]) (qt (az 2)) (pgn 0) vf (λ_ _ _ _=>(az 0))))) (λes g=>v4 g (λe h=>a4j h (λes g=>v4 g (λe h=>by subst h;exact(az 2)) (λes g=>a4k g))) (λes g=>v4 g (λe h=>by subst h;exact(a66 a91)) (λes g=>a4k g))))))) (λe h=>by subst h;exact(az 3)))))
 iy)
 (ao (al2 (i:=4) SC.nd rfl (Or.inl rfl) rfl (a3n ["_law_sign"] ["_law_tongue_here"] [1]) (qt (aar false D_13 (hr.mono h_13) rfl)) (pgn 0) vf (λ_ _ _ _=>(az 0)) (λ_ _ _ _=>(a3g (a7q.or a5l) ah7 (az 0) (az 1) (by with_unfolding_all rfl))))
 (ao (ik 5 SC.nd (jb D_12 hr h_12 (aj (az 0) (aj (fj (ju M.len (aj (az 2) aq)) au) aq))))
 (bh (j5 (fj (fj (fu (az 2) jn (jf (az 5))) (cu (az 4) (jb D_12 hr h_12 (aj (az 0) (aj (ju M.len (aj (az 4) aq)) aq))))) (fu (az 2) (jf (az 5)) jn)))))))))
theorem avv:FnScope ["_law_found", "_law_due_here"] ["_law_found", "_law_due_here"] (bw (top 37)):=by walk_at "sc"
theorem b1o(M:Nm mg):MD P w K mg base f k ["_law_found", "_law_due_here"] "_law_truth" (top 37) (a1k):=λcdv A outer s H E hr =>
 have SC:=avv
 (bh (j5 (a7t (a0i (L2.CallR.or jm jd) uh rfl M.isinstance gk (aj (az 0) (aj (a4w rfl M.bool acb) aq))) (a6z (a3f (adt hr.u) a90 (az 0) (az 1) (a5j _))))))
theorem avw:FnScope ["_law_table", "_law_text", "_law_rows", "_law_place", "_law_row", "_law_start", "_law_room", "_law_lies", "_law_sign"] ["_law_table", "_law_text"] (bw (top 38)):=by walk_at "sc"
theorem b1p(M:Nm mg):MD P w K mg base f k ["_law_table", "_law_text", "_law_rows", "_law_place", "_law_row", "_law_start", "_law_room", "_law_lies", "_law_sign"] "_law_due" (top 38) (a4i):=λcdv A outer s H E hr =>
 have SC:=avw
 (ao (ik 2 SC.nd (yf aq))
 (ao (yg bH rfl (a1a rfl M.range (aj (fj (ju M.len (aj (az 1) aq)) au) aq)) (j6 (i:=3) SC.nd rfl (Or.inl rfl)) (ao (ik 4 SC.nd (yf aq))
 (ao (yg bH rfl (a1a rfl M.range (aj (ju M.len (aj (cu (az 0) au) aq)) aq)) (j6 (i:=5) SC.nd rfl (Or.inl rfl)) (ao (ik 6 SC.nd (az 5))
 (ao (ik 7 SC.nd a2t)
 (ao (yg bH rfl (qt (fu (az 1) (jf (az 3)) jn)) (j6 (i:=8) SC.nd rfl (Or.inl rfl)) (ao (ik 6 SC.nd (cu (cu (cu (az 0) au) (az 6)) (ac4 ft fv ac1 a8v (cu (az 0) au) (aj (az 8) aq))))
 (bh (ik 7 SC.nd (ayj (az 7) (a6z (a3f ak8 adk (cu (cu (az 0) au) (az 6)) au (a5j _))))))))
 (bh (qb (ww (az 7))
 (bh (vy (a3x bC bD o6 xg (az 4) (aj (az 5) aq))))
 iy))))))
 (bh (vy (a3x bC bD o6 xg (az 2) (aj (a1v (L2.CallR.or p6 (rz rfl)) zf rfl M.tuple ug (aj (az 4) aq)) aq)))))))
 (bh (j5 (a1v (L2.CallR.or p6 (rz rfl)) zf rfl M.tuple ug (aj (az 2) aq))))))
theorem avx:FnScope ["_law_table", "_law_text", "_law_told", "_law_place", "_law_found"] ["_law_table", "_law_text"] (bw (top 39)):=by walk_at "sc"
theorem b1q(D_19:Dn P w K mg base k_19 "_law_first" ["_law_table", "_law_text", "_law_at"] (yh K 3 F_19) a_19 d_19)(h_19:k_19<=k):MD P w K mg base f k ["_law_table", "_law_text", "_law_told", "_law_place", "_law_found"] "_law_cut" (top 39) (a0x F_19):=λcdv A outer s H E hr =>
 have SC:=avx
 (ao (ik 2 SC.nd (yf aq))
 (ao (ik 3 SC.nd au)
 (ao (ik 4 SC.nd (jb D_19 hr h_19 (aj (az 0) (aj (az 1) (aj (az 3) aq)))))
 (ao (a5y 100000 bH (o9 (ap3.or abx) ah5 (az 4) a6y) (ao (vy (a3x bC bD o6 xg (az 2) (aj (vq (aj (cu (az 4) au) (aj (az 3) (aj (cu (az 4) au) aq)))) aq)))
 (ao (ik 3 SC.nd (cu (az 4) au))
 (bh (ik 4 SC.nd (jb D_19 hr h_19 (aj (az 0) (aj (az 1) (aj (az 3) aq)))))))))
 (bh (j5 (vq (aj (az 2) (aj (az 3) aq)))))))))
theorem avy:FnScope ["_law_left", "_law_row", "_law_many", "_law_at", "_law_sort", "_law_odd"] ["_law_left", "_law_row", "_law_many"] (bw (top 40)):=by walk_at "sc"
theorem b1r{k:Nat}(M:Nm mg){a_12:Addr}{d_12:FuncData}{k_12:Nat}{F_12:SF}(D_12:Dn P w K mg base k_12 "_law_draw" ["_law_left", "_law_many"] (yh K 2 F_12) a_12 d_12)(h_12:k_12<=k)(cdv:Value)(A:Around)(outer:List Env)(s:Shared)(H:Hp)(E:XK)(hr:Room k (A.deeper (PyProof.Rows.envOfC "_law_row_spoilt" (bw (top 40)) s.heap.objs.size f cdv))):MSs (afv CX0 P w K mg base ["_law_left", "_law_row", "_law_many", "_law_at", "_law_sort", "_law_odd"] "_law_row_spoilt" (bw (top 40)) f cdv A outer s H E).nox X0 (qz (top 40)) (ig F_12):=by
 have SC:=avy;unfold ig;refine ao ?_ ?_
 ·refine ik 3 SC.nd ?_;refine jb D_12 hr h_12 ?_;refine aj ?_ ?_
  ·exact(az 0)
  exact(aj (fj (ju M.len (aj (az 1) aq)) au) aq)
 with_reducible refine ao ?_ ?_
 ·refine ik 4 SC.nd ?_;exact(jb D_12 hr h_12 (aj (az 0) (aj au aq)))
 with_reducible refine ao ?_ ?_
 ·refine qb ?_ ?_ iy
  ·exact(o9 ap2 ah2 (az 4) au)
  exact(aia (λst h=>ara h (λe h=>aib h (λe h=>a4j h (λes g=>v4 g (λe h=>by subst h;exact a6y) (λes g=>v4 g (λe h=>by subst h;exact au) (λes g=>v4 g (λe h=>by subst h;exact a2t) (λes g=>v4 g (λe h=>by subst h;exact a2w) (λes g=>v4 g (λe h=>by subst h;exact a2w) (λes g=>v4 g (λe h=>by subst h;exact(a66 a91)) (λes g=>a4k g)))))))) (λe h=>by subst h;exact(jb D_12 hr h_12 (aj (az 0) (aj au aq)))))))
 with_reducible refine ao ?_ ?_
 ·refine qb ?_ ?_ iy
  ·exact(zu hr.u (az 4) au)
  with_reducible refine bh ?_
  refine j5 ?_;refine fj ?_ ?_
  ·refine fj ?_ ?_
   ·exact(fu (az 1) jn (jf (az 3)))
   refine vq ?_;refine aj ?_ aq;refine jb D_12 hr h_12 ?_;exact(aj (az 0) (aj (fj (az 2) au) aq))
  exact(fu (az 1) (jf (az 3)) jn)
 with_reducible refine ao ?_ ?_
 ·refine qb ?_ ?_ iy
  ·exact(zu hr.u (az 4) au)
  with_reducible refine bh ?_
  refine j5 ?_;refine fj ?_ ?_
  ·refine fj ?_ ?_
   ·exact(fu (az 1) jn (jf (az 3)))
   refine aqc ?_ ?_
   ·exact(fu (az 1) (jf (az 3)) (jf (fj (az 3) au)))
   exact(a03 au)
  exact(fu (az 1) (jf (fj (az 3) au)) jn)
 with_reducible refine ao ?_ ?_
 ·refine qb ?_ ?_ iy
  ·exact(zu hr.u (az 4) au)
  with_reducible refine bh ?_
  refine j5 ?_;exact(vz rfl (acs ["_law_room"]) (qt (az 1)) (pgn 0) vf (λ_ _ _ _=>(az 0)))
 with_reducible refine ao ?_ ?_
 ·refine qb ?_ ?_ iy
  ·exact(zu hr.u (az 4) au)
  with_reducible refine bh ?_
  refine j5 ?_;refine fj ?_ ?_
  ·refine fj ?_ ?_
   ·exact(fu (az 1) jn (jf (az 3)))
   exact(fu (az 1) (jf (az 3)) (jf (fj (az 3) au)))
  exact(fu (az 1) (jf (az 3)) jn)
 with_reducible refine avh (λst h=>?_) ?_
 ·refine b1a h 5 SC.nd ?_
  intro e h
  refine a4j h ?_
  intro es g
  refine v4 g ?_ ?_
  ·intro e h
   refine a4j h ?_
   intro es g
   refine a4k g
  intro es g
  refine v4 g ?_ ?_
  ·intro e h
   refine a4j h ?_
   intro es g
   refine v4 g ?_ ?_
   ·intro e h
    subst h;exact a6y
   intro es g
   refine a4k g
  intro es g
  refine v4 g ?_ ?_
  ·intro e h
   refine aib h ?_ ?_
   ·intro e h
    refine a4j h ?_
    intro es g
    refine v4 g ?_ ?_
    ·intro e h
     refine a4j h ?_
     intro es g
     refine v4 g ?_ ?_
     ·intro e h
      subst h;exact a2t
     intro es g
     refine a4k g
    intro es g
    refine v4 g ?_ ?_
    ·intro e h
     refine a4j h ?_
     intro es g
     refine v4 g ?_ ?_
     ·intro e h
      subst h;exact(a66 (yf (aj au aq)))
     intro es g
     refine a4k g
    intro es g
    refine v4 g ?_ ?_
    ·intro e h
     refine a4j h ?_
     intro es g
     refine v4 g ?_ ?_
     ·intro e h
      subst h;exact(a66 a91)
     intro es g
     refine a4k g
    intro es g
    refine v4 g ?_ ?_
    ·intro e h
     refine a4j h ?_
     intro es g
     refine v4 g ?_ ?_
     ·intro e h
      refine a4j h ?_
      intro es g
      refine v4 g ?_ ?_
      ·intro e h
       subst h;exact au
      intro es g
      refine a4k g
     intro es g
     refine a4k g
    intro es g
    refine a4k g
   intro e h
   subst h;exact(jb D_12 hr h_12 (aj (az 0) (aj au aq)))
  intro es g
  refine a4k g
 with_reducible refine bh ?_
 refine j5 ?_;refine fj ?_ ?_
 ·refine fj ?_ ?_
  ·exact(fu (az 1) jn (jf (az 3)))
  exact(cu (az 5) (aai (az 4) au))
 exact(fu (az 1) (jf (fj (az 3) au)) jn)
theorem avz:FnScope ["_law_left", "_law_rows", "_law_many", "_law_at", "_law_sort"] ["_law_left", "_law_rows", "_law_many"] (bw (top 41)):=by walk_at "sc"
theorem b1s(M:Nm mg)(D_12:Dn P w K mg base k_12 "_law_draw" ["_law_left", "_law_many"] (yh K 2 F_12) a_12 d_12)(h_12:k_12<=k)(D_26:Dn P w K mg base k_26 "_law_row_spoilt" ["_law_left", "_law_row", "_law_many"] (yh K 3 F_26) a_26 d_26)(h_26:k_26<=k):MD P w K mg base f k ["_law_left", "_law_rows", "_law_many", "_law_at", "_law_sort"] "_law_spoilt" (top 41) (o8 F_12 F_26):=λcdv A outer s H E hr =>
 have SC:=avz
 (ao (ik 3 SC.nd (jb D_12 hr h_12 (aj (az 0) (aj (ju M.len (aj (az 1) aq)) aq))))
 (ao (ik 4 SC.nd (jb D_12 hr h_12 (aj (az 0) (aj au aq))))
 (ao (qb (o9 (a8j.or vo) a3v (az 4) au)
 (bh (j5 (az 1)))
 iy)
 (ao (qb (o9 (a8j.or vo) a3v (az 4) au)
 (bh (j5 (fj (fj (fu (az 1) jn (jf (az 3))) (vq (aj (jb D_26 hr h_26 (aj (az 0) (aj (cu (az 1) (az 3)) (aj (az 2) aq)))) aq))) (fu (az 1) (jf (fj (az 3) au)) jn))))
 iy)
 (ao (qb (zu hr.u (az 4) au)
 (bh (j5 (fj (fu (az 1) jn (jf (az 3))) (fu (az 1) (jf (fj (az 3) au)) jn))))
 iy)
 (ao (qb (zu hr.u (az 4) au)
 (bh (j5 (fj (fj (fu (az 1) jn (jf (az 3))) (vq (aj (cu (az 1) (az 3)) aq))) (fu (az 1) (jf (az 3)) jn))))
 iy)
 (aia (λst h=>ara h (λe h=>aib h (λe h=>a4j h (λes g=>v4 g (λe h=>by subst h;exact(a66 (vz rfl (acs ["_law_row"]) (qt (az 1)) (pgn 0) vf (λ_ _ _ _=>(az 0))))) (λes g=>v4 g (λe h=>aib h (λe h=>a4j h (λes g=>v4 g (λe h=>by subst h;exact a6y) (λes g=>v4 g (λe h=>by subst h;exact au) (λes g=>v4 g (λe h=>by subst h;exact a2t) (λes g=>v4 g (λe h=>by subst h;exact a2w) (λes g=>v4 g (λe h=>by subst h;exact(a66 a91)) (λes g=>a4k g))))))) (λe h=>by subst h;exact(jb D_12 hr h_12 (aj (az 0) (aj au aq))))) (λes g=>a4k g)))) (λe h=>by subst h;exact(aai (az 4) au)))))))))))
theorem aw0:FnScope ["_law_rows", "_law_due_here", "_law_row", "_law_one"] ["_law_rows", "_law_due_here"] (bw (top 42)):=by walk_at "sc"
theorem b1t(M:Nm mg)(D_20:Dn P w K mg base k_20 "_law_numbers" ["_law_found", "_law_many"] (yh K 2 F_20) a_20 d_20)(h_20:k_20<=k):MD P w K mg base f k ["_law_rows", "_law_due_here", "_law_row", "_law_one"] "_law_holds" (top 42) (a1l F_20):=λcdv A outer s H E hr =>
 have SC:=aw0
 (ao (qb (PW.pt (a4x (yr (ww (a0i (L2.CallR.or jm jd) uh rfl M.isinstance gk (aj (az 0) (aj (a4w rfl M.tuple ug) aq))))) (a1t (o9 (a4a hr.u) a1b (ju M.len (aj (az 0) aq)) (ju M.len (aj (az 1) aq))))))
 (bh (j5 a2t))
 iy)
 (ao (yg bH rfl (ahg rfl M.zip ahh (az 0) (az 1)) (a5m rfl (jx (j6 (i:=2) SC.nd rfl (Or.inl rfl)) (jx (j6 (i:=3) SC.nd rfl (Or.inl rfl)) a1w))) (bh (qb (PW.pt (a4x (yr (ww (a0i (L2.CallR.or jm jd) uh rfl M.isinstance gk (aj (az 2) (aj (a4w rfl M.tuple ug) aq))))) (a4x (yr (ww (jb D_20 hr h_20 (aj (az 2) (aj (ju M.len (aj (az 2) aq)) aq))))) (a1t (o9 (a4a hr.u) a1b (az 2) (az 3))))))
 (bh (j5 a2t))
 iy)))
 (bh (j5 a2t))))
theorem aw1:FnScope ["_law_table", "_law_bad_here", "_law_caught", "e"] ["_law_table", "_law_bad_here"] (bw (top 43)):=by walk_at "sc"
theorem b1u(M:Nm mg)(Z:Xn K mg y_NoText y_ReachError y_Closed y_NoTable y_NoWord y_Stopped y_TooMany y_Unlike)(D_7:DnX P w K mg base k_7 "ahead_rows" ["table", "text"] (spX K mg 2 F_7) a_7 d_7)(h_7:k_7<=k):MD P w K mg base f k ["_law_table", "_law_bad_here", "_law_caught", "e"] "_law_refused" (top 43) (yz F_7):=λcdv A outer s H E hr =>
 have SC:=aw1
 (ao (ik 2 SC.nd a6y)
 (ao (auy (i:=3) ⟨rfl,Z.g_ReachError,SC.nd,rfl,rfl,⟨rfl,rfl⟩,by decide⟩ (a7l Z)
 (aqn (aqm D_7 (hr.mono h_7) rfl (aj (az 0) (aj (az 1) aq))))
 (λa=>(ao (ik 2 SC.nd (vq (aj (ao1 (i:=3) rfl M.isinstance gk rfl (Or.inl rfl) (a3c (v:=.ref y_NoText) rfl Z.g_NoText rfl) (.inl ⟨_,rfl,rfl⟩) (aic Z)) (aj (ao1 (i:=3) rfl M.isinstance gk rfl (Or.inl rfl) (ag2 (v:=.ty "ValueError") rfl M.ValueError PyProof.Rows.Boot.«ValueError» rfl) (.inr ⟨_,rfl,rfl⟩) (a9m Z)) aq))))
 (bh (ik 2 SC.nd (fj (az 2) (vq (aj (aqo (i:=3) (cs:=[y_Closed,y_NoTable,y_NoWord,y_Stopped,y_TooMany,y_Unlike]) rfl M.isinstance gk rfl (Or.inl rfl) (vp (a3c (v:=.ref y_Closed) rfl Z.g_Closed rfl) (vp (a3c (v:=.ref y_NoTable) rfl Z.g_NoTable rfl) (vp (a3c (v:=.ref y_NoWord) rfl Z.g_NoWord rfl) (vp (a3c (v:=.ref y_Stopped) rfl Z.g_Stopped rfl) (vp (a3c (v:=.ref y_TooMany) rfl Z.g_TooMany rfl) (vp (a3c (v:=.ref y_Unlike) rfl Z.g_Unlike rfl) a7n)))))) (λ_ _ _ q=>q) (a8o (by simp)) (n8 Z)) aq))))))))
 (bh (j5 (a3f (adt hr.u) a90 (az 2) (vq (aj a2t (aj a2t (aj a2t aq)))) (a5j _))))))
theorem aw2:FnScope ["_law_script", "_law_left", "_law_table", "_law_text", "_law_due_here", "_law_told", "_law_rows", "_law_kept", "_law_pieces_here", "_law_place", "_law_found"] ["_law_script"] (bw (top 44)):=by walk_at "sc"
theorem b1v(M:Nm mg)(D_22:Dn P w K mg base k_22 "_law_bad" ["_law_left", "_law_tongue_here", "_law_text"] (yh K 3 F_22) a_22 d_22)(h_22:k_22<=k)(D_18:Dn P w K mg base k_18 "_law_case" ["_law_left"] (yh K 1 F_18) a_18 d_18)(h_18:k_18<=k)(D_25:Dn P w K mg base k_25 "_law_cut" ["_law_table", "_law_text"] (yh K 2 F_25) a_25 d_25)(h_25:k_25<=k)(D_24:Dn P w K mg base k_24 "_law_due" ["_law_table", "_law_text"] (yh K 2 F_24) a_24 d_24)(h_24:k_24<=k)(D_28:Dn P w K mg base k_28 "_law_holds" ["_law_rows", "_law_due_here"] (yh K 2 F_28) a_28 d_28)(h_28:k_28<=k)(D_20:Dn P w K mg base k_20 "_law_numbers" ["_law_found", "_law_many"] (yh K 2 F_20) a_20 d_20)(h_20:k_20<=k)(D_21:Dn P w K mg base k_21 "_law_pieces" ["_law_found", "_law_due_here"] (yh K 2 F_21) a_21 d_21)(h_21:k_21<=k)(D_29:Dn P w K mg base k_29 "_law_refused" ["_law_table", "_law_bad_here"] (yh K 2 F_29) a_29 d_29)(h_29:k_29<=k)(D_11:Dn P w K mg base k_11 "_law_source" ["_law_script"] (yh K 1 F_11) a_11 d_11)(h_11:k_11<=k)(D_27:Dn P w K mg base k_27 "_law_spoilt" ["_law_left", "_law_rows", "_law_many"] (yh K 3 F_27) a_27 d_27)(h_27:k_27<=k)(D_23:Dn P w K mg base k_23 "_law_truth" ["_law_found", "_law_due_here"] (yh K 2 F_23) a_23 d_23)(h_23:k_23<=k)(D_7:DnX P w K mg base k_7 "ahead_rows" ["table", "text"] (spX K mg 2 F_7) a_7 d_7)(h_7:k_7<=k)(D_10:Dn P w K mg base k_10 "cut_by" ["table", "text", "rows"] (yh K 3 F_10) a_10 d_10)(h_10:k_10<=k)(D_9:DnX P w K mg base k_9 "rows_hold" ["table", "text", "rows"] (spX K mg 3 F_9) a_9 d_9)(h_9:k_9<=k):MD P w K mg base f k ["_law_script", "_law_left", "_law_table", "_law_text", "_law_due_here", "_law_told", "_law_rows", "_law_kept", "_law_pieces_here", "_law_place", "_law_found"] "law" (top 44) (ama F_22 F_18 F_25 F_24 F_28 F_20 F_21 F_29 F_11 F_27 F_23 F_7 F_10 F_9):=λcdv A outer s H E hr =>
 have SC:=aw2
 (ao (ik 1 SC.nd (adw true D_11 (hr.mono h_11) rfl (aj (az 0) aq)))
 (ao (a7v (jb D_18 hr h_18 (aj (az 1) aq)) (a5m rfl (jx (j6 (i:=2) SC.nd rfl (Or.inl rfl)) (jx (j6 (i:=3) SC.nd rfl (Or.inl rfl)) a1w))))
 (ao (ik 3 SC.nd (fu (az 3) jn (jf au)))
 (ao (ik 4 SC.nd (jb D_24 hr h_24 (aj (az 2) (aj (az 3) aq))))
 (ao (ik 5 SC.nd (a76 D_7 (hr.mono h_7) rfl (aj (az 2) (aj (az 3) aq))))
 (ao (qb (PW.pt (a4x (yr (ww (jb D_28 hr h_28 (aj (az 5) (aj (az 4) aq))))) (a1t (yr (ww (jb D_29 hr h_29 (aj (az 2) (aj (jb D_22 hr h_22 (aj (az 1) (aj (cu (az 2) au) (aj (az 3) aq)))) aq))))))))
 a83
 iy)
 (ao (ik 6 SC.nd (jb D_27 hr h_27 (aj (az 1) (aj (az 4) (aj (ju M.len (aj (cu (az 2) au) aq)) aq)))))
 (ao (ik 7 SC.nd (a0i (ab1 hr.gd hr.u) ae4 rfl M.repr ahu (aj (az 6) aq)))
 (ao (qb (PW.pt (a4x (yr (ww (jb D_23 hr h_23 (aj (a76 D_9 (hr.mono h_9) rfl (aj (az 2) (aj (az 3) (aj (az 6) aq)))) (aj (jb D_28 hr h_28 (aj (az 6) (aj (az 4) aq))) aq))))) (a1t (o9 (a4a hr.u) a1b (a0i (ab1 hr.gd hr.u) ae4 rfl M.repr ahu (aj (az 6) aq)) (az 7)))))
 a83
 iy)
 (ao (a7v (jb D_25 hr h_25 (aj (az 2) (aj (az 3) aq))) (a5m rfl (jx (j6 (i:=8) SC.nd rfl (Or.inl rfl)) (jx (j6 (i:=9) SC.nd rfl (Or.inl rfl)) a1w))))
 (ao (ik 10 SC.nd (ai9 D_10 (hr.mono h_10) rfl (aj (az 2) (aj (az 3) (aj (az 4) aq)))))
 (ao (qb (PW.pt (a4x (yr (ww (a0i (L2.CallR.or jm jd) uh rfl M.isinstance gk (aj (az 10) (aj (a4w rfl M.tuple ug) aq))))) (a4x (o9 (a4a hr.u) a1b (ju M.len (aj (az 10) aq)) au) (a1t (yr (ww (jb D_20 hr h_20 (aj (fu (az 10) (jf au) jn) (aj au aq)))))))))
 a83
 iy)
 (ao (qb (PW.pt (a4x (yr (ww (jb D_21 hr h_21 (aj (cu (az 10) au) (aj (az 8) aq))))) (a1t (o9 (a4a hr.u) a1b (cu (az 10) au) (az 9)))))
 a83
 iy)
 (ao (vy (a3x bC bD o6 xg (cu (az 10) au) (aj (vq (aj au (aj au (aj au aq)))) aq)))
 (bh (j5 (a7t (jb D_21 hr h_21 (aj (cu (jb D_10 hr h_10 (aj (az 2) (aj (az 3) (aj (az 5) aq)))) au) (aj (az 8) aq))) (a6z (a3f (ate.or akj) aua (a76 D_9 (hr.mono h_9) rfl (aj (az 2) (aj (az 3) (aj (az 5) aq)))) a2t (a5j _))))))))))))))))))))
end
end K55
namespace HND
open L2 MI
noncomputable def zj:SS :=
 (dm (j9 0 (sC (.str " !\"#$&'()*+,-./0123456789:;<=>?@ABCDEFGHIJKLMNOPQRSTUVWXYZ[\\]^_`")))
 (sr (s2 ie (sV 0) (sC (.str "abcdefghijklmnopqrstuvwxyz{|}~\n")))))
end HND
namespace HND
open L2 MI AT
def axk:Str := " !\"#$&'()*+,-./0123456789:;<=>?@ABCDEFGHIJKLMNOPQRSTUVWXYZ[\\]^_`"
def axl:Str := "abcdefghijklmnopqrstuvwxyz{|}~\n"
def sig:List Nat:=axk.cps.toList++axl.cps.toList
theorem a9n:sig.length=95:=by decide +kernel
theorem ao7:sig.Nodup:=by decide +kernel
noncomputable def cj:SF:=km zj 1
theorem lits{h:Hd}:ie (.str axk) (.str axl) h=.ok (.str (S sig)) h:=by
 rw[<-am0 axk,<-am0 axl,afe (by decide +kernel)]
 rfl
theorem a6d:Pu cj 0 [] (.str (S sig)):=by
 refine Pu.of rfl (by simp) (r:=.ok (.str (S sig)) []) ?_ (by rw[jy (jc _) (by simp)];rfl) (jc _)
 unfold cj;rw[dw];unfold zj;have e:=@lits [];unfold axk axl at e;show toR (dm (j9 0 _) _ [none] [])=_;simp only[xm,j9,sC,a1z,a0v,sr,s2,sV,List.set_cons_zero,gG,bf,e,aav]
structure Tongue (l:List Nat):Prop where
 lo:1<=l.length
 hi:l.length<=6
 nd:l.Nodup
 sub:∀c∈l,c∈sig
theorem aid(a r:List Nat)(i:Nat)(c:Nat)(e:r[i]? = some c):List.Perm (a++r) ((a++[c])++(r.take i++r.drop (i+1))):=by
 obtain⟨hi,e⟩:=af.mp e;have:r=r.take i++c::r.drop (i+1):=by rw[<-e];simp
 rw[dJ];refine List.Perm.append_left a ?_;rw[List.singleton_append]
 conv=>lhs;rw[this]
 exact List.perm_middle
end HND
namespace SRC
open L2 MI AT
structure Src (o:O) (N:Nat):Prop where
 ex:∃(cells:List Int) (a l c s:Int),o=.lst [.rol (cells.map D.int),.int a,.int l,.int c,.int s]/\0<=a/\0<=l/\0<=s/\s<2147483647/\0<=c/\c<=N
theorem Src.clo(P:Src o N):a0j 0 o:=by
 obtain⟨cells,a,l,c,s,rfl,_⟩:=P.ex;exact g8 (jq (dj λx _=>dg x)) (g8 (dg _) (g8 (dg _) (g8 (dg _) (g8 (dg _) mj))))
theorem Src.up(P:Src o N)(h:N<=M):Src o M:=by
 obtain⟨cells,a,l,c,s,e,h1,h2,h3,h4,h5,h6⟩:=P.ex;exact⟨cells,a,l,c,s,e,h1,h2,h3,h4,h5,by omega⟩
noncomputable def aa:SF:=km a2q 4
abbrev so(cells:List Int)(a l c s:Int):O:=.lst [.rol (cells.map D.int),.int a,.int l,.int c,.int s]
theorem aie(e:h[i]? = some (.lst xs))(hj:xs[j]? = some y):ajz (.ref i) (.int (j:Nat)) h=.ok y h:=by
 unfold ajz;simp only[e,xf hj]
theorem az1(e1:fo τ h=.ok o h)(e2:fi τ h=.ok i h)(e3:ajz o i h=.ok x h)(e4:fe τ h=.ok y h)(e5:G x y h=.ok z h)(e6:put o i z h=some h'):a2v G fo fi fe τ h=.nx τ h':=by
 unfold a2v;rw[e1,a1z,e2,a1z,e3,a1z,e4,a1z,e5,a1z,e6]
theorem b07(c:y<=x):gGe (.int x) (.int y) h=.ok (.bl true) h:=by show R.ok (D.bl (decide (y<=x))) h=_;rw[bL c]
theorem b08(c:¬ y<=x):gGe (.int x) (.int y) h=.ok (.bl false) h:=by show R.ok (D.bl (decide (y<=x))) h=_;rw[bp c]
theorem aif(P:Src o N)(hN:N<=1000000000)(m0:0<m)(m1:m<1073741824):∃r o',aa [.ref 0,.int m] [o]=.ok (.int r) [o']/\0<=r/\r<m/\Src o' (N+1):=by
 obtain⟨cells,a,l,c,s,rfl,a0,l0,s0,s1,c0,c1⟩:=P.ex;unfold aa;rw[dw];show ∃r o',toR (a2q [some (.ref 0),some (.int m),none,none] [so cells a l c s])=_/\_;unfold a2q;have last:∀s':Int,0<=s'->s'<2147483647->∃r q,0<=r/\r<m/\(s'+1+(c+1)*7919)^(3:Int).toNat%2147483647=q/\(q*48271+(c+1))^(2:Int).toNat%2147483629 / 64%m=r/\CMul (c+1) 7919/\CMul q 48271 /\
   (∀h,a7x (.int (s'+1+(c+1)*7919)) (.int 3) h=.ok (.int ((s'+1+(c+1)*7919)^(3:Int).toNat)) h)/\∀h,a7x (.int (q*48271+(c+1))) (.int 2) h=.ok (.int ((q*48271+(c+1))^(2:Int).toNat)) h:=λs' h0 h1=>by
  have q0:0<=(s'+1+(c+1)*7919)^(3:Int).toNat%2147483647:=eh _ (by decide)
  have q1:(s'+1+(c+1)*7919)^(3:Int).toNat%2147483647<2147483647:=dA _ (by decide)
  refine⟨_,_,eh _ (by omega),dA _ m0,rfl,rfl,.inr ⟨by decide,by decide⟩,.inr ⟨by decide,by decide⟩,λh=>av1 ⟨by decide,by decide,by omega⟩,λh=>av1 ⟨by decide,by decide,?_⟩⟩
  generalize (s'+1+(c+1)*7919)^(3:Int).toNat%2147483647=q at q0 q1
  omega
 have x0:∀{a l c s:Int},gIx (.ref 0) (.int 0) [so cells a l c s]=.ok (.rol (cells.map D.int)) [so cells a l c s]:=λ{a l c s}=>a2x (j:=0) rfl rfl;have x1:∀{a l c s:Int},gIx (.ref 0) (.int 1) [so cells a l c s]=.ok (.int a) [so cells a l c s]:=λ{a l c s}=>a2x (j:=1) rfl rfl;have x2:∀{a l c s:Int},gIx (.ref 0) (.int 2) [so cells a l c s]=.ok (.int l) [so cells a l c s]:=λ{a l c s}=>a2x (j:=2) rfl rfl;have x3:∀{a l c s:Int},gIx (.ref 0) (.int 3) [so cells a l c s]=.ok (.int c) [so cells a l c s]:=λ{a l c s}=>a2x (j:=3) rfl rfl
 have x4:∀{a l c s:Int},gIx (.ref 0) (.int 4) [so cells a l c s]=.ok (.int s) [so cells a l c s]:=λ{a l c s}=>a2x (j:=4) rfl rfl;have u3:∀{a l c s:Int} {τ:Sd},τ[0]? = some (some (.ref 0))->a2v a1x (sV 0) (sI 3) (sI 1) τ [so cells a l c s]=.nx τ [so cells a l (c+1) s]:=λ{a l c s τ} h0=>az1 (bc h0) ckk (aie (j:=3) rfl rfl) ckk a2a rfl;have u1:∀{a l c s:Int} {τ:Sd},τ[0]? = some (some (.ref 0))->a2v a1x (sV 0) (sI 1) (sI 1) τ [so cells a l c s]=.nx τ [so cells (a+1) l c s]:=λ{a l c s τ} h0=>az1 (bc h0) ckk (aie (j:=1) rfl rfl) ckk a2a rfl
 have p18:∀{h:Hd},a7x (.int 10) (.int 18) h=.ok (.int 1000000000000000000) h:=λ{h}=>p18 h;have e1:∀{a l c s:Int} {t2:Option D},0<l->toR (dm (sIf (sT (s2 gGt (s2 gIx (sV 0) (sI 2)) (sI 0))) (dm (j9 3 (s2 a5n (s2 gIx (sV 0) (sI 2)) (sV 1))) (dm (a2v aa0 (sV 0) (sI 2) (sV 1)) (sr (sV 3)))) sNx) (dm (j9 3 (s2 a5n (s2 a7x (s2 ie (s2 ie (s2 gIx (sV 0) (sI 4)) (sI 1)) (s2 a1r (s2 gIx (sV 0) (sI 3)) (sI 7919))) (sI 3)) (sI 2147483647))) (sr (s2 a5n (s2 aa0 (s2 a5n (s2 a7x (s2 ie (s2 a1r (sV 3) (sI 48271)) (s2 gIx (sV 0) (sI 3))) (sI 2)) (sI 2147483629)) (sI 64)) (sV 1)))) [some (.ref 0),some (.int m),t2,none] [so cells a l c s])=.ok (.int (l%m)) [so cells a (l / m) c s]:=λ{a l c s t2} hl=>by
  refine aU toR (a3j (aH (ifT (t2s (a01 rfl x2) ckk (ayz hl))) ?_));refine aH (jr (kj (a01 rfl x2) (bc rfl) (a88 m0))) ?_;refine aH (u9 (az1 (bc rfl) ckk (aie (j:=2) rfl rfl) (bc rfl) (div_ii ⟨m0,m1⟩) rfl)) ?_;exact nq (bc rfl)
 have e2:∀{a s':Int} {t2:Option D},0<=s'->s'<2147483647->∃r,0<=r/\r<m/\toR (dm (sIf (sT (s2 gGt (s2 gIx (sV 0) (sI 2)) (sI 0))) (dm (j9 3 (s2 a5n (s2 gIx (sV 0) (sI 2)) (sV 1))) (dm (a2v aa0 (sV 0) (sI 2) (sV 1)) (sr (sV 3)))) sNx) (dm (j9 3 (s2 a5n (s2 a7x (s2 ie (s2 ie (s2 gIx (sV 0) (sI 4)) (sI 1)) (s2 a1r (s2 gIx (sV 0) (sI 3)) (sI 7919))) (sI 3)) (sI 2147483647))) (sr (s2 a5n (s2 aa0 (s2 a5n (s2 a7x (s2 ie (s2 a1r (sV 3) (sI 48271)) (s2 gIx (sV 0) (sI 3))) (sI 2)) (sI 2147483629)) (sI 64)) (sV 1)))) [some (.ref 0),some (.int m),t2,none] [so cells a 0 (c+1) s'])=.ok (.int r) [so cells a 0 (c+1) s']:=λ{a s' t2} h0 h1=>by
  obtain⟨r,q,r0,r1,eq,er,d1,d2,d3,d4⟩:=last s' h0 h1;refine⟨r,r0,r1,?_⟩;refine eti (t2s (a01 rfl x2) ckk (aqz (by omega))) ?_
  refine ets (kj (kj (kj (kj (a01 rfl x4) ckk u5) (kj (a01 rfl x3) ckk (a5r.trans (aO d1))) u5) ckk (d3 _)) ckk (a88 (by decide))) ?_
  rw[eq];refine etr (nq (kj (kj (kj (kj (kj (a01 rfl (a5r.trans (aO d2))) (a01 rfl x3) u5) ckk (d4 _)) ckk (a88 (by decide))) ckk (div_ii ⟨by decide,by decide⟩)) (bc rfl) (a88 m0))) ?_
  rw[er];rfl
 by_cases hA:l=0/\a<(cells.length:Int)
 ·obtain⟨rfl,ha⟩:=hA;obtain⟨j,rfl⟩:=ay a0;have hj:j<cells.length:=by omega
  have gx:∀{h:Hd},gIx (.rol (cells.map D.int)) (.int (j:Nat)) h=.ok (.int cells[j]) h:=λ{h}=>asa (by rw[aM,ae hj];rfl)
  have tt:∀{c s:Int} {t2 t3:Option D},a7s (sT (s2 hEq (s2 gIx (sV 0) (sI 2)) (sI 0))) (sT (s2 gLt (s2 gIx (sV 0) (sI 1)) (sA qu (ak (s2 gIx (sV 0) (sI 0)) bu)))) [some (.ref 0),some (.int m),t2,t3] [so cells (j:Nat) 0 c s]=.ok true [so cells (j:Nat) 0 c s]:=λ{c s t2 t3} =>
   ao5 (t2s (a01 rfl x2) ckk (a2b rfl)) (t2s (a01 rfl x1) (p7 (a01 rfl x0) (a0k.trans (by rw[ai]))) (am5 ha))
  have s2':0<=(s*31+cells[j])%2147483647:=eh _ (by decide)
  have s3:(s*31+cells[j])%2147483647<2147483647:=dA _ (by decide)
  have go:∀{o':O} {g:SS},sIf (sT (s2 gGe (sV 2) (s2 a7x (sI 10) (sI 18)))) (abp (sV 2) (sV 0) (sI 2)) (abp (s2 a5n (s2 ie (s2 a1r (s2 gIx (sV 0) (sI 4)) (sI 31)) (sV 2)) (sI 2147483647)) (sV 0) (sI 4)) [some (.ref 0),some (.int m),some (.int cells[j]),none] [so cells ((j:Nat)+1) 0 (c+1) s]=.nx [some (.ref 0),some (.int m),some (.int cells[j]),none] [o']->
    toR (dm (a2v a1x (sV 0) (sI 3) (sI 1)) (dm (sIf (a7s (sT (s2 hEq (s2 gIx (sV 0) (sI 2)) (sI 0))) (sT (s2 gLt (s2 gIx (sV 0) (sI 1)) (sA qu (ak (s2 gIx (sV 0) (sI 0)) bu))))) (dm (j9 2 (s2 gIx (s2 gIx (sV 0) (sI 0)) (s2 gIx (sV 0) (sI 1)))) (dm (a2v a1x (sV 0) (sI 1) (sI 1)) (sIf (sT (s2 gGe (sV 2) (s2 a7x (sI 10) (sI 18)))) (abp (sV 2) (sV 0) (sI 2)) (abp (s2 a5n (s2 ie (s2 a1r (s2 gIx (sV 0) (sI 4)) (sI 31)) (sV 2)) (sI 2147483647)) (sV 0) (sI 4))))) sNx) g) [some (.ref 0),some (.int m),none,none] [so cells (j:Nat) 0 c s])=toR (g [some (.ref 0),some (.int m),some (.int cells[j]),none] [o']):=λ{o' g} e=>by
   refine etr (u9 (u3 rfl)) ?_;refine aU toR (u9 (aH (ifT tt) ?_));refine aH (jr (kj (a01 rfl x0) (a01 rfl x1) gx)) ?_;exact aH (u9 (u1 rfl)) e
  generalize cells[j]=x at *
  by_cases hB:(1000000000000000000:Int)<=x
  ·refine⟨x%m,_,(go (o':=so cells ((j:Nat)+1) x (c+1) s) (aH (ifT (t2s (bc rfl) (kj ckk ckk p18) (b07 hB))) (ai6 (bc rfl) (bc rfl) ckk rfl))).trans (e1 (by omega)),eh _ (by omega),dA _ m0,⟨cells,(j:Int)+1,x / m,c+1,s,rfl,by omega,Int.ediv_nonneg (by omega) (by omega),s0,s1,by omega,by omega⟩⟩
  ·obtain⟨r,r0,r1,e⟩:=e2 (a:=(j:Nat)+1) (t2:=some (.int x)) s2' s3;exact⟨r,_,(go (o':=so cells ((j:Nat)+1) 0 (c+1) ((s*31+x)%2147483647)) (aH (ifF (t2s (bc rfl) (kj ckk ckk p18) (b08 hB))) (ai6 (kj (kj (kj (a01 rfl x4) ckk (a5r.trans (aO (.inr ⟨by decide,by decide⟩)))) (bc rfl) u5) ckk (a88 (by decide))) (bc rfl) ckk rfl))).trans e,r0,r1,⟨cells,(j:Int)+1,0,c+1,_,rfl,by omega,by omega,s2',s3,by omega,by omega⟩⟩
 ·have tt:a7s (sT (s2 hEq (s2 gIx (sV 0) (sI 2)) (sI 0))) (sT (s2 gLt (s2 gIx (sV 0) (sI 1)) (sA qu (ak (s2 gIx (sV 0) (sI 0)) bu)))) [some (.ref 0),some (.int m),none,none] [so cells a l (c+1) s]=.ok false [so cells a l (c+1) s]:=by
   by_cases hl:l=0
   ·exact ao5 (t2s (a01 rfl x2) ckk (a2b hl)) (t2s (a01 rfl x1) (p7 (a01 rfl x0) (a0k.trans (by rw[ai]))) (afj λz=>hA ⟨hl,z⟩))
   ·exact axj (t2s (a01 rfl x2) ckk (yx hl))
  by_cases hC:0<l
  ·exact⟨l%m,_,(aU toR (u9 (u3 rfl))).trans ((aU toR (ifN tt)).trans (e1 hC)),eh _ (by omega),dA _ m0,⟨cells,a,l / m,c+1,s,rfl,a0,Int.ediv_nonneg (by omega) (by omega),s0,s1,by omega,by omega⟩⟩
  ·have:l=0:=by omega
   subst this;obtain⟨r,r0,r1,e⟩:=e2 (a:=a) (t2:=none) s0 s1;exact⟨r,_,(aU toR (u9 (u3 rfl))).trans ((aU toR (ifN tt)).trans e),r0,r1,⟨cells,a,0,c+1,s,rfl,a0,by omega,s0,s1,by omega,by omega⟩⟩
theorem iw(P:Src o N)(hN:N<=1000000000)(m0:0<m)(m1:m<1073741824):∃r o',Dr aa 2 [.int m] o (.int r) o'/\0<=r/\r<m/\Src o' (N+1):=by
 obtain⟨r,o',e,r0,r1,P'⟩:=aif P hN m0 m1;refine⟨r,o',Dr.of rfl (by simp[dg]) P.clo e (jy (dg _) ?_) (dg _) P'.clo,r0,r1,P'⟩
 intro u hu
 simp at hu
 subst hu;exact n6 (by omega) P'.clo
end SRC
namespace EVX
open L2 MI
section
variable{i:Nat}{cs:Str->Bool}{fb fs p g:SS}{τ τ1 τ2:Sd}{h h1 h2:Hd}{c:Str}{f:SE}{ka:SA}{ds:List D}{F:SF}{n:Nat}
theorem aw3(e:p τ h=.ex c h1):dm p g τ h=.ex c h1:=by unfold dm;rw[e]
theorem arb(e:ka τ h=.ok ds h1)(l:ds.length<=100):ab3 c ka τ h=.ex c h1:=by
 unfold ab3;rw[e];show(if ds.length<=LINE then Fl.ex c h1 else .no)=_
 rw[aO (dh (by omega))]
theorem aig(hn:ds.length=n)(cd:∀x∈ds,MI.clo 0 x)(e:F ds []=.ex c h1):yw n F ds h=.ex c h:=by
 unfold yw;rw[aO cd,e];exact aO hn
theorem acu(cd:∀x∈ds,MI.clo 0 x)(e:F ds []=.ok d h1)(p:Pu F n ds d'):yw n F ds h=.ok d' h:=by
 unfold yw;rw[aO cd,e];exact p h
theorem aw4(e:fb τ h=.ex c h1)(hc:cs c=true)(e2:fs (τ.set i (some (.exc c))) h1=.nx τ2 h2):auw i cs fb fs τ h=.nx (τ2.set i none) h2:=by
 unfold auw;rw[e];show(if cs c=true then _ else _)=_
 rw[aO hc,e2]
theorem ao8(e:f τ h=.ex c h1):uw f τ h=.ex c h1:=by unfold uw;rw[e];rfl
theorem qof{α:Type}{k:Sd->Hd->R α}{x:α}(e:k τ h=.ok x h1):qA k τ h=.ok x h1:=by unfold qA;rw[e];rfl
theorem arc(e:ka τ h=.ok ds h1):sA F ka τ h=F ds h1:=by unfold sA;rw[e];rfl
theorem ard(e:τ[i]? = some (some (.exc c)))(e2:x c=some b):alo i x τ h=.ok (.bl b) h:=by unfold alo;rw[e];dsimp only;rw[e2]
theorem ue(e:f τ h=.ok d h1)(e2:ka τ h1=.ok ds h2):ak f ka τ h=.ok (d::ds) h2:=by
 unfold ak;rw[e,bf,e2];rfl
end
end EVX
namespace SRC
open L2 MI AT HND EVX
noncomputable def oh:SF:=km a04 2
theorem ints_map:∀l:List Int,a8x (l.map D.int)=some l
 |[]=>rfl
 |a::l=>by rw[bI];simp only[a8x,ints_map l,dO]
theorem b1w(e:k τ h=.ok ds h1)(eg:g ds h1=.ok d h2):sA g k τ h=.ok d h2:=by
 unfold sA;rw[e,bf,eg]
def cell(x:Int):Int:=2*azo x+(if decide (x<0)=true then 1 else 0)
theorem aih(ns:List Int)(h:Hd):∃o,Src o 0/\gq true 1 oh [.scr (ns.map D.int)] h=.ok (.ref h.length) (h++[o]):=by
 have cl:clos 0 ((ns.take 63).map D.int):=dj λx _=>dg x;have z1:sZ (yp (sV 0) oN (oS (sI 63))) [some (.scr (ns.map D.int)),none] []=.ok (.rol ((ns.take 63).map D.int)) []:=by
  refine a1c (by
   show gSl (.scr (ns.map D.int)) none (some ((63:Nat):Int)) []=_;unfold gSl;simp only[abz,List.map_take]) cl (by simp)
 have z2:sZ (jk (sIt (sZ (yp (sV 0) oN (oS (sI 63))))) t1 zg []) [some (.scr (ns.map D.int)),none] []=.ok (.rol ((ns.take 63).map λx=>D.int (cell x))) []:=by
  refine a1c (qe D.int (λx=>D.int (cell x)) (ns.take 63) (a6a z1 rfl) (dh (by simp;omega)) λx _=>?_) (dj λx _=>dg _) (by simp)
  rw[u6];unfold zg;exact kj (kj ckk (p7 (bc rfl) (ai1 _ _)) (a5r.trans (aO (.inl ⟨by decide,by decide⟩)))) (p7 (a01 rfl rfl) rfl) u5
 have em:((ns.take 63).map λx=>D.int (cell x))=((ns.take 63).map cell).map D.int:=by rw[bP];rfl
 rw[em]at z2
 generalize (ns.take 63).map cell=cs at z2
 have e:oh [.scr (ns.map D.int)] []=.ok (.ref 0) [.lst [.rol (cs.map D.int),.int 0,.int 0,.int 0,.int (cs.sum%2147483647)]]:=by
  unfold oh;rw[dw];show toR (a04 [some (.scr (ns.map D.int)),none] [])=_;unfold a04;refine etr (jr z2) ?_;have su:auh [.rol (cs.map D.int)] []=.ok (.int cs.sum) []:=by unfold auh;simp only[ints_map]
  exact aU toR (nq (b1w (ue (bc rfl) (ue ckk (ue ckk (ue ckk (ue (kj (p7 (bc rfl) su) ckk (a88 (by decide))) rfl))))) rfl))
 have P:Src (.lst [.rol (cs.map D.int),.int 0,.int 0,.int 0,.int (cs.sum%2147483647)]) 0:=⟨cs,0,0,0,_,rfl,by decide,by decide,eh _ (by decide),dA _ (by decide),by decide,by decide⟩
 exact⟨_,P,aur rfl (by simpa[MI.clo] using (dj λx _=>dg x:clos 0 (ns.map D.int))) e rfl P.clo h⟩
noncomputable def cj:SF:=km zj 1
theorem a6d:Pu cj 0 [] (.str (S sig)):=HND.a6d
noncomputable def iu:SF:=km (a05 aa cj) 5
theorem ao9{a b:List Nat}(l:a.length+b.length<=LINE):a1x (.str (S a)) (.str (S b)) h=.ok (.str (S (a++b))) h:=by
 have:=afe (h:=h) l
 simpa[a1x,ie,b0x] using this
theorem aw5(e:f τ h=.ok (.int i) h1):oS f τ h=.ok (some i) h1:=by unfold oS;rw[e];rfl
theorem aw6(e:f τ h=.ok d h1)(e1:lo τ h1=.ok a h2)(e2:hi τ h2=.ok b h3)(e3:abr d a b h3=.ok v h4):yp f lo hi τ h=.ok v h4:=by
 unfold yp;rw[e,bf,e1,bf,e2,bf,e3]
theorem aii(P:Src o N)(hN:N<=999999000):∃l o',Tongue l/\Dr iu 1 [] o (.str (S l)) o'/\Src o' (N+7):=by
 obtain⟨r0,o1,e1,r0a,r0b,P1⟩:=iw (m:=6) P (by omega) (by decide) (by decide)
 have lo:=nu (g:=kN 3) (b:=zp aa cj) (λi:Nat=>D.int (0+(i:Nat)))
  (λpre τ h=>∃(aF told:List Nat) (u:O) (t3 t4:Option D),τ=[some (.ref 0),some (.str (S aF)),some (.str (S told)),t3,t4]/\h=[u]/\Src u (N+1+pre.length)/\told.length=pre.length/\(told++aF).length=95/\(told++aF).Nodup/\∀c∈told++aF,c∈sig)
  (List.range (1+r0).toNat) [some (.ref 0),some (.str (S sig)),some (.str (S [])),none,none] [o1] ?_
  ⟨sig,[],o1,none,none,rfl,rfl,P1,rfl,by simp[a9n],by simpa using ao7,by simp⟩
 ·obtain⟨τ',h',e2,aF,told,u,t3,t4,rfl,rfl,P2,l1,l2,nd,sb⟩:=lo;rw[aX]at P2 l1;have T:Tongue told:=⟨by omega,by omega,(cB.mp nd).1,λc hc=>sb c (cS _ hc)⟩
  refine⟨told,u,T,Dr.of rfl (by simp) P.clo (r:=.ok (.str (S told)) [u]) ?_ (jy (jc _) (by simpa using n6 (by omega) P2.clo)) (jc _) P2.clo,P2.up (by omega)⟩
  unfold iu;rw[dw];show toR (a05 aa cj [some (.ref 0),none,none,none,none] [o])=_;unfold a05;have c2:gq false 2 aa [.ref 0,.int 6] [o]=.ok (.int r0) [o1]:=e1 0 [o] rfl;have bd:B62 (1+r0):=by unfold B62;omega
  refine ets (azr (a6d _)) ?_;refine etr (jr ckk) ?_;have it:sRg yt (ak (s2 ie (sI 1) (sA (gq false 2 aa) (ak (sV 0) (ak (sI 6) bu)))) bu) [some (.ref 0),some (.str (S sig)),some (.str ""),none,none] [o]=.ok ⟨rng 0 (1+r0).toNat,λ_=>True⟩ [o1]:=by
   unfold sRg;rw[arg1 (kj ckk (kh (bc rfl) ckk c2) u5),bf];exact aO bd
  refine etr (a3k it) ?_;refine aH (aU (λz=>toR (MI.thn z _)) e2) ?_;exact aU toR (nq (bc rfl))
 ·rintro pre i post τ h all ⟨aF,told,u,t3,t4,rfl,rfl,P2,l1,l2,nd,sb⟩
  have aG:pre.length<(1+r0).toNat:=by
   have:=aU List.length all
   simp at this;omega
  rw[ah]at l2;obtain⟨r,u',e2,ra,rb,P3⟩:=iw (m:=(aF.length:Nat)) P2 (by omega) (by omega) (by omega)
  obtain⟨j,rfl⟩:=ay ra;have hj:j<aF.length:=by omega
  have gx:aF[j]? = some aF[j]:=ae hj;have pp:=aid told aF j aF[j] gx;refine⟨_,_,rfl,_,_,?_,aF.take j++aF.drop (j+1),told++[aF[j]],u',some (.int (0+(i:Nat))),some (.int (j:Nat)),rfl,rfl,by simpa[Nat.add_assoc] using P3,by simp[l1],?_,pp.nodup_iff.mp nd,λc hc=>sb c (pp.mem_iff.mpr hc)⟩
  ·unfold zp;have L:∀n:Nat,n<=95->n<=LINE:=λn hn=>by show n<=16777216;omega
   have c2:=e2 0 [u] rfl;have x1:∀h,gIx (.str (S aF)) (.int (j:Nat)) h=.ok (.str (S [aF[j]])) h:=λh=>av7 (L _ (by omega)) gx
   have x2:∀h,qu [.str (S aF)] h=.ok (.int aF.length) h:=λh=>a9g (L _ (by omega))
   have x3:∀h,a1x (.str (S told)) (.str (S [aF[j]])) h=.ok (.str (S (told++[aF[j]]))) h:=λh=>ao9 (L _ (by simp;omega))
   have x4:∀h,abr (.str (S aF)) none (some (j:Int)) h=.ok (.str (S (aF.take j))) h:=λh=>ao4 j (L _ (by omega))
   have x5:∀h,abr (.str (S aF)) (some ((j:Int)+1)) none h=.ok (.str (S (aF.drop (j+1)))) h:=λh=>ai3 (j+1) (L _ (by omega))
   have x6:∀h,ie (.str (S (aF.take j))) (.str (S (aF.drop (j+1)))) h=.ok (.str (S (aF.take j++aF.drop (j+1)))) h:=λh=>afe (L _ (by simp;omega))
   have c2:gq false 2 aa [.ref 0,.int (aF.length:Nat)] [u]=.ok (.int (j:Nat)) [u']:=c2;refine aH (jr (kh (bc rfl) (p7 (bc rfl) (x2 _)) c2)) ?_;refine aH (u9 (am4 rfl (kj (bc rfl) (bc rfl) (x1 _)) (x3 _))) ?_;exact acq (kj (aw6 (bc rfl) rfl (aw5 (bc rfl)) (x4 _)) (aw6 (bc rfl) (aw5 (a01 rfl u5)) rfl (x5 _)) (x6 _))
  ·rw[<-pp.length_eq];simpa using l2
end SRC
namespace HND
open L2 MI AT
theorem aee{ck:Hd->Prop}{g:SG}{b:SS}{α:Type}(f:α->D)(I:List α->Sd->Hd->Prop)(c:∀pre τ h,I pre τ h->ck h):∀(xs pre:List α) (τ:Sd) (h:Hd),
  (∀pre' x post τ h,pre++xs=pre'++x::post->I pre' τ h->∃τ1 h1,g (f x) τ h=.nx τ1 h1/\∃τ2 h2,b τ1 h1=.nx τ2 h2/\I (pre'++[x]) τ2 h2)->I pre τ h->∃τ' h',forL ck g b (xs.map f) τ h=.nx τ' h'/\I (pre++xs) τ' h'
 |[],pre,τ,h,_,i0=>⟨τ,h,by rw[e9,forL,aO (c _ _ _ i0)],by simpa using i0⟩
 |x::xs,pre,τ,h,st,i0=>by
  obtain⟨τ1,h1,e1,τ2,h2,e2,i2⟩:=st pre x xs τ h rfl i0;obtain⟨τ',h',e3,i3⟩:=aee f I c xs (pre++[x]) τ2 h2 (λpre' y post τ h e=>st pre' y post τ h (by simpa using e)) i2
  refine⟨τ',h',?_,by simpa using i3⟩
  rw[bI,forL,aO (c _ _ _ i0),e1];dsimp only;rw[e2];exact e3
theorem uf(h:List.range k=pre++i::post):i=pre.length/\i<k:=by
 have h1:=aU (λl=>l[pre.length]?) h;have h2:=aU List.length h;simp at h1 h2;have:pre.length<k:=by omega
 rw[cy this]at h1;simp at h1;omega
abbrev KOk(k:Int):Prop := -1<=k/\k<=5
abbrev bj(i:Nat):D:=.int (i:Nat)
theorem iz(l:List Nat):clos k (l.map bj):=dj λx _=>dg _
abbrev m8(r:List Nat):D:=.tup (r.map bj)
abbrev abt(s n:Nat)(r:List Nat):Prop:=r.length=s/\∀x∈r,x<n
structure Table where
 tg:List Nat
 go:List (List Nat)
 ks:List Int
def Table.d(T:Table):D:=.tup [.str (S T.tg),.tup (T.go.map m8),.tup (T.ks.map D.int)]
structure Table.Ok (T:Table):Prop where
 tong:Tongue T.tg
 n1:1<=T.go.length
 n32:T.go.length<=32
 row:∀r∈T.go,abt T.tg.length T.go.length r
 kl:T.ks.length=T.go.length
 k0:T.ks[0]? = some (-1)
 kk:∀k∈T.ks,KOk k
theorem Table.clo{T:Table}:clo 0 T.d:=my (g8 (jc _) (g8 (my (dj λx _=>my (iz _))) (g8 (my (dj λx _=>dg x)) mj)))
end HND
namespace MI
open L2
theorem a7c{R:PyData->Prop}:∀{ws:List D},(∀d∈ws,∃q,toPy d=some q/\R q)->∃qs,ab0 ws=some qs/\qs.length=ws.length/\∀q∈qs,R q
 |[],_=>⟨[],rfl,rfl,by simp⟩
 |d::ws,h=>by
  obtain⟨q,e,r⟩:=h d aQ;obtain⟨qs,es,l,rs⟩:=a7c λx hx=>h x (aK _ hx);refine⟨q::qs,by simp only[ab0,e,es],by simp[l],λx hx=>?_⟩
  rcases aR.mp hx with rfl|hx
  ·exact r
  ·exact rs x hx
theorem a9o:∀{ws:List D},(∀d∈ws,noL d=true)->as9 ws=true
 |[],_=>rfl
 |d::ws,h=>by
  show(noL d && as9 ws)=true;rw[h d aQ,a9o λx hx=>h x (aK _ hx)];rfl
theorem a4l:∀{qs:List PyData},(∀q∈qs,q.showable=true)->PyData.showableAll qs=true
 |[],_=>rfl
 |d::ws,h=>by
  show(PyData.showable d && PyData.showableAll ws)=true;rw[h d aQ,a4l λx hx=>h x (aK _ hx)];rfl
theorem a4m:∀{qs:List PyData},(∀q∈qs,q.hasDict=false)->PyData.hasDictAll qs=false
 |[],_=>rfl
 |d::ws,h=>by
  show(PyData.hasDict d || PyData.hasDictAll ws)=false
  rw[h d aQ,a4m λx hx=>h x (aK _ hx)];rfl
theorem a2j:∀{qs:List PyData},(∀q∈qs,q.depth<=k)->PyData.depthAll qs<=k
 |[],_=>bq _
 |d::ws,h=>by
  have h1:=h d aQ;have h2:=a2j (k:=k) (qs:=ws) λx hx=>h x (aK _ hx);simp only[PyData.depthAll];omega
theorem a4n:∀{qs:List PyData},(∀q∈qs,q.shown.length<=k)->piled (PyData.shownAll qs)<=qs.length*(k+2)
 |[],_=>bq _
 |d::ws,h=>by
  have h1:=h d aQ;have h2:=a4n (k:=k) (qs:=ws) λx hx=>h x (aK _ hx);have e:piled (PyData.shownAll (d::ws))=d.shown.length+2+piled (PyData.shownAll ws):=by
   simp[PyData.shownAll,piled]
  rw[e,bB,Nat.add_mul,Nat.one_mul];omega
theorem aij(ts:List Str):(Str.join ", " ts).length<=piled ts:=by
 cases ts with
 |nil=>exact bq _
 |cons t ts=>have:=join_length_add (t::ts) (by simp);omega
theorem a5u(ts:List Str):(tupleText ts).length<=piled ts+3:=by
 have:=aij ts
 unfold tupleText;rw[ff,ff];have e1:("(" : Str).length=1:=rfl;have e2:(Str.ofString (if ts.length == 1 then ",)" else ")")).length<=2:=by split<;>decide
 omega
theorem a7d(ts:List Str):(listText ts).length<=piled ts+2:=by
 have:=aij ts
 rw[listText_eq_join,ff,ff];have e1:("[" : Str).length=1:=rfl;have e2:("]" : Str).length=1:=rfl;omega
structure Sm (d:D) (q:PyData):Prop where
 sh:q.showable=true
 dp:q.depth<=2
 ln:q.shown.length<=4000
theorem aw7{ws:List D}(wl:ws.length<=100)(h:(∀d∈ws,∃q,toPy d=some q/\Sm d q)/\((∀d∈ws,noL d=true)\/∀d∈ws,∀q,toPy d=some q->q.hasDict=false)):∃q,toPy (.tup ws)=some q/\okR (.tup ws) q:=by
 obtain⟨qs,e,l,rs⟩:=a7c (R:=λq=>q.showable=true/\q.depth<=2/\q.shown.length<=4000) λd hd=>let ⟨q,e,s⟩:=h.1 d hd; ⟨q,e,s.sh,s.dp,s.ln⟩;refine⟨.tuple qs,by simp only[toPy,e,dO],λz=>?_,a4l λq hq=>(rs q hq).1,?_,?_⟩
 ·rcases h.2 with a|a
  ·exact a9o a
  ·exfalso
   obtain⟨qs',e',l',rs'⟩:=a7c (R:=λq=>q.hasDict=false) λd hd=>let ⟨q,e,_⟩:=h.1 d hd; ⟨q,e,a d hd q e⟩;rw[e]at e'
   cases e'
   have:PyData.hasDict (.tuple qs)=false:=a4m rs'
   rw[this]at z;cases z
 ·have:=a2j (k:=2) λq hq=>(rs q hq).2.1
  simp only[PyData.depth];omega
 ·have h1:=a4n (k:=4000) λq hq=>(rs q hq).2.2;have h2:=a5u (PyData.shownAll qs);show(tupleText (PyData.shownAll qs)).length<=16777216;have:qs.length*(4000+2)<=100*4002:=fh (by omega) (by omega)
  omega
theorem aw8{ws:List D}(wl:ws.length<=100)(h:(∀d∈ws,∃q,toPy d=some q/\Sm d q)/\∀d∈ws,∀q,toPy d=some q->q.hasDict=false):∃q,toPy (.rol ws)=some q/\okR (.rol ws) q:=by
 obtain⟨qs,e,l,rs⟩:=a7c (R:=λq=>(q.showable=true/\q.depth<=2/\q.shown.length<=4000)/\q.hasDict=false) λd hd=>let ⟨q,e,s⟩:=h.1 d hd; ⟨q,e,⟨s.sh,s.dp,s.ln⟩,h.2 d hd q e⟩;refine⟨.list qs,by simp only[toPy,e,dO],λz=>?_,a4l λq hq=>(rs q hq).1.1,?_,?_⟩
 ·have:PyData.hasDict (.list qs)=false:=a4m λq hq=>(rs q hq).2
  rw[this]at z;cases z
 ·have:=a2j (k:=2) λq hq=>(rs q hq).1.2.1
  simp only[PyData.depth];omega
 ·have h1:=a4n (k:=4000) λq hq=>(rs q hq).1.2.2;have h2:=a7d (PyData.shownAll qs);show(listText (PyData.shownAll qs)).length<=16777216;have:qs.length*(4000+2)<=100*4002:=fh (by omega) (by omega)
  omega
end MI
namespace PAP
open L2 MI AT HND
def Pln:D->Prop
 |.non=>True|.bl _=>True|.int _=>True|.str x=>x.cps.toList.length<=1000|.tup xs=>clos 0 xs|.rol xs=>clos 0 xs|.rod _ xs=>clos 0 xs|_=>False
def isTup:D->Bool|.tup _=>true|_=>false
theorem ab9(p:Pln d):jz [d,.ty "tuple"] h=.ok (.bl (isTup d)) h:=by
 cases d<;>first|(simp only[Pln]at p;done)|simp[jz,aa1,tyD,a7z,isTup]
theorem afz(l:List Nat)(h:Hd):agv (.str (S l)) h=.ok ⟨l.map λc=>.str (S [c]),λ_=>True⟩ h:=by
 show R.ok (⟨a0s (S l),λ_=>True⟩:Itm) _=_;unfold a0s;rw[a4f]
theorem aik(e:f τ h=.ok (.bl false) h1):a0y f k τ h=.ok (.bl false) h1:=by unfold a0y;rw[e,bf]
theorem ail(bs:List Bool)(h:Hd):ah9 [.rol (bs.map D.bl)] h=.ok (.bl (bs.all id)) h:=by
 unfold ah9;simp only[adq]
theorem aef(e:f τ h=.ok (.int i) h1):oS f τ h=.ok (some i) h1:=by unfold oS;rw[e];rfl
theorem afl(e:f τ h=.ok d h1)(e1:lo τ h1=.ok a h2)(e2:hi τ h2=.ok b h3)(e3:abr d a b h3=.ok v h4):yp f lo hi τ h=.ok v h4:=by
 unfold yp;rw[e,bf,e1,bf,e2,bf,e3]
theorem axm(xs:List D)(lo hi:Option Int)(h:Hd):abr (.tup xs) lo hi h=.ok (.tup (a6s xs lo hi)) h:=by
 unfold abr;dsimp only
 split
 ·rename_i w;obtain⟨a,b⟩:=w
  congr 2
  unfold a6s;rw[a,b,gT,bM (by omega)]
 ·rfl
theorem b09(xs:List D)(k:Nat)(h:Hd):abr (.tup xs) none (some (k:Int)) h=.ok (.tup (xs.take k)) h:=by rw[axm,abz]
theorem aeg(xs:List D)(k:Nat)(h:Hd):abr (.tup xs) (some (k:Int)) none h=.ok (.tup (xs.drop k)) h:=by rw[axm,aae]
theorem amb{xs ys:List D}(z:xs.length+ys.length<=1000000):ie (.tup xs) (.tup ys) h=.ok (.tup (xs++ys)) h:=by
 cases xs with
 |nil=>rfl
 |cons x xs =>
  show(if (x::xs).length+ys.length<=LINE then R.ok (D.tup (x::xs++ys)) h else .no)=_
  rw[aO (dh z)]
theorem aim:MI.ur [a] h=.ok (.tup [a]) h:=by unfold MI.ur;rw[aO (dh (by simp))]
theorem b1x:MI.ur [] h=.ok (.tup []) h:=by unfold MI.ur;rw[aO (dh (by simp))]
theorem ue(e:f τ h=.ok d h1)(e2:k τ h1=.ok ds h2):ak f k τ h=.ok (d::ds) h2:=by
 unfold ak;rw[e,bf,e2,bf]
theorem aof(e:k τ h=.ok ds h1)(e2:G ds h1=.ok v h2):sA G k τ h=.ok v h2:=by
 unfold sA;rw[e,bf,e2]
theorem aoa{h h':Hd}(hl:h'.length=h.length)(e:f τ h=.ok (.ref h'.length) (h'++[.lst xs]))(cx:clos h.length xs)(c:∀o∈h',a0j h.length o):sZ f τ h=.ok (.rol xs) h':=by
 unfold sZ;rw[e,a4e (by omega) (by simp) cx (by rw[<-hl];simpa[hl] using c)]
 rw[<-hl];simp
end PAP
def cns:=@PAP.ue
namespace SRC
open L2 MI AT HND EVX
theorem b1y(c:x<=y):gLe (.int x) (.int y) h=.ok (.bl true) h:=by
 show R.ok (D.bl (decide (x<=y))) h=_;rw[bL c]
theorem b1z(c:¬ x<=y):gLe (.int x) (.int y) h=.ok (.bl false) h:=by
 show R.ok (D.bl (decide (x<=y))) h=_;rw[bp c]
theorem az2(e1:c τ h=.ok true h1)(e2:f τ h1=r):af6 c f g τ h=r:=by unfold af6;rw[e1,bf,aO rfl];exact e2
theorem axn(e1:c τ h=.ok false h1)(e2:g τ h1=r):af6 c f g τ h=r:=by unfold af6;rw[e1,bf,bE (by simp)];exact e2
abbrev a0o(r:List Nat):D:=.rol (r.map bj)
abbrev HR(u:O)(ks:List Int)(rows:List (List Nat)):Hd:=[u,.lst (ks.map D.int),.lst (rows.map a0o)]
abbrev τR(tg:List Nat)(n:Nat)(i m:Option D)(r:Option D):Sd:=[some (.ref 0),some (.str (S tg)),some (bj n),some (.ref 1),i,m,some (.ref 2),r]
theorem aob(P:Src u N)(k:Nat):∀o∈HR u ks rows,a0j k o:=by
 intro o ho
 simp only[aR,bg,cE]at ho
 rcases ho with rfl|rfl|rfl
 ·exact n6 (bq _) P.clo
 ·exact n6 (bq _) (dj λx _=>dg x)
 ·exact n6 (bq _) (dj λx _=>jq (iz _))
theorem ain{tg:List Nat}(P:Src u N)(hN:N<=999999000)(t6:tg.length<=6)(n1:1<=n)(n32:n<=32) :
  ∃(u':O) (row:List Nat),abt tg.length n row/\Src u' (N+6)/\sZ (jk (sIt (sV 1)) t1 (qg aa) [0,2]) (τR tg n i m r) (HR u ks rows)=.ok (a0o row) (HR u' ks rows):=by
 have mp:=a9a (f:=a7i t1 (qg aa) (frs' [0,2] (τR tg n i m r))) (λc:Nat=>D.str (S [c]))
  (λpre ys h=>∃(u':O) (row:List Nat),h=HR u' ks rows/\Src u' (N+pre.length)/\ys=row.map bj/\row.length=pre.length/\∀x∈row,x<n)
  tg [] [] (HR u ks rows) ?_ ⟨u,[],rfl,P,rfl,rfl,by simp⟩
 ·obtain⟨zs,h',em,u',row,rfl,P',ez,rl,rx⟩:=mp;rw[cV]at ez rl P';subst ez;refine⟨u',row,⟨rl,rx⟩,P'.up (by omega),?_⟩
  refine PAP.aoa rfl ?_ (iz _) (aob P' _);unfold jk;rw[a6a (bc rfl) (PAP.afz tg _),bf];dsimp only;rw[aO (by rw[ai];exact dh (by omega)),em]
  rfl
 ·rintro pre c post ys h all ⟨u',row,rfl,P',rfl,rl,rx⟩
  rw[cV]at all;have pl:pre.length<tg.length:=by rw[all];simp
  obtain⟨x,u2,e,x0,x1,P2⟩:=iw (m:=(n:Nat)) P' (by omega) (by omega) (by omega)
  obtain⟨j,rfl⟩:=ay x0;have c1:gq false 2 aa [.ref 0,bj n] (HR u' ks rows)=.ok (bj j) (HR u2 ks rows):=e 0 _ rfl;refine⟨bj j,HR u2 ks rows,?_,u2,row++[j],rfl,P2.up (by rw[ah,av];omega),by rw[bA];rfl,by rw[ah,ah,av,av,rl],λy hy=>?_⟩
  ·rw[u6];unfold qg;exact kh (bc rfl) (bc rfl) c1
  ·rcases bo.mp hy with z|z
   ·exact rx y z
   ·rw[aw]at z;subst z;omega
theorem aio{row:List Nat}(P:Src u N)(rl:row.length<=100)(fx:∀x,x∈row->fe (some (bj x)::frs' ix (τR tg n i m (some (a0o row)))) (HR u ks rows)=.ok (bj (f x)) (HR u ks rows)) :
  sZ (jk (sIt (sV 7)) t1 fe ix) (τR tg n i m (some (a0o row))) (HR u ks rows)=.ok (a0o (row.map f)) (HR u ks rows):=by
 unfold a0o;rw[bP];refine a1c (qe bj (bj ∘ f) row (a6a (bc rfl) rfl) (dh (by omega)) λx hx=>?_) (dj λy _=>dg _) (aob P _)
 rw[u6];exact fx x hx
theorem afm{tg:List Nat}{ks:List Int}{rows:List (List Nat)}(P:Src u N)(hN:N<=999999000)(t6:tg.length<=6)(n1:1<=n)(n32:n<=32)(lk:ks.length=n)(hi:i<n)(lr:rows.length<=100) :
  ∃(u':O) (row:List Nat) (r':Option D),abt tg.length n row/\Src u' (N+6)/\qi aa (τR tg n (some (bj i)) (some (.int m)) r) (HR u ks rows)=.nx (τR tg n (some (bj i)) (some (.int m)) r') (HR u' ks (rows++[row])):=by
 obtain⟨u',row,⟨l1,x1⟩,P',e1⟩:=ain (i:=some (bj i)) (m:=some (.int m)) (r:=r) (ks:=ks) (rows:=rows) P hN t6 n1 n32;have fin:∀row:List Nat,uw (sML a5o (sV 6) (ak (sV 7) bu)) (τR tg n (some (bj i)) (some (.int m)) (some (a0o row))) (HR u' ks rows)=.nx (τR tg n (some (bj i)) (some (.int m)) (some (a0o row))) (HR u' ks (rows++[row])):=λrow=>by
  unfold HR;rw[bA];exact a06 (bc rfl) rfl (arg1 (bc rfl)) (a07 (xs:=rows.map a0o) rfl (by rw[ai];exact a08 (by omega)))
 have third:∀row:List Nat,abt tg.length n row->∃row',abt tg.length n row'/\dm (sIf (a7s (sT (s2 hEq (sV 5) (sI 1))) (sT (s2 hEq (sV 4) (s2 a9z (sV 2) (sI 1)))))
   (j9 7 (sZ (jk (sIt (sV 7)) t1 (ux aa) [4]))) sNx) (uw (sML a5o (sV 6) (ak (sV 7) bu))) (τR tg n (some (bj i)) (some (.int m)) (some (a0o row))) (HR u' ks rows)=.nx (τR tg n (some (bj i)) (some (.int m)) (some (a0o row'))) (HR u' ks (rows++[row'])):=λrow ⟨l2,x2⟩=>by
  by_cases h1:m=1
  ·by_cases h2:(i:Int)=(n:Int)-1
   ·refine⟨row.map λ_=>i,⟨by rw[ai,l2],λx hx=>by obtain⟨_,_,rfl⟩:=bG.mp hx;exact hi⟩,?_⟩
    refine aH (u9 (aH (ifT (ao5 (tvc rfl (a2b h1)) (t2s (bc rfl) (a01 rfl (a89 _ _)) (a2b h2)))) (acq (aio (f:=λ_=>i) P' (by omega) λx _=>by unfold ux;exact bc rfl)))) ?_
    exact fin _
   ·refine⟨row,⟨l2,x2⟩,?_⟩;refine aH (ifN (ao5 (tvc rfl (a2b h1)) (t2s (bc rfl) (a01 rfl (a89 _ _)) (yx h2)))) ?_;exact fin _
  ·refine⟨row,⟨l2,x2⟩,?_⟩;refine aH (ifN (axj (tvc rfl (yx h1)))) ?_;exact fin _
 unfold qi
 by_cases h0:0<m
 ·let g:Nat->Nat:=λx=>if (ks[x]?).getD 0<0/\x<=i then n-1 else x
  have gl:abt tg.length n (row.map g):=⟨by rw[ai,l1],λx hx=>by
   obtain⟨y,hy,rfl⟩:=bG.mp hx;have:=x1 y hy;show(if _ then n-1 else y)<n
   split
   ·exact Nat.sub_lt (by omega) (by decide)
   ·exact this⟩
  obtain⟨row',q,e3⟩:=third _ gl;refine⟨u',row',some (a0o row'),q,P',?_⟩;refine aH (jr e1) ?_;refine aH (u9 (aH (ifT (tvc rfl (ayz h0))) (acq (aio (f:=g) P' (by omega) λx hx=>?_)))) ?_
  ·unfold xn;have hx':=x1 x hx;have kx:ks[x]? = some ((ks[x]?).getD 0):=by rw[ae (by omega)];rfl
   have ki:∀h:Hd,h[1]? = some (.lst (ks.map D.int))->gIx (.ref 1) (bj x) h=.ok (.int ((ks[x]?).getD 0)) h:=λh hh=>a2x hh (by rw[aM,kx];rfl)
   have sb:s2 a9z (sV 1) (sI 1) (some (bj x)::frs' [2,3,4] (τR tg n (some (bj i)) (some (.int m)) (some (a0o row)))) (HR u' ks rows)=.ok (bj (n-1)) (HR u' ks rows) :=
    (a01 rfl (a89 _ _)).trans (by show R.ok (D.int ((n:Int)-1)) _=R.ok (D.int ((n-1:Nat):Int)) _;congr 2;omega)
   by_cases hk:(ks[x]?).getD 0<0
   ·by_cases hx:x<=i
    ·show _=R.ok (bj (if _ then n-1 else x)) _
     rw[aO ⟨hk,hx⟩];exact az2 (ao5 (t2s (kj (bc rfl) (bc rfl) (ki _ rfl)) ckk (am5 hk)) (t2s (bc rfl) (bc rfl) (b1y (by omega)))) sb
    ·show _=R.ok (bj (if _ then n-1 else x)) _
     rw[bE λz=>hx z.2];exact axn (ao5 (t2s (kj (bc rfl) (bc rfl) (ki _ rfl)) ckk (am5 hk)) (t2s (bc rfl) (bc rfl) (b1z (by omega)))) (bc rfl)
   ·show _=R.ok (bj (if _ then n-1 else x)) _
    rw[bE λz=>hk z.1];exact axn (axj (t2s (kj (bc rfl) (bc rfl) (ki _ rfl)) ckk (afj hk))) (bc rfl)
  ·exact e3
 ·obtain⟨row',q,e3⟩:=third _ ⟨l1,x1⟩;refine⟨u',row',some (a0o row'),q,P',?_⟩;refine aH (jr e1) ?_;refine aH (ifN (tvc rfl (aqz h0))) ?_;exact e3
theorem aip:a1q 1 (HR u ks rows) FU (.tup [.ref 2,.ref 1])=some (.tup [.rol (rows.map a0o),.rol (ks.map D.int)]):=by
 have oc:∀{k:Nat} {d d':D} {ds ds':List D},a1q 1 (HR u ks rows) k d=some d'->a00 (a1q 1 (HR u ks rows) k) ds=some ds'->a00 (a1q 1 (HR u ks rows) k) (d::ds)=some (d'::ds'):=λe1 e2=>by unfold a00;rw[e1,e2]
 refine a99 (k:=19) (oc (a4d (k:=17) (by omega) rfl (dj λx _=>jq (iz _))) (oc (a4d (k:=17) (by omega) rfl (dj λx _=>dg x)) rfl)) ?_
 intro z
 have:=qw.mp z (.ref 2) aQ
 simp only[MI.clo]at this;omega
noncomputable abbrev aoc(L0:SS):SS :=
 (dm (j9 3 (sA a1u (ak (s1 a5v (sI 1)) bu)))
 (dm (a2u (sRg a7h (ak (sI 1) (ak (sV 2) bu))) (kN 4) L0)
 (dm (j9 5 (sA (gq false 2 aa) (ak (sV 0) (ak (sI 3) bu))))
 (dm (j9 6 (sA a1u bu))
 (dm (a2u (sRg yt (ak (sV 2) bu)) (kN 4) (qi aa))
 (sr (sA ur (ak (sV 6) (ak (sV 3) bu)))))))))
theorem aiq{L0:SS}{tg:List Nat}(hk0:∀{u:O} {ks:List Int} {M:Nat} (x:Option D),Src u M->M<=999999000->ks.length<=100->∃(u':O) (k:Int),L0 [some (.ref 0),some (.str (S tg)),some (bj n),some (.ref 1),x,none,none,none] [u,.lst (ks.map D.int)]=.nx [some (.ref 0),some (.str (S tg)),some (bj n),some (.ref 1),x,none,none,none] [u',.lst ((ks++[k]).map D.int)]/\Src u' (M+2)/\KOk k)(P:Src o N)(hN:N<=999990000)(t6:tg.length<=6)(n1:1<=n)(n32:n<=32) :
  ∃(ks:List Int) (rows:List (List Nat)) (o':O),ks.length=n/\ks[0]? = some (-1)/\(∀k∈ks,KOk k)/\rows.length=n/\(∀r∈rows,abt tg.length n r) /\
   Dr (km (aoc L0) 8) 3 [.str (S tg),bj n] o (.tup [.rol (rows.map a0o),.rol (ks.map D.int)]) o'/\Src o' (N+300):=by
 have lo:=nu (g:=kN 4) (b:=L0) (λi:Nat=>D.int ((1+i:Nat)))
  (λpre τ h=>∃(u:O) (ks:List Int) (t4:Option D),τ=[some (.ref 0),some (.str (S tg)),some (bj n),some (.ref 1),t4,none,none,none]/\h=[u,.lst (ks.map D.int)]/\Src u (N+2*pre.length)/\ks.length=1+pre.length/\ks[0]? = some (-1)/\∀k∈ks,KOk k)
  (List.range (n-1)) [some (.ref 0),some (.str (S tg)),some (bj n),some (.ref 1),none,none,none,none] [o,.lst ([-1].map D.int)] ?_
  ⟨o,[-1],none,rfl,rfl,P,rfl,rfl,by intro k hk;rw[aw]at hk;subst hk;decide⟩
 ·obtain⟨τ',h',e1,u,ks,t4,rfl,rfl,P1,l1,k0,kk⟩:=lo;rw[aX]at P1 l1;obtain⟨m,u1,e2,m0,m1,P2⟩:=iw (m:=3) P1 (by omega) (by omega) (by omega)
  have c2:gq false 2 aa [.ref 0,.int 3] [u,.lst (ks.map D.int)]=.ok (.int m) [u1,.lst (ks.map D.int)]:=e2 0 _ rfl;have lp:=nu (g:=kN 4) (b:=qi aa) (λi:Nat=>D.int (i:Nat))
   (λpre τ h=>∃(u':O) (rows:List (List Nat)) (i r:Option D),τ=τR tg n i (some (.int m)) r/\h=HR u' ks rows/\Src u' (N+100+6*pre.length)/\rows.length=pre.length/\∀r∈rows,abt tg.length n r)
   (List.range n) (τR tg n t4 (some (.int m)) none) (HR u1 ks []) ?_ ⟨u1,[],_,_,rfl,rfl,P2.up (by omega),rfl,by simp⟩
  ·obtain⟨τ',h',e3,u',rows,i,r,rfl,rfl,P3,lr,rr⟩:=lp;rw[aX]at P3 lr;have ca:MI.clo 0 (.tup [.rol (rows.map a0o),.rol (ks.map D.int)]):=my (g8 (jq (dj λx _=>jq (iz _))) (g8 (jq (dj λy _=>dg y)) mj));refine⟨ks,rows,u',by omega,k0,kk,lr,rr,Dr.of rfl ?_ P.clo (r:=.ok (.tup [.ref 2,.ref 1]) (HR u' ks rows)) ?_ (a5c aip (by intro x hx;rw[show List.take 1 (HR u' ks rows)=[u'] from rfl,aw]at hx;subst hx;exact n6 (by omega) P3.clo)) ca P3.clo,P3.up (by omega)⟩
   ·intro x hx
    simp only[aR,bg,cE]at hx
    rcases hx with rfl|rfl
    ·exact jc _
    ·exact dg _
   ·rw[dw];show toR (aoc L0 [some (.ref 0),some (.str (S tg)),some (bj n),none,none,none,none,none] [o])=_;refine etr (jr (d:=.ref 1) (h1:=[o,.lst ([-1].map D.int)]) rfl) ?_;refine etr (a3k (ai4 (a:=1) (n:=n) ckk (bc rfl) (dh (by omega)) (dh (by omega)))) ?_
    refine aH (aU (λz=>toR (MI.thn z _)) e1) ?_;rw[a0v];refine ets (kh (bc rfl) ckk c2) ?_;refine etr (jr (d:=.ref 2) (h1:=HR u1 ks []) rfl) ?_;refine etr (a3k (acp (n:=n) (bc rfl) (dh (by omega)))) ?_
    refine aH (aU (λz=>toR (MI.thn z _)) e3) ?_;rw[a0v];exact aU toR (nq (kh (bc rfl) (bc rfl) ao6))
  ·rintro pre i post τ h all ⟨u',rows,i',r,rfl,rfl,P3,lr,rr⟩
   obtain⟨hi,hk⟩:=uf all;obtain⟨u2,row,r',q,P4,e4⟩:=afm (i:=i) (m:=m) (r:=r) (ks:=ks) (rows:=rows) P3 (by omega) t6 n1 n32 (by omega) hk (by omega)
   refine⟨_,_,rfl,_,_,e4,u2,rows++[row],_,_,rfl,rfl,P4.up (by rw[ah,av];omega),by rw[ah,ah,av,av,lr],λx hx=>?_⟩
   rcases bo.mp hx with z|z
   ·exact rr x z
   ·rw[aw]at z;subst z;exact q
 ·rintro pre i post τ h all ⟨u,ks,t4,rfl,rfl,P2,l1,k0,kk⟩
  obtain⟨hi,hk⟩:=uf all;obtain⟨u',k,e3,P3,hk3⟩:=hk0 (ks:=ks) (some (.int ((1+i:Nat):Int))) P2 (by omega) (by omega)
  refine⟨_,_,rfl,_,_,e3,u',ks++[k],_,rfl,rfl,P3.up (by rw[ah,av];omega),by rw[ah,ah,av,av];omega,?_,λq hq=>?_⟩
  ·rw[aJ (by omega)];exact k0
  ·rcases bo.mp hq with h|h
   ·exact kk q h
   ·rw[aw]at h;subst h;exact hk3
end SRC
namespace BF
section
variable(s:Nat)(step:Nat->Nat->Nat)(K:Nat->Bool)
def fl:Nat->Nat->Bool
 |0,r=>K r
 |k+1,r=>(List.range s).any λc=>fl k (step r c)
variable{s step K}
end
theorem aeh:∀(n:Nat) (l:List Nat),l.Nodup->(∀x∈l,x<n)->l.length<=n
 |0,l,_,h=>by
  cases l with
  |nil=>exact aI _
  |cons x l=>exact absurd (h x aQ) (by omega)
 |n+1,l,nd,h=>by
  have:=aeh n (l.erase n) (nd.erase n) λx hx=>by
   have h1:=h x (List.mem_of_mem_erase hx);have h2:x≠n:=λz=>by subst z;exact(List.Nodup.not_mem_erase nd) hx
   omega
  have:=List.length_erase (a:=n) (l:=l)
  split at this<;>omega
end BF
namespace SRC
open L2 MI AT HND EVX
theorem b0a{ck:Hd->Prop}{f:D->Hd->R D}{α:Type}(g F:α->D){h:Hd}(c:ck h):∀{xs:List α},(∀x∈xs,f (g x) h=.ok (F x) h)->mapR ck f (xs.map g) h=.ok (xs.map F) h
 |[],_=>by rw[e9,mapR,aO c];rfl
 |x::xs,st=>by
  rw[bI,mapR,aO c,st x aQ];show(mapR _ f (xs.map g) h).bind _=_;rw[b0a g F c λy hy=>st y (aK _ hy)];rfl
theorem amc{fi:SI}{t:D->Option Sd}{fe:SE}{ix:List Nat}{τ:Sd}{h:Hd}{α:Type}{ck:Hd->Prop}(g F:α->D)(xs:List α)(c:ck h)(e:fi τ h=.ok ⟨xs.map g,ck⟩ h)(z:xs.length<=LINE)
  (st:∀x∈xs,a7i t fe (frs' ix τ) (g x) h=.ok (F x) h):jk fi t fe ix τ h=.ok (.ref h.length) (h++[.lst (xs.map F)]):=by
 unfold jk;rw[e,bf];dsimp only;rw[aO (by rw[ai];exact z),b0a g F c st]
 rfl
theorem ais{l:List Nat}:inD (bj x) (l.map bj)=decide (x∈l):=by
 unfold inD;rw[List.any_map]
 by_cases h:x∈l
 ·rw[bL h,List.any_eq_true];exact⟨x,h,by show((x:Int) == (x:Int))=true;simp⟩
 ·rw[bp h,List.any_eq_false]
  intro y hy
  have:x≠y:=λe=>h (e ▸ hy)
  show ¬ ((y:Int) == (x:Int))=true;rw[hR];omega
theorem aei{l:List Nat}(e:h[i]? = some (.lst (l.map bj))):gIn true (bj x) (.ref i) h=.ok (.bl (!decide (x∈l))) h:=by
 have fl:zy (bj x)=true/\(l.map bj).all zy=true:=⟨rfl,by
  rw[bN]
  intro y hy
  obtain⟨n,_,rfl⟩:=bG.mp hy
  rfl⟩
 unfold gIn a0q;simp only[e,aO fl,dR,ais]
abbrev cst(l:List Nat):List Int:=l.map λx:Nat=>(x:Int)
theorem ait(l:List Nat):l.map bj=(cst l).map D.int:=by unfold cst;rw[bP];rfl
theorem a8a{l:List Nat}(e:h[i]? = some (.lst (l.map bj))):a84 (.ref i) h=some (cst l):=by
 unfold a84;simp only[e];rw[ait,ints_map]
theorem afn(l:List Nat):∃m:List Nat,PySem.W.sortI (cst l)=cst m/\m.Perm l/\m.Pairwise (·<=·):=by
 have p:=PySem.W.sortI_perm (cst l);have s:=PySem.W.sortI_rises (cst l);refine⟨(PySem.W.sortI (cst l)).map Int.toNat,?_,?_,?_⟩
 ·unfold cst;rw[bP];have:∀x∈PySem.W.sortI (l.map λx:Nat=>(x:Int)),((λx:Nat=>(x:Int)) ∘ Int.toNat) x=x:=λx hx=>by
   have:=p.mem_iff.mp hx
   obtain⟨y,_,rfl⟩:=bG.mp this;simp
  rw[cZ this];simp
 ·have:=p.map Int.toNat
  have e:(cst l).map Int.toNat=l:=by
   unfold cst;rw[bP];exact(cZ λx _=>by simp).trans (List.map_id l)
  rwa[e]at this
 ·rw[List.pairwise_map];exact s.imp λh=>by omega
def pos(m:List Nat)(x:Nat):Nat:=(ixI (x:Int) (cst m)).getD 0
theorem aiu{m:List Nat}{x:Nat}(h:x∈m):ixI (x:Int) (cst m)=some (pos m x)/\pos m x<m.length:=by
 obtain⟨j,hj⟩:=adz (n:=(x:Int)) (l:=cst m) (bG.mpr ⟨x,h,rfl⟩);unfold pos;rw[hj];refine⟨rfl,?_⟩;have:=(af.mp (ady hj).1).1;simpa using this
structure Met (n:Nat) (met:List Nat):Prop where
 nd:met.Nodup
 lt:∀x∈met,x<n
 z:0∈met
theorem Met.len(M:Met n met):met.length<=n:=BF.aeh n met M.nd M.lt
theorem Met.add(M:Met n met)(hx:x<n)(h:x∉met):Met n (met++[x]):=by
 refine⟨?_,λy hy=>?_,cS _ M.z⟩
 ·rw[cB];refine⟨M.nd,by simp,λa ha b hb=>?_⟩
  rw[aw]at hb;subst hb;exact λe=>h (e ▸ ha)
 ·rcases bo.mp hy with z|z
  ·exact M.lt y z
  ·rw[aw]at z;subst z;exact hx
section
variable{A B C:SF}{most n:Nat}{tg:List Nat}{many:Int}{rows:List (List Nat)}{ks:List Int}
def Done(rows:List (List Nat))(met:List Nat)(i:Nat):Prop:=∀j,j<i->∀r,met[j]? = some r->∀x∈(rows[r]?).getD [],x∈met
end
theorem aiv{l:List Nat}(e:h[i]? = some (.lst (l.map bj)))(z:l.length<64)(em:PySem.W.sortI (cst l)=cst m):a3i [.ref i] h=.ok (.ref h.length) (h++[.lst (m.map bj)]):=by
 have q:=a8a e;unfold a3i;simp only[q];rw[aO (by unfold cst;rw[ai];exact z),em,<-ait]
theorem aiw{m:List Nat}(e:h[i]? = some (.lst (m.map bj)))(hx:x∈m):a74 (.ref i) [bj x] h=.ok (bj (pos m x)) h:=by
 have q:=a8a e;unfold a74;simp only[q,(aiu hx).1]
section
variable{A B C:SF}{most n:Nat}{tg:List Nat}{many:Int}{rows:List (List Nat)}{ks:List Int}
abbrev a9p(rows:List (List Nat))(m:List Nat):List (List Nat):=m.map λr=>((rows[r]?).getD []).map (pos m)
abbrev a8b(ks:List Int)(m:List Nat):List Int:=m.map λr=>(ks[r]?).getD 0
end
end SRC
namespace K21
open L2 MI
noncomputable def yj:SE :=
 (s2 (gIn false) (sV 0) (sV 1))
noncomputable def uy:SS :=
 (sr (a0y (sA jz (ak (sV 1) (ak (sC (.ty "str")) bu))) (sA ah9 (ak (sZ (jk (sIt (sV 1)) t1 yj [0])) bu))))
noncomputable def uo(lz:SF):SS :=
 (dm (sIf (a4r (a4q (sA (gq false 2 lz) (ak (sV 0) (ak (sV 1) bu)))))
 (ab3 "NoText" (ak (sC (.str "no text of the tongue")) bu))
 sNx)
 (sr (sV 1)))
end K21
namespace K23
open L2 MI
noncomputable def yj:SE :=
 (s2 (gIn false) (sV 0) (sV 1))
noncomputable def uy:SS :=
 (sr (a0y (sA jz (ak (sV 1) (ak (sC (.ty "str")) bu))) (sA ah9 (ak (sZ (jk (sIt (sV 1)) t1 yj [0])) bu))))
noncomputable def xj(jj:SF):SS :=
 (sr (s2 gIx (sA (gq false 3 jj) (ak (sV 0) (ak (sV 1) (ak (sV 2) bu)))) (s1 a5v (sI 1))))
noncomputable def qd:SS :=
 (uw (sML a5o (sV 6) (ak (s2 gIx (s2 gIx (sV 4) (s2 gIx (sV 6) (s1 a5v (sI 1)))) (sMS a80 (sV 3) (ak (sV 7) bu))) bu)))
noncomputable def um:SS :=
 (dm (abq (sV 0) (a7u 3 (o7 (kN 3) (o7 (kN 4) (o7 (kN 5) a8s)))))
 (dm (j9 6 (sA a1u (ak (sV 1) bu)))
 (dm (a2u (sIt (sV 2)) (kN 7) qd)
 (sr (sV 6)))))
end K23
namespace K22
open L2 MI AT HND
section
variable(T:Table)
def stp(r c:Nat):Nat:=(((T.go[r]?).getD [])[c]?).getD 0
def knd(r:Nat):Bool:=decide ((T.ks[r]?).getD (-1) ≠ -1)
def tgA(c:Nat):Nat:=(T.tg[c]?).getD 0
def sgn(w:List Nat):List Nat:=(w.reverse).map (tgA T)
end
section
variable{T:Table}(h:T.Ok)
theorem aod(h:T.Ok)(r c:Nat):stp T r c<T.go.length:=by
 have h1:=h.n1;unfold stp
 cases e:T.go[r]? with
 |none=>simp;omega
 |some row =>
  simp only[dU]
  cases e2:row[c]? with
  |none=>simp;omega
  |some x=>simp only[dU];exact(h.row row (aN e)).2 x (aN e2)
theorem a8c(h:T.Ok)(hr:r<T.go.length):∃row:List Nat,T.go[r]? = some row/\row.length=T.tg.length/\(∀x∈row,x<T.go.length)/\∀c,c<T.tg.length->row[c]? = some (stp T r c):=by
 refine⟨T.go[r],ae hr,(h.row _ (aY hr)).1,(h.row _ (aY hr)).2,λc hc=>?_⟩;have l:=(h.row _ (aY hr)).1;unfold stp;rw[ae hr,dU,ae (by omega),dU]
theorem arf(h:T.Ok)(hr:r<T.go.length):∃k:Int,T.ks[r]? = some k /\ -1<=k/\knd T r=decide (k ≠ -1):=by
 have l:r<T.ks.length:=by rw[h.kl];exact hr
 refine⟨T.ks[r],ae l,(h.kk _ (aY l)).1,?_⟩;unfold knd;rw[ae l,dU]
end
section
variable{T:Table}
theorem aw9(h:T.Ok)(hr:r<T.go.length):T.go[r]? = some ((List.range T.tg.length).map (stp T r)):=by
 obtain⟨row,e,l,_,at'⟩:=a8c h hr;rw[e]
 congr 1
 refine eF λi=>?_
 by_cases hi:i<T.tg.length
 ·rw[at' i hi,aM,cy hi];rfl
 ·rw[bQ (by omega),bQ (by simp;omega)]
theorem awa(h:T.Ok):T.go=(List.range T.go.length).map λr=>(List.range T.tg.length).map (stp T r):=by
 refine eF λi=>?_
 by_cases hi:i<T.go.length
 ·rw[aw9 h hi,aM,cy hi];rfl
 ·rw[bQ (by omega),bQ (by simp;omega)]
def kI(T:Table)(r:Nat):Int:=(T.ks[r]?).getD (-1)
abbrev az3(T:Table)(r:Nat):D:=m8 ((List.range T.tg.length).map (stp T r))
theorem acv{α:Type}(l:List α)(x:α):atI (l++[x]) (-1)=some x:=by
 have:ixN (l++[x]).length (-1)=some l.length:=by
  unfold ixN;rw[bE (by decide),ah,av]
  rw[aO (by omega)]
  congr 1
  omega
 unfold atI;rw[this];simp
end
section
variable{T:Table}
theorem aix(h:T.Ok)(hr:r<T.go.length)(hh:Hd):gIx (.tup (T.go.map m8)) (bj r) hh=.ok (az3 T r) hh:=a7a (by rw[aM,aw9 h hr];rfl)
end
end K22
namespace K23
open L2 MI AT HND K22
section
variable{T:Table}
def Pln:D->Prop
 |.non=>True|.bl _=>True|.int _=>True|.str x=>x.cps.toList.length<=1000|.tup xs=>clos 0 xs|.rol xs=>clos 0 xs|.rod _ xs=>clos 0 xs|_=>False
theorem Pln.clo(p:Pln d):clo 0 d:=by
 cases d<;>first|(simp only[Pln]at p;done)|(simp only[Pln]at p;simpa[MI.clo] using p)|simp[MI.clo]
def isStr:D->Bool|.str _=>true|_=>false
def isTup:D->Bool|.tup _=>true|_=>false
theorem awb(p:Pln d):jz [d,.ty "str"] h=.ok (.bl (isStr d)) h:=by
 cases d<;>first|(simp only[Pln]at p;done)|simp[jz,aa1,tyD,a7z,isStr]
theorem ab9(p:Pln d):jz [d,.ty "tuple"] h=.ok (.bl (isTup d)) h:=by
 cases d<;>first|(simp only[Pln]at p;done)|simp[jz,aa1,tyD,a7z,isTup]
theorem az4:jz [.bl b,.ty "bool"] h=.ok (.bl true) h:=by simp[jz,aa1,tyD,a7z]
def psn(T:Table)(c:Nat):Nat:=(a3r (S T.tg) c).toNat
def ldw(T:Table)(r:Nat):List Nat->Nat
 |[]=>r
 |c::l=>ldw T (stp T r (psn T c)) l
theorem a7e(hc:c∈T.tg):a3r (S T.tg) c=(psn T c:Nat)/\psn T c<T.tg.length:=by
 obtain⟨i,e1,e2,_⟩:=adb (T:=S T.tg) (c:=c) (by rw[a4f];exact hc)
 rw[a4f]at e2;unfold psn;rw[e1];exact⟨by simp,by simpa using (af.mp e2).1⟩
theorem aba(h:T.Ok):∀(l:List Nat) {r:Nat},r<T.go.length->ldw T r l<T.go.length
 |[],_,hr=>hr
 |c::l,r,_=>aba h l (aod h r _)
theorem a6e(c:Nat):∀(l:List Nat) (r:Nat),ldw T r (l++[c])=stp T (ldw T r l) (psn T c)
 |[],_=>rfl
 |d::l,r=>a6e c l _
theorem afz(l:List Nat)(h:Hd):agv (.str (S l)) h=.ok ⟨l.map λc=>.str (S [c]),λ_=>True⟩ h:=by
 show R.ok (⟨a0s (S l),λ_=>True⟩:Itm) _=_;unfold a0s;rw[a4f]
theorem aiy(hc:c∈T.tg)(h:Hd):aak (.str (S T.tg)) [.str (S [c])] h=.ok (bj (psn T c)) h:=by
 show R.ok (D.int (a3r (S T.tg) c)) h=_;rw[(a7e hc).1]
theorem aiz(hc:c∈T.tg)(h:Hd):a80 (.str (S T.tg)) [.str (S [c])] h=.ok (bj (psn T c)) h:=by
 show(if c∈(S T.tg).cps.toList then R.ok (D.int (a3r (S T.tg) c)) h else .no)=_
 rw[aO (by rw[a4f];exact hc),(a7e hc).1]
theorem asb(e1:f τ h=.ok (.str z) h1)(e2:k τ h1=.ok ds h2)(e3:g (.str z) ds h2=.ok v h3):sMS g f k τ h=.ok v h3:=by
 unfold sMS;rw[e1,bf];dsimp only;rw[e2,bf,e3]
theorem amd(h:T.Ok)(hc:c<T.tg.length)(hh:Hd):gIx (az3 T r) (bj c) hh=.ok (bj (stp T r c)) hh:=a7a (by rw[aM,aM,cy hc];rfl)
theorem awc(hd:clo 0 d)(he:clo 0 e):∀x∈[T.d,d,e],clo 0 x:=by
 intro x hx
 simp only[aR,bg,cE]at hx
 rcases hx with rfl|rfl|rfl
 ·exact Table.clo
 ·exact hd
 ·exact he
noncomputable def jj:SF:=km um 8
noncomputable def di:SF:=km (xj jj) 3
def rms(T:Table)(r:Nat)(l:List Nat):List Nat:=(List.range (l.length+1)).map λi=>ldw T r (l.take i)
theorem ame(r c:Nat)(l:List Nat):rms T r (l++[c])=rms T r l++[ldw T r (l++[c])]:=by
 unfold rms;rw[ah,av,dM (n:=l.length+1),bA,dY]
 congr 1
 ·refine cZ λi hi=>?_;rw[bS]at hi;rw[List.take_append_of_le_length (by omega)]
 ·rw[bM (by simp)]
theorem aej(r:Nat)(l:List Nat):∃p,rms T r l=p++[ldw T r l]:=by
 unfold rms;rw[dM,bA,dY];exact⟨_,by rw[bM (aI _)]⟩
theorem amf(h:T.Ok)(hr:r<T.go.length)(hl:∀c∈l,c∈T.tg)(ll:l.length<=1000):Pu jj 3 [T.d,bj r,.str (S l)] (.rol ((rms T r l).map bj)):=by
 refine Pu.of rfl (awc (dg _) (jc _)) (r:=.ok (.ref 0) [.lst ((rms T r l).map bj)]) ?_ (a4e (aI _) rfl (iz _) (by simp)) (jq (iz _))
 unfold jj;rw[dw];show toR (um [some T.d,some (bj r),some (.str (S l)),none,none,none,none,none] [])=_;unfold um;refine etr (u9 (afi (bc rfl) rfl)) ?_;refine etr (jr (d:=.ref 0) (h1:=[.lst ((rms T r []).map bj)]) rfl) ?_;refine etr (a3k (a6a (bc rfl) (afz l _))) ?_;have lp:=nu (g:=kN 7) (b:=qd) (λc:Nat=>D.str (S [c]))
  (λpre τ hh=>∃t7:Option D,τ=[some T.d,some (bj r),some (.str (S l)),some (.str (S T.tg)),some (.tup (T.go.map m8)),some (.tup (T.ks.map D.int)),some (.ref 0),t7]/\hh=[.lst ((rms T r pre).map bj)]) l
  [some T.d,some (bj r),some (.str (S l)),some (.str (S T.tg)),some (.tup (T.go.map m8)),some (.tup (T.ks.map D.int)),some (.ref 0),none] [.lst ((rms T r []).map bj)] ?_ ⟨none,rfl,rfl⟩
 ·obtain⟨τ',h',e,t7,rfl,rfl⟩:=lp;refine aH (aU (λz=>toR (thn z _)) e) ?_;rfl
 ·rintro pre c post τ hh all ⟨t7,rfl,rfl⟩
  have hc:=hl c (by rw[all];simp)
  have pl:pre.length<=l.length:=by rw[all];simp
  refine⟨_,_,rfl,[some T.d,some (bj r),some (.str (S l)),some (.str (S T.tg)),some (.tup (T.go.map m8)),some (.tup (T.ks.map D.int)),some (.ref 0),some (.str (S [c]))],[.lst ((rms T r (pre++[c])).map bj)],?_,_,rfl,rfl⟩;unfold qd;obtain⟨p,ep⟩:=aej (T:=T) r pre;have last:∀hh:Hd,hh[0]? = some (.lst ((rms T r pre).map bj))->gIx (.ref 0) (.int (-1)) hh=.ok (bj (ldw T r pre)) hh:=λhh e0=>by
   rw[a77];unfold a0q;simp only[e0];rw[ep,bA,dY,acv]
  refine aH (a06 (v:=.non) (bc rfl) rfl (arg1 (kj (kj (bc rfl) (kj (bc rfl) (afh ckk (a5f _)) (last _ rfl)) (aix h (aba h pre hr) _)) (asb (bc rfl) (arg1 (bc rfl)) (aiz hc _)) (amd h (a7e hc).2 _))) (a07 (xs:=(rms T r pre).map bj) rfl (a08 (by simp[rms];omega)))) ?_
  rw[ame,bA,a6e];rfl
theorem arh(h:T.Ok)(hr:r<T.go.length)(hl:∀c∈l,c∈T.tg)(ll:l.length<=1000):Pu di 3 [T.d,bj r,.str (S l)] (bj (ldw T r l)):=by
 refine Pu.of rfl (awc (dg _) (jc _)) (r:=.ok (bj (ldw T r l)) []) ?_ (jy (dg _) (by simp)) (dg _)
 unfold di;rw[dw];show toR (xj jj [some T.d,some (bj r),some (.str (S l))] [])=_;unfold xj;obtain⟨p,ep⟩:=aej (T:=T) r l;refine aU toR (nq (kj (a7j (bc rfl) (bc rfl) (bc rfl) (amf h hr hl ll _)) (afh ckk (a5f _)) ?_));rw[a87,ep,bA,dY,acv]
noncomputable def lz:SF:=km uy 2
def inT(T:Table)(l:List Nat):Bool:=l.all λc=>decide (c∈T.tg)
theorem ail(bs:List Bool)(h:Hd):ah9 [.rol (bs.map D.bl)] h=.ok (.bl (bs.all id)) h:=by
 unfold ah9;simp only[adq]
theorem amg{l:List Nat}(ll:l.length<=1000)(hce:∀c:Nat,ce [some (.str (S [c])),some (.str (S T.tg))] []=.ok (.bl (decide (c∈T.tg))) [])(h1:τ[1]? = some (some (.str (S l))))(h0:τ[0]? = some (some (.str (S T.tg)))) :
  sA ah9 (ak (sZ (jk (sIt (sV 1)) t1 ce [0])) bu) τ []=.ok (.bl (inT T l)) []:=by
 have cz:sZ (jk (sIt (sV 1)) t1 ce [0]) τ []=.ok (.rol ((l.map λc=>decide (c∈T.tg)).map D.bl)) []:=by
  rw[bP];refine a1c (qe (λc:Nat=>D.str (S [c])) (λc=>.bl (decide (c∈T.tg))) l (a6a (bc h1) (afz l _)) (dh (by omega)) λc _=>?_) (dj λc _=>qy _) (by simp)
  rw[u6,aea,ai5,h0];exact hce c
 refine p7 cz ?_;rw[ail]
 congr 2
 unfold inT;rw[fY];rfl
theorem ari(c:Nat)(h:Hd):gIn false (.str (S [c])) (.str (S T.tg)) h=.ok (.bl (decide (c∈T.tg))) h:=by
 show R.ok (D.bl (decide (c∈(S T.tg).cps.toList))) h=_;rw[a4f]
theorem aj0{l:List Nat}(ll:l.length<=1000):Pu lz 2 [.str (S T.tg),.str (S l)] (.bl (inT T l)):=by
 refine Pu.of rfl (by intro x hx;simp only[aR,bg,cE]at hx;rcases hx with rfl|rfl<;>exact jc _) (r:=.ok (.bl (inT T l)) []) ?_ (jy (qy _) (by simp)) (qy _)
 unfold lz;rw[dw];show toR (uy [some (.str (S T.tg)),some (.str (S l))] [])=_;unfold uy;exact aU toR (nq (acr (kh (bc rfl) ckk (awb (d:=.str (S l)) (by simp only[Pln,a4f];exact ll))) (amg ll (λc=>kj (bc rfl) (bc rfl) (ari c _)) rfl rfl)))
theorem aik(e:f τ h=.ok (.bl false) h1):a0y f k τ h=.ok (.bl false) h1:=by unfold a0y;rw[e,bf]
theorem aj1(p:Pln d)(ns:isStr d=false):Pu lz 2 [.str (S T.tg),d] (.bl false):=by
 refine Pu.of rfl (by intro x hx;simp only[aR,bg,cE]at hx;rcases hx with rfl|rfl;exact jc _;exact p.clo) (r:=.ok (.bl false) []) ?_ (jy (qy _) (by simp)) (qy _)
 unfold lz;rw[dw];show toR (uy [some (.str (S T.tg)),some d] [])=_;unfold uy;exact aU toR (nq (aik (kh (bc rfl) ckk (by rw[awb p,ns]))))
end
end K23
namespace K21
open L2 MI AT HND K22 K23 EVX
section
variable{T:Table}
noncomputable def lz:SF:=km uy 2
def txt(T:Table):D->Bool
 |.str x=>inT T x.cps.toList
 |_=>false
theorem arj(l:List Nat):txt T (.str (S l))=inT T l:=by simp only[txt,a4f]
theorem afo(p:Pln d):Pu lz 2 [.str (S T.tg),d] (.bl (txt T d)):=by
 by_cases sd:isStr d=true
 ·obtain⟨x,rfl⟩:∃x,d=.str x:=by cases d<;>first|exact⟨_,rfl⟩|(simp[isStr]at sd)
  have ll:x.cps.toList.length<=1000:=p;rw[<-am0 x]at ll ⊢;rw[a4f]at ll;rw[arj];exact K23.aj0 ll
 ·have sd':isStr d=false:=by simpa using sd
  have:txt T d=false:=by cases d<;>first|rfl|(simp[isStr]at sd)
  rw[this];exact K23.aj1 p sd'
theorem a1s(ha:MI.clo 0 a)(hb:MI.clo 0 b):∀x∈[a,b],MI.clo 0 x:=by
 intro x hx
 simp only[aR,bg,cE]at hx
 rcases hx with rfl|rfl
 ·exact ha
 ·exact hb
theorem abb(ha:MI.clo 0 a)(hb:MI.clo 0 b)(hc:MI.clo 0 c):∀x∈[a,b,c],MI.clo 0 x:=by
 intro x hx
 simp only[aR,bg,cE]at hx
 rcases hx with rfl|rfl|rfl
 ·exact ha
 ·exact hb
 ·exact hc
noncomputable def du:SF:=km (uo lz) 2
theorem a8d(p:Pln d):du [.str (S T.tg),d] []=if txt T d=true then .ok d [] else .ex "NoText" []:=by
 unfold du;rw[dw];show toR (uo lz [some (.str (S T.tg)),some d] [])=_;unfold uo;have c:=afo (T:=T) p []
 cases e:txt T d with
 |true =>
  rw[e]at c;rw[aO rfl];refine eti (a79 (uc (kh (bc rfl) (bc rfl) c) (jh _))) ?_;exact aU toR (nq (bc rfl))
 |false =>
  rw[e]at c;rw[bE (by simp)]
  exact aU toR (aw3 (aH (ifT (aqx (uc (kh (bc rfl) (bc rfl) c) (jh _)))) (arb (arg1 ckk) (by simp))))
theorem a9q(p:Pln d)(t:txt T d=true)(h:Hd):yw 2 du [.str (S T.tg),d] h=.ok d h:=by
 have r:=a8d (T:=T) p;rw[aO t]at r;exact acu (a1s (jc _) p.clo) r (Pu.of rfl (a1s (jc _) p.clo) r (jy p.clo (by simp)) p.clo)
theorem a9r(p:Pln d)(t:txt T d=false)(h:Hd):yw 2 du [.str (S T.tg),d] h=.ex "NoText" h:=by
 have r:=a8d (T:=T) p;rw[bE (by simp[t])]at r
 exact aig rfl (a1s (jc _) p.clo) r
theorem amh(h:Hd):gIx T.d (.int 0) h=.ok (.str (S T.tg)) h:=a7a (j:=0) rfl
theorem ark(h:Hd):gIx T.d (.int 2) h=.ok (.tup (T.ks.map D.int)) h:=a7a (j:=2) rfl
theorem awd{l:List Nat}(ll:l.length<=1000):Pln (.str (S l)):=by simp only[Pln,a4f];exact ll
theorem awe(hl:∀c∈l,c∈T.tg):inT T l=true:=by
 unfold inT;rw[bN];exact λc hc=>bL (hl c hc)
theorem abd(h:T.Ok)(hr:r<T.go.length)(hh:Hd):gIx (.tup (T.ks.map D.int)) (bj r) hh=.ok (.int (kI T r)) hh:=by
 obtain⟨k,e,_⟩:=arf h hr;exact a7a (by rw[aM,e];simp[kI,e])
end
section
variable{T:Table}
abbrev ones(t:List Nat):List D:=t.map λc=>.str (S [c])
theorem join_ones:∀t:List Nat,Txt.join (S []) (t.map λc=>S [c])=S t:=by
 have e:∀zs:List Str,Txt.join (S []) zs=Str.join (S []) zs:=PySem.StrLaws.glued_eq_join (S []);have st:∀(x y:Str) (r:List Str),Str.join (S []) (x::y::r)=x++S []++Str.join (S []) (y::r):=λ_ _ _=>rfl
 intro t
 rw[e]
 induction t with
 |nil=>rfl
 |cons a t ih =>
  cases t with
  |nil=>rfl
  |cons b t =>
   rw[bI,bI,st,show S [b]::t.map (λc=>S [c])=(b::t).map (λc=>S [c]) from rfl,ih,aqv,aqv]
   rfl
theorem abe:∀t:List Nat,ac6 (ones t)=some (t.map λc=>S [c])
 |[]=>rfl
 |a::t=>by
  show(ac6 (ones t)).map _=_;rw[abe t];rfl
theorem ami(t:List Nat):((t.map λc=>S [c]).map (·.length)).sum=t.length:=by
 induction t with
 |nil=>rfl
 |cons a t ih=>rw[bI,bI,List.sum_cons,ih,a9f,bB];simp;omega
theorem aj2{t:List Nat}(z:t.length<=1000000):aam (.str (S [])) [.rol (ones t)] h=.ok (.str (S t)) h:=by
 unfold aam;simp only[abe,ami,a9f,fP,Nat.mul_zero,Nat.add_zero,join_ones];rw[aO (by omega)]
theorem b20{h h':Hd}(hl:h'.length=h.length)(e:f τ h=.ok (.ref h'.length) (h'++[.lst xs]))(cx:clos h.length xs)(c:∀o∈h',a0j h.length o):sZ f τ h=.ok (.rol xs) h':=by
 unfold sZ;rw[e,a4e (by omega) (by simp) cx (by rw[<-hl];simpa[hl] using c)]
 rw[<-hl];simp
theorem amj(e:f τ h=.ok (.int i) h1):oS f τ h=.ok (some i) h1:=by unfold oS;rw[e];rfl
theorem amk(e:f τ h=.ok d h1)(e1:lo τ h1=.ok a h2)(e2:hi τ h2=.ok b h3)(e3:abr d a b h3=.ok v h4):yp f lo hi τ h=.ok v h4:=by
 unfold yp;rw[e,bf,e1,bf,e2,bf,e3]
theorem a9s(n:Nat)(l:List Nat):clos n (ones l):=dj λc _=>jc _
theorem a9t(tg:List Nat):∀l:List Nat,(l.filterMap λc=>if (!decide (c∈tg))=true then some (D.str (S [c])) else none)=ones (l.filter λc => !decide (c∈tg))
 |[]=>rfl
 |c::l=>by
  have ih:=a9t tg l
  by_cases h:c∈tg
  ·rw[List.filterMap_cons_none (by rw[bL h];rfl),List.filter_cons_of_neg (by simp[h]),ih]
  ·rw[List.filterMap_cons_some (b:=D.str (S [c])) (by rw[bp h];rfl),List.filter_cons_of_pos (by simp[h]),ih]
   rfl
theorem awf(c:Nat)(t:List Nat)(h:Hd):gIn true (.str (S [c])) (.str (S t)) h=.ok (.bl (!decide (c∈t))) h:=by
 show R.ok (D.bl (!decide (c∈(S t).cps.toList))) h=_;rw[a4f]
theorem arl(hc:c∈l)(hn:c∉T.tg):txt T (.str (S l))=false:=by
 rw[arj];unfold inT;rw[List.all_eq_false];exact⟨c,hc,by simpa using hn⟩
end
end K21
namespace SRC
open L2 MI AT HND EVX K22 K23 K21
section
variable{T:Table}
def rm(T:Table)(l:List Nat)(k:Nat):Nat:=ldw T 0 (l.take k)
def best(T:Table)(a:Nat)(l:List Nat):Nat->D
 |0=>.non
 |k+1=>if kI T (rm T l k) = -1 then best T a l k else .tup [.int (kI T (rm T l k)),bj (a+k)]
theorem aek(e:kI T (rm T l k) = -1):best T a l (k+1)=best T a l k:=aO e
theorem aj3(e:¬ kI T (rm T l k) = -1):best T a l (k+1)=.tup [.int (kI T (rm T l k)),bj (a+k)]:=bE e
theorem kI0(h:T.Ok):kI T 0 = -1:=by unfold kI;rw[h.k0];rfl
theorem az5(h:T.Ok)(a:Nat)(l:List Nat):best T a l 1=.non:=by
 show(if kI T (rm T l 0) = -1 then best T a l 0 else _)=_
 rw[aO (show kI T (rm T l 0) = -1 from kI0 h)]
 rfl
theorem aml(h:T.Ok)(l:List Nat)(k:Nat):rm T l k<T.go.length:=aba h _ h.n1
theorem aj4(e:l[k]? = some c):rm T l (k+1)=stp T (rm T l k) (psn T c):=by
 unfold rm;rw[List.take_succ,e];exact a6e c _ _
theorem aj5(a:Nat)(l:List Nat):∀k,best T a l k=.non\/∃x y:Int,best T a l k=.tup [.int x,.int y]
 |0=>.inl rfl
 |k+1=>by
  unfold best
  split
  ·exact aj5 a l k
  ·exact .inr ⟨_,_,rfl⟩
theorem ael(a:Nat)(l:List Nat)(k:Nat):MI.clo 0 (best T a l k):=by
 rcases aj5 (T:=T) a l k with e|⟨x,y,e⟩<;>rw[e]
 ·exact ahv
 ·exact my (g8 (dg _) (g8 (dg _) mj))
noncomputable def dq:SF:=km SRC.a1d 6
theorem amm(h:T.Ok)(ht:∀c∈x,c∈T.tg)(xl:x.length<=1000)(al:a<=x.length):Pu SRC.dq 3 [T.d,.str (S x),bj a] (best T a (x.drop a) (x.length-a+1)):=by
 refine Pu.of rfl (abb Table.clo (jc _) (dg _)) (r:=.ok (best T a (x.drop a) (x.length-a+1)) []) ?_ (jy (ael _ _ _) (by simp)) (ael _ _ _)
 unfold SRC.dq;rw[dw];show toR (SRC.a1d [some T.d,some (.str (S x)),some (bj a),none,none,none] [])=_;unfold SRC.a1d;refine etr (jr ckk) ?_;refine etr (jr ckk) ?_;refine etr (a3k (ai4 (a:=a) (n:=x.length) (bc rfl) (p7 (bc rfl) (a9g (dh (by omega)))) (dh (by omega)) (dh (by omega)))) ?_
 have lp:=nu (g:=kN 5) (b:=SRC.xq) (λi:Nat=>D.int ((a+i:Nat)))
  (λpre τ hh=>∃t5:Option D,τ=[some T.d,some (.str (S x)),some (bj a),some (bj (rm T (x.drop a) pre.length)),some (best T a (x.drop a) (pre.length+1)),t5]/\hh=[])
  (List.range (x.length-a)) [some T.d,some (.str (S x)),some (bj a),some (bj 0),some .non,none] [] ?_ ⟨none,by rw[fP,az5 h];rfl,rfl⟩
 ·obtain⟨τ',h',e,t5,rfl,rfl⟩:=lp;refine aH (aU (λz=>toR (MI.thn z _)) e) ?_;rw[a0v,aX];exact aU toR (nq (bc rfl))
 ·rintro pre i post τ hh all ⟨t5,rfl,rfl⟩
  obtain⟨hi,hk⟩:=uf all;have ek:(x.drop a)[pre.length]? = some (x[a+i]'(by omega)):=by rw[eQ,<-hi,ae (by omega)]
  have ec:x[a+i]? = some (x[a+i]'(by omega)):=ae (by omega)
  have hc:=ht _ (aN ec)
  generalize x[a+i]'(by omega)=c at ek ec hc
  have rl:=aml h (x.drop a) pre.length;have r2:=aml h (x.drop a) (pre.length+1);rw[ah,av];have st:s2 gIx (s2 gIx (s2 gIx (sV 0) (sI 1)) (sV 3)) (sMS aak (s2 gIx (sV 0) (sI 0)) (ak (s2 gIx (sV 1) (sV 5)) bu)) [some T.d,some (.str (S x)),some (bj a),some (bj (rm T (x.drop a) pre.length)),some (best T a (x.drop a) (pre.length+1)),some (.int ((a+i:Nat)))] []=.ok (bj (rm T (x.drop a) (pre.length+1))) []:=by
   rw[aj4 ek];exact kj (kj (a01 rfl (a7a (j:=1) rfl)) (bc rfl) (aix h rl _)) (asb (a01 rfl (a7a (j:=0) rfl)) (arg1 (kj (bc rfl) (bc rfl) (av7 (dh (by omega)) ec))) (aiy hc _)) (amd h (a7e hc).2 _)
  have kg:∀τ:Sd,τ[0]? = some (some T.d)->τ[3]? = some (some (bj (rm T (x.drop a) (pre.length+1))))->s2 gIx (s2 gIx (sV 0) (sI 2)) (sV 3) τ []=.ok (.int (kI T (rm T (x.drop a) (pre.length+1)))) []:=λτ h0 h3=>kj (kj (bc h0) ckk (ark _)) (bc h3) (abd h r2 _);obtain⟨kv,ke,k1,k2⟩:=arf h r2;have kx:kI T (rm T (x.drop a) (pre.length+1))=kv:=by unfold kI;rw[ke];rfl
  by_cases hm:kI T (rm T (x.drop a) (pre.length+1)) = -1
  ·refine⟨_,_,rfl,[some T.d,some (.str (S x)),some (bj a),some (bj (rm T (x.drop a) (pre.length+1))),some (best T a (x.drop a) (pre.length+1)),some (.int ((a+i:Nat)))],[],?_,_,by rw[aek (k:=pre.length+1) hm],rfl⟩
   unfold SRC.xq;refine aH (jr st) ?_;refine aH (ifF (t2s (kg _ rfl rfl) ckk (show gGe (.int (kI T (rm T (x.drop a) (pre.length+1)))) (.int 0) []=.ok (.bl false) [] by rw[hm];rfl))) rfl
  ·refine⟨_,_,rfl,[some T.d,some (.str (S x)),some (bj a),some (bj (rm T (x.drop a) (pre.length+1))),some (.tup [.int (kI T (rm T (x.drop a) (pre.length+1))),.int ((a+i:Nat)+1)]),some (.int ((a+i:Nat)))],[],?_,some (.int ((a+i:Nat))),?_,rfl⟩
   ·unfold SRC.xq;refine aH (jr st) ?_;refine aH (ifT (t2s (kg _ rfl rfl) ckk (show gGe (.int (kI T (rm T (x.drop a) (pre.length+1)))) (.int 0) []=.ok (.bl true) [] by
     show R.ok (D.bl (decide ((0:Int)<=kI T (rm T (x.drop a) (pre.length+1))))) []=_;rw[bL (by omega)]))) ?_
    exact acq (kh (kg _ rfl rfl) (a01 rfl u5) ao6)
   ·rw[aj3 (k:=pre.length+1) hm,hi];rfl
noncomputable def bz:SF:=km SRC.ul 3
theorem a5g{xs:List Int}(xl:xs.length<=10):Pu SRC.bz 2 [.tup (xs.map D.int),bj xs.length] (.bl true):=by
 refine Pu.of rfl (a1s (my (dj λx _=>dg x)) (dg _)) (r:=.ok (.bl true) []) ?_ (jy (qy _) (by simp)) (qy _)
 unfold SRC.bz;rw[dw];show toR (SRC.ul [some (.tup (xs.map D.int)),some (bj xs.length),none] [])=_;unfold SRC.ul;have it:∀h:Hd,jz [.tup (xs.map D.int),.ty "tuple"] h=.ok (.bl true) h:=λh=>by simp[jz,aa1,tyD,a7z]
 refine eti (orF (a79 (uc (kh (bc rfl) ckk (it _)) (jh _))) (t2s (p7 (bc rfl) ut) (bc rfl) (ab7 (by rw[ai])))) ?_
 refine etr (a3k (a6a (bc rfl) rfl)) ?_;have lp:=nu (g:=kN 2) (b:=SRC.m9) D.int
  (λpre τ hh=>∃t2:Option D,τ=[some (.tup (xs.map D.int)),some (bj xs.length),t2]/\hh=[]) xs [some (.tup (xs.map D.int)),some (bj xs.length),none] [] ?_ ⟨none,rfl,rfl⟩
 ·obtain⟨τ',h',e,t2,rfl,rfl⟩:=lp;refine aH (aU (λz=>toR (MI.thn z _)) e) ?_;rfl
 ·rintro pre x post τ hh all ⟨t2,rfl,rfl⟩
  refine⟨_,_,rfl,[some (.tup (xs.map D.int)),some (bj xs.length),some (.int x)],[],?_,_,rfl,rfl⟩;unfold SRC.m9;have ii:∀h:Hd,jz [.int x,.ty "int"] h=.ok (.bl true) h:=λh=>by simp[jz,aa1,tyD,a7z]
  have ib:∀h:Hd,jz [.int x,.ty "bool"] h=.ok (.bl false) h:=λh=>by simp[jz,aa1,tyD,a7z]
  exact aH (ifF (orF (a79 (uc (kh (bc rfl) ckk (ii _)) (jh _))) (uc (kh (bc rfl) ckk (ib _)) (jh _)))) rfl
end
end SRC
namespace PN
open L2 MI AT HND EVX
end PN
namespace PN
open L2 MI AT HND EVX K22 K23 K21
section
variable{g:Hd}{n tu:Nat}{tg:List Nat}{rows:List (List Nat)}{ks:List Int}
def Rch(rows:List (List Nat))(r:Nat):Prop:=∀Q:Nat->Prop,Q 0->(∀r,Q r->∀x∈(rows[r]?).getD [],Q x)->Q r
theorem Rch.zero(rows:List (List Nat)):Rch rows 0:=λ_ q _=>q
theorem Rch.step(h:Rch rows r)(hx:x∈(rows[r]?).getD []):Rch rows x:=λQ q0 qs=>qs r (h Q q0 qs) x hx
theorem aoe(h:x∈m):m[SRC.pos m x]? = some x:=by
 have e:=(ady (SRC.aiu h).1).1;unfold SRC.cst at e;rw[aM]at e
 cases q:m[SRC.pos m x]? with
 |none=>rw[q]at e;cases e
 |some y =>
  rw[q]at e;have e:(y:Int)=(x:Int):=by simpa using e
  congr 1
  omega
theorem aog{m:List Nat}(nd:m.Nodup)(h:m[i]? = some x):SRC.pos m x=i:=by
 have h1:=aoe (aN h);obtain⟨a,ea⟩:=af.mp h;obtain⟨b,eb⟩:=af.mp h1;have pw:=cO.mp nd
 rcases Nat.lt_trichotomy (SRC.pos m x) i with z|z|z
 ·exact absurd (eb.trans ea.symm) (pw _ _ b a z)
 ·exact z
 ·exact absurd (ea.trans eb.symm) (pw _ _ a b z)
theorem arn{m:List Nat}(nd:m.Nodup)(m0:m[0]? = some 0)(cl:∀r∈m,∀x∈(rows[r]?).getD [],x∈m)(rc:∀r∈m,Rch rows r):∀r,r<(SRC.a9p rows m).length->Rch (SRC.a9p rows m) r:=by
 intro r hr Q q0 qs
 have hr':r<m.length:=by simpa using hr
 have er:m[r]? = some m[r]:=ae hr';have key:=(rc m[r] (aY hr') (λx=>x∈m/\Q (SRC.pos m x)) ⟨aN m0,by rw[aog nd m0];exact q0⟩ λa ⟨ha,qa⟩ x hx=>⟨cl a ha x hx,qs _ qa _ (by
  rw[aM,aoe ha];exact bG.mpr ⟨x,hx,rfl⟩)⟩).2
 rwa[aog nd er]at key
end
end PN
namespace SRC
open L2 MI AT HND EVX
structure MetQ (rows:List (List Nat)) (n:Nat) (met:List Nat):Prop extends Met n met where
 q:∀x∈met,PN.Rch rows x
theorem MetQ.len(M:MetQ rows n met):met.length<=n:=M.toMet.len
theorem MetQ.add(M:MetQ rows n met)(hx:x<n)(hq:PN.Rch rows x)(h:x∉met):MetQ rows n (met++[x]) :=
 ⟨M.toMet.add hx h,λy hy=>(bo.mp hy).elim (M.q y) λz=>by rw[aw]at z;subst z;exact hq⟩
end SRC
namespace CAS
open L2 MI AT HND EVX SRC
noncomputable def j7:SF:=km (CAS.a7b aa) 8
theorem afp{ks:List Int}(P:Src o N)(hN:N<=999999000)(l:ks.length<=100) :
  ∃(u:O) (k:Int),CAS.xr aa [some (.ref 0),some t,some n,some (.ref 1),x,y,none,none] [o,.lst (ks.map D.int)]=.nx [some (.ref 0),some t,some n,some (.ref 1),x,y,none,none] [u,.lst ((ks++[k]).map D.int)]/\Src u (N+2)/\KOk k:=by
 obtain⟨a,o1,e1,a0,a1,P1⟩:=iw (m:=3) P (by omega) (by omega) (by omega)
 obtain⟨b,o2,e2,b0,b1,P2⟩:=iw (m:=6) P1 (by omega) (by omega) (by omega)
 have c1:gq false 2 aa [.ref 0,.int 3] [o,.lst (ks.map D.int)]=.ok (.int a) [o1,.lst (ks.map D.int)]:=e1 0 _ rfl;have c2:gq false 2 aa [.ref 0,.int 6] [o1,.lst (ks.map D.int)]=.ok (.int b) [o2,.lst (ks.map D.int)]:=e2 0 _ rfl;unfold CAS.xr
 by_cases ha:a=0
 ·refine⟨o2,b,?_,P2,by omega⟩
  rw[bA];exact a06 (bc rfl) rfl (arg1 (az2 (t2s (kh (bc rfl) ckk c1) ckk (a2b ha)) (kh (bc rfl) ckk c2))) (a07 (xs:=ks.map D.int) rfl (by rw[ai];exact a08 (by omega)))
 ·refine⟨o1,-1,?_,P1.up (by omega),by decide⟩
  rw[bA];exact a06 (bc rfl) rfl (arg1 (axn (t2s (kh (bc rfl) ckk c1) ckk (yx ha)) (afh ckk (a5f _)))) (a07 (xs:=ks.map D.int) rfl (by rw[ai];exact a08 (by omega)))
theorem aj6{tg:List Nat}(P:Src o N)(hN:N<=999990000)(t6:tg.length<=6)(n1:1<=n)(n32:n<=32) :
  ∃(ks:List Int) (rows:List (List Nat)) (o':O),ks.length=n/\ks[0]? = some (-1)/\(∀k∈ks,KOk k)/\rows.length=n/\(∀r∈rows,abt tg.length n r) /\
   Dr CAS.j7 3 [.str (S tg),bj n] o (.tup [.rol (rows.map a0o),.rol (ks.map D.int)]) o'/\Src o' (N+300) :=
 aiq (L0:=CAS.xr aa) (λx P h l=>CAS.afp P h l) P hN t6 n1 n32
noncomputable def m5:SF:=km CAS.a4g 7
abbrev τM(tg:List Nat)(rows:List (List Nat))(ks:List Int)(m:D)(i:Nat)(t5 t6:Option D):Sd:=[some (.str (S tg)),some (.rol (rows.map a0o)),some (.rol (ks.map D.int)),some m,some (bj i),t5,t6]
section
variable{n:Nat}{tg:List Nat}{rows:List (List Nat)}{ks:List Int}
theorem amn{i:Nat}{met row:List Nat}(n32:n<=32)(M:MetQ rows n met)(rx:∀x∈row,x<n)(rq:∀x∈row,PN.Rch rows x) :
  ∃(met':List Nat) (t5':Option D),forL (λ_=>True) (kN 5) CAS.a09 (row.map bj) (τM tg rows ks (.ref 0) i t5 none) [.lst (met.map bj)]=.nx (τM tg rows ks (.ref 0) i t5' none) [.lst (met'.map bj)]/\MetQ rows n met'/\(∃add,met'=met++add)/\∀x∈row,x∈met':=by
 have lp:=nu (g:=kN 5) (b:=CAS.a09) bj
  (λpre τ h=>∃(met':List Nat) (t5:Option D),τ=τM tg rows ks (.ref 0) i t5 none/\h=[.lst (met'.map bj)]/\MetQ rows n met'/\(∃add,met'=met++add)/\∀x∈pre,x∈met')
  row (τM tg rows ks (.ref 0) i t5 none) [.lst (met.map bj)] ?_ ⟨met,t5,rfl,rfl,M,⟨[],by simp⟩,by simp⟩
 ·obtain⟨τ',h',e,met',t5',rfl,rfl,M',ad,al⟩:=lp;exact⟨met',t5',e,M',ad,al⟩
 ·rintro pre x post τ h all ⟨met',t5,rfl,rfl,M',⟨add,rfl⟩,al⟩
  have hx:x<n:=rx x (by rw[all];simp)
  have hq:PN.Rch rows x:=rq x (by rw[all];simp)
  unfold CAS.a09
  by_cases h:x∈met++add
  ·refine⟨_,_,rfl,τM tg rows ks (.ref 0) i (some (bj x)) none,[.lst ((met++add).map bj)],?_,met++add,_,rfl,rfl,M',⟨add,rfl⟩,λy hy=>?_⟩
   ·refine aH (ifF (t2s (bc rfl) (bc rfl) ((aei (l:=met++add) rfl).trans (by rw[bL h];rfl)))) rfl
   ·rcases bo.mp hy with z|z
    ·exact al y z
    ·rw[aw]at z;subst z;exact h
  ·refine⟨_,_,rfl,τM tg rows ks (.ref 0) i (some (bj x)) none,[.lst ((met++add++[x]).map bj)],?_,met++add++[x],_,rfl,rfl,M'.add hx hq h,⟨add++[x],by simp⟩,λy hy=>?_⟩
   ·have ln:=M'.len;refine aH (ifT (t2s (bc rfl) (bc rfl) ((aei (l:=met++add) rfl).trans (by rw[bp h];rfl)))) ?_
    rw[bA (l₁:=met++add)];exact a06 (bc rfl) rfl (arg1 (bc rfl)) (a07 (xs:=(met++add).map bj) rfl (by rw[ai];exact a08 (by omega)))
   ·rcases bo.mp hy with z|z
    ·exact cS _ (al y z)
    ·rw[aw]at z;subst z;simp
theorem aro{s:Nat}(n1:1<=n)(n32:n<=32)(lr:rows.length=n)(rr:∀r∈rows,abt s n r) :
  ∃(met:List Nat) (i:Nat) (t5:Option D),sWh CAS.a2c CAS.a0a 100000 (τM tg rows ks (.ref 0) 0 none none) [.lst ([0].map bj)]=.nx (τM tg rows ks (.ref 0) i t5 none) [.lst (met.map bj)]/\MetQ rows n met/\∀r∈met,∀x∈(rows[r]?).getD [],x∈met:=by
 have w:=ald (c:=CAS.a2c) (f:=CAS.a0a)
  (λm τ h=>∃(met:List Nat) (i:Nat) (t5:Option D),τ=τM tg rows ks (.ref 0) i t5 none/\h=[.lst (met.map bj)]/\m=32-i/\i<=met.length/\MetQ rows n met/\Done rows met i)
  (λτ h=>∃(met:List Nat) (i:Nat) (t5:Option D),τ=τM tg rows ks (.ref 0) i t5 none/\h=[.lst (met.map bj)]/\MetQ rows n met/\Done rows met met.length)
  (λ_ _=>False) ?_ 32 100000 (τM tg rows ks (.ref 0) 0 none none) [.lst ([0].map bj)] (by omega)
  ⟨[0],0,none,rfl,rfl,rfl,by simp,⟨⟨by simp,by simp;omega,by simp⟩,λx hx=>by rw[aw]at hx;subst hx;exact PN.Rch.zero rows⟩,λj hj=>absurd hj (Nat.not_lt_zero j)⟩
 ·rcases w with⟨τ',h',e,met,i,t5,rfl,rfl,M,D⟩|⟨_,_,_,z⟩
  ·refine⟨met,i,t5,e,M,λr hr x hx=>?_⟩;obtain⟨j,hj,rfl⟩:=fO hr;exact D j hj _ (ae hj) x hx
  ·exact z.elim
 ·rintro m τ h ⟨met,i,t5,rfl,rfl,rfl,il,M,D⟩
  have ln:=M.len;have lm:∀h:Hd,h[0]? = some (.lst (met.map bj))->qu [.ref 0] h=.ok (bj met.length) h:=λh e=>by rw[a5e e,ai]
  by_cases lt:i<met.length
  ·refine .inr ⟨_,t2s (bc rfl) (p7 (bc rfl) (lm _ rfl)) (am5 (by omega)),.inl ?_⟩
   have rl:met[i]<n:=M.lt _ (aY lt);have gm:met[i]? = some met[i]:=ae lt
   generalize met[i]=r at rl gm
   have gr:rows[r]? = some ((rows[r]?).getD []):=by rw[ae (by omega)];rfl
   have rn:=rr _ (aN gr);obtain⟨met',t5',e,M',⟨add,ea⟩,al⟩:=amn (i:=i) (t5:=t5) (tg:=tg) (rows:=rows) (ks:=ks) n32 M rn.2 (λx hx=>(M.q r (aN gm)).step hx);refine⟨τM tg rows ks (.ref 0) (i+1) t5' none,[.lst (met'.map bj)],32-(i+1),?_,by omega,met',i+1,t5',rfl,rfl,rfl,by rw[ea,ah];omega,M',λj hj q hq x hx=>?_⟩
   ·unfold CAS.a0a;refine aH (a3k (a6a (kj (bc rfl) (kj (bc rfl) (bc rfl) (a2x (xs:=met.map bj) rfl (y:=bj r) (by rw[aM,gm];rfl))) (asa (y:=a0o ((rows[r]?).getD [])) (by rw[aM,gr];rfl))) rfl)) ?_
    refine aH (aU (λz=>MI.thn z _) e) ?_;rw[a0v];exact am4 rfl ckk a2a
   ·by_cases je:j=i
    ·subst je;rw[ea,aJ lt,gm]at hq;cases hq
     exact al x hx
    ·have jl:j<met.length:=by omega
     rw[ea,aJ jl]at hq;rw[ea];exact cS _ (D j (by omega) q hq x hx)
  ·refine .inl ⟨_,t2s (bc rfl) (p7 (bc rfl) (lm _ rfl)) (afj (by omega)),met,i,t5,rfl,rfl,M,?_⟩
   rw[show met.length=i by omega];exact D
end
section
variable{n:Nat}{tg:List Nat}{rows:List (List Nat)}{ks:List Int}
theorem arp(n32:n<=32)(lr:rows.length=n)(lk:ks.length=n)(t6:tg.length<=6)(rr:∀r∈rows,abt tg.length n r)(M:Met n met)(cl:∀r∈met,∀x∈(rows[r]?).getD [],x∈met) :
  ∃m:List Nat,m.Perm met/\m.Pairwise (·<=·)/\∃h:Hd,toR (dm (j9 3 (sA a3i (ak (sV 3) bu)))
   (dm (j9 6 (sA uq (ak (sZ (jk (sIt (sV 3)) t1 CAS.a0b [1,3])) bu)))
   (sr (sA ur (ak (sV 0) (ak (sV 6) (ak (sA uq (ak (sZ (jk (sIt (sV 3)) t1 CAS.a0c [2])) bu)) bu)))))) (τM tg rows ks (.ref 0) i t5 none) [.lst (met.map bj)])=.ok (.tup [.str (S tg),.tup ((a9p rows m).map m8),.tup ((a8b ks m).map D.int)]) h:=by
 obtain⟨m,em,pm,sm⟩:=afn met;have ln:=M.len;have lm:m.length=met.length:=pm.length_eq
 let H:Hd:=[.lst (met.map bj),.lst (m.map bj)]
 have hc:∀o∈H,a0j H.length o:=by
  intro o ho
  simp only[H,aR,bg,cE]at ho
  rcases ho with rfl|rfl
  ·exact n6 (bq _) (iz _)
  ·exact n6 (bq _) (iz _)
 have so:a3i [.ref 0] [.lst (met.map bj)]=.ok (.ref 1) H:=by
  exact aiv (l:=met) rfl (by omega) em
 have rw':∀r∈m,rows[r]? = some ((rows[r]?).getD [])/\abt tg.length n ((rows[r]?).getD [])/\∀x∈(rows[r]?).getD [],x∈m:=λr hr=>by
  have h1:=M.lt r (pm.mem_iff.mp hr);have e:rows[r]? = some ((rows[r]?).getD []):=by rw[ae (by omega)];rfl
  exact⟨e,rr _ (aN e),λx hx=>pm.mem_iff.mpr (cl r (pm.mem_iff.mp hr) x hx)⟩
 have z1:sZ (jk (sIt (sV 3)) t1 CAS.a0b [1,3]) (τM tg rows ks (.ref 1) i t5 none) H=.ok (.rol ((a9p rows m).map m8)) H:=by
  rw[bP];refine a1c (amc (ck:=λh=>h[1]? = some (.lst (m.map bj))) bj (m8 ∘ λr=>((rows[r]?).getD []).map (pos m)) m rfl (a6a (bc rfl) rfl) (dh (by omega)) λr hr=>?_) (dj λx _=>my (iz _)) hc
  obtain⟨e1,⟨e2,_⟩,e3⟩:=rw' r hr;rw[u6];unfold CAS.a0b;have z2:sZ (jk (sIt (s2 gIx (sV 1) (sV 0))) t1 CAS.a2d [2]) (some (bj r)::frs' [1,3] (τM tg rows ks (.ref 1) i t5 none)) H=.ok (.rol ((((rows[r]?).getD []).map (pos m)).map bj)) H:=by
   rw[bP];refine a1c (qe bj (bj ∘ pos m) ((rows[r]?).getD []) (a6a (kj (bc rfl) (bc rfl) (asa (y:=a0o ((rows[r]?).getD [])) (by rw[aM,e1];rfl))) rfl) (dh (by omega)) λx hx=>?_) (dj λx _=>dg _) hc
   rw[u6];unfold CAS.a2d;exact ayy (bc rfl) rfl (arg1 (bc rfl)) (aiw rfl (e3 x hx))
  exact p7 z2 rfl
 have z3:∀t6:Option D,sZ (jk (sIt (sV 3)) t1 CAS.a0c [2]) (τM tg rows ks (.ref 1) i t5 t6) H=.ok (.rol ((a8b ks m).map D.int)) H:=λt6=>by
  rw[bP];refine a1c (amc (ck:=λh=>h[1]? = some (.lst (m.map bj))) bj (D.int ∘ λr=>(ks[r]?).getD 0) m rfl (a6a (bc rfl) rfl) (dh (by omega)) λr hr=>?_) (dj λx _=>dg _) hc
  have h1:=M.lt r (pm.mem_iff.mp hr);have e:ks[r]? = some ((ks[r]?).getD 0):=by rw[ae (by omega)];rfl
  rw[u6];unfold CAS.a0c;exact kj (bc rfl) (bc rfl) (asa (by rw[aM,e];rfl))
 refine⟨m,pm,sm,H,?_⟩;refine ets (p7 (bc rfl) so) ?_;refine ets (p7 z1 (show uq [.rol ((a9p rows m).map m8)] H=.ok (.tup ((a9p rows m).map m8)) H from rfl)) ?_
 exact aU toR (nq (a7j (bc rfl) (bc rfl) (p7 (z3 _) (show uq [.rol ((a8b ks m).map D.int)] H=.ok (.tup ((a8b ks m).map D.int)) H from rfl)) ar0))
theorem awg(T1:Tongue tg)(hn1:1<=n)(hn2:n<=32)(lr:rows.length=n)(lk:ks.length=n)(rr:∀r∈rows,abt tg.length n r)(k0:ks[0]? = some (-1))(kk:∀k∈ks,KOk k) :
  ∃T:Table,T.Ok/\T.tg=tg/\(∀r,r<T.go.length->PN.Rch T.go r)/\Pu CAS.m5 3 [.str (S tg),.rol (rows.map a0o),.rol (ks.map D.int)] T.d:=by
 obtain⟨met,i,t5,ew,M,cl⟩:=CAS.aro (tg:=tg) (ks:=ks) hn1 hn2 lr rr;obtain⟨m,pm,sm,H,ee⟩:=CAS.arp (i:=i) (t5:=t5) hn2 lr lk T1.hi rr M.toMet cl;have lm:m.length=met.length:=pm.length_eq;have ln:=M.len;have zm:0∈m:=pm.mem_iff.mpr M.z;have m0:m[0]? = some 0:=by
  cases m with
  |nil=>cases zm
  |cons a l =>
   rcases aR.mp zm with q|q
   ·rw[<-q];rfl
   ·have:=(List.pairwise_cons.mp sm).1 0 q
    rw[show a=0 by omega];rfl
 let T:Table:=⟨tg,a9p rows m,a8b ks m⟩
 have ml:1<=m.length:=by cases m with|nil=>cases zm|cons _ _=>simp
 have ok:T.Ok:=by
  refine⟨T1,by simpa[T] using ml,by show(a9p rows m).length<=32;rw[ai];omega,λr hr=>?_,by simp[T],?_,λk hk=>?_⟩
  ·obtain⟨q,hq,rfl⟩:=bG.mp hr;have h1:=M.lt q (pm.mem_iff.mp hq);have e:rows[q]? = some ((rows[q]?).getD []):=by rw[ae (by omega)];rfl
   obtain⟨a,b⟩:=rr _ (aN e);refine⟨by rw[ai];exact a,λx hx=>?_⟩
   obtain⟨v,hv,rfl⟩:=bG.mp hx;show pos m v<(a9p rows m).length;rw[ai];exact(aiu (pm.mem_iff.mpr (cl q (pm.mem_iff.mp hq) v hv))).2
  ·show(a8b ks m)[0]? = _;rw[aM,m0];show some ((ks[0]?).getD 0)=_;rw[k0];rfl
  ·obtain⟨q,hq,rfl⟩:=bG.mp hk;have h1:=M.lt q (pm.mem_iff.mp hq);have e:ks[q]? = some ((ks[q]?).getD 0):=by rw[ae (by omega)];rfl
   exact kk _ (aN e)
 have ca:∀d∈[.str (S tg),.rol (rows.map a0o),.rol (ks.map D.int)],MI.clo 0 d:=by
  intro d hd
  simp only[aR,bg,cE]at hd
  rcases hd with rfl|rfl|rfl
  ·exact jc _
  ·exact jq (dj λx _=>jq (iz _))
  ·exact jq (dj λx _=>dg x)
 refine⟨T,ok,rfl,PN.arn (pm.nodup_iff.mpr M.nd) m0 (λr hr x hx=>pm.mem_iff.mpr (cl r (pm.mem_iff.mp hr) x hx)) (λr hr=>M.q r (pm.mem_iff.mp hr)),Pu.of rfl ca (r:=.ok T.d H) ?_ (jy Table.clo (by intro x hx;cases hx)) Table.clo⟩
 unfold CAS.m5;rw[dw];show toR (CAS.a4g [some (.str (S tg)),some (.rol (rows.map a0o)),some (.rol (ks.map D.int)),none,none,none,none] [])=_;unfold CAS.a4g;refine etr (jr (d:=.ref 0) (h1:=[.lst ([0].map bj)]) rfl) ?_;refine etr (jr ckk) ?_;refine etr (u9 ew) ?_;exact ee
end
end CAS
namespace CAS
open L2 MI AT HND EVX K22 K23 K21 SRC
abbrev sD(l:List Nat):D:=.str (S l)
abbrev rI(r:List Int):O:=.lst (r.map D.int)
def acw:Nat->D
 |0=>.ref 2
 |k+1=>.ref (5+k)
abbrev HG(u:O)(ws:List (List Nat))(r0:List Int)(rs:List (List Int))(ks:List Int):Hd :=
 u::.lst (ws.map sD)::rI r0::.lst ((List.range (rs.length+1)).map acw)::rI ks::rs.map rI
theorem amo(k n:Nat)(h:k<n):MI.clo (n+4) (acw k):=by
 cases k with
 |zero=>show 2<n+4;omega
 |succ k=>show 5+k<n+4;omega
theorem abf{ws:List (List Nat)}{ks:List Int}(P:Src u N):∀o∈HG u ws r0 rs ks,a0j (HG u ws r0 rs ks).length o:=by
 have ln:(HG u ws r0 rs ks).length=(rs.length+1)+4:=by simp[HG]
 rw[ln]
 intro o ho
 simp only[HG,aR,bG]at ho
 rcases ho with rfl|rfl|rfl|rfl|rfl|⟨r,_,rfl⟩
 ·exact n6 (bq _) P.clo
 ·exact n6 (bq _) (dj λx _=>jc _)
 ·exact n6 (bq _) (dj λx _=>dg x)
 ·exact dj λk hk=>amo k _ (bS.mp hk)
 ·exact n6 (bq _) (dj λx _=>dg x)
 ·exact n6 (bq _) (dj λx _=>dg x)
theorem a8c{ws:List (List Nat)}{ks:List Int}{k:Nat}(e:(r0::rs)[k]? = some r):∃j,acw k=.ref j/\(HG u ws r0 rs ks)[j]? = some (rI r)/\∀r',∃r0' rs',r0'::rs'=(r0::rs).set k r'/\(HG u ws r0 rs ks).set j (rI r')=HG u ws r0' rs' ks:=by
 cases k with
 |zero =>
  cases e
  exact⟨2,rfl,rfl,λr'=>⟨r',rs,rfl,rfl⟩⟩
 |succ k =>
  have e':rs[k]? = some r:=by simpa using e
  refine⟨5+k,rfl,?_,λr'=>⟨r0,rs.set k r',rfl,?_⟩⟩
  ·show(u::O.lst (ws.map sD)::rI r0::O.lst ((List.range (rs.length+1)).map acw)::rI ks::rs.map rI)[5+k]? = _;rw[show 5+k=k+1+1+1+1+1 from Nat.add_comm 5 k]
   simp only[List.getElem?_cons_succ,aM,e',dO]
  ·show(u::O.lst (ws.map sD)::rI r0::O.lst ((List.range (rs.length+1)).map acw)::rI ks::rs.map rI).set (5+k) (rI r')=_;rw[show 5+k=k+1+1+1+1+1 from Nat.add_comm 5 k]
   simp only[List.set_cons_succ,HG,cP,gS]
theorem arq{ws:List (List Nat)}{ks:List Int}{k:Nat}(h:k<rs.length+1):gIx (.ref 3) (bj k) (HG u ws r0 rs ks)=.ok (acw k) (HG u ws r0 rs ks) :=
 a2x (xs:=(List.range (rs.length+1)).map acw) rfl (by rw[aM,cy h];rfl)
structure Gro (tg:List Nat) (rows:List (List Int)) (ks:List Int):Prop where
 rl:∀r∈rows,r.length=tg.length
 rx:∀r∈rows,∀x∈r,x = -1\/(1<=x/\x<(rows.length:Nat))
 lk:ks.length=rows.length
 k0:ks[0]? = some (-1)
 kk:∀k∈ks,KOk k
theorem Gro.set(G:Gro tg rows ks){r:List Int}{x:Int}(e:rows[k]? = some r)(hx:1<=x/\x<(rows.length:Nat)):Gro tg (rows.set k (r.set i x)) ks:=by
 have hr:=aN e;refine⟨λq hq=>?_,λq hq y hy=>?_,by rw[cP];exact G.lk,G.k0,G.kk⟩
 ·rcases bW hq with z|z
  ·exact G.rl q z
  ·subst z;rw[cP];exact G.rl r hr
 ·rw[cP]
  rcases bW hq with z|z
  ·exact G.rx q z y hy
  ·subst z
   rcases bW hy with w|w
   ·exact G.rx r hr y w
   ·subst w;exact .inr hx
theorem Gro.grow(G:Gro tg rows ks){r:List Int}(e:rows[k]? = some r):Gro tg (rows.set k (r.set i (rows.length:Nat))++[List.replicate tg.length (-1)]) (ks++[-1]):=by
 have hr:=aN e;have kl:k<rows.length:=(af.mp e).1;refine⟨λq hq=>?_,λq hq y hy=>?_,by simp[G.lk],?_,λq hq=>?_⟩
 ·rcases bo.mp hq with z|z
  ·rcases bW z with z|z
   ·exact G.rl q z
   ·subst z;rw[cP];exact G.rl r hr
  ·rw[aw]at z;subst z;simp
 ·have ln:(rows.set k (r.set i (rows.length:Nat))++[List.replicate tg.length (-1)]).length=rows.length+1:=by simp
  rw[ln];have up:∀y:Int,(y = -1\/(1<=y/\y<(rows.length:Nat)))->(y = -1\/(1<=y/\y<((rows.length+1:Nat):Int))):=λy h=>by omega
  rcases bo.mp hq with z|z
  ·rcases bW z with z|z
   ·exact up y (G.rx q z y hy)
   ·subst z
    rcases bW hy with w|w
    ·exact up y (G.rx r hr y w)
    ·subst w;omega
  ·rw[aw]at z;subst z;exact .inl (eN hy)
 ·have:0<ks.length:=by rw[G.lk];omega
  rw[aJ this];exact G.k0
 ·rcases bo.mp hq with z|z
  ·exact G.kk q z
  ·rw[aw]at z;subst z;decide
abbrev τG(tg:List Nat)(a5 a6 a7 a8 a9:Option D):Sd:=[some (.ref 0),some (sD tg),some (.ref 1),some (.ref 3),some (.ref 4),a5,a6,a7,a8,a9,none]
abbrev ps(tg:List Nat)(c:Nat):Nat:=psn ⟨tg,[],[]⟩ c
theorem int_at{r:List Int}(e:h[j]? = some (rI r))(ex:r[i]? = some x):gIx (.ref j) (bj i) h=.ok (.int x) h:=a2x e (by rw[aM,ex];rfl)
theorem a5h{ws:List (List Nat)}{ks:List Int}{τ:Sd}(h3:τ[3]? = some (some (.ref 3)))(h7:τ[7]? = some (some (bj k)))(h9:τ[9]? = some (some (bj i)))(e:(r0::rs)[k]? = some r)(ex:r[i]? = some x):s2 gIx (s2 gIx (sV 3) (sV 7)) (sV 9) τ (HG u ws r0 rs ks)=.ok (.int x) (HG u ws r0 rs ks):=by
 obtain⟨j,ej,ea,_⟩:=a8c (u:=u) (ws:=ws) (ks:=ks) e;have hk:k<rs.length+1:=by simpa using (af.mp e).1
 exact kj (kj (bc h3) (bc h7) ((arq hk).trans (by rw[ej]))) (bc h9) (int_at ea ex)
theorem aj7{tg:List Nat}{ws:List (List Nat)}{ks:List Int}(G:Gro tg (r0::rs) ks)(t6:tg.length<=6)(hk:k<rs.length+1)(hc:c∈tg)(rl:rs.length<=100) :
  ∃(r0':List Int) (rs':List (List Int)) (ks':List Int) (k':Nat) (a9':Option D),CAS.qj aa (τG tg a5 a6 (some (bj k)) (some (sD [c])) a9) (HG u ws r0 rs ks)=.nx (τG tg a5 a6 (some (bj k')) (some (sD [c])) a9') (HG u ws r0' rs' ks')/\Gro tg (r0'::rs') ks'/\1<=k'/\k'<rs'.length+1/\rs'.length<=rs.length+1:=by
 obtain⟨r,e⟩:∃r,(r0::rs)[k]? = some r:=⟨_,ae (by simpa using hk)⟩
 have hr:=aN e;have lr:=G.rl r hr;have hp:=(a7e (T:=⟨tg,[],[]⟩) hc).2;have hf:=aiy (T:=⟨tg,[],[]⟩) hc (HG u ws r0 rs ks);obtain⟨x,ex⟩:∃x,r[ps tg c]? = some x:=⟨_,ae (by rw[lr];exact hp)⟩
 have xx:=G.rx r hr x (aN ex);have fnd:sMS aak (sV 1) (ak (sV 8) bu) (τG tg a5 a6 (some (bj k)) (some (sD [c])) a9) (HG u ws r0 rs ks)=.ok (bj (ps tg c)) (HG u ws r0 rs ks):=asb (bc rfl) (arg1 (bc rfl)) hf;have lg:∀{h:Hd},h[3]? = some (.lst ((List.range (rs.length+1)).map acw))->qu [.ref 3] h=.ok (bj (rs.length+1)) h:=λe=>by rw[a5e e,ai,aX]
 unfold CAS.qj
 by_cases x0:x<0
 ·obtain⟨j,ej,ea,st⟩:=a8c (u:=u) (ws:=ws) (ks:=ks) e;obtain⟨q0,qs,eq,es⟩:=st (r.set (ps tg c) ((rs.length+1:Nat):Int));have ql:qs.length=rs.length:=by simpa using aU List.length eq
  have g2:=G.grow (k:=k) (i:=ps tg c) e;have en:(r0::rs).length=rs.length+1:=bB;rw[en,<-eq,dW]at g2;have nr:(q0::(qs++[List.replicate tg.length (-1)]))[k]? = some (r.set (ps tg c) ((rs.length+1:Nat):Int)):=by
   have:(q0::qs)[k]? = some (r.set (ps tg c) ((rs.length+1:Nat):Int)):=by rw[eq,bZ (by simpa using hk)]
   rw[<-dW,aJ (by rw[bB,ql];exact hk)]
   exact this
  refine⟨q0,qs++[List.replicate tg.length (-1)],ks++[-1],rs.length+1,some (bj (ps tg c)),?_,g2,by omega,by simp[ql],by simp[ql]⟩
  refine aH (jr fnd) ?_;refine aH (u9 (τ1:=τG tg a5 a6 (some (bj k)) (some (sD [c])) (some (bj (ps tg c)))) (h1:=HG u ws q0 (qs++[List.replicate tg.length (-1)]) (ks++[-1])) (aH (ifT (t2s (a5h rfl rfl rfl e ex) ckk (am5 x0))) ?_)) (acq (a5h rfl rfl rfl nr (by rw[bZ (by rw[lr];exact hp)])))
  refine aH (u9 (ai6 (h4:=HG u ws q0 qs ks) (p7 (bc rfl) (lg rfl)) (kj (bc rfl) (bc rfl) ((arq hk).trans (by rw[ej]))) (bc rfl) ?_)) ?_
  ·rw[aqy (xs:=r.map D.int) ea (by rw[ai,lr];exact hp),<-es]
   unfold rI;rw[gS]
  ·have nw:jk (sIt (sV 1)) t1 (CAS.a0m aa) [] (τG tg a5 a6 (some (bj k)) (some (sD [c])) (some (bj (ps tg c)))) (HG u ws q0 qs ks)=.ok (.ref (5+rs.length)) (HG u ws q0 qs ks++[rI (List.replicate tg.length (-1))]):=by
    refine(qe (λc:Nat=>D.str (S [c])) (λ_=>D.int (-1)) tg (a6a (bc rfl) (PAP.afz tg _)) (dh (by omega)) λc _=>?_).trans ?_
    ·rw[u6];unfold CAS.a0m;exact afh ckk (a5f _)
    ·have ln:(HG u ws q0 qs ks).length=5+rs.length:=by simp[HG,ql];omega
     rw[ln]
     congr 2
     unfold rI;rw[fZ,<-List.map_const']
   refine aH (u9 (a06 (bc rfl) rfl (arg1 nw) (a07 (xs:=(List.range (qs.length+1)).map acw) rfl (by rw[ai,aX];exact a08 (by omega))))) ?_
   refine aH (a06 (bc rfl) rfl (arg1 (afh ckk (a5f _))) (a07 (xs:=ks.map D.int) rfl (by rw[ai,G.lk,en];exact a08 (by omega)))) ?_
   congr 1
   show u::.lst (ws.map sD)::rI q0::.lst ((List.range (qs.length+1)).map acw++[.ref (5+rs.length)])::.lst (ks.map D.int++[.int (-1)])::(qs.map rI++[rI (List.replicate tg.length (-1))])=_;unfold HG;rw[ah,av,dM (n:=qs.length+1),bA,bA,ql];unfold rI;rw[bA];rfl
 ·have x1:1<=x/\x<((rs.length+1:Nat):Int):=by rcases xx with z|z<;>omega
  obtain⟨y,rfl⟩:=ay (show 0<=x by omega)
  refine⟨r0,rs,ks,y,some (bj (ps tg c)),?_,G,by omega,by omega,by omega⟩
  refine aH (jr fnd) ?_;refine aH (ifN (t2s (a5h rfl rfl rfl e ex) ckk (afj x0))) ?_;exact acq (a5h rfl rfl rfl e ex)
noncomputable abbrev az6:SE:=s2 gIx (sV 2) (sA (gq false 2 aa) (ak (sV 1) (ak (sA qu (ak (sV 2) bu)) bu)))
theorem drawn{tg:List Nat}{τ:Sd}{hs:Hd}{u0 u:O}{ix:List Nat}(P:Src u N)(hN:N<=999990000)(t1':1<=tg.length)(t6:tg.length<=6)(hc:∀u':O,a0j 0 u'->∀o∈u'::hs,a0j (hs.length+1) o)(hm:fm τ (u0::hs)=.ok (bj m) (u::hs))(m3:m<=300)(hf:frs' ix τ=[some (.ref 0),some (sD tg)]) :
  ∃t u',t.length=m/\(∀c∈t,c∈tg)/\Src u' (N+m)/\sMS aam (sC (.str "")) (ak (sZ (jk (sRg yt (ak fm bu)) t1 az6 ix)) bu) τ (u0::hs)=.ok (sD t) (u'::hs):=by
 have mp:=a9a (f:=a7i t1 az6 (frs' ix τ)) (λi:Nat=>D.int (i:Nat))
  (λpre ys h=>∃(u:O) (t:List Nat),h=u::hs/\Src u (N+pre.length)/\ys=ones t/\t.length=pre.length/\∀c∈t,c∈tg)
  (List.range m) [] [] (u::hs) ?_ ⟨u,[],rfl,P,rfl,rfl,by simp⟩
 ·obtain⟨zs,h',em,u',t,rfl,P5,ez,tl,tt⟩:=mp;rw[cV]at ez tl P5;rw[aX]at tl P5;subst ez;refine⟨t,u',tl,tt,P5,?_⟩;have cz:sZ (jk (sRg yt (ak fm bu)) t1 az6 ix) τ (u0::hs)=.ok (.rol (ones t)) (u'::hs):=by
   refine b20 rfl ?_ (dj λl _=>jc _) (hc u' P5.clo);unfold jk sRg;rw[arg1 hm,bf,ab5 _ (dh (by omega)),bf]
   dsimp only;rw[aO (by rw[ai,aX];exact dh (by omega)),em]
   rfl
  exact asb (z:=S []) ckk (arg1 cz) (aj2 (by omega))
 ·rintro pre i post ys h all ⟨u,t,rfl,Pu,rfl,tl,tt⟩
  rw[cV]at all;have hi:pre.length<m:=by
   have:=aU List.length all
   simp at this
   omega
  obtain⟨x,u',e5,x0,x1,P5⟩:=iw (m:=(tg.length:Nat)) Pu (by omega) (by omega) (by omega)
  obtain⟨j,rfl⟩:=ay x0;have hj:j<tg.length:=by omega
  have c5:gq false 2 SRC.aa [.ref 0,.int (tg.length:Nat)] (u::hs)=.ok (.int (j:Nat)) (u'::hs):=e5 0 _ rfl;refine⟨.str (S [tg[j]]),u'::hs,?_,u',t++[tg[j]],rfl,by rw[ah,av];exact P5,by simp[ones],by rw[ah,ah,tl];rfl,λq hq=>?_⟩
  ·rw[u6,hf];exact kj (bc rfl) (kh (bc rfl) (p7 (bc rfl) (a9g (dh (by omega)))) c5) (av7 (dh (by omega)) (ae hj))
  ·rcases bo.mp hq with h|h
   ·exact tt q h
   ·rw[aw]at h;subst h;exact aY hj
theorem aj8{tg w:List Nat}{ws:List (List Nat)}{ks:List Int}(G:Gro tg (r0::rs) ks)(t6:tg.length<=6)(hw:∀c∈w,c∈tg)(w1:1<=w.length)(rl:rs.length+w.length<=100) :
  ∃(r0':List Int) (rs':List (List Int)) (ks':List Int) (k':Nat) (a8' a9':Option D),forL (λ_=>True) (kN 8) (CAS.qj aa) (w.map λc=>sD [c]) (τG tg a5 a6 (some (bj 0)) a8 a9) (HG u ws r0 rs ks)=.nx (τG tg a5 a6 (some (bj k')) a8' a9') (HG u ws r0' rs' ks')/\Gro tg (r0'::rs') ks'/\1<=k'/\k'<rs'.length+1/\rs'.length<=rs.length+w.length:=by
 have lp:=nu (g:=kN 8) (b:=CAS.qj aa) (λc=>sD [c])
  (λpre τ h=>∃(r0':List Int) (rs':List (List Int)) (ks':List Int) (k':Nat) (a8' a9':Option D),τ=τG tg a5 a6 (some (bj k')) a8' a9'/\h=HG u ws r0' rs' ks'/\Gro tg (r0'::rs') ks'/\(pre≠[]->1<=k')/\k'<rs'.length+1/\rs'.length<=rs.length+pre.length)
  w (τG tg a5 a6 (some (bj 0)) a8 a9) (HG u ws r0 rs ks) ?_ ⟨r0,rs,ks,0,a8,a9,rfl,rfl,G,λz=>absurd rfl z,by omega,by simp⟩
 ·obtain⟨τ',h',e,r0',rs',ks',k',a8',a9',rfl,rfl,G',q1,q2,q3⟩:=lp;exact⟨r0',rs',ks',k',a8',a9',e,G',q1 (by intro z;rw[z]at w1;simp at w1),q2,q3⟩
 ·rintro pre c post τ h all ⟨r1,rs1,ks1,k1,b8,b9,rfl,rfl,G1,q1,q2,q3⟩
  have pl:pre.length<w.length:=by rw[all];simp
  obtain⟨r2,rs2,ks2,k2,b9',e,G2,p1,p2,p3⟩:=aj7 (a5:=a5) (a6:=a6) (a9:=b9) (u:=u) (ws:=ws) G1 t6 q2 (hw c (by rw[all];simp)) (by omega)
  exact⟨_,_,rfl,_,_,e,r2,rs2,ks2,k2,_,_,rfl,rfl,G2,λ_=>p1,p2,by rw[ah,av];omega⟩
theorem ars{xs:List D}(e:h[i]? = some (.lst xs))(p:xs.all (pur 59)=true):aqq true (.ref i) (.rol []) h=.ok (.bl (!xs.isEmpty)) h:=by
 unfold aqq;have:yu (.ref i) h=some xs:=by unfold yu;simp only[e]
 rw[this];show(if xs.all (pur 59)=true/\([]:List D).all (pur 59)=true then R.ok (D.bl (!a5w xs [])) h else .no)=_
 rw[aO ⟨p,rfl⟩]
 cases xs with
 |nil=>rfl
 |cons a l=>simp[a5w]
theorem az7(c:∀o∈h,a0j h.length o):sZ (sA MI.a1u bu) τ h=.ok (.rol []) h:=a1c rfl mj c
theorem Gro.kput(G:Gro tg rows ks)(hk:1<=k)(hv:KOk v):Gro tg rows (ks.set k v):=by
 refine⟨G.rl,G.rx,by rw[cP];exact G.lk,by rw[cC (by omega)];exact G.k0,λq hq=>?_⟩
 rcases bW hq with z|z
 ·exact G.kk q z
 ·subst z;exact hv
def Wok(tg:List Nat)(ws:List (List Nat)):Prop:=∀w∈ws,1<=w.length/\w.length<=6/\∀c∈w,c∈tg
theorem awh(ws:List (List Nat)):(ws.map sD).all (pur 59)=true:=by
 rw[bN]
 intro d hd
 obtain⟨w,_,rfl⟩:=bG.mp hd;rfl
theorem aj9{tg:List Nat}{ws:List (List Nat)}{ks:List Int}(P:Src u N)(hN:N<=999980000)(G:Gro tg (r0::rs) ks)(W:Wok tg ws)(t1':1<=tg.length)(t6:tg.length<=6)(rl:rs.length<=50)(wl:ws.length<=50) :
  ∃(u':O) (w:List Nat) (r0':List Int) (rs':List (List Int)) (ks':List Int) (b6 b7 b8 b9:Option D),CAS.xu aa (τG tg a5 a6 a7 a8 a9) (HG u ws r0 rs ks)=.nx (τG tg a5 b6 b7 b8 b9) (HG u' (ws++[w]) r0' rs' ks')/\Src u' (N+20)/\Wok tg (ws++[w])/\Gro tg (r0'::rs') ks'/\1<=rs'.length/\rs'.length<=rs.length+6:=by
 obtain⟨x,u1,e1,x0,x1,P1⟩:=iw (m:=4) P (by omega) (by omega) (by omega)
 obtain⟨x,rfl⟩:=ay x0;have c1:gq false 2 aa [.ref 0,.int 4] (HG u ws r0 rs ks)=.ok (bj x) (HG u1 ws r0 rs ks):=e1 0 _ rfl;have hcl:∀u':O,a0j 0 u'->∀o∈HG u' ws r0 rs ks,a0j ((HG u' ws r0 rs ks).tail.length+1) o:=λu' hu o ho=>by
  rcases aR.mp ho with z|z
  ·subst z;exact n6 (bq _) hu
  ·have:=abf (ws:=ws) (r0:=r0) (rs:=rs) (ks:=ks) P o (aK _ z)
   simpa[HG] using this
 obtain⟨w,u2,wl1,wt,P2,ew⟩:=drawn (tg:=tg) (τ:=τG tg a5 a6 a7 a8 a9) (hs:=(HG u ws r0 rs ks).tail) (u0:=u) (ix:=[0,1]) (fm:=s2 ie (sI 1) (sA (gq false 2 aa) (ak (sV 0) (ak (sI 4) bu)))) (m:=1+x) P1 (by omega) t1' t6 hcl
  ((kj ckk (kh (bc rfl) ckk c1) u5).trans (by congr 2)) (by omega) rfl
 obtain⟨w2,u3,w21,w26,wt2,P3,eu⟩:∃(w2:List Nat) (u3:O),1<=w2.length/\w2.length<=6/\(∀c∈w2,c∈tg)/\Src u3 (N+12)/\∀g:SS,dm (sIf (a7s (sT (s2 (aqq true) (sV 2) (sZ (sA a1u bu)))) (sT (s2 hEq (sA (gq false 2 aa) (ak (sV 0) (ak (sI 2) bu))) (sI 0))))
   (j9 6 (yp (s2 ie (s2 gIx (sV 2) (sA (gq false 2 aa) (ak (sV 0) (ak (sA qu (ak (sV 2) bu)) bu)))) (sV 6)) oN (oS (sI 6)))) sNx) g (τG tg a5 (some (sD w)) a7 a8 a9) (HG u2 ws r0 rs ks)=g (τG tg a5 (some (sD w2)) a7 a8 a9) (HG u3 ws r0 rs ks):=by
  have t0:∀{τ:Sd},τ[2]? = some (some (.ref 1))->s2 (aqq true) (sV 2) (sZ (sA MI.a1u bu)) τ (HG u2 ws r0 rs ks)=.ok (.bl (!(ws.map sD).isEmpty)) (HG u2 ws r0 rs ks):=λh2=>kj (bc h2) (az7 (abf P2)) (ars rfl (awh ws))
  cases hws:ws with
  |nil =>
   subst hws;exact⟨w,u2,by omega,by omega,wt,P2.up (by omega),λg=>ifN (axj (tof (t0 rfl)))⟩
  |cons w0 wr =>
   rw[<-hws];have wp:1<=ws.length:=by rw[hws];simp
   have ne:(!(ws.map sD).isEmpty)=true:=by rw[hws];rfl
   obtain⟨y,u3,e3,y0,y1,P3⟩:=iw (m:=2) P2 (by omega) (by omega) (by omega)
   have c3:gq false 2 aa [.ref 0,.int 2] (HG u2 ws r0 rs ks)=.ok (.int y) (HG u3 ws r0 rs ks):=e3 0 _ rfl
   by_cases hy:y=0
   ·obtain⟨z,u4,e4,z0,z1,P4⟩:=iw (m:=(ws.length:Nat)) P3 (by omega) (by omega) (by omega)
    obtain⟨z,rfl⟩:=ay z0;have c4:gq false 2 aa [.ref 0,bj ws.length] (HG u3 ws r0 rs ks)=.ok (bj z) (HG u4 ws r0 rs ks):=e4 0 _ rfl;have zl:z<ws.length:=by omega
    obtain⟨v1,v6,vt⟩:=W ws[z] (aY zl);have lw:qu [.ref 1] (HG u3 ws r0 rs ks)=.ok (bj ws.length) (HG u3 ws r0 rs ks):=by rw[a5e (xs:=ws.map sD) rfl,ai]
    refine⟨(ws[z]++w).take 6,u4,by rw[aT,ah];omega,by rw[aT];omega,λc hc=>?_,P4.up (by omega),λg=>?_⟩
    ·rcases bo.mp (bY hc) with q|q
     ·exact vt c q
     ·exact wt c q
    ·refine u9 (aH (ifT (ao5 (tof ((t0 rfl).trans (by rw[ne]))) (t2s (kh (bc rfl) ckk c3) ckk (a2b hy)))) (acq ?_))
     exact PAP.afl (kj (kj (bc rfl) (kh (bc rfl) (p7 (bc rfl) lw) c4) (a2x (xs:=ws.map sD) rfl (y:=sD ws[z]) (by rw[aM,ae zl];rfl))) (bc rfl) (afe (dh (by omega)))) rfl (PAP.aef ckk) (ao4 6 (dh (by rw[ah];omega)))
   ·refine⟨w,u3,by omega,by omega,wt,P3.up (by omega),λg=>?_⟩
    exact ifN (ao5 (tof ((t0 rfl).trans (by rw[ne]))) (t2s (kh (bc rfl) ckk c3) ckk (yx hy)))
 obtain⟨r0',rs',ks',k',a8',a9',e5,G',k1,k2,k3⟩:=aj8 (a5:=a5) (a6:=some (sD w2)) (a8:=a8) (a9:=a9) (u:=u3) (ws:=ws++[w2]) G t6 wt2 w21 (by omega)
 obtain⟨v,u4,e6,v0,v1,P4⟩:=iw (m:=6) P3 (by omega) (by omega) (by omega)
 have c6:gq false 2 aa [.ref 0,.int 6] (HG u3 (ws++[w2]) r0' rs' ks')=.ok (.int v) (HG u4 (ws++[w2]) r0' rs' ks'):=e6 0 _ rfl;have lk:=G'.lk;rw[bB]at lk;refine⟨u4,w2,r0',rs',ks'.set k' v,some (sD w2),some (bj k'),a8',a9',?_,P4.up (by omega),λq hq=>?_,G'.kput k1 (by constructor<;>omega),by omega,by omega⟩
 ·unfold CAS.xu;refine aH (jr ew) ?_;refine aH (eu _) ?_;refine aH (u9 (a06 (bc rfl) rfl (arg1 (bc rfl)) (a07 (xs:=ws.map sD) rfl (by rw[ai];exact a08 (by omega))))) ?_
  refine aH (jr ckk) ?_;refine aH (a3k (a6a (bc rfl) (PAP.afz w2 _))) ?_;refine aH (aU (λz=>MI.thn z _) (aH (aU (forL (λ_=>True) (kN 8) (CAS.qj aa) (w2.map λc=>sD [c]) (τG tg a5 (some (sD w2)) (some (bj 0)) a8 a9)) (show(_:Hd)=HG u3 (ws++[w2]) r0 rs ks by unfold HG;rw[bA];rfl)) e5)) ?_
  rw[a0v];refine ai6 (kh (bc rfl) ckk c6) (bc rfl) (bc rfl) ?_;rw[aqy (xs:=ks'.map D.int) rfl (by rw[ai,lk];exact k2)]
  show some _=some _
  congr 1
  unfold HG rI;rw[gS];rfl
 ·rcases bo.mp hq with z|z
  ·exact W q z
  ·rw[aw]at z;subst z;exact⟨w21,w26,wt2⟩
end CAS
namespace CAS
open L2 MI AT HND EVX K22 K23 K21 SRC
theorem aja{tg:List Nat}{ws:List (List Nat)}{ks:List Int}(P:Src u N)(hN:N<=999980000)(G:Gro tg (r0::rs) ks)(t1':1<=tg.length)(t6:tg.length<=6)(r1:1<=rs.length)(rl:rs.length<=50) :
  ∃(u':O) (r0':List Int) (rs':List (List Int)) (b7 b9:Option D),CAS.yc aa (τG tg a5 a6 a7 a8 a9) (HG u ws r0 rs ks)=.nx (τG tg a5 a6 b7 a8 b9) (HG u' ws r0' rs' ks)/\Src u' (N+3)/\Gro tg (r0'::rs') ks/\rs'.length=rs.length:=by
 obtain⟨k,u1,e1,k0,k1,P1⟩:=iw (m:=((rs.length+1:Nat):Int)) P (by omega) (by omega) (by omega)
 obtain⟨k,rfl⟩:=ay k0;have hk:k<rs.length+1:=by omega
 obtain⟨i,u2,e2,i0,i1,P2⟩:=iw (m:=(tg.length:Nat)) P1 (by omega) (by omega) (by omega)
 obtain⟨i,rfl⟩:=ay i0;obtain⟨z,u3,e3,z0,z1,P3⟩:=iw (m:=((rs.length:Nat):Int)) P2 (by omega) (by omega) (by omega)
 have lg:∀u:O,qu [.ref 3] (HG u ws r0 rs ks)=.ok (bj (rs.length+1)) (HG u ws r0 rs ks):=λu=>by rw[a5e (xs:=(List.range (rs.length+1)).map acw) rfl,ai,aX]
 have c1:gq false 2 aa [.ref 0,bj (rs.length+1)] (HG u ws r0 rs ks)=.ok (bj k) (HG u1 ws r0 rs ks):=e1 0 _ rfl;have c2:gq false 2 aa [.ref 0,bj tg.length] (HG u1 ws r0 rs ks)=.ok (bj i) (HG u2 ws r0 rs ks):=e2 0 _ rfl;have c3:gq false 2 aa [.ref 0,.int (((rs.length+1:Nat):Int)-1)] (HG u2 ws r0 rs ks)=.ok (.int z) (HG u3 ws r0 rs ks):=by
  rw[show((rs.length+1:Nat):Int)-1=(rs.length:Nat) by omega];exact e3 0 _ rfl
 obtain⟨r,e⟩:∃r,(r0::rs)[k]? = some r:=⟨_,ae (by simpa using hk)⟩
 have lr:=G.rl r (aN e);obtain⟨x,ex⟩:∃x,r[i]? = some x:=⟨_,ae (by rw[lr];omega)⟩
 unfold CAS.yc
 by_cases x0:x<0
 ·obtain⟨j,ej,ea,st⟩:=a8c (u:=u3) (ws:=ws) (ks:=ks) e;obtain⟨q0,qs,eq,es⟩:=st (r.set i (1+z));have g2:=G.set (k:=k) (i:=i) (x:=1+z) e (by rw[bB];omega)
  rw[<-eq]at g2;refine⟨u3,q0,qs,some (bj k),some (bj i),?_,P3,g2,by simpa using aU List.length eq⟩
  refine aH (jr (kh (bc rfl) (p7 (bc rfl) (lg u)) c1)) ?_;refine aH (jr (kh (bc rfl) (p7 (bc rfl) (a9g (dh (by omega)))) c2)) ?_
  refine aH (ifT (t2s (a5h rfl rfl rfl e ex) ckk (am5 x0))) ?_;refine ai6 (kj ckk (kh (bc rfl) (kj (p7 (bc rfl) (lg u2)) ckk (a89 _ _)) c3) u5) (kj (bc rfl) (bc rfl) ((arq hk).trans (by rw[ej]))) (bc rfl) ?_
  rw[aqy (xs:=r.map D.int) ea (by rw[ai,lr];omega),<-es]
  unfold rI;rw[gS]
 ·refine⟨u2,r0,rs,some (bj k),some (bj i),?_,P2.up (by omega),G,rfl⟩
  refine aH (jr (kh (bc rfl) (p7 (bc rfl) (lg u)) c1)) ?_;refine aH (jr (kh (bc rfl) (p7 (bc rfl) (a9g (dh (by omega)))) c2)) ?_
  exact ifF (t2s (a5h rfl rfl rfl e ex) ckk (afj x0))
theorem awi(e1:f τ h=.ok x h)(e2:g τ h=.ok y h)(l1:yu x h=some xs)(l2:yu y h=some ys)(cx:clos h.length (xs++ys))(c:∀o∈h,a0j h.length o)(z:xs.length+ys.length<=1000000):sZ (s2 ie f g) τ h=.ok (.rol (xs++ys)) h :=
 a1c (kj e1 e2 ((aho l1 l2).trans (aO (dh z)))) cx c
theorem awj(e:f τ h=.ok d h)(cd:MI.clo h.length d)(c:∀o∈h,a0j h.length o):sZ (sA MI.a1u (ak f bu)) τ h=.ok (.rol [d]) h :=
 a1c (p7 e (by unfold MI.a1u;rw[aO (dh (by simp))])) (g8 cd mj) c
theorem awk{xs:List D}(e:h[i]? = some (.lst xs)):agv (.ref i) h=.ok ⟨xs,λh'=>h'[i]? = some (.lst xs)⟩ h:=by unfold agv;simp only[e]
def cv(n:Nat)(r:List Int):List Nat:=r.map λx=>if 0<=x then x.toNat else n
abbrev rws(r0:List Int)(rs:List (List Int)):List (List Nat):=(List.range (rs.length+1)).map λk=>cv (rs.length+1) (((r0::rs)[k]?).getD [])
theorem awl{tg:List Nat}{ws:List (List Nat)}{ks:List Int}(P:Src u N)(G:Gro tg (r0::rs) ks)(t6:tg.length<=6)(rl:rs.length<=50) :
  sZ (jk (sIt (sV 3)) t1 (CAS.a0n aa) [3]) (τG tg a5 a6 a7 a8 a9) (HG u ws r0 rs ks)=.ok (.rol ((rws r0 rs).map a0o)) (HG u ws r0 rs ks):=by
 unfold rws;rw[bP];refine a1c (amc (ck:=λh=>h[3]? = some (.lst ((List.range (rs.length+1)).map acw))) acw (a0o ∘ λk=>cv (rs.length+1) (((r0::rs)[k]?).getD [])) (List.range (rs.length+1)) rfl (a6a (bc rfl) rfl) (by rw[aX];exact dh (by omega)) λk hk=>?_) (dj λx _=>jq (iz _)) (abf P)
 have hk:=bS.mp hk;obtain⟨r,e⟩:∃r,(r0::rs)[k]? = some r:=⟨_,ae (by simpa using hk)⟩
 obtain⟨j,ej,ea,_⟩:=a8c (u:=u) (ws:=ws) (ks:=ks) e;have lr:=G.rl r (aN e);have lg:qu [.ref 3] (HG u ws r0 rs ks)=.ok (bj (rs.length+1)) (HG u ws r0 rs ks):=by rw[a5e (xs:=(List.range (rs.length+1)).map acw) rfl,ai,aX]
 rw[u6,ej];show _=R.ok (a0o (cv (rs.length+1) (((r0::rs)[k]?).getD []))) _;rw[e];unfold CAS.a0n cv;show _=R.ok (a0o ((r).map _)) _;unfold a0o;rw[bP];refine a1c (amc (ck:=λh=>h[j]? = some (rI r)) D.int (bj ∘ λx=>if 0<=x then x.toNat else rs.length+1) r ea (a6a (bc rfl) (awk ea)) (dh (by omega)) λx hx=>?_) (dj λx _=>dg _) (abf P)
 rw[u6];unfold CAS.a2y
 by_cases x0:0<=x
 ·refine(SRC.az2 (tvc rfl (SRC.b07 x0)) (bc rfl)).trans ?_;show R.ok (D.int x) _=R.ok (D.int ((if 0<=x then x.toNat else rs.length+1:Nat):Int)) _
  rw[aO x0,Int.toNat_of_nonneg x0]
 ·refine(SRC.axn (tvc rfl (SRC.b08 x0)) (p7 (bc rfl) lg)).trans ?_;show _=R.ok (D.int ((if 0<=x then x.toNat else rs.length+1:Nat):Int)) _
  rw[bE x0]
end CAS
namespace CAS
open L2 MI AT HND EVX K22 K23 K21 SRC
theorem awm(c1:clos i xs)(c2:clos i ys):clos i (xs++ys):=qw.mpr λx hx=>(bo.mp hx).elim (qw.mp c1 x) (qw.mp c2 x)
noncomputable def j4:SF:=km (CAS.a1e aa) 11
abbrev ajb(tg:List Nat)(r0:List Int)(rs:List (List Int)):List (List Nat):=rws r0 rs++[tg.map λ_=>rs.length+1]
theorem amq{ks:List Int}(G:Gro tg (r0::rs) ks):∀r∈ajb tg r0 rs,abt tg.length (rs.length+2) r:=by
 intro r hr
 rcases bo.mp hr with z|z
 ·obtain⟨k,hk,rfl⟩:=bG.mp z;have hk:=bS.mp hk;obtain⟨q,e⟩:∃q,(r0::rs)[k]? = some q:=⟨_,ae (by simpa using hk)⟩
  rw[e];have hq:=aN e;refine⟨by unfold cv;rw[ai];exact G.rl q hq,λx hx=>?_⟩
  obtain⟨y,hy,rfl⟩:=bG.mp hx;have:=G.rx q hq y hy;rw[bB]at this
  split<;>omega
 ·rw[aw]at z;subst z;refine⟨by rw[ai],λx hx=>?_⟩
  obtain⟨_,_,rfl⟩:=bG.mp hx;omega
theorem ajc{ws:List (List Nat)}{ks:List Int}{X Y:List D}(cX:clos 0 X)(cY:clos 0 Y):a1q 1 (HG u ws r0 rs ks) FU (.tup [.ref 1,.rol X,.rol Y])=some (.tup [.rol (ws.map sD),.rol X,.rol Y]):=by
 have oc:∀{k:Nat} {d d':D} {ds ds':List D},a1q 1 (HG u ws r0 rs ks) k d=some d'->a00 (a1q 1 (HG u ws r0 rs ks) k) ds=some ds'->a00 (a1q 1 (HG u ws r0 rs ks) k) (d::ds)=some (d'::ds'):=λe1 e2=>by unfold a00;rw[e1,e2]
 refine a99 (k:=19) (oc (a4d (k:=17) (by omega) rfl (dj λx _=>jc _)) (oc (a4c (jq (wg (bq _) cX))) (oc (a4c (jq (wg (bq _) cY))) rfl))) ?_
 intro z
 have:=qw.mp z (.ref 1) aQ
 simp only[MI.clo]at this;omega
theorem amr{tg:List Nat}(P:Src o N)(hN:N<=999900000)(t1':1<=tg.length)(t6:tg.length<=6) :
  ∃(ws:List (List Nat)) (rows:List (List Nat)) (ks:List Int) (n:Nat) (o':O),1<=n/\n<=32/\1<=ws.length/\ws.length<=5/\Wok tg ws/\rows.length=n/\ks.length=n/\(∀r∈rows,abt tg.length n r)/\ks[0]? = some (-1)/\(∀k∈ks,KOk k) /\
   Dr CAS.j4 2 [sD tg] o (.tup [.rol (ws.map sD),.rol (rows.map a0o),.rol (ks.map D.int)]) o'/\Src o' (N+200):=by
 obtain⟨n1,u0,e0,n10,n11,P0⟩:=iw (m:=5) P (by omega) (by omega) (by omega)
 obtain⟨n1,rfl⟩:=ay n10
 let rm1:List Int:=List.replicate tg.length (-1)
 have c0:∀{o:O},gq false 2 aa [.ref 0,.int 5] (HG o [] rm1 [] [-1])=gq false 2 aa [.ref 0,.int 5] (HG o [] rm1 [] [-1]):=rfl;have c1:gq false 2 aa [.ref 0,.int 5] (HG o [] rm1 [] [-1])=.ok (bj n1) (HG u0 [] rm1 [] [-1]):=e0 0 _ rfl;have G0:Gro tg (rm1::[]) [-1]:=⟨λr hr=>by rw[aw]at hr;subst hr;simp[rm1],λr hr x hx=>by rw[aw]at hr;subst hr;exact .inl (eN hx),rfl,rfl,λk hk=>by rw[aw]at hk;subst hk;decide⟩
 have lp:=nu (g:=kN 5) (b:=CAS.xu aa) (λi:Nat=>D.int (i:Nat))
  (λpre τ h=>∃(u:O) (ws:List (List Nat)) (r0:List Int) (rs:List (List Int)) (ks:List Int) (a5 a6 a7 a8 a9:Option D),τ=τG tg a5 a6 a7 a8 a9/\h=HG u ws r0 rs ks/\Src u (N+1+20*pre.length)/\Wok tg ws/\ws.length=pre.length/\Gro tg (r0::rs) ks/\rs.length<=6*pre.length/\(pre≠[]->1<=rs.length))
  (List.range (1+n1)) (τG tg none none none none none) (HG u0 [] rm1 [] [-1]) ?_ ⟨u0,[],rm1,[],[-1],none,none,none,none,none,rfl,rfl,P0,(λw hw=>by cases hw),rfl,G0,bq _,(λz=>absurd rfl z)⟩
 ·obtain⟨τ',h',e2,u,ws,r0,rs,ks,a5,a6,a7,a8,a9,rfl,rfl,P1,W,wl,G,rl,r1⟩:=lp;rw[aX]at P1 wl rl;have r1:1<=rs.length:=r1 (by intro z;have:=aU List.length z;rw[aX]at this;simp at this)
  obtain⟨n2,u2,e3,n20,n21,P2⟩:=iw (m:=3) P1 (by omega) (by omega) (by omega)
  obtain⟨n2,rfl⟩:=ay n20;have c3:gq false 2 aa [.ref 0,.int 3] (HG u ws r0 rs ks)=.ok (bj n2) (HG u2 ws r0 rs ks):=e3 0 _ rfl;have lq:=nu (g:=kN 5) (b:=CAS.yc aa) (λi:Nat=>D.int (i:Nat))
   (λpre τ h=>∃(u:O) (q0:List Int) (qs:List (List Int)) (a5 a7 a9:Option D),τ=τG tg a5 a6 a7 a8 a9/\h=HG u ws q0 qs ks/\Src u (N+150+3*pre.length)/\Gro tg (q0::qs) ks/\qs.length=rs.length)
   (List.range n2) (τG tg a5 a6 a7 a8 a9) (HG u2 ws r0 rs ks) ?_ ⟨u2,r0,rs,a5,a7,a9,rfl,rfl,P2.up (by omega),G,rfl⟩
  ·obtain⟨τ',h',e4,u3,q0,qs,b5,b7,b9,rfl,rfl,P3,G3,ql⟩:=lq;rw[aX]at P3;have lk:=G3.lk;rw[bB]at lk;have cR:clos 0 ((ajb tg q0 qs).map a0o):=dj λx _=>jq (iz _);have cK:clos 0 ((ks++[-1]).map D.int):=dj λx _=>dg x;refine⟨ws,ajb tg q0 qs,ks++[-1],qs.length+2,u3,by omega,by omega,by omega,by omega,W,by simp[rws],by simp[lk],amq G3,?_,?_,Dr.of rfl (by intro x hx;rw[aw]at hx;subst hx;exact jc _) P.clo (r:=.ok (.tup [.ref 1,.rol ((ajb tg q0 qs).map a0o),.rol ((ks++[-1]).map D.int)]) (HG u3 ws q0 qs ks)) ?_ (a5c (ajc cR cK) (by intro x hx;rw[show List.take 1 (HG u3 ws q0 qs ks)=[u3] from rfl,aw]at hx;subst hx;exact n6 (by omega) P3.clo)) (my (g8 (jq (dj λx _=>jc _)) (g8 (jq cR) (g8 (jq cK) mj)))) P3.clo,P3.up (by omega)⟩
   ·rw[aJ (by omega)];exact G3.k0
   ·intro k hk
    rcases bo.mp hk with z|z
    ·exact G3.kk k z
    ·rw[aw]at z;subst z;decide
   ·unfold CAS.j4;rw[dw];show toR (CAS.a1e aa [some (.ref 0),some (sD tg),none,none,none,none,none,none,none,none,none] [o])=_;unfold CAS.a1e;have nw:jk (sIt (sV 1)) t1 (CAS.a0l aa) [] [some (.ref 0),some (sD tg),some (.ref 1),none,none,none,none,none,none,none,none] [o,.lst []]=.ok (.ref 2) [o,.lst [],rI rm1]:=by
     refine(qe (λc:Nat=>D.str (S [c])) (λ_=>D.int (-1)) tg (a6a (bc rfl) (PAP.afz tg _)) (dh (by omega)) λc _=>?_).trans ?_
     ·rw[u6];unfold CAS.a0l;exact afh ckk (a5f _)
     ·show R.ok (D.ref 2) [o,.lst [],.lst (tg.map λ_=>D.int (-1))]=_;rw[List.map_const'];show _=R.ok (D.ref 2) [o,.lst [],.lst ((List.replicate tg.length (-1:Int)).map D.int)];rw[fZ]
    refine etr (jr (d:=.ref 1) (h1:=[o,.lst []]) rfl) ?_;refine etr (jr (d:=.ref 3) (h1:=[o,.lst [],rI rm1,.lst [.ref 2]]) (p7 nw rfl)) ?_;refine etr (jr (d:=.ref 4) (h1:=HG o [] rm1 [] [-1]) rfl) ?_;refine etr (a3k (h1:=HG u0 [] rm1 [] [-1]) (ck:=λ_=>True) (xs:=(List.range (1+n1)).map λi:Nat=>D.int (i:Nat)) ?_) ?_
    ·unfold sRg;rw[arg1 (kj ckk (kh (bc rfl) ckk c1) u5),bf];exact ab5 (n:=1+n1) _ (dh (by omega))
    refine aH (aU (λz=>toR (MI.thn z _)) e2) ?_;rw[a0v];refine etr (a3k (h1:=HG u2 ws r0 rs ks) (ck:=λ_=>True) (xs:=(List.range n2).map λi:Nat=>D.int (i:Nat)) ?_) ?_
    ·unfold sRg;rw[arg1 (kh (bc rfl) ckk c3),bf];exact ab5 (n:=n2) _ (dh (by omega))
    refine aH (aU (λz=>toR (MI.thn z _)) e4) ?_;rw[a0v];have hg:=abf (ws:=ws) (r0:=q0) (rs:=qs) (ks:=ks) P3;have lg:qu [.ref 3] (HG u3 ws q0 qs ks)=.ok (bj (qs.length+1)) (HG u3 ws q0 qs ks):=by rw[a5e (xs:=(List.range (qs.length+1)).map acw) rfl,ai,aX]
    refine ets (awl P3 G3 t6 (by omega)) ?_
    refine aU toR (nq (a7j (bc rfl) (awi (bc rfl) (awj (d:=a0o (tg.map λ_=>qs.length+1)) ?_ (jq (iz _)) hg) rfl rfl ?_ hg ?_) (awi (bc rfl) (awj (afh ckk (a5f _)) (dg _) hg) (x:=.ref 4) (xs:=ks.map D.int) rfl rfl ?_ hg ?_) (ar0.trans ?_)))
    ·unfold a0o;rw[show(tg.map λ_=>qs.length+1).map bj=tg.map λ_=>bj (qs.length+1) from bP]
     refine a1c (qe (λc:Nat=>D.str (S [c])) (λ_=>bj (qs.length+1)) tg (a6a (bc rfl) (PAP.afz tg _)) (dh (by omega)) λc _=>?_) (dj λx _=>dg _) hg
     rw[u6];unfold CAS.a2z;exact p7 (bc rfl) lg
    ·exact CAS.awm (dj λx _=>jq (iz _)) (g8 (jq (iz _)) mj)
    ·simp[rws];omega
    ·exact CAS.awm (dj λx _=>dg x) (g8 (dg _) mj)
    ·rw[ai,lk];simp;omega
    ·unfold ajb;rw[bA,bA];rfl
  ·rintro pre i post τ h all ⟨u,q0,qs,b5,b7,b9,rfl,rfl,P3,G3,ql⟩
   have pl:=(uf all).1 ▸ (uf all).2;obtain⟨u',p0,ps',c7,c9,e,P4,G4,l4⟩:=aja (a5:=some (D.int (i:Nat))) (a6:=a6) (a7:=b7) (a8:=a8) (a9:=b9) (ws:=ws) P3 (by omega) G3 t1' t6 (by omega) (by omega)
   exact⟨_,_,rfl,_,_,e,u',p0,ps',_,c7,c9,rfl,rfl,P4.up (by rw[ah,av];omega),G4,by omega⟩
 ·rintro pre i post τ h all ⟨u,ws,r0,rs,ks,a5,a6,a7,a8,a9,rfl,rfl,P1,W,wl,G,rl,r1⟩
  have pl:=(uf all).1 ▸ (uf all).2;obtain⟨u',w,q0,qs,ks',b6,b7,b8,b9,e,P2,W2,G2,l1,l2⟩:=aj9 (a5:=some (D.int (i:Nat))) (a6:=a6) (a7:=a7) (a8:=a8) (a9:=a9) P1 (by omega) G W t1' t6 (by omega) (by omega)
  exact⟨_,_,rfl,_,_,e,u',ws++[w],q0,qs,ks',_,b6,b7,b8,b9,rfl,rfl,P2.up (by rw[ah,av];omega),W2,by rw[ah,ah,av,av,wl],G2,by rw[ah,av];omega,λ_=>l1⟩
end CAS
namespace CAS
open L2 MI AT HND EVX K22 K23 K21 SRC
noncomputable def vm:SF:=km (CAS.a2r aa CAS.j4 CAS.m5 CAS.j7 SRC.iu) 11
abbrev τC(a b:Nat)(tg:List Nat)(g k t w i a9 a10:Option D):Sd:=[some (.ref 0),some (bj a),some (bj b),some (sD tg),g,k,t,w,i,a9,a10]
theorem afq{tg t:List Nat}{ws:List (List Nat)}{A B C E':SF}(P:Src u N)(hN:N<=999900000)(W:Wok tg ws)(w1:1<=ws.length)(w5:ws.length<=5)(t1':1<=tg.length)(t6:tg.length<=6)(tl:t.length<=500)(tt:∀c∈t,c∈tg) :
  ∃(u':O) (t':List Nat) (b9 b10:Option D),CAS.wj aa A B C E' (τC a b tg g k (some (sD t)) (some (.rol (ws.map sD))) i a9 a10) [u]=.nx (τC a b tg g k (some (sD t')) (some (.rol (ws.map sD))) i b9 b10) [u']/\Src u' (N+4)/\t'.length<=t.length+6/\∀c∈t',c∈tg:=by
 obtain⟨x,u1,e1,x0,x1,P1⟩:=iw (m:=(ws.length:Nat)) P (by omega) (by omega) (by omega)
 obtain⟨x,rfl⟩:=ay x0;have c1:gq false 2 aa [.ref 0,bj ws.length] [u]=.ok (bj x) [u1]:=e1 0 _ rfl;have xl:x<ws.length:=by omega
 obtain⟨v1,v6,vt⟩:=W ws[x] (aY xl);obtain⟨y,u2,e2,y0,y1,P2⟩:=iw (m:=6) P1 (by omega) (by omega) (by omega)
 have c2:gq false 2 aa [.ref 0,.int 6] [u1]=.ok (.int y) [u2]:=e2 0 _ rfl;have lw:qu [.rol (ws.map sD)] [u]=.ok (bj ws.length) [u]:=by show R.ok (D.int ((ws.map sD).length:Nat)) [u]=_;rw[ai]
 obtain⟨w,u3,w6,wt,P3,eu⟩:∃(w:List Nat) (u3:O),w.length<=6/\(∀c∈w,c∈tg)/\Src u3 (N+4)/\∀g':SS,dm (sIf (sT (s2 hEq (sV 10) (sI 0))) (j9 9 (yp (sV 9) oN (oS (sA (gq false 2 aa) (ak (sV 0) (ak (sA qu (ak (sV 9) bu)) bu)))))) sNx)
   (dm (sIf (sT (s2 hEq (sV 10) (sI 1))) (j9 9 (s2 gIx (sV 3) (sA (gq false 2 aa) (ak (sV 0) (ak (sA qu (ak (sV 3) bu)) bu))))) sNx) g') (τC a b tg g k (some (sD t)) (some (.rol (ws.map sD))) i (some (sD ws[x])) (some (.int y))) [u2]=g' (τC a b tg g k (some (sD t)) (some (.rol (ws.map sD))) i (some (sD w)) (some (.int y))) [u3]:=by
  by_cases h0:y=0
  ·obtain⟨z,u3,e3,z0,z1,P3⟩:=iw (m:=(ws[x].length:Nat)) P2 (by omega) (by omega) (by omega)
   obtain⟨z,rfl⟩:=ay z0;have c3:gq false 2 aa [.ref 0,bj ws[x].length] [u2]=.ok (bj z) [u3]:=e3 0 _ rfl;refine⟨ws[x].take z,u3,by rw[aT];omega,λc hc=>vt c (bY hc),P3.up (by omega),λg'=>?_⟩
   refine aH (u9 (aH (ifT (tvc rfl (a2b h0))) (acq (PAP.afl (bc rfl) rfl (PAP.aef (kh (bc rfl) (p7 (bc rfl) (a9g (dh (by omega)))) c3)) (ao4 z (dh (by omega))))))) ?_
   exact ifN (tvc rfl (yx (by omega)))
  ·by_cases h1:y=1
   ·obtain⟨z,u3,e3,z0,z1,P3⟩:=iw (m:=(tg.length:Nat)) P2 (by omega) (by omega) (by omega)
    obtain⟨z,rfl⟩:=ay z0;have zl:z<tg.length:=by omega
    have c3:gq false 2 aa [.ref 0,bj tg.length] [u2]=.ok (bj z) [u3]:=e3 0 _ rfl;refine⟨[tg[z]],u3,by simp,λc hc=>by rw[aw]at hc;subst hc;exact aY zl,P3.up (by omega),λg'=>?_⟩
    refine aH (ifN (tvc rfl (yx h0))) ?_;exact u9 (aH (ifT (tvc rfl (a2b h1))) (acq (kj (bc rfl) (kh (bc rfl) (p7 (bc rfl) (a9g (dh (by omega)))) c3) (av7 (dh (by omega)) (ae zl)))))
   ·refine⟨ws[x],u2,v6,vt,P2.up (by omega),λg'=>?_⟩
    refine aH (ifN (tvc rfl (yx h0))) ?_;exact ifN (tvc rfl (yx h1))
 refine⟨u3,t++w,some (sD w),some (.int y),?_,P3,by rw[ah];omega,λc hc=>?_⟩
 ·unfold CAS.wj;refine aH (jr (kj (bc rfl) (kh (bc rfl) (p7 (bc rfl) lw) c1) (asa (y:=sD ws[x]) (by rw[aM,ae xl];rfl)))) ?_
  refine aH (jr (kh (bc rfl) ckk c2)) ?_;refine aH (eu _) ?_;exact am4 rfl (bc rfl) (SRC.ao9 (dh (by omega)))
 ·rcases bo.mp hc with z|z
  ·exact tt c z
  ·exact wt c z
theorem awn{u':O}(h:a0j 0 u'):∀o∈u'::([]:Hd),a0j (([]:Hd).length+1) o:=λo ho=>by rw[aw]at ho;subst ho;exact n6 (bq _) h
theorem art(P:Src o N)(hN:N<=999000000):∃(T:Table) (t:List Nat) (o':O),T.Ok/\(∀r,r<T.go.length->PN.Rch T.go r)/\t.length<=240/\(∀c∈t,c∈T.tg)/\Dr CAS.vm 1 [] o (.tup [T.d,sD t]) o'/\Src o' (N+1000):=by
 obtain⟨s,o1,e1,s0,s1,P1⟩:=iw (m:=4) P (by omega) (by omega) (by omega)
 obtain⟨s,rfl⟩:=ay s0;obtain⟨z,o2,e2,z0,z1,P2⟩:=iw (m:=8) P1 (by omega) (by omega) (by omega)
 obtain⟨z,rfl⟩:=ay z0;obtain⟨tg,o3,T1,e3,P3⟩:=aii P2 (by omega)
 have t1':=T1.lo;have t6:=T1.hi;have c1:gq false 2 aa [.ref 0,.int 4] [o]=.ok (bj s) [o1]:=e1 0 _ rfl;have c2:gq false 2 aa [.ref 0,.int 8] [o1]=.ok (bj z) [o2]:=e2 0 _ rfl;have c3:gq false 1 SRC.iu [.ref 0] [o2]=.ok (sD tg) [o3]:=e3 0 _ rfl;obtain⟨rows,ks,n,t,o4,w,i,a9,a10,n1,n32,lr,lk,rr,k0,kk,tl,tt,P4,e4⟩:∃(rows:List (List Nat)) (ks:List Int) (n:Nat) (t:List Nat) (o4:O) (w i a9 a10:Option D),1<=n/\n<=32/\rows.length=n/\ks.length=n/\(∀r∈rows,abt tg.length n r)/\ks[0]? = some (-1)/\(∀k∈ks,KOk k)/\t.length<=100/\(∀c∈t,c∈tg)/\Src o4 (N+500) /\
   sIf (sT (s2 hEq (sV 1) (sI 0)))
     (dm (abq (sA (gq false 3 CAS.j7) (ak (sV 0) (ak (sV 3) (ak (s2 ie (sI 1) (sA (gq false 2 aa) (ak (sV 0) (ak (s2 gIx (sA ur (ak (sI 8) (ak (sI 32) bu))) (s2 aa0 (sV 2) (sI 7))) bu)))) bu)))) (a7u 2 (o7 (kN 4) (o7 (kN 5) a8s))))
      (j9 6 (sMS aam (sC (.str "")) (ak (sZ (jk (sRg yt (ak (sA (gq false 2 aa) (ak (sV 0) (ak (sI 25) bu))) bu)) t1 (CAS.a4h aa CAS.j4 CAS.m5 CAS.j7 SRC.iu) [0,3])) bu))))
     (dm (abq (sA (gq false 2 CAS.j4) (ak (sV 0) (ak (sV 3) bu))) (a7u 3 (o7 (kN 7) (o7 (kN 4) (o7 (kN 5) a8s)))))
      (dm (j9 6 (sC (.str "")))
      (a2u (sRg yt (ak (sA (gq false 2 aa) (ak (sV 0) (ak (sI 12) bu))) bu)) (kN 8) (CAS.wj aa CAS.j4 CAS.m5 CAS.j7 SRC.iu)))) (τC s z tg none none none none none none none) [o3]=.nx (τC s z tg (some (.rol (rows.map a0o))) (some (.rol (ks.map D.int))) (some (sD t)) w i a9 a10) [o4]:=by
  by_cases hs:s=0
  ·have mz:1<=(if z<7 then 8 else 32)/\(if z<7 then 8 else 32)<=32:=by split<;>omega
   obtain⟨x,u1,f1,x0,x1,Q1⟩:=iw (m:=((if z<7 then 8 else 32:Nat):Int)) P3 (by omega) (by omega) (by omega)
   obtain⟨x,rfl⟩:=ay x0;have d1:gq false 2 aa [.ref 0,bj (if z<7 then 8 else 32)] [o3]=.ok (bj x) [u1]:=f1 0 _ rfl
   obtain⟨ks,rows,u2,lk,k0,kk,lr,rr,f2,Q2⟩:=aj6 (tg:=tg) (n:=1+x) Q1 (by omega) t6 (by omega) (by omega)
   have d2:gq false 3 CAS.j7 [.ref 0,sD tg,bj (1+x)] [u1]=.ok (.tup [.rol (rows.map a0o),.rol (ks.map D.int)]) [u2]:=f2 0 _ rfl;obtain⟨y,u3,f3,y0,y1,Q3⟩:=iw (m:=25) Q2 (by omega) (by omega) (by omega)
   obtain⟨y,rfl⟩:=ay y0;have d3:gq false 2 aa [.ref 0,.int 25] [u2]=.ok (bj y) [u3]:=f3 0 _ rfl;obtain⟨t,u4,tl,tt,Q4,et⟩:=drawn (tg:=tg) (τ:=τC s z tg (some (.rol (rows.map a0o))) (some (.rol (ks.map D.int))) none none none none none) (hs:=[]) (u0:=u2) (ix:=[0,3]) (fm:=sA (gq false 2 aa) (ak (sV 0) (ak (sI 25) bu))) (m:=y) Q3 (by omega) t1' t6 (λu' hu=>awn hu) (kh (bc rfl) ckk d3) (by omega) rfl
   refine⟨rows,ks,1+x,t,u4,none,none,none,none,by omega,by omega,lr,lk,rr,k0,kk,by omega,tt,Q4.up (by omega),?_⟩
   refine aH (ifT (tvc rfl (a2b (by omega)))) ?_
   have ix:gIx (.tup [.int 8,.int 32]) (.int ((z:Int) / 7)) [o3]=.ok (bj (if z<7 then 8 else 32)) [o3]:=by
    by_cases h7:z<7
    ·rw[aO h7,show(z:Int) / 7=((0:Nat):Int) by omega];exact a7a rfl
    ·rw[bE h7,show(z:Int) / 7=((1:Nat):Int) by omega];exact a7a rfl
   refine aH (u9 (afi (a7j (bc rfl) (bc rfl) (kj ckk (kh (bc rfl) (kj (kh ckk ckk ao6) (a01 rfl (div_ii ⟨by decide,by decide⟩)) ix) d1) u5) d2) rfl)) ?_
   exact acq et
  ·obtain⟨ws,rows,ks,n,u1,n1,n32,w1,w5,W,lr,lk,rr,k0,kk,f1,Q1⟩:=amr (tg:=tg) P3 (by omega) t1' t6
   have d1:gq false 2 CAS.j4 [.ref 0,sD tg] [o3]=.ok (.tup [.rol (ws.map sD),.rol (rows.map a0o),.rol (ks.map D.int)]) [u1]:=f1 0 _ rfl;obtain⟨y,u2,f2,y0,y1,Q2⟩:=iw (m:=12) Q1 (by omega) (by omega) (by omega)
   obtain⟨y,rfl⟩:=ay y0;have d2:gq false 2 aa [.ref 0,.int 12] [u1]=.ok (bj y) [u2]:=f2 0 _ rfl;have lp:=nu (g:=kN 8) (b:=CAS.wj aa CAS.j4 CAS.m5 CAS.j7 SRC.iu) (λi:Nat=>D.int (i:Nat))
    (λpre τ h=>∃(u:O) (t:List Nat) (i a9 a10:Option D),τ=τC s z tg (some (.rol (rows.map a0o))) (some (.rol (ks.map D.int))) (some (sD t)) (some (.rol (ws.map sD))) i a9 a10/\h=[u]/\Src u (N+300+4*pre.length)/\t.length<=6*pre.length/\∀c∈t,c∈tg)
    (List.range y) (τC s z tg (some (.rol (rows.map a0o))) (some (.rol (ks.map D.int))) (some (sD [])) (some (.rol (ws.map sD))) none none none) [u2] ?_ ⟨u2,[],none,none,none,rfl,rfl,Q2.up (by omega),bq _,(λc hc=>by cases hc)⟩
   ·obtain⟨τ',h',e5,u,t,i,a9,a10,rfl,rfl,Q3,tl,tt⟩:=lp;rw[aX]at tl Q3;refine⟨rows,ks,n,t,u,some (.rol (ws.map sD)),i,a9,a10,n1,n32,lr,lk,rr,k0,kk,by omega,tt,Q3.up (by omega),?_⟩
    refine aH (ifF (tvc rfl (yx (by omega)))) ?_
    refine aH (u9 (afi (kh (bc rfl) (bc rfl) d1) rfl)) ?_;refine aH (jr ckk) ?_;unfold a2u;refine aH (aU (λr=>R.fl r _) (show sRg yt _ _ [u1]=.ok ⟨(List.range y).map λi:Nat=>D.int (i:Nat),λ_=>True⟩ [u2] by unfold sRg;rw[arg1 (kh (bc rfl) ckk d2),bf];exact ab5 (n:=y) _ (dh (by omega)))) ?_
    exact e5
   ·rintro pre i post τ h all ⟨u,t,i',a9,a10,rfl,rfl,Q3,tl,tt⟩
    have pl:=(uf all).1 ▸ (uf all).2;obtain⟨u',t',b9,b10,e,Q4,tl',tt'⟩:=afq (a:=s) (b:=z) (g:=some (.rol (rows.map a0o))) (k:=some (.rol (ks.map D.int))) (i:=some (D.int (i:Nat))) (a9:=a9) (a10:=a10) (A:=CAS.j4) (B:=CAS.m5) (C:=CAS.j7) (E':=SRC.iu) Q3 (by omega) W w1 w5 t1' t6 (by omega) tt
    exact⟨_,_,rfl,_,_,e,u',t',_,b9,b10,rfl,rfl,Q4.up (by rw[ah,av];omega),by rw[ah,av];omega,tt'⟩
 obtain⟨t',o5,tl',tt',P5,e5⟩:∃(t':List Nat) (o5:O),t'.length<=240/\(∀c∈t',c∈tg)/\Src o5 (N+600)/\∀g':SS,dm (sIf (sT (s2 hEq (sV 2) (sI 3))) (j9 6 (yp (s2 ab8 (sV 6) (sI 240)) oN (oS (sA (gq false 2 aa) (ak (sV 0) (ak (sI 241) bu)))))) sNx) g' (τC s z tg (some (.rol (rows.map a0o))) (some (.rol (ks.map D.int))) (some (sD t)) w i a9 a10) [o4]=g' (τC s z tg (some (.rol (rows.map a0o))) (some (.rol (ks.map D.int))) (some (sD t')) w i a9 a10) [o5]:=by
  by_cases h3:z=3
  ·obtain⟨y,u2,f2,y0,y1,Q2⟩:=iw (m:=241) P4 (by omega) (by omega) (by omega)
   obtain⟨y,rfl⟩:=ay y0;have d2:gq false 2 aa [.ref 0,.int 241] [o4]=.ok (bj y) [u2]:=f2 0 _ rfl;have ln:(List.replicate 240 t).flatten.length<=1000000:=by rw[List.length_flatten,fZ,List.sum_replicate_nat];omega
   refine⟨((List.replicate 240 t).flatten).take y,u2,by rw[aT];omega,λc hc=>?_,Q2.up (by omega),λg'=>?_⟩
   ·obtain⟨l,hl,hc⟩:=List.mem_flatten.mp (bY hc);rw[eN hl]at hc;exact tt c hc
   ·exact u9 (aH (ifT (tvc rfl (a2b (by omega)))) (acq (PAP.afl (a01 rfl (avd (k:=240) (by omega) (by omega))) rfl (PAP.aef (kh (bc rfl) ckk d2)) (ao4 y (dh ln)))))
  ·exact⟨t,o4,by omega,tt,P4.up (by omega),λg'=>ifN (tvc rfl (yx (by omega)))⟩
 obtain⟨T,ok,et,rch,em⟩:=awg T1 n1 n32 lr lk rr k0 kk;have ca:MI.clo 0 (.tup [T.d,sD t']):=my (g8 Table.clo (g8 (jc _) mj));refine⟨T,t',o5,ok,rch,tl',by rw[et];exact tt',Dr.of rfl (by intro x hx;cases hx) P.clo (r:=.ok (.tup [T.d,sD t']) [o5]) ?_ (jy (aaw (bq 1) ca) (by intro x hx;rw[show List.take 1 [o5]=[o5] from rfl,aw]at hx;subst hx;exact n6 (by omega) P5.clo)) ca P5.clo,P5.up (by omega)⟩
 unfold CAS.vm;rw[dw];show toR (CAS.a2r aa CAS.j4 CAS.m5 CAS.j7 SRC.iu [some (.ref 0),none,none,none,none,none,none,none,none,none,none] [o])=_;unfold CAS.a2r;refine ets (kh (bc rfl) ckk c1) ?_;refine ets (kh (bc rfl) ckk c2) ?_;refine ets (p7 (bc rfl) c3) ?_;refine etr (u9 e4) ?_;refine etr (e5 _) ?_;exact aU toR (nq (kh (a7j (bc rfl) (bc rfl) (bc rfl) (em _)) (bc rfl) ao6))
end CAS
namespace K22
open L2 MI AT HND
section
variable{T:Table}
theorem T1(hh:Hd):gIx T.d (.int 1) hh=.ok (.tup (T.go.map m8)) hh:=a7a (j:=1) rfl
theorem b0b(hh:Hd):qu [.tup (T.go.map m8)] hh=.ok (.int (T.go.length:Nat)) hh:=by rw[ut,ai]
end
end K22
namespace MI
open L2 SRC HND
structure Fw (n:Nat) (l:List Nat):Prop where
 nd:l.Nodup
 lt:∀x∈l,x<n
theorem Fw.nil:Fw n []:=⟨eJ,by simp⟩
end MI
namespace RCH
open L2 MI AT HND EVX K22 K23 K21
def cnt(n:Nat)(p:Nat->Bool):Nat:=((List.range n).filter p).length
theorem abg:∀{l:List Nat},(∀x∈l,p x=true->q x=true)->(∃x∈l,q x=true/\p x=false)->(l.filter p).length<(l.filter q).length
 |[],_,⟨_,h,_⟩=>by simp at h
 |x::l,h,⟨y,hy,q1,p1⟩=>by
  have le:(l.filter p).length<=(l.filter q).length:=by
   clear hy q1 p1 y
   induction l with
   |nil=>simp
   |cons z l ih =>
    have ih:=ih λy hy=>h y (by simp only[aR]at hy ⊢;rcases hy with e|e<;>simp[e])
    have hz:=h z (by simp)
    rw[eK,eK]
    cases e1:p z with
    |true=>rw[hz e1];simp only[dR,bB];omega
    |false=>cases q z<;>simp<;>omega
  rw[eK,eK]
  rcases aR.mp hy with rfl|hy
  ·rw[q1,p1];simp only[dR,dn,fW,bB];omega
  ·have lt:=abg (l:=l) (λz hz=>h z (aK _ hz)) ⟨y,hy,q1,p1⟩
   cases e1:p x with
   |true=>rw[h x aQ e1];simp only[dR,bB];omega
   |false=>cases q x<;>simp<;>omega
theorem aF{n:Nat}{P:Nat->Nat->Bool}(anti:∀k x,x<n->P (k+1) x=true->P k x=true)(det:∀k,(∀x,x<n->P k x=P (k+1) x)->∀x,x<n->P (k+1) x=P (k+2) x):∀k x,x<n->P n x=true->P (n+k) x=true:=by
 have key:∀k,cnt n (P k)<=n-k\/∃j,j<=k/\∀x,x<n->P j x=P (j+1) x:=by
  intro k
  induction k with
  |zero=>exact .inl (by unfold cnt;exact bX (ei _ _) (by simp))
  |succ k ih =>
   rcases ih with ih|⟨j,hj,e⟩
   ·by_cases c:∃x∈List.range n,P k x=true/\P (k+1) x=false
    ·have:=abg (p:=P (k+1)) (q:=P k) (l:=List.range n) (λx hx=>anti k x (bS.mp hx)) c
     exact .inl (by unfold cnt at ih ⊢;omega)
    ·refine .inr ⟨k,gX _,λx hx=>?_⟩
     cases e1:P k x with
     |true =>
      cases e2:P (k+1) x with
      |true=>rfl
      |false=>exact(c ⟨x,bS.mpr hx,e1,e2⟩).elim
     |false =>
      cases e2:P (k+1) x with
      |true=>rw[anti k x hx e2]at e1;cases e1
      |false=>rfl
   ·exact .inr ⟨j,Nat.le_succ_of_le hj,e⟩
 have stay:∀j,(∀x,x<n->P j x=P (j+1) x)->∀k x,x<n->P (j+k) x=P j x:=by
  intro j e k
  have step:∀k x,x<n->P (j+k) x=P (j+k+1) x:=by
   intro k
   induction k with
   |zero=>exact e
   |succ k ih=>exact det _ ih
  induction k with
  |zero=>intro x _;rfl
  |succ k ih=>intro x hx;rw[<-ih x hx];exact(step k x hx).symm
 intro k x hx h
 rcases key n with z|⟨j,hj,e⟩
 ·have:x∈(List.range n).filter (P n):=dE.mpr ⟨bS.mpr hx,h⟩
  have:=List.length_pos_of_mem this
  unfold cnt at z;omega
 ·have e1:=stay j e (n-j) x hx;have e2:=stay j e (n-j+k) x hx;rw[show j+(n-j)=n by omega]at e1
  rw[show j+(n-j+k)=n+k by omega]at e2
  rw[e2,<-e1];exact h
section
variable{T:Table}
end
end RCH
namespace STP
open L2 MI AT HND EVX K23 K21 RCH
open K22
section
variable{T:Table}
noncomputable def lz:SF:=km uy 2
noncomputable def jj:SF:=km um 8
noncomputable def di:SF:=km (xj STP.jj) 3
theorem ams(h:T.Ok)(hr:r<T.go.length)(hl:∀c∈l,c∈T.tg)(ll:l.length<=1000):Pu STP.di 3 [T.d,bj r,.str (S l)] (bj (ldw T r l)):=K23.arh h hr hl ll
abbrev Ent:=Nat×List Nat
variable{ps:Nat->Bool}{s:Nat}{es:List Ent}
end
end STP
namespace K35
open L2 MI
noncomputable def a0h(dq:SF):ST :=
 (sT (s2 aaj (sV 4) (sC .non)))
noncomputable def ym(dq:SF):SS :=
 (dm (uw (sML a5o (sV 2) (ak (sA ur (ak (s2 gIx (sV 4) (sI 0)) (ak (sV 3) (ak (s2 gIx (sV 4) (sI 1)) bu)))) bu)))
 (dm (j9 3 (s2 gIx (sV 4) (sI 1)))
 (j9 4 (sA (gq false 3 dq) (ak (sV 0) (ak (sV 1) (ak (sV 3) bu)))))))
noncomputable def a0x(dq:SF):SS :=
 (dm (j9 2 (sA a1u bu))
 (dm (j9 3 (sI 0))
 (dm (j9 4 (sA (gq false 3 dq) (ak (sV 0) (ak (sV 1) (ak (sV 3) bu)))))
 (dm (sWh (a0h dq) (ym dq) 100000)
 (sr (sA ur (ak (sV 2) (ak (sV 3) bu))))))))
end K35
namespace K34
open L2 MI AT HND EVX K22 K23 K21
section
variable{T:Table}
theorem ajd{α β γ:Type}(f:α->β)(g:α×β->γ):∀l:List α,(l.zip (l.map f)).map g=l.map λx=>g (x,f x)
 |[]=>rfl
 |a::l=>by rw[bI,dZ,bI,bI,ajd f g l]
end
section
variable{T:Table}
theorem sub_len:∀{l t:List Nat},l.Nodup->(∀x∈l,x∈t)->l.length<=t.length
 |[],_,_,_=>bq _
 |a::l,t,nd,h=>by
  obtain⟨na,nl⟩:=dG.mp nd;have ha:=h a aQ;have:=sub_len (t:=t.erase a) nl λx hx=>(List.mem_erase_of_ne (λe:x=a=>na (e ▸ hx))).mpr (h x (aK _ hx));rw[List.length_erase_of_mem ha]at this;have:=List.length_pos_of_mem ha;rw[bB];omega
abbrev others(tg:List Nat):List Nat:=sig.filter λc => !decide (c∈tg)
theorem afr{tg:List Nat}(t6:tg.length<=6):0<(others tg).length:=by
 rcases eU (others tg).length with z|z
 ·have e:=dS.mp z;have:=sub_len (l:=sig) (t:=tg) ao7 λc hc=>by
   have n:¬ c∈others tg:=by rw[e];simp
   rw[dE]at n;simpa[hc] using n
  rw[a9n]at this;omega
 ·exact z
end
end K34
namespace K35
open L2 MI AT HND EVX K22 K23 K21
section
variable{T:Table}
abbrev bst(T:Table)(x:List Nat)(a:Nat):D:=SRC.best T a (x.drop a) (x.length-a+1)
theorem aje(h:T.Ok)(a:Nat)(l:List Nat):∀k,SRC.best T a l k=.non\/∃(q:Int) (j:Nat),1<=j/\j<k/\SRC.best T a l k=.tup [.int q,bj (a+j)]
 |0=>.inl rfl
 |k+1=>by
  by_cases e:kI T (SRC.rm T l k) = -1
  ·rw[SRC.aek e]
   rcases aje h a l k with z|⟨q,j,j1,j2,z⟩
   ·exact .inl z
   ·exact .inr ⟨q,j,j1,by omega,z⟩
  ·refine .inr ⟨_,k,?_,by omega,SRC.aj3 e⟩
   rcases eU k with z|z
   ·subst z;exact absurd (show kI T (SRC.rm T l 0) = -1 from SRC.kI0 h) e
   ·exact z
def dec:D->Option (Int×Nat)
 |.tup [.int q,.int e]=>some (q,e.toNat)
 |_=>none
theorem aem(h:T.Ok){x:List Nat}(al:a<=x.length):(bst T x a=.non/\dec (bst T x a)=none)\/∃(q:Int) (e:Nat),bst T x a=.tup [.int q,bj e]/\dec (bst T x a)=some (q,e)/\a<e/\e<=x.length:=by
 rcases aje h a (x.drop a) (x.length-a+1) with z|⟨q,j,j1,j2,z⟩
 ·exact .inl ⟨z,by show dec (SRC.best T a (x.drop a) (x.length-a+1))=none;rw[z];rfl⟩
 ·exact .inr ⟨q,a+j,z,by show dec (SRC.best T a (x.drop a) (x.length-a+1))=_;rw[z];rfl,by omega,by omega⟩
abbrev Pc:=Int×Nat×Nat
abbrev pcD(p:Pc):D:=.tup [.int p.1,bj p.2.1,bj p.2.2]
def abh(T:Table)(x:List Nat):Nat->Nat->List Pc->List Pc×Nat
 |0,p,acc=>(acc,p)
 |n+1,p,acc=>match dec (bst T x p) with
  |some (q,e)=>abh T x n e (acc++[(q,p,e)])
  |none=>(acc,p)
abbrev res(T:Table)(x:List Nat):List Pc×Nat:=abh T x (x.length+1) 0 []
theorem ajf(T:Table)(x:List Nat):∀(n p:Nat) (acc:List Pc),(abh T x n p acc).1.length<=acc.length+n
 |0,p,acc=>aI _
 |n+1,p,acc=>by
  unfold abh
  split
  ·rename_i q e he;have:=ajf T x n e (acc++[(q,p,e)]);rw[ah,av]at this;exact bX this (by omega)
  ·show acc.length<=_;omega
theorem a0p(n:Nat)(ps:List Pc):clos n (ps.map pcD):=dj λp _=>my (g8 (dg _) (g8 (dg _) (g8 (dg _) mj)))
abbrev aru(T:Table)(x:List Nat):D:=.tup [.rol ((res T x).1.map pcD),bj (res T x).2]
theorem a6f(T:Table)(x:List Nat):MI.clo 0 (aru T x):=my (g8 (jq (a0p _ _)) (g8 (dg _) mj))
theorem acx{ps:List Pc}:ace 0 (.ok (.tup [.ref 0,bj p]) [.lst (ps.map pcD)])=.ok (.tup [.rol (ps.map pcD),bj p]) []:=by
 have oc:∀{k:Nat} {d d':D} {ds ds':List D},a1q 0 [.lst (ps.map pcD)] k d=some d'->a00 (a1q 0 [.lst (ps.map pcD)] k) ds=some ds'->a00 (a1q 0 [.lst (ps.map pcD)] k) (d::ds)=some (d'::ds'):=λe1 e2=>by unfold a00;rw[e1,e2]
 refine a5c (h1:=[.lst (ps.map pcD)]) (a99 (k:=19) (oc (a4d (k:=17) (by omega) rfl (a0p _ _)) (oc (a4c (k:=18) (dg _)) rfl)) ?_) (by simp)
 intro z
 have:=qw.mp z (.ref 0) aQ
 simp only[MI.clo]at this;omega
theorem abi:∀d∈[T.d,.str (S x)],MI.clo 0 d:=a1s Table.clo (jc _)
end
section
variable{T:Table}
noncomputable def v5:SF:=km (K35.a0x SRC.dq) 5
abbrev τl(T:Table)(x:List Nat)(p:Nat):Sd:=[some T.d,some (.str (S x)),some (.ref 0),some (bj p),some (bst T x p)]
theorem aoh(h:T.Ok){x:List Nat}{a:Nat}(ht:∀c∈x,c∈T.tg)(xl:x.length<=900)(al:a<=x.length)(hh:Hd):gq false 3 SRC.dq [T.d,.str (S x),bj a] hh=.ok (bst T x a) hh:=SRC.amm h ht (by omega) al hh
theorem amt(h:T.Ok){x:List Nat}(ht:∀c∈x,c∈T.tg)(xl:x.length<=900):v5 [T.d,.str (S x)] []=.ok (.tup [.ref 0,bj (res T x).2]) [.lst ((res T x).1.map pcD)]:=by
 have w:=ald (c:=a0h SRC.dq) (f:=ym SRC.dq)
  (λm τ hp=>∃(p:Nat) (acc:List Pc),τ=τl T x p/\hp=[.lst (acc.map pcD)]/\m=x.length-p/\p<=x.length/\acc.length<=p/\abh T x (x.length-p+1) p acc=res T x)
  (λτ hp=>∃(p:Nat) (acc:List Pc),τ=τl T x p/\hp=[.lst (acc.map pcD)]/\(acc,p)=res T x)
  (λ_ _=>False) ?_ x.length 100000 (τl T x 0) [.lst []] (by omega) ⟨0,[],rfl,rfl,rfl,by omega,by simp,rfl⟩
 ·rcases w with⟨τ',h',e,p,acc,rfl,rfl,er⟩|⟨_,_,_,z⟩
  ·unfold v5;rw[dw];show toR (K35.a0x SRC.dq [some T.d,some (.str (S x)),none,none,none] [])=_;unfold K35.a0x;refine etr (jr (d:=.ref 0) (h1:=[.lst []]) rfl) ?_;refine etr (jr ckk) ?_;refine ets (a7j (bc rfl) (bc rfl) (bc rfl) (aoh h (a:=0) ht xl (by omega) _)) ?_
   refine etr (u9 e) ?_;rw[<-er];exact aU toR (nq (kh (bc rfl) (bc rfl) ao6))
  ·exact z.elim
 ·rintro m τ hp ⟨p,acc,rfl,rfl,rfl,pl,al,er⟩
  rcases aem h pl with⟨z1,z2⟩|⟨q,e,z1,z2,pe,el⟩
  ·refine .inl ⟨_,tvc rfl ((a0w _).trans (by rw[z1];rfl)),p,acc,rfl,rfl,?_⟩
   rw[<-er];unfold abh;rw[z2]
  ·refine .inr ⟨_,tvc rfl ((a0w _).trans (by rw[z1];rfl)),.inl ⟨τl T x e,[.lst ((acc++[(q,p,e)]).map pcD)],x.length-e,?_,by omega,e,acc++[(q,p,e)],rfl,rfl,rfl,el,by rw[ah,av];omega,?_⟩⟩
   ·unfold K35.ym;have i0:∀hh:Hd,gIx (bst T x p) (.int 0) hh=.ok (.int q) hh:=λhh=>by rw[z1];exact a7a (j:=0) rfl
    have i1:∀hh:Hd,gIx (bst T x p) (.int 1) hh=.ok (bj e) hh:=λhh=>by rw[z1];exact a7a (j:=1) rfl
    rw[bA];refine aH (u9 (a06 (bc rfl) rfl (arg1 (a7j (a01 rfl (i0 _)) (bc rfl) (a01 rfl (i1 _)) ar0)) (a07 (xs:=acc.map pcD) rfl (by rw[ai];exact a08 (by omega))))) ?_
    refine aH (jr (a01 rfl (i1 _))) ?_;exact acq (a7j (bc rfl) (bc rfl) (bc rfl) (aoh h (a:=e) ht xl el _))
   ·rw[<-er];have more:∀(n k p:Nat) (acc:List Pc),p<=x.length->x.length-p+1<=n->abh T x (n+k) p acc=abh T x n p acc:=by
     intro n
     induction n with
     |zero=>intro k p acc hp hn;omega
     |succ n ih =>
      intro k p acc hp hn
      rw[show n+1+k=(n+k)+1 by omega]
      unfold abh
      rcases aem h hp with⟨_,y2⟩|⟨q',e',_,y2,pe',el'⟩
      ·rw[y2]
      ·rw[y2];exact ih k e' _ el' (by omega)
    conv=>rhs;unfold abh
    rw[z2];dsimp only;have:=more (x.length-e+1) (x.length-p-(x.length-e+1)) e (acc++[(q,p,e)]) el (aI _);rw[show x.length-e+1+(x.length-p-(x.length-e+1))=x.length-p by omega]at this
    exact this.symm
theorem acy(h:T.Ok){x:List Nat}(ht:∀c∈x,c∈T.tg)(xl:x.length<=900):Pu v5 2 [T.d,.str (S x)] (aru T x):=Pu.of rfl abi (amt h ht xl) acx (a6f T x)
end
end K35
namespace EVT
open L2 MI AT HND
section
variable{f g k f1 f2 f3:SE}{ka:SA}{c c1 c2:ST}{τ:Sd}{h h1 h2 h3:Hd}{a b d v:D}{i:Nat}{t u:Bool}{xs ys ds:List D}
theorem b21:oN τ h=.ok none h:=rfl
theorem awo:qu [.tup xs] h=.ok (bj xs.length) h:=rfl
theorem b22(e:f τ h=.ok (.bl true) h1):ajw f g τ h=.ok (.bl true) h1:=by unfold ajw;rw[e,bf]
theorem b23(e:f τ h=.ok (.bl false) h1)(e':g τ h1=.ok d h2):ajw f g τ h=.ok d h2:=by unfold ajw;rw[e,bf];exact e'
theorem b0c(e:f τ h=R.ok (D.ref h1.length) (h1++[.lst xs]))(hl:h1.length=h.length)(cx:clos 0 xs)(co:∀o∈h1,a0j 0 o):sZ f τ h=.ok (.rol xs) h1 :=
 PAP.aoa hl e (wg (bq _) cx) λo ho=>n6 (bq _) (co o ho)
theorem awp(e:ka τ h=.ok ds h1)(hl:h1.length=h.length)(cd:clos 0 ds)(co:∀o∈h1,a0j 0 o)(z:ds.length<=1000000):sZ (sA MI.a1u ka) τ h=.ok (.rol ds) h1:=by
 refine b0c ?_ hl cd co;unfold sA;rw[e,bf];unfold MI.a1u;exact aO (dh z)
theorem aen(co:∀o∈h,a0j 0 o):sZ aca τ h=.ok (.rod [] []) h:=by
 unfold sZ;show ace h.length (.ok (.ref h.length) (h++[.dK []]))=_;rw[a5c (d':=.rod [] []) ?_ ?_]
 ·simp
 ·unfold FU a1q;rw[bE (by simp only[MI.clo];omega)]
  simp[a00]
 ·simp only[List.take_left'];exact λo ho=>n6 (bq _) (co o ho)
end
end EVT
def ltn:=@EVT.awo
namespace K55
open L2 MI AT HND EVX K22 K23 K21
theorem pu1{ds:List D}(hn:ds.length=n)(ca:∀x∈ds,MI.clo 0 x)(c:MI.clo 0 d)(e:F ds []=.ok d []):Pu F n ds d:=Pu.of hn ca e (jy c (by simp)) c
theorem aoi{x y:D}(a:MI.clo 0 x)(b:MI.clo 0 y):∀z∈[x,y],MI.clo 0 z:=a1s a b
theorem amu{x y w:D}(a:MI.clo 0 x)(b:MI.clo 0 y)(c:MI.clo 0 w):∀z∈[x,y,w],MI.clo 0 z:=abb a b c
def isB:D->Bool|.bl _=>true|_=>false
def isI:D->Bool|.int _=>true|_=>false
theorem afs{d:D}{h:Hd}(p:Pln d):jz [d,.ty "int"] h=.ok (.bl (isI d || isB d)) h:=by
 cases d<;>first|(simp only[Pln]at p;done)|simp[jz,aa1,tyD,a7z,isI,isB]
theorem amv{d:D}{h:Hd}(p:Pln d):jz [d,.ty "bool"] h=.ok (.bl (isB d)) h:=by
 cases d<;>first|(simp only[Pln]at p;done)|simp[jz,aa1,tyD,a7z,isB]
theorem chT{g g':D->D->Hd->R D}{fa fb fc:SE}{τ:Sd}{h h1 h2 h3 h4 h5:Hd}{x y w v:D}(e1:fa τ h=.ok x h1)(e2:fb τ h1=.ok y h2)(e3:g x y h2=.ok (.bl true) h3)(e4:fc τ h3=.ok w h4)(e5:g' y w h4=.ok v h5):sCh g g' fa fb fc τ h=.ok v h5:=by
 unfold sCh;rw[e1,bf,e2,bf,e3,bf];dsimp only;rw[e4,bf,e5]
theorem chF{g g':D->D->Hd->R D}{fa fb fc:SE}{τ:Sd}{h h1 h2 h3:Hd}{x y:D}(e1:fa τ h=.ok x h1)(e2:fb τ h1=.ok y h2)(e3:g x y h2=.ok (.bl false) h3):sCh g g' fa fb fc τ h=.ok (.bl false) h3:=by
 unfold sCh;rw[e1,bf,e2,bf,e3,bf]
theorem leT{x y:Int}{h:Hd}(c:x<=y):gLe (.int x) (.int y) h=.ok (.bl true) h:=by unfold gLe;simp only[c,decide_true]
theorem leF{x y:Int}{h:Hd}(c:¬ x<=y):gLe (.int x) (.int y) h=.ok (.bl false) h:=by unfold gLe;simp only[c,gR]
theorem aoj{f:SE}{τ:Sd}{h h1:Hd}{b:Bool}(e:f τ h=.ok (.bl b) h1):aaf f τ h=.ok (.bl (!b)) h1:=by unfold aaf;rw[e,bf]
theorem awq{x:D}(a:MI.clo 0 x):∀z∈[x],MI.clo 0 z:=λz hz=>by rw[aw]at hz;subst hz;exact a
theorem aft{d:D}(p:Pln d):Pu (km zq 1) 1 [d] (.bl (isI d)):=by
 refine pu1 rfl (awq p.clo) (qy _) ?_;rw[dw];show toR (zq [some d] [])=_;unfold zq
 cases d with
 |int i=>exact aU toR (nq (acr (kh (bc rfl) ckk (afs p)) (aoj (kh (bc rfl) ckk (amv p)))))
 |bl b=>exact aU toR (nq (acr (kh (bc rfl) ckk (afs p)) (aoj (kh (bc rfl) ckk (amv p)))))
 |_=>exact aU toR (nq (PAP.aik (kh (bc rfl) ckk (afs p))))
inductive Gh:D->Prop
 |non:Gh .non
 |bl (b:Bool):Gh (.bl b)
 |int (i:Int):Gh (.int i)
 |str (x:Str) (h:x.cps.toList.length<=1000):Gh (.str x)
 |tup (xs:List D) (g:∀x∈xs,Gh x):Gh (.tup xs)
 |rol (xs:List D) (c:clos 0 xs):Gh (.rol xs)
 |rod (ks:List Key) (xs:List D) (c:clos 0 xs):Gh (.rod ks xs)
theorem Gh.clo{d:D}(g:Gh d):MI.clo 0 d:=by
 induction g with
 |non=>exact ahv
 |bl b=>exact qy _
 |int i=>exact dg _
 |str x _=>exact jc _
 |tup xs _ ih=>exact my (qw.mpr ih)
 |rol xs c=>exact jq c
 |rod ks xs c=>simpa[MI.clo] using c
theorem Gh.pln{d:D}(g:Gh d):Pln d:=by
 cases g with
 |non=>trivial
 |bl b=>trivial
 |int i=>trivial
 |str x h=>exact h
 |tup xs g=>exact qw.mpr λx hx=>(g x hx).clo
 |rol xs c=>exact c
 |rod ks xs c=>exact c
def Ghs(xs:List D):Prop:=∀x∈xs,Gh x
theorem Ghs.clos{xs:List D}(a:Ghs xs):MI.clos 0 xs:=qw.mpr λx h=>(a x h).clo
def Td:Nat->D->Prop
 |0,t=>∃j:Nat,t=bj j
 |n+1,t=>∃ts,t=.tup ts/\∀x∈ts,Td n x
theorem aok:∀{n:Nat} {t:D},Td n t->MI.clo 0 t
 |0,_,⟨_,e⟩=>by rw[e];exact dg _
 |n+1,_,⟨ts,e,h⟩=>by rw[e];exact my (qw.mpr λx hx=>aok (h x hx))
theorem awr:∀{n:Nat} {t:D},Td n t->Gh t
 |0,_,⟨_,e⟩=>by rw[e];exact .int _
 |n+1,_,⟨ts,e,h⟩=>by rw[e];exact .tup _ λx hx=>awr (h x hx)
def sm:Nat->D->D->Bool
 |0,x,t=>match x,t with
  |.int i,.int j=>i == j
  |_,_=>false
 |n+1,x,t=>match x,t with
  |.tup xs,.tup ts=>decide (xs.length=ts.length) && (xs.zip ts).all λp=>sm n p.1 p.2
  |_,_=>false
theorem a8e{n:Nat}{xs ts:List D}:sm (n+1) (.tup xs) (.tup ts)=(decide (xs.length=ts.length) && (xs.zip ts).all λp=>sm n p.1 p.2):=rfl
theorem acz:∀{n:Nat} {t:D},Td n t->sm n t t=true
 |0,_,⟨j,e⟩=>by rw[e];show((j:Int) == (j:Int))=true;simp
 |n+1,_,⟨ts,e,h⟩=>by
  rw[e,a8e,bL rfl,fK,bN]
  intro p hp
  have:p.1=p.2/\p.1∈ts:=by
   clear e
   induction ts with
   |nil=>cases hp
   |cons x ts ih =>
    rw[dZ]at hp
    rcases aR.mp hp with rfl|hp
    ·exact⟨rfl,aQ⟩
    ·obtain⟨a,b⟩:=ih (λy hy=>h y (aK _ hy)) hp;exact⟨a,aK _ b⟩
  rw[<-this.1];exact acz (h _ this.2)
theorem aol{n:Nat}{xs ts:List D}(h:¬ xs.length=ts.length):sm (n+1) (.tup xs) (.tup ts)=false:=by rw[a8e,bp h,fg]
theorem aws{n:Nat}{x:D}{ts:List D}(h:isTup x=false):sm (n+1) x (.tup ts)=false:=by
 cases x<;>first|rfl|cases h
theorem b24{x:D}{j:Nat}(h:∀i,x=.int i->i≠(j:Int)):sm 0 x (bj j)=false:=by
 cases x<;>first|rfl|skip
 rename_i i;exact cF.mpr (h i rfl)
noncomputable def m7:SF:=km zq 1
theorem amw{d:D}(p:Pln d):Pu m7 1 [d] (.bl (isI d)):=aft p
noncomputable def v7:SF:=km a6b 3
def asd(lo hi:Int):D->Bool|.tup xs=>decide (lo<=(xs.length:Int)/\(xs.length:Int)<=hi)|_=>false
theorem amx{d:D}(p:Pln d)(lo hi:Int):Pu v7 3 [d,.int lo,.int hi] (.bl (asd lo hi d)):=by
 refine pu1 rfl (amu p.clo (dg _) (dg _)) (qy _) ?_;unfold v7;rw[dw];show toR (a6b [some d,some (.int lo),some (.int hi)] [])=_;unfold a6b;have ti:jz [d,.ty "tuple"] []=.ok (.bl (isTup d)) []:=PAP.ab9 p
 cases d with
 |tup xs =>
  refine aU toR (nq (acr (kh (bc rfl) ckk ti) ?_))
  by_cases h0:lo<=(xs.length:Int)
  ·by_cases h1:(xs.length:Int)<=hi
   ·exact(chT (bc rfl) (p7 (bc rfl) ltn) (leT h0) (bc rfl) (leT h1)).trans (by rw[show asd lo hi (.tup xs)=true from bL ⟨h0,h1⟩])
   ·exact(chT (bc rfl) (p7 (bc rfl) ltn) (leT h0) (bc rfl) (leF h1)).trans (by rw[show asd lo hi (.tup xs)=false from bp λz=>h1 z.2])
  ·exact(chF (bc rfl) (p7 (bc rfl) ltn) (leF h0)).trans (by rw[show asd lo hi (.tup xs)=false from bp λz=>h0 z.1])
 |_=>exact aU toR (nq (PAP.aik (kh (bc rfl) ckk ti)))
noncomputable def jw:Nat->SF
 |0=>λ_ _=>.no
 |n+1=>km (a2f m7 v7 (jw n)) 2
theorem ajg{n:Nat}{a b:D}:jw (n+1) [a,b] []=toR (a2f m7 v7 (jw n) [some a,some b] []):=by
 rw[jw,dw];rfl
def Few:Nat->D->Prop
 |0,_=>True
 |n+1,t=>∀ts,t=.tup ts->ts.length<=100000/\∀x∈ts,Few n x
theorem ajh:∀(n m:Nat),n<m->∀x t,Gh x->Td n t->Few n t->Pu (jw m) 2 [x,t] (.bl (sm n x t))
 |_,0,h,_,_,_,_,_=>absurd h (by omega)
 |0,m+1,_,x,t,g,⟨j,et⟩,_=>by
  subst et;refine pu1 rfl (aoi g.clo (dg _)) (qy _) (ajg.trans ?_);unfold a2f;have i1:jz [bj j,.ty "tuple"] []=.ok (.bl false) []:=by simp[jz,aa1,tyD,a7z]
  have nb:=amw g.pln;refine aU toR (a3j (aH (ifT (aqx (uc (kh (bc rfl) ckk i1) (jh _)))) (nq ?_)))
  cases g with
  |int i=>exact acr (p7 (bc rfl) (nb _)) (kj (bc rfl) (bc rfl) acn)
  |_=>exact PAP.aik (p7 (bc rfl) (nb _))
 |n+1,m+1,h,x,t,g,⟨ts,et,ht⟩,few=>by
  subst et;obtain⟨fl1,few⟩:=few ts rfl;refine pu1 rfl (aoi g.clo (aok (n:=n+1) ⟨ts,rfl,ht⟩)) (qy _) (ajg.trans ?_);unfold a2f;have i1:jz [.tup ts,.ty "tuple"] []=.ok (.bl true) []:=by simp[jz,aa1,tyD,a7z]
  have ir:=amx g.pln ts.length ts.length;refine eti (a79 (uc (kh (bc rfl) ckk i1) (jh _))) ?_
  by_cases hx:∃xs,x=.tup xs/\xs.length=ts.length
  ·obtain⟨xs,rfl,hl⟩:=hx;have gx:∀y∈xs,Gh y:=by cases g with|tup _ g=>exact g
   have rb:asd ts.length ts.length (.tup xs)=true:=bL (by omega)
   rw[rb]at ir;refine eti (a79 (uc (a7j (bc rfl) (p7 (bc rfl) ltn) (p7 (bc rfl) ltn) (ir _)) (jh _))) ?_;have zi:acd (sV 0) (sV 1) [some (.tup xs),some (.tup ts)] []=.ok ⟨(xs.zip ts).map λp=>.tup [p.1,p.2],λ_=>True⟩ []:=by
    unfold acd;rw[bc rfl,bf,bc rfl,bf];show R.ok (⟨(xs.zip ts).map λp=>.tup [p.1,p.2],λ_=>True/\True⟩:Itm) []=_
    congr 2
    funext _
    simp
   have cz:sZ (jk (acd (sV 0) (sV 1)) (tN 2) (a0d m7 v7 (jw m)) []) [some (.tup xs),some (.tup ts)] []=.ok (.rol (((xs.zip ts).map λp=>sm n p.1 p.2).map D.bl)) []:=by
    rw[bP];refine a1c (qe _ _ (xs.zip ts) zi (dh (by rw[gQ];omega)) λp hp=>?_) (dj λ_ _=>qy _) (by simp)
    obtain⟨h1,h2⟩:=eO hp;show a0d m7 v7 (jw m) [some p.1,some p.2] []=_;unfold a0d;exact kh (bc rfl) (bc rfl) (ajh n m (by omega) _ _ (gx _ h1) (ht _ h2) (few _ h2) _)
   refine etr (nq (p7 cz (PAP.ail _ _))) ?_;rw[a8e,bL hl,fK,fY];rfl
  ·have rb:asd ts.length ts.length x=false:=by
    cases x<;>first|rfl|skip
    rename_i xs;exact bp λz=>hx ⟨xs,rfl,by omega⟩
   have sf:sm (n+1) x (.tup ts)=false:=by
    cases x<;>first|rfl|skip
    rename_i xs;exact aol λz=>hx ⟨xs,rfl,z⟩
   rw[rb]at ir;rw[sf];exact aU toR (a3j (aH (ifT (aqx (uc (a7j (bc rfl) (p7 (bc rfl) ltn) (p7 (bc rfl) ltn) (ir _)) (jh _)))) (nq ckk)))
section
variable{T:Table}
def lies(T:Table):Nat->List Nat->Bool
 |_,[]=>false
 |r,c::l=>decide (kI T (stp T r (psn T c)) ≠ -1) || lies T (stp T r (psn T c)) l
def rwA(T:Table)(l:List Nat):List Nat:=(List.range T.go.length).filter λr=>lies T r l
theorem arv:rwA T []=[]:=by unfold rwA;exact List.filter_eq_nil_iff.mpr λr _=>by simp[lies]
theorem a9u(hr:r<T.go.length):r∈rwA T l↔lies T r l=true:=by
 unfold rwA;rw[dE,bS];exact⟨λz=>z.2,λz=>⟨hr,z⟩⟩
theorem aji:(rwA T l).length<=T.go.length:=by
 have:=ei (λr=>lies T r l) (List.range T.go.length)
 rwa[aX]at this
theorem a6g{α:Type}(p:α->Bool)(f:α->D):∀l:List α,(l.filterMap λi=>if p i=true then some (f i) else none)=(l.filter p).map f
 |[]=>rfl
 |a::l=>by
  rw[cp,eK]
  cases p a with
  |true=>simp only[dR,bI];rw[a6g p f l]
  |false=>simp only[dn,fW];exact a6g p f l
theorem aom(x:Nat)(l:List Nat)(h:Hd):gIn false (bj x) (.tup (l.map bj)) h=.ok (.bl (decide (x∈l))) h:=by
 have fl:zy (bj x)=true/\(l.map bj).all zy=true:=⟨rfl,by
  rw[bN]
  intro y hy
  obtain⟨n,_,rfl⟩:=bG.mp hy
  rfl⟩
 unfold gIn a0q;simp only[aO fl,dn,fW,SRC.ais]
noncomputable def jt:SF:=km a1g 8
theorem ajj(l:List Nat):MI.clo 0 (m8 l):=my (iz _)
theorem abj(h:T.Ok)(hc:c∈T.tg):Pu jt 3 [T.d,.str (S [c]),m8 (rwA T l)] (m8 (rwA T (c::l))):=by
 have n32:=h.n32;refine pu1 rfl (abb Table.clo (jc _) (ajj _)) (ajj _) ?_;unfold jt;rw[dw];show toR (a1g [some T.d,some (.str (S [c])),some (m8 (rwA T l)),none,none,none,none,none] [])=_;unfold a1g;refine etr (u9 (afi (bc rfl) rfl)) ?_;refine ets (asb (bc rfl) (arg1 (bc rfl)) (aiz hc _)) ?_
 let ld:List Nat:=(List.range T.go.length).map λr=>stp T r (psn T c)
 have z1:∀τ:Sd,τ[4]? = some (some (.tup (T.go.map m8)))->frs' [6] τ=[some (bj (psn T c))]->sZ (jk (sIt (sV 4)) t1 a3a [6]) τ []=.ok (.rol (ld.map bj)) []:=λτ h4 h6=>by
  refine a1c ((qe (λr:Nat=>az3 T r) (λr=>bj (stp T r (psn T c))) (List.range T.go.length) (a6a (bc h4) ?_) (dh (by rw[aX];omega)) λr hr=>?_).trans (by show _=R.ok _ [.lst (List.map _ (List.map _ _))];rw[bP];rfl)) (iz _) (by simp)
  ·show R.ok _ _=_
   conv=>lhs;rw[awa h,bP]
   rfl
  ·rw[u6,h6];exact kj (bc rfl) (bc rfl) (amd h (a7e hc).2 _)
 refine ets (z1 _ rfl rfl) ?_;have en:∀τ:Sd,τ[7]? = some (some (.rol (ld.map bj)))->aci (sV 7) τ []=.ok ⟨(List.range T.go.length).map λr=>.tup [bj r,bj (stp T r (psn T c))],λ_=>True⟩ []:=λτ h7=>by
  unfold aci;rw[bc h7,bf];show R.ok (⟨((List.range (ld.map bj).length).zip (ld.map bj)).map λp=>.tup [.int (p.1:Nat),p.2],λ_=>True⟩:Itm) []=_
  congr 2
  rw[ai,ai,aX,bP,K34.ajd];rfl
 have z2:∀τ:Sd,τ[7]? = some (some (.rol (ld.map bj)))->frs' [2,5] τ=[some (m8 (rwA T l)),some (.tup (T.ks.map D.int))]->sZ (a3s (aci (sV 7)) (tN 2) uz a3b [2,5]) τ []=.ok (.rol ((rwA T (c::l)).map bj)) []:=λτ h7 h6=>by
  unfold rwA;rw[<-a6g];refine a1c (ab6 (λr:Nat=>D.tup [bj r,bj (stp T r (psn T c))]) (λr=>if lies T r (c::l)=true then some (bj r) else none) (List.range T.go.length) (en τ h7) (dh (by rw[aX];omega)) λr hr=>?_) (by rw[a6g];exact iz _) (by simp)
  have sl:=aod h r (psn T c);have t2:uz [some (bj r),some (bj (stp T r (psn T c))),some (m8 (rwA T l)),some (.tup (T.ks.map D.int))] []=.ok (lies T r (c::l)) []:=by
   unfold uz;show _=R.ok (decide (kI T (stp T r (psn T c)) ≠ -1) || lies T (stp T r (psn T c)) l) []
   by_cases hk:kI T (stp T r (psn T c)) = -1
   ·refine(orF (t2s (kj (bc rfl) (bc rfl) (abd h sl _)) (afh ckk (a5f _)) (ab7 hk)) (t2s (bc rfl) (bc rfl) ?_));rw[aom];rw[show decide (kI T (stp T r (psn T c)) ≠ -1)=false from bp λz=>z hk,hJ]
    congr 2
    cases hq:lies T (stp T r (psn T c)) l with
    |true=>exact bL ((a9u sl).mpr hq)
    |false=>exact bp λz=>by rw[a9u sl,hq]at z;cases z
   ·rw[bL hk,Bool.true_or];exact orT (t2s (kj (bc rfl) (bc rfl) (abd h sl _)) (afh ckk (a5f _)) (avb hk))
  show(uz (some (bj r)::some (bj (stp T r (psn T c)))::frs' [2,5] τ) []).bind _=_;rw[h6,t2,bf]
  cases lies T r (c::l)<;>rfl
 exact aU toR (nq (p7 (z2 _ rfl rfl) rfl))
end
section
variable{T:Table}{x:List Nat}
def rws(T:Table)(x:List Nat):List (List Nat):=(List.range (x.length+1)).map λi=>rwA T (x.drop i)
abbrev a8f(T:Table)(x:List Nat):D:=.tup ((rws T x).map m8)
theorem ad0:(rws T x).length=x.length+1:=by unfold rws;rw[ai,aX]
theorem a2s(n:Nat)(L:List (List Nat)):clos n (L.map m8):=dj λl _=>my (iz _)
theorem a4o:MI.clo 0 (a8f T x):=my (a2s _ _)
noncomputable def du:SF:=km (uo STP.lz) 2
theorem a9q{d:D}(p:Pln d)(t:txt T d=true)(h:Hd):yw 2 du [.str (S T.tg),d] h=.ok d h:=K21.a9q p t h
theorem a9r{d:D}(p:Pln d)(t:txt T d=false)(h:Hd):yw 2 du [.str (S T.tg),d] h=.ex "NoText" h:=K21.a9r p t h
noncomputable def gj:SF:=km (vg du jt) 4
theorem awt{f g:SE}{τ:Sd}{h:Hd}{l:List Nat}(hl:l.length<=LINE)(e:f τ h=.ok (.str (S l)) h)(e2:g τ h=.ok (.int (-1)) h):ab2 f g τ h=.ok (.str (S l.reverse)) h:=by
 unfold ab2;rw[e,bf,e2,bf];dsimp only;rw[aO ⟨rfl,by rw[a9f];exact hl⟩]
def bk(T:Table):List Nat->List Nat->List (List Nat)
 |_,[]=>[]
 |l,c::q=>rwA T (c::l)::bk T (c::l) q
theorem a9v:∀(q l:List Nat) (c:Nat),bk T l (q++[c])=bk T l q++[rwA T (c::(q.reverse++l))]
 |[],l,c=>rfl
 |d::q,l,c=>by
  show rwA T (d::l)::bk T (d::l) (q++[c])=rwA T (d::l)::bk T (d::l) q++_;rw[a9v q (d::l) c,dW,eD,dJ];rfl
theorem amy(c:Nat)(l:List Nat):rws T (c::l)=rwA T (c::l)::rws T l:=by
 unfold rws;rw[bB,List.range_succ_eq_map,bI,bP];rfl
theorem awu:∀(q:List Nat),(rwA T []::bk T [] q).reverse=rws T q.reverse:=by
 intro q
 have gen:∀(p:List Nat),(rwA T []::bk T [] p).reverse=rws T p.reverse:=by
  intro p
  generalize hn:p.length=n
  induction n generalizing p with
  |zero=>rw[dS.mp hn];rfl
  |succ n ih =>
   rcases List.eq_nil_or_concat p with z|⟨q,c,z⟩
   ·subst z;simp at hn
   ·rw[List.concat_eq_append]at z;subst z;rw[ah,av]at hn;rw[a9v,<-dW,fR,ih q (by omega),fR,bJ]
    show[rwA T (c::q.reverse)].reverse++rws T q.reverse=rws T (c::q.reverse);rw[amy];rfl
 exact gen q
theorem ajk{h:Hd}{L:List (List Nat)}{l:List Nat}(e:h[0]? = some (.lst ((L++[l]).map m8))):gIx (.ref 0) (.int (-1)) h=.ok (m8 l) h:=by
 rw[a77];unfold a0q;simp only[e];rw[bA,dY,acv]
theorem abk(h:T.Ok)(ht:∀c∈x,c∈T.tg)(xl:x.length<=900):gj [T.d,.str (S x)] []=.ok (a8f T x) [.lst ((rws T x).reverse.map m8)]:=by
 unfold gj;rw[dw];show toR (vg du jt [some T.d,some (.str (S x)),none,none] [])=_;unfold vg;have lk:=a9q (T:=T) (awd (l:=x) (by omega)) (by rw[arj];exact awe ht) []
 have dr:uw (sA (yw 2 du) (ak (s2 gIx (sV 0) (sI 0)) (ak (sV 1) bu))) [some T.d,some (.str (S x)),none,none] []=.nx [some T.d,some (.str (S x)),none,none] []:=by
  unfold uw;rw[(arc (ue (a01 rfl (amh _)) (ue (bc rfl) rfl))).trans lk];rfl
 refine etr (u9 dr) ?_;refine etr (jr (d:=.ref 0) (h1:=[.lst ((rwA T []::bk T [] []).map m8)]) (by rw[arv];rfl)) ?_
 have lp:=nu (g:=kN 3) (b:=wk du jt) (λc:Nat=>D.str (S [c]))
  (λpre τ hh=>∃t3:Option D,τ=[some T.d,some (.str (S x)),some (.ref 0),t3]/\hh=[.lst ((rwA T []::bk T [] pre).map m8)])
  x.reverse [some T.d,some (.str (S x)),some (.ref 0),none] [.lst ((rwA T []::bk T [] []).map m8)] ?_ ⟨none,rfl,rfl⟩
 ·obtain⟨τ',h',e,t3,rfl,rfl⟩:=lp;have fo:a2u (sIt (ab2 (sV 1) (s1 a5v (sI 1)))) (kN 3) (wk du jt) [some T.d,some (.str (S x)),some (.ref 0),none] [.lst ((rwA T []::bk T [] []).map m8)]=.nx [some T.d,some (.str (S x)),some (.ref 0),t3] [.lst ((rwA T []::bk T [] x.reverse).map m8)]:=by
   unfold a2u;rw[a6a (awt (dh (by omega)) (bc rfl) (afh ckk (a5f _))) (afz _ _)]
   exact e
  refine etr (u9 (b18 fo)) ?_;have er:(rwA T []::bk T [] x.reverse).reverse=rws T x:=by rw[awu,fG]
  have er':rwA T []::bk T [] x.reverse=(rws T x).reverse:=by rw[<-er,fG]
  rw[er'];have z1:sZ (aed (sV 2) oN (s1 a5v (sI 1))) [some T.d,some (.str (S x)),some (.ref 0),t3] [.lst ((rws T x).reverse.map m8)]=.ok (.rol ((rws T x).map m8)) [.lst ((rws T x).reverse.map m8)]:=by
   refine EVT.b0c (h1:=[.lst ((rws T x).reverse.map m8)]) ?_ rfl (a2s _ _) (by intro o ho;rw[aw]at ho;subst ho;exact a2s _ _)
   unfold aed;rw[bc rfl,bf,EVT.b21,bf,afh ckk (a5f _),bf,ar9 (xs:=(rws T x).reverse.map m8) rfl,<-List.map_reverse,fG]
  exact aU toR (nq (p7 z1 rfl))
 ·rintro pre c post τ hh all ⟨t3,rfl,rfl⟩
  have hc:c∈T.tg:=ht c (by rw[<-List.mem_reverse,all];simp)
  have pl:pre.length<x.length:=by
   have:=aU List.length all
   rw[cG,ah,bB]at this;omega
  have bl:∀(q l:List Nat),(bk T l q).length=q.length:=by
   intro q
   induction q with
   |nil=>intro l;rfl
   |cons d q ih=>intro l;show(bk T (d::l) q).length+1=_;rw[ih];rfl
  refine⟨_,_,rfl,[some T.d,some (.str (S x)),some (.ref 0),some (.str (S [c]))],[.lst ((rwA T []::bk T [] (pre++[c])).map m8)],?_,_,rfl,rfl⟩;have la:∀hh:Hd,hh[0]? = some (.lst ((rwA T []::bk T [] pre).map m8))->gIx (.ref 0) (.int (-1)) hh=.ok (m8 (rwA T pre.reverse)) hh:=λhh e0=>by
   rcases List.eq_nil_or_concat pre with z|⟨q,d,z⟩
   ·subst z;exact ajk (L:=[]) e0
   ·rw[List.concat_eq_append]at z;subst z;rw[a9v,<-dW]at e0;rw[ajk e0,bJ,fR];rfl
  unfold wk;refine aH (a06 (v:=.non) (bc rfl) rfl (arg1 (a7j (bc rfl) (bc rfl) (kj (bc rfl) (afh ckk (a5f _)) (la _ rfl)) (abj h hc _))) (a07 (xs:=(rwA T []::bk T [] pre).map m8) rfl (a08 (by rw[ai,bB,bl];omega)))) ?_
  rw[a9v,bJ,<-dW,bA];rfl
theorem abi:∀d∈[T.d,.str (S x)],MI.clo 0 d:=a1s Table.clo (jc _)
theorem a8g(h:T.Ok)(ht:∀c∈x,c∈T.tg)(xl:x.length<=900)(hh:Hd):yw 2 gj [T.d,.str (S x)] hh=.ok (a8f T x) hh :=
 acu abi (abk h ht xl) (Pu.of rfl abi (abk h ht xl) (jy a4o (by simp)) a4o)
theorem ajl{d:D}(p:Pln d)(t:txt T d=false)(hh:Hd):yw 2 gj [T.d,d] hh=.ex "NoText" hh:=by
 refine aig rfl (a1s Table.clo p.clo) (h1:=[]) ?_;unfold gj;rw[dw];show toR (vg du jt [some T.d,some d,none,none] [])=_;unfold vg;exact aU toR (aw3 (ao8 ((arc (ue (a01 rfl (amh _)) (ue (bc rfl) rfl))).trans (a9r p t _))))
noncomputable def nj:SF:=km (a1h gj (jw 3)) 3
theorem a9w(L:List (List Nat)):Td 2 (.tup (L.map m8)):=⟨_,rfl,λx hx=>by
 obtain⟨l,_,rfl⟩:=bG.mp hx;exact⟨_,rfl,λx hx=>by obtain⟨j,_,rfl⟩:=bG.mp hx;exact⟨j,rfl⟩⟩⟩
theorem amz(h:T.Ok)(xl:x.length<=900):Few 2 (a8f T x):=λts e=>by
 cases e
 refine⟨by rw[ai,ad0];omega,λy hy=>?_⟩
 obtain⟨l,hl,rfl⟩:=bG.mp hy;unfold rws at hl;obtain⟨i,_,rfl⟩:=bG.mp hl
 intro ts e
 cases e
 refine⟨by rw[ai];have:=aji (T:=T) (l:=x.drop i);have:=h.n32;omega,λ_ _=>trivial⟩
theorem ajm(h:T.Ok)(ht:∀c∈x,c∈T.tg)(xl:x.length<=900){d:D}(g:Gh d)(hh:Hd):yw 3 nj [T.d,.str (S x),d] hh=.ok (.bl (sm 2 d (a8f T x))) hh:=by
 have ca:∀y∈[T.d,.str (S x),d],MI.clo 0 y:=abb Table.clo (jc _) g.clo;have r:nj [T.d,.str (S x),d] []=.ok (.bl (sm 2 d (a8f T x))) []:=by
  unfold nj;rw[dw];show toR (a1h gj (jw 3) [some T.d,some (.str (S x)),some d] [])=_;unfold a1h;exact aU toR (nq (kh (bc rfl) ((arc (ue (bc rfl) (ue (bc rfl) rfl))).trans (a8g h ht xl _)) (ajh 2 3 (by decide) d _ g (a9w _) (amz h xl) _)))
 exact acu ca r (Pu.of rfl ca r (jy (qy _) (by simp)) (qy _))
end
section
variable{T:Table}{x:List Nat}
theorem abl:∀(l:List Nat) (r c:Nat),lies T r (l++[c])=(lies T r l || decide (kI T (ldw T r (l++[c])) ≠ -1))
 |[],r,c=>by show(_ || false)=(false || _);rw[gZ,hJ];rfl
 |d::l,r,c=>by
  show(_ || lies T _ (l++[c]))=((_ || lies T _ l) || _)
  rw[abl l _ c,Bool.or_assoc];rfl
theorem awv(h:T.Ok)(hr:r<T.go.length):decide (0<=kI T r)=decide (kI T r ≠ -1):=by
 obtain⟨k,e,k1,_⟩:=arf h hr;have : -1<=kI T r:=by unfold kI;rw[e];exact k1
 by_cases z:kI T r = -1
 ·rw[bp (by omega),bp λq=>q z]
 ·rw[bL (by omega),bL z]
abbrev τD(T:Table)(x:List Nat)(i:Nat)(j:Nat)(s a b c:Option D):Sd:=[some T.d,some (.str (S x)),some (.ref 0),some (bj i),some (.ref j),s,a,b,c]
theorem ajn(h:T.Ok)(ht:∀c∈x,c∈T.tg)(xl:x.length<=900)(hs:s<T.go.length)(i j:Nat)(c:Option D)(hh:Hd):∃c',a2u (sIt (yp (sV 1) (oS (sV 3)) oN)) (kN 8) a0f (τD T x i j (some (bj s)) (some (bj s)) (some (.bl false)) c) hh=.nx (τD T x i j (some (bj s)) (some (bj (ldw T s (x.drop i)))) (some (.bl (lies T s (x.drop i)))) c') hh:=by
 have lp:=nu (g:=kN 8) (b:=a0f) (λc:Nat=>D.str (S [c]))
  (λpre τ h'=>∃c:Option D,τ=τD T x i j (some (bj s)) (some (bj (ldw T s pre))) (some (.bl (lies T s pre))) c/\h'=hh)
  (x.drop i) (τD T x i j (some (bj s)) (some (bj s)) (some (.bl false)) c) hh ?_ ⟨c,rfl,rfl⟩
 ·obtain⟨τ',h',e,c',rfl,rfl⟩:=lp;refine⟨c',?_⟩;unfold a2u;rw[a6a (PAP.afl (bc rfl) (PAP.aef (bc rfl)) rfl (ai3 i (dh (by omega)))) (afz _ _)]
  exact e
 ·rintro pre d post τ h' all ⟨c,rfl,rfl⟩
  have hd:d∈T.tg:=ht d (fH (i:=i) (by rw[all];simp))
  have lt:=aba h pre hs;have l2:=aba h (pre++[d]) hs;refine⟨_,_,rfl,_,_,?_,some (.str (S [d])),rfl,rfl⟩;unfold a0f;refine aH (jr (kj (kj (a01 rfl (T1 _)) (bc rfl) (aix h lt _)) (asb (a01 rfl (amh _)) (arg1 (bc rfl)) (aiy hd _)) (amd h (a7e hd).2 _))) ?_;rw[<-a6e,abl,<-awv h l2];have ge:∀hh:Hd,gGe (.int (kI T (ldw T s (pre++[d])))) (.int 0) hh=.ok (.bl (decide (0<=kI T (ldw T s (pre++[d]))))) hh:=λhh=>rfl
  cases hl:lies T s pre with
  |true=>exact acq (EVT.b22 (bc rfl))
  |false=>exact acq (EVT.b23 (bc rfl) (kj (kj (a01 rfl (ark _)) (bc rfl) (abd h l2 _)) ckk (ge _)))
theorem arw(A:Hd)(o o':O):(A++[o]).set A.length o'=A++[o']:=by simp
theorem ad1(A:Hd)(o:O):(A++[o])[A.length]? = some o:=by simp
def rwK(T:Table)(l:List Nat)(k:Nat):List Nat:=(List.range k).filter λr=>lies T r l
theorem az8(e:lies T k l=true):rwK T l (k+1)=rwK T l k++[k]:=by unfold rwK;rw[dM,List.filter_append];simp[e]
theorem az9(e:lies T k l=false):rwK T l (k+1)=rwK T l k:=by unfold rwK;rw[dM,List.filter_append];simp[e]
theorem arx:(rwK T l k).length<=k:=by
 have:=ei (λr=>lies T r l) (List.range k)
 rwa[aX]at this
noncomputable def zx:SF:=km a4i 9
theorem arz(h:T.Ok)(ht:∀c∈x,c∈T.tg)(xl:x.length<=900)(i:Nat)(A:Hd)(a0 a b c:Option D):∃a0' a' b' c',a2u (sRg yt (ak (sA qu (ak (s2 gIx (sV 0) (sI 1)) bu)) bu)) (kN 5) a0g (τD T x i A.length a0 a b c) (A++[.lst []])=.nx (τD T x i A.length a0' a' b' c') (A++[.lst ((rwA T (x.drop i)).map bj)]):=by
 have n32:=h.n32;have lp:=nu (g:=kN 5) (b:=a0g) (λk:Nat=>D.int (k:Nat))
  (λpre τ h'=>∃a0 a b c:Option D,τ=τD T x i A.length a0 a b c/\h'=A++[.lst ((rwK T (x.drop i) pre.length).map bj)])
  (List.range T.go.length) (τD T x i A.length a0 a b c) (A++[.lst []]) ?_ ⟨a0,a,b,c,rfl,rfl⟩
 ·obtain⟨τ',h',e,a0',a',b',c',rfl,rfl⟩:=lp;refine⟨a0',a',b',c',?_⟩;unfold a2u;rw[acp (n:=T.go.length) (p7 (a01 rfl (T1 _)) (b0b _)) (dh (by omega))]
  rw[aX]at e;exact e
 ·rintro pre k post τ h' all ⟨a0,a,b,c,rfl,rfl⟩
  obtain⟨hi,hk⟩:=uf all;subst hi;rw[ah,av];obtain⟨c',lo⟩:=ajn h ht xl hk i A.length c (A++[.lst ((rwK T (x.drop i) pre.length).map bj)]);refine⟨_,_,rfl,τD T x i A.length (some (bj pre.length)) (some (bj (ldw T pre.length (x.drop i)))) (some (.bl (lies T pre.length (x.drop i)))) c',A++[.lst ((rwK T (x.drop i) (pre.length+1)).map bj)],?_,_,_,_,_,rfl,rfl⟩;unfold a0g;refine aH (jr (bc rfl)) ?_;refine aH (jr ckk) ?_;refine aH (u9 lo) ?_;have rl:=arx (T:=T) (l:=x.drop i) (k:=pre.length)
  cases hl:lies T pre.length (x.drop i) with
  |true =>
   refine aH (ifT (uc (bc rfl) (jh _))) ?_;refine aH (a06 (v:=.non) (bc rfl) (ava (ad1 _ _)) (arg1 (bc rfl)) (a07 (ad1 _ _) (by rw[ai];exact a08 (by omega)))) ?_
   rw[arw,az8 hl,bA];rfl
  |false =>
   refine aH (ifF (uc (bc rfl) (jh _))) ?_;rw[az9 hl];rfl
theorem aww(h:T.Ok)(ht:∀c∈x,c∈T.tg)(xl:x.length<=900):Pu zx 2 [T.d,.str (S x)] (a8f T x):=by
 have lp:=nu (g:=kN 3) (b:=a2h) (λk:Nat=>D.int (k:Nat))
  (λpre τ h'=>∃(t3 t4 a0 a b c:Option D) (J:Hd),τ=[some T.d,some (.str (S x)),some (.ref 0),t3,t4,a0,a,b,c]/\h'=.lst (((List.range pre.length).map λi=>m8 (rwA T (x.drop i))))::J)
  (List.range (x.length+1)) [some T.d,some (.str (S x)),some (.ref 0),none,none,none,none,none,none] [.lst []] ?_ ⟨none,none,none,none,none,none,[],rfl,rfl⟩
 ·obtain⟨τ',h',e,t3,t4,a0,a,b,c,J,rfl,rfl⟩:=lp;rw[aX]at e;have er:((List.range (x.length+1)).map λi=>m8 (rwA T (x.drop i)))=(rws T x).map m8:=by unfold rws;rw[bP];rfl
  rw[er]at e;refine Pu.of rfl abi (r:=.ok (a8f T x) (.lst ((rws T x).map m8)::J)) ?_ (jy a4o (by simp)) a4o
  unfold zx;rw[dw];show toR (a4i [some T.d,some (.str (S x)),none,none,none,none,none,none,none] [])=_;unfold a4i;refine etr (jr (d:=.ref 0) (h1:=[.lst []]) rfl) ?_;refine etr (a3k (acp (n:=x.length+1) (kj (p7 (bc rfl) (a9g (dh (by omega)))) ckk u5) (dh (by omega)))) ?_
  refine aH (aU (λz=>toR (MI.thn z _)) e) ?_;rw[a0v];exact aU toR (nq (p7 (bc rfl) (ai7 rfl)))
 ·rintro pre k post τ h' all ⟨t3,t4,a0,a,b,c,J,rfl,rfl⟩
  obtain⟨hi,hk⟩:=uf all;subst hi;rw[ah,av]
  let A:Hd:=.lst ((List.range pre.length).map λi=>m8 (rwA T (x.drop i)))::J
  obtain⟨a0',a',b',c',dr⟩:=arz h ht xl pre.length A a0 a b c;refine⟨_,_,rfl,τD T x pre.length A.length a0' a' b' c',.lst ((List.range (pre.length+1)).map λi=>m8 (rwA T (x.drop i)))::(J++[.lst ((rwA T (x.drop pre.length)).map bj)]),?_,_,_,_,_,_,_,_,rfl,rfl⟩;unfold a2h;refine aH (jr (d:=.ref A.length) (h1:=A++[.lst []]) rfl) ?_;refine aH (u9 dr) ?_;refine aH (a06 (v:=.non) (bc rfl) rfl (arg1 (p7 (bc rfl) (ai7 (ad1 A _)))) (a07 (xs:=(List.range pre.length).map λi=>m8 (rwA T (x.drop i))) rfl (a08 (by rw[ai,aX];omega)))) ?_
  rw[dM,bA];rfl
end
end K55
namespace K55
open L2 MI AT HND EVX K22 K23 K21
open K35 (Pc pcD a0p abh res aru a6f acx bst aem)
section
variable{T:Table}{x:List Nat}
theorem ajo:∀{l:List Nat} {r:Nat},lies T r l=false->∀k,1<=k->k<=l.length->kI T (ldw T r (l.take k)) = -1
 |[],r,_,k,k1,k2=>by simp at k2;omega
 |c::l,r,e,0,k1,_=>by omega
 |c::l,r,e,k+1,_,k2=>by
  have e':(decide (kI T (stp T r (psn T c)) ≠ -1) || lies T (stp T r (psn T c)) l)=false:=e
  rw[Bool.or_eq_false_iff]at e';have z1:kI T (stp T r (psn T c)) = -1:=by have:=e'.1;rw[decide_eq_false_iff_not]at this;exact Decidable.not_not.mp this
  rw[List.take_succ_cons];show kI T (ldw T (stp T r (psn T c)) (l.take k)) = -1
  rcases eU k with z|z
  ·subst z;exact z1
  ·exact ajo e'.2 k z (by rw[bB]at k2;omega)
theorem aeo:∀(u v:List Nat) (r:Nat),ldw T r (u++v)=ldw T (ldw T r u) v
 |[],_,_=>rfl
 |c::u,v,r=>aeo u v _
theorem aep{l:List Nat}{m:Nat}(e:lies T (SRC.rm T l m) (l.drop m)=false):∀k,m<k->k<=l.length->kI T (SRC.rm T l k) = -1:=λk k1 k2=>by
 have:=ajo e (k-m) (by omega) (by rw[bb];omega)
 unfold SRC.rm at this ⊢;rw[<-aeo,<-List.take_add]at this
 rwa[show m+(k-m)=k by omega]at this
theorem aeq(a:Nat)(l:List Nat):∀K,(∀k,k<K->kI T (SRC.rm T l k) = -1)->SRC.best T a l K=.non
 |0,_=>rfl
 |K+1,h=>by rw[SRC.aek (h K (by omega))];exact aeq a l K λk hk=>h k (by omega)
theorem aer(a:Nat)(l:List Nat){m:Nat}(hm:kI T (SRC.rm T l m) ≠ -1):∀K,m<K->(∀k,m<k->k<K->kI T (SRC.rm T l k) = -1)->SRC.best T a l K=.tup [.int (kI T (SRC.rm T l m)),bj (a+m)]
 |0,h,_=>by omega
 |K+1,h,f=>by
  rcases Nat.lt_or_ge m K with z|z
  ·rw[SRC.aek (f K z (by omega))];exact aer a l hm K z λk k1 k2=>f k k1 (by omega)
  ·have:m=K:=by omega
   subst this;exact SRC.aj3 hm
theorem awx(h:T.Ok)(e:lies T 0 (x.drop p)=false)(hp:p<=x.length):K35.dec (bst T x p)=none:=by
 have:bst T x p=.non:=aeq _ _ _ λk hk=>by
  rcases eU k with z|z
  ·subst z;exact SRC.kI0 h
  ·exact aep (m:=0) (by exact e) k z (by rw[bb];omega)
 rw[this];rfl
theorem as3(hk:kI T (SRC.rm T (x.drop p) (q-p)) ≠ -1)(e:lies T (SRC.rm T (x.drop p) (q-p)) (x.drop q)=false)(pq:p<q)(hq:q<=x.length):K35.dec (bst T x p)=some (kI T (SRC.rm T (x.drop p) (q-p)),q):=by
 have:bst T x p=.tup [.int (kI T (SRC.rm T (x.drop p) (q-p))),bj (p+(q-p))]:=aer _ _ hk _ (by omega) λk k1 k2=>aep (m:=q-p) (by rw[List.drop_drop,show p+(q-p)=q by omega];exact e) k k1 (by rw[bb];omega)
 rw[this,show p+(q-p)=q by omega];rfl
theorem aon(hq:q<=x.length)(hh:Hd):gIx (a8f T x) (bj q) hh=.ok (m8 (rwA T (x.drop q))) hh:=a7a (by unfold rws;rw[aM,aM,cy (by omega)];rfl)
theorem aoo(hr:r<T.go.length)(hq:q<=x.length)(hh:Hd):gIn false (bj r) (m8 (rwA T (x.drop q))) hh=.ok (.bl (lies T r (x.drop q))) hh:=by
 rw[aom]
 congr 2
 cases e:lies T r (x.drop q) with
 |true=>exact bL ((a9u hr).mpr e)
 |false=>exact bp λz=>by rw[a9u hr,e]at z;cases z
noncomputable def ye:SF:=km (a6c STP.di) 8
abbrev τc(T:Table)(x:List Nat)(p:Nat)(a b:Option D):Sd:=[some T.d,some (.str (S x)),some (a8f T x),some (.tup (T.ks.map D.int)),some (.ref 0),some (bj p),a,b]
theorem an0(h:T.Ok)(ht:∀c∈x,c∈T.tg)(xl:x.length<=900)(hp:p<=x.length)(e0:lies T 0 (x.drop p)=true)(hh:Hd):∃q,p<q/\q<=x.length/\K35.dec (bst T x p)=some (kI T (SRC.rm T (x.drop p) (q-p)),q)/\sWh (a1i STP.di) (a1j STP.di) 100000 (τc T x p (some (bj p)) (some (bj 0))) hh=.nx (τc T x q (some (bj p)) (some (bj (SRC.rm T (x.drop p) (q-p))))) hh:=by
 have w:=ald (c:=a1i STP.di) (f:=a1j STP.di)
  (λm τ h'=>∃q:Nat,τ=τc T x q (some (bj p)) (some (bj (SRC.rm T (x.drop p) (q-p))))/\h'=hh/\m=x.length-q/\p<=q/\q<=x.length/\(lies T (SRC.rm T (x.drop p) (q-p)) (x.drop q)=true\/(p<q/\kI T (SRC.rm T (x.drop p) (q-p)) ≠ -1)))
  (λτ h'=>∃q:Nat,τ=τc T x q (some (bj p)) (some (bj (SRC.rm T (x.drop p) (q-p))))/\h'=hh/\p<q/\q<=x.length/\kI T (SRC.rm T (x.drop p) (q-p)) ≠ -1/\lies T (SRC.rm T (x.drop p) (q-p)) (x.drop q)=false)
  (λ_ _=>False) ?_ (x.length-p) 100000 (τc T x p (some (bj p)) (some (bj 0))) hh (by omega) ⟨p,by rw[Nat.sub_self];rfl,rfl,rfl,aI _,hp,.inl (by rw[Nat.sub_self];exact e0)⟩
 ·rcases w with⟨τ',h',e,q,rfl,rfl,pq,ql,hk,hl⟩|⟨_,_,_,z⟩
  ·exact⟨q,pq,ql,as3 hk hl pq ql,e⟩
  ·exact z.elim
 ·rintro m τ h' ⟨q,rfl,rfl,rfl,pq,ql,hor⟩
  have rl:=SRC.aml h (x.drop p) (q-p);have ts:a1i STP.di (τc T x q (some (bj p)) (some (bj (SRC.rm T (x.drop p) (q-p))))) h'=.ok (lies T (SRC.rm T (x.drop p) (q-p)) (x.drop q)) h':=t2s (bc rfl) (kj (bc rfl) (bc rfl) (aon ql _)) (aoo rl ql _)
  cases hl:lies T (SRC.rm T (x.drop p) (q-p)) (x.drop q) with
  |false =>
   rw[hl]at ts
   rcases hor with z|⟨z1,z2⟩
   ·rw[hl]at z;cases z
   ·exact .inl ⟨_,ts,q,rfl,rfl,z1,ql,z2,hl⟩
  |true =>
   rw[hl]at ts;have q2:q<x.length:=by
    rcases Nat.lt_or_ge q x.length with z|z
    ·exact z
    ·rw[List.drop_of_length_le z]at hl;cases hl
   have ec:x[q]? = some x[q]:=ae q2;have hc:=ht _ (aY q2);have ed:x.drop q=x[q]::x.drop (q+1):=dC q2
   generalize x[q]=c at ec hc ed
   have el:(x.drop p)[q-p]? = some c:=by rw[eQ,show p+(q-p)=q by omega];exact ec
   have rn:=SRC.aj4 (T:=T) el;rw[show q-p+1=q+1-p by omega]at rn
   refine .inr ⟨_,ts,.inl ⟨τc T x (q+1) (some (bj p)) (some (bj (SRC.rm T (x.drop p) (q+1-p)))),h',x.length-(q+1),?_,by omega,q+1,rfl,rfl,rfl,by omega,by omega,?_⟩⟩
   ·unfold a1j;rw[rn];refine aH (jr (a7j (bc rfl) (bc rfl) (kj (bc rfl) (bc rfl) (av7 (dh (by omega)) ec)) (STP.ams h rl (l:=[c]) (λd hd=>by rw[aw]at hd;subst hd;exact hc) (by simp) _))) ?_
    exact am4 rfl ckk a2a
   ·rw[ed]at hl;have hl':(decide (kI T (stp T (SRC.rm T (x.drop p) (q-p)) (psn T c)) ≠ -1) || lies T (stp T (SRC.rm T (x.drop p) (q-p)) (psn T c)) (x.drop (q+1)))=true:=hl
    rw[rn];rw[eS,decide_eq_true_iff]at hl'
    rcases hl' with z|z
    ·exact .inr ⟨by omega,z⟩
    ·exact .inl z
theorem a8h(h:T.Ok)(ht:∀c∈x,c∈T.tg)(xl:x.length<=900):ye [T.d,.str (S x),a8f T x] []=.ok (.tup [.ref 0,bj (res T x).2]) [.lst ((res T x).1.map pcD)]:=by
 have w:=ald (c:=a3l STP.di) (f:=a3m STP.di)
  (λm τ hp=>∃(p:Nat) (acc:List Pc) (a b:Option D),τ=τc T x p a b/\hp=[.lst (acc.map pcD)]/\m=x.length-p/\p<=x.length/\acc.length<=p/\abh T x (x.length-p+1) p acc=res T x)
  (λτ hp=>∃(p:Nat) (acc:List Pc) (a b:Option D),τ=τc T x p a b/\hp=[.lst (acc.map pcD)]/\(acc,p)=res T x)
  (λ_ _=>False) ?_ x.length 100000 (τc T x 0 none none) [.lst []] (by omega) ⟨0,[],none,none,rfl,rfl,rfl,by omega,by simp,rfl⟩
 ·rcases w with⟨τ',h',e,p,acc,a,b,rfl,rfl,er⟩|⟨_,_,_,z⟩
  ·unfold ye;rw[dw];show toR (a6c STP.di [some T.d,some (.str (S x)),some (a8f T x),none,none,none,none,none] [])=_;unfold a6c;refine ets (a01 rfl (ark _)) ?_;refine etr (jr (d:=.ref 0) (h1:=[.lst []]) rfl) ?_;refine etr (jr ckk) ?_;refine etr (u9 e) ?_;rw[<-er];exact aU toR (nq (kh (bc rfl) (bc rfl) ao6))
  ·exact z.elim
 ·rintro m τ hp ⟨p,acc,a,b,rfl,rfl,rfl,pl,al,er⟩
  have ts:a3l STP.di (τc T x p a b) [.lst (acc.map pcD)]=.ok (lies T 0 (x.drop p)) [.lst (acc.map pcD)]:=t2s ckk (kj (bc rfl) (bc rfl) (aon pl _)) (aoo (r:=0) h.n1 pl _)
  cases hl:lies T 0 (x.drop p) with
  |false =>
   rw[hl]at ts;refine .inl ⟨_,ts,p,acc,a,b,rfl,rfl,?_⟩;rw[<-er];unfold abh;rw[awx h hl pl]
  |true =>
   rw[hl]at ts;obtain⟨q,pq,ql,ed,ew⟩:=an0 h ht xl pl hl [.lst (acc.map pcD)];have rl:=SRC.aml h (x.drop p) (q-p)
   generalize SRC.rm T (x.drop p) (q-p)=r at rl ed ew
   refine .inr ⟨_,ts,.inl ⟨τc T x q (some (bj p)) (some (bj r)),[.lst ((acc++[(kI T r,p,q)]).map pcD)],x.length-q,?_,by omega,q,acc++[(kI T r,p,q)],_,_,rfl,rfl,rfl,ql,by rw[ah,av];omega,?_⟩⟩
   ·unfold a3m;refine aH (jr (bc rfl)) ?_;refine aH (jr ckk) ?_;refine aH (u9 ew) ?_;rw[bA];exact a06 (v:=.non) (bc rfl) rfl (arg1 (a7j (kj (bc rfl) (bc rfl) (abd h rl _)) (bc rfl) (bc rfl) ar0)) (a07 (xs:=acc.map pcD) rfl (by rw[ai];exact a08 (by omega)))
   ·rw[<-er];have more:∀(n k p:Nat) (acc:List Pc),p<=x.length->x.length-p+1<=n->abh T x (n+k) p acc=abh T x n p acc:=by
     intro n
     induction n with
     |zero=>intro k p acc hp hn;omega
     |succ n ih =>
      intro k p acc hp hn
      rw[show n+1+k=(n+k)+1 by omega]
      unfold abh
      rcases aem h hp with⟨_,y2⟩|⟨q',e',_,y2,pe',el'⟩
      ·rw[y2]
      ·rw[y2];exact ih k e' _ el' (by omega)
    conv=>rhs;unfold abh
    rw[ed];dsimp only;have:=more (x.length-q+1) (x.length-p-(x.length-q+1)) q (acc++[(kI T r,p,q)]) ql (aI _);rw[show x.length-q+1+(x.length-p-(x.length-q+1))=x.length-p by omega]at this
    exact this.symm
theorem aop:∀d∈[T.d,.str (S x),a8f T x],MI.clo 0 d:=abb Table.clo (jc _) a4o
theorem ajp(h:T.Ok)(ht:∀c∈x,c∈T.tg)(xl:x.length<=900):Pu ye 3 [T.d,.str (S x),a8f T x] (aru T x):=Pu.of rfl aop (a8h h ht xl) acx (a6f T x)
theorem ad2(h:T.Ok)(ht:∀c∈x,c∈T.tg)(xl:x.length<=900)(hh:Hd):acl 3 ye [T.d,.str (S x),a8f T x] hh=.ok (.tup [.ref hh.length,bj (res T x).2]) (hh++[.lst ((res T x).1.map pcD)]) :=
 aqp rfl aop (a8h h ht xl) rfl (a0p _ _) (dg _)
noncomputable def v5:SF:=km (a0x SRC.dq) 5
theorem acy(h:T.Ok)(ht:∀c∈x,c∈T.tg)(xl:x.length<=900):Pu v5 2 [T.d,.str (S x)] (aru T x):=K35.acy h ht xl
end
end K55
namespace K55
open L2 MI AT HND EVX K22 K23 K21
open K35 (Pc pcD a0p)
section
variable{T:Table}{x:List Nat}
theorem a9x{g:SG}{b:SS}{α:Type}(f:α->D)(Q:α->Bool)(I:Sd->Prop):∀(xs:List α) (τ:Sd),
  (∀x∈xs,∀τ,I τ->∃τ1,g (f x) τ []=.nx τ1 []/\((Q x=true/\∃τ2,b τ1 []=.nx τ2 []/\I τ2)\/(Q x=false/\b τ1 []=.rt (.bl false) [])))->I τ->
  (xs.all Q=true/\∃τ',forL (λ_=>True) g b (xs.map f) τ []=.nx τ' []/\I τ')\/(xs.all Q=false/\forL (λ_=>True) g b (xs.map f) τ []=.rt (.bl false) [])
 |[],τ,_,i0=>.inl ⟨rfl,τ,ae2 ..,i0⟩
 |x::xs,τ,st,i0=>by
  obtain⟨τ1,e1,q⟩:=st x aQ τ i0;rw[bI,aax _ _ _ _ _ _ _ _ e1,dk]
  rcases q with⟨qx,τ2,e2,i2⟩|⟨qx,e2⟩
  ·rw[e2,anw,qx,fK];exact a9x f Q I xs τ2 (λy hy=>st y (aK _ hy)) i2
  ·rw[e2,anx,qx,fg];exact .inr ⟨rfl,rfl⟩
theorem ajq{xs:List D}(g:Ghs xs):Pu SRC.bz 2 [.tup xs,bj xs.length] (.bl (xs.all isI)):=by
 refine pu1 rfl (a1s (my g.clos) (dg _)) (qy _) ?_;unfold SRC.bz;rw[dw];show toR (SRC.ul [some (.tup xs),some (bj xs.length),none] [])=_;unfold SRC.ul;have it:∀h:Hd,jz [.tup xs,.ty "tuple"] h=.ok (.bl true) h:=λh=>by simp[jz,aa1,tyD,a7z]
 refine eti (orF (a79 (uc (kh (bc rfl) ckk (it _)) (jh _))) (t2s (p7 (bc rfl) ut) (bc rfl) (ab7 rfl))) ?_;refine etr (a3k (a6a (bc rfl) rfl)) ?_;have lp:=a9x (g:=kN 2) (b:=SRC.m9) id isI (λτ=>∃t2:Option D,τ=[some (.tup xs),some (bj xs.length),t2]) xs [some (.tup xs),some (bj xs.length),none] ?_ ⟨none,rfl⟩
 ·rw[List.map_id]at lp
  rcases lp with⟨q,τ',e,t2,rfl⟩|⟨q,e⟩
  ·refine aH (aU (λz=>toR (MI.thn z _)) e) ?_;rw[q];rfl
  ·refine aH (aU (λz=>toR (MI.thn z _)) e) ?_;rw[q];rfl
 ·rintro y hy τ ⟨t2,rfl⟩
  have p:=(g y hy).pln;refine⟨_,rfl,?_⟩
  cases hi:isI y with
  |true =>
   obtain⟨i,rfl⟩:∃i,y=.int i:=by cases y<;>first|exact⟨_,rfl⟩|cases hi
   refine .inl ⟨rfl,[some (.tup xs),some (bj xs.length),some (.int i)],?_,some (.int i),rfl⟩;unfold SRC.m9;exact aH (ifF (orF (a79 (uc (kh (bc rfl) ckk (afs p)) (jh _))) (uc (kh (bc rfl) ckk (amv p)) (jh _)))) rfl
  |false =>
   refine .inr ⟨rfl,?_⟩;unfold SRC.m9
   cases hb:isB y with
   |true =>
    refine aH (ifT (orF (a79 (uc (kh (bc rfl) ckk ((afs p).trans (by rw[hi,hb];rfl))) (jh _))) (uc (kh (bc rfl) ckk ((amv p).trans (by rw[hb]))) (jh _)))) ?_
    exact nq ckk
   |false =>
    refine aH (ifT (orT (aqx (uc (kh (bc rfl) ckk ((afs p).trans (by rw[hi,hb];rfl))) (jh _))))) ?_
    exact nq ckk
theorem aoq:∀(a:List Int) (b:List Nat),a5w (a.map D.int) (b.map bj)=(decide (a.length=b.length) && ((a.map D.int).zip (b.map bj)).all λp=>sm 0 p.1 p.2)
 |[],[]=>by simp[a5w]
 |[],_::_=>by simp[a5w]
 |_::_,[]=>by simp[a5w]
 |x::a,y::b=>by
  show((x == (y:Int)) && a5w (a.map D.int) (b.map bj))=(_ && ((x == (y:Int)) && ((a.map D.int).zip (b.map bj)).all λp=>sm 0 p.1 p.2));rw[aoq a b,bB,bB];simp only[Nat.add_right_cancel_iff]
  cases (x == (y:Int))<;>simp
theorem aza(a:List Int):pur 60 (.tup (a.map D.int))=true:=by
 show((a.map D.int).all (pur 59))=true;rw[bN]
 intro x hx
 obtain⟨i,_,rfl⟩:=bG.mp hx;rfl
theorem azb(b:List Nat):pur 60 (m8 b)=true:=by
 show((b.map bj).all (pur 59))=true;rw[bN]
 intro x hx
 obtain⟨i,_,rfl⟩:=bG.mp hx;rfl
theorem awy(a:List Int)(b:List Nat)(h:Hd):hNe (.tup (a.map D.int)) (m8 b) h=.ok (.bl (!sm 1 (.tup (a.map D.int)) (m8 b))) h:=by
 unfold hNe;rw[aO ⟨aza a,azb b⟩,a8e];show R.ok (D.bl (!a5w (a.map D.int) (b.map bj))) h=_;rw[aoq,ai,ai]
theorem ints_of:∀{xs:List D},xs.all isI=true->∃a:List Int,xs=a.map D.int
 |[],_=>⟨[],rfl⟩
 |y::xs,h=>by
  rw[dk,bV]at h;obtain⟨a,e⟩:=ints_of h.2;obtain⟨i,rfl⟩:∃i,y=.int i:=by
   have:=h.1
   cases y<;>first|exact⟨_,rfl⟩|cases this
  exact⟨i::a,by rw[e];rfl⟩
theorem aor:∀{xs:List D} {b:List Nat},xs.all isI=false->xs.length=b.length->((xs.zip (b.map bj)).all λp=>sm 0 p.1 p.2)=false
 |[],_,h,_=>by cases h
 |y::xs,[],_,l=>by simp at l
 |y::xs,n::b,h,l=>by
  rw[bI,dZ,dk];rw[dk]at h
  cases hi:isI y with
  |true =>
   rw[hi,fK]at h;rw[aor (b:=b) h (by simpa using l),gU]
  |false =>
   have:sm 0 y (bj n)=false:=b24 λi e=>by subst e;cases hi
   show(sm 0 y (bj n) && _)=false;rw[this,fg]
noncomputable def p8:SF:=km (a1l SRC.bz) 4
theorem aes{d:D}(g:Gh d)(L:List (List Nat)):Pu p8 2 [d,.tup (L.map m8)] (.bl (sm 2 d (.tup (L.map m8)))):=by
 refine pu1 rfl (a1s g.clo (my (a2s _ _))) (qy _) ?_;unfold p8;rw[dw];show toR (a1l SRC.bz [some d,some (.tup (L.map m8)),none,none] [])=_;unfold a1l
 by_cases ht:isTup d=true
 ·obtain⟨xs,rfl⟩:∃xs,d=.tup xs:=by cases d<;>first|exact⟨_,rfl⟩|cases ht
  have gx:Ghs xs:=by cases g with|tup _ g=>exact g
  by_cases hl:xs.length=L.length
  ·refine eti (orF (a79 (uc (kh (bc rfl) ckk (ab9 g.pln)) (jh _))) (t2s (p7 (bc rfl) ut) (p7 (bc rfl) ut) (ab7 (by rw[ai];omega)))) ?_
   have zi:acd (sV 0) (sV 1) [some (.tup xs),some (.tup (L.map m8)),none,none] []=.ok ⟨(xs.zip L).map λp=>.tup [p.1,m8 p.2],λ_=>True⟩ []:=by
    unfold acd;rw[bc rfl,bf,bc rfl,bf];show R.ok (⟨(xs.zip (L.map m8)).map λp=>.tup [p.1,p.2],λ_=>True/\True⟩:Itm) []=_
    congr 2
    ·rw[List.zip_map_right,bP];rfl
    ·funext _;simp
   refine etr (a3k zi) ?_;have lp:=a9x (g:=a7u 2 (o7 (kN 2) (o7 (kN 3) a8s))) (b:=qm SRC.bz) (λp:D×List Nat=>D.tup [p.1,m8 p.2]) (λp=>sm 1 p.1 (m8 p.2))
    (λτ=>∃t2 t3:Option D,τ=[some (.tup xs),some (.tup (L.map m8)),t2,t3]) (xs.zip L) [some (.tup xs),some (.tup (L.map m8)),none,none] ?_ ⟨none,none,rfl⟩
   ·have e2:sm 2 (.tup xs) (.tup (L.map m8))=(xs.zip L).all λp=>sm 1 p.1 (m8 p.2):=by
     rw[a8e,bL (by rw[ai];exact hl),fK,List.zip_map_right,fY]
     rfl
    rw[e2]
    rcases lp with⟨q,τ',e,t2,t3,rfl⟩|⟨q,e⟩
    ·refine aH (aU (λz=>toR (MI.thn z _)) e) ?_;rw[q];rfl
    ·refine aH (aU (λz=>toR (MI.thn z _)) e) ?_;rw[q];rfl
   ·rintro⟨y,b⟩ hy τ ⟨t2,t3,rfl⟩
    have gy:=gx y (eO hy).1;refine⟨[some (.tup xs),some (.tup (L.map m8)),some y,some (m8 b)],rfl,?_⟩
    by_cases hy':isTup y=true
    ·obtain⟨zs,rfl⟩:∃zs,y=.tup zs:=by cases y<;>first|exact⟨_,rfl⟩|cases hy'
     have gz:Ghs zs:=by cases gy with|tup _ g=>exact g
     cases hn:zs.all isI with
     |true =>
      obtain⟨a,rfl⟩:=ints_of hn;have nm:=ajq gz;rw[hn]at nm;have tst:(sOr (a4r (a4q (sA jz (ak (sV 2) (ak (sC (.ty "tuple")) bu))))) (sOr (a4r (a4q (sA (gq false 2 SRC.bz) (ak (sV 2) (ak (sA qu (ak (sV 2) bu)) bu))))) (sT (s2 hNe (sV 2) (sV 3))))) [some (.tup xs),some (.tup (L.map m8)),some (.tup (a.map D.int)),some (m8 b)] []=.ok (!sm 1 (.tup (a.map D.int)) (m8 b)) [] :=
       orF (a79 (uc (kh (bc rfl) ckk (ab9 gy.pln)) (jh _))) (orF (a79 (uc (kh (bc rfl) (p7 (bc rfl) ut) (nm _)) (jh _))) (t2s (bc rfl) (bc rfl) (awy a b _)))
      cases hs:sm 1 (.tup (a.map D.int)) (m8 b) with
      |true =>
       rw[hs]at tst;refine .inl ⟨rfl,[some (.tup xs),some (.tup (L.map m8)),some (.tup (a.map D.int)),some (m8 b)],?_,_,_,rfl⟩;unfold qm;exact aH (ifF tst) rfl
      |false =>
       rw[hs]at tst;refine .inr ⟨rfl,?_⟩;unfold qm;exact aH (ifT tst) (nq ckk)
     |false =>
      have nm:=ajq gz;rw[hn]at nm;have hs:sm 1 (.tup zs) (m8 b)=false:=by
       rw[a8e]
       by_cases q:zs.length=(b.map bj).length
       ·rw[aor hn (by rw[ai]at q;exact q),gU]
       ·rw[bp q,fg]
      refine .inr ⟨hs,?_⟩;unfold qm;refine aH (ifT (orF (a79 (uc (kh (bc rfl) ckk (ab9 gy.pln)) (jh _))) (orT (aqx (uc (kh (bc rfl) (p7 (bc rfl) ut) (nm _)) (jh _)))))) ?_;exact nq ckk
    ·have hy':isTup y=false:=by simpa using hy'
     refine .inr ⟨aws hy',?_⟩;unfold qm;refine aH (ifT (orT (aqx (uc (kh (bc rfl) ckk ((ab9 gy.pln).trans (by rw[hy']))) (jh _))))) ?_
     exact nq ckk
  ·rw[aol (by rw[ai];exact hl)]
   exact aU toR (a3j (aH (ifT (orF (a79 (uc (kh (bc rfl) ckk (ab9 g.pln)) (jh _))) (t2s (p7 (bc rfl) ut) (p7 (bc rfl) ut) (avb (by rw[ai];omega))))) (nq ckk)))
 ·have ht':isTup d=false:=by simpa using ht
  rw[aws ht'];exact aU toR (a3j (aH (ifT (orT (aqx (uc (kh (bc rfl) ckk ((ab9 g.pln).trans (by rw[ht']))) (jh _))))) (nq ckk)))
noncomputable def v8:SF:=km a1k 2
theorem an1(b:Bool):Pu v8 2 [.bl b,.bl b] (.bl true):=by
 refine pu1 rfl (a1s (qy _) (qy _)) (qy _) ?_;unfold v8;rw[dw];show toR (a1k [some (.bl b),some (.bl b)] [])=_;unfold a1k;have eq:hEq (.bl b) (.bl b) []=.ok (.bl true) []:=by unfold hEq;rw[aO ⟨rfl,rfl⟩];simp[eqD]
 exact aU toR (nq (acr (kh (bc rfl) ckk az4) (kj (bc rfl) (bc rfl) eq)))
noncomputable def jo:SF:=km (vh SRC.bz) 4
theorem ajr(ps:List Pc):Pu jo 2 [.rol (ps.map pcD),.rol (ps.map pcD)] (.bl true):=by
 refine pu1 rfl (a1s (jq (a0p _ _)) (jq (a0p _ _))) (qy _) ?_;unfold jo;rw[dw];show toR (vh SRC.bz [some (.rol (ps.map pcD)),some (.rol (ps.map pcD)),none,none] [])=_;unfold vh;have t2:jz [.rol (ps.map pcD),.ty "list"] []=.ok (.bl true) []:=by simp[jz,aa1,tyD,a7z]
 refine eti (orF (a79 (uc (kh (bc rfl) ckk t2) (jh _))) (t2s (p7 (bc rfl) a0k) (p7 (bc rfl) a0k) (ab7 rfl))) ?_;have zz:∀l:List Pc,(l.map pcD).zip (l.map pcD)=l.map λp=>(pcD p,pcD p):=λl=>by
  induction l with
  |nil=>rfl
  |cons a l ih=>rw[bI,dZ,ih];rfl
 have zi:acd (sV 0) (sV 1) [some (.rol (ps.map pcD)),some (.rol (ps.map pcD)),none,none] []=.ok ⟨ps.map λp=>.tup [pcD p,pcD p],λ_=>True⟩ []:=by
  unfold acd;rw[bc rfl,bf,bc rfl,bf];show R.ok (⟨((ps.map pcD).zip (ps.map pcD)).map λp=>.tup [p.1,p.2],λ_=>True/\True⟩:Itm) []=_
  congr 2
  ·rw[zz,bP];rfl
  ·funext _;simp
 refine etr (a3k zi) ?_;have nn:∀a b c:Int,hNe (.tup [.int a,.int b,.int c]) (.tup [.int a,.int b,.int c]) []=.ok (.bl false) []:=λa b c=>by
  unfold hNe;rw[aO ⟨rfl,rfl⟩];simp[eqD,a5w]
 have lp:=nu (g:=a7u 2 (o7 (kN 2) (o7 (kN 3) a8s))) (b:=ud SRC.bz) (λp:Pc=>D.tup [pcD p,pcD p])
  (λpre τ hh=>∃t2 t3:Option D,τ=[some (.rol (ps.map pcD)),some (.rol (ps.map pcD)),t2,t3]/\hh=[]) ps [some (.rol (ps.map pcD)),some (.rol (ps.map pcD)),none,none] [] ?_ ⟨none,none,rfl,rfl⟩
 ·obtain⟨τ',h',e,t2,t3,rfl,rfl⟩:=lp;refine aH (aU (λz=>toR (MI.thn z _)) e) ?_;rfl
 ·rintro pre p post τ hh all ⟨t2,t3,rfl,rfl⟩
  refine⟨_,_,rfl,[some (.rol (ps.map pcD)),some (.rol (ps.map pcD)),some (pcD p),some (pcD p)],[],?_,_,_,rfl,rfl⟩;unfold ud;exact aH (ifF (orF (a79 (uc (kh (bc rfl) ckk (SRC.a5g (xs:=[p.1,(p.2.1:Int),(p.2.2:Int)]) (by simp) _)) (jh _))) (t2s (bc rfl) (bc rfl) (nn _ _ _)))) rfl
noncomputable def ph:SF:=km (yz gj) 4
theorem afu{d:D}(p:Pln d)(t:txt T d=false):Pu ph 2 [T.d,d] (.bl true):=by
 refine pu1 rfl (a1s Table.clo p.clo) (qy _) ?_;unfold ph;rw[dw];show toR (yz gj [some T.d,some d,none,none] [])=_;unfold yz;refine etr (jr ckk) ?_;have e3:hEq (.tup [.bl true,.bl true,.bl false]) (.tup [.bl true,.bl true,.bl false]) []=.ok (.bl true) []:=by
  unfold hEq;rw[aO ⟨rfl,rfl⟩];simp[eqD,a5w]
 refine etr (u9 (aw4 (c := "NoText") (h1:=[]) ?_ (by decide) (aH (jr (kh (ard (c := "NoText") rfl (b:=true) (by decide)) (ard (c := "NoText") rfl (b:=true) (by decide)) ao6)) (aH (acq (kj (bc rfl) (p7 (ard (c := "NoText") rfl (b:=false) (by decide)) PAP.aim) (PAP.amb (by simp)))) rfl)))) ?_
 ·exact ao8 ((arc (qof (ue (bc rfl) (ue (bc rfl) rfl)))).trans (ajl p t _))
 ·exact aU toR (nq (kj (bc rfl) (a7j ckk ckk ckk ar0) e3))
end
end K55
namespace K55
open L2 MI AT HND EVX K22 K23 K21
section
variable{T:Table}
theorem b0d{a b c d e:D}{h:Hd}:MI.ur [a,b,c,d,e] h=.ok (.tup [a,b,c,d,e]) h:=by unfold MI.ur;rw[aO (dh (by simp))]
noncomputable def wu:SF:=km (a2g SRC.aa SRC.cj) 6
theorem ad3{u:O}{M:Nat}(Pu:SRC.Src u M):∀x∈[u],a0j 1 x:=λx hx=>by rw[aw]at hx;subst hx;exact n6 (by omega) Pu.clo
theorem ajs{u:O}{M:Nat}(Pu:SRC.Src u M):∀x∈[u],a0j 0 x:=λx hx=>by rw[aw]at hx;subst hx;exact Pu.clo
theorem awz(h:T.Ok){l:List Nat}(P:SRC.Src o N)(hN:N<=999990000)(ll:l.length<=900):∃d o',Pln d/\txt T d=false/\Dr wu 3 [.str (S T.tg),.str (S l)] o d o'/\SRC.Src o' (N+3):=by
 obtain⟨k,o1,e1,k0,k1,P1⟩:=SRC.iw (m:=8) P (by omega) (by omega) (by omega)
 obtain⟨k,rfl⟩:=ay k0;have c1:gq false 2 SRC.aa [.ref 0,.int 8] [o]=.ok (bj k) [o1]:=e1 0 _ rfl;have args:∀x∈[D.str (S T.tg),.str (S l)],MI.clo 0 x:=a1s (jc _) (jc _);have fin:∀d u,SRC.Src u (N+3)->Pln d->txt T d=false->toR (a2g SRC.aa SRC.cj [some (.ref 0),some (.str (S T.tg)),some (.str (S l)),none,none,none] [o])=.ok d [u]->∃d o',Pln d/\txt T d=false/\Dr wu 3 [.str (S T.tg),.str (S l)] o d o'/\SRC.Src o' (N+3):=λd u Pu p t e =>
  ⟨d,u,p,t,Dr.of rfl args P.clo (r:=.ok d [u]) (by unfold wu;rw[dw];exact e) (jy (aaw (bq 1) p.clo) (by simpa using ad3 Pu)) p.clo Pu.clo,Pu⟩
 let q:=l.take 200
 have ql:q.length<=200:=by show(l.take 200).length<=200;rw[aT];omega
 by_cases h5:k<5
 ·let ds:List D:=[.non,.int 7,.rol (ones q),.tup [.str (S q)],.rod [] []]
  have pd:∀d∈ds,Pln d/\txt T d=false:=by
   intro d hd
   simp only[ds,aR,bg,cE]at hd
   rcases hd with rfl|rfl|rfl|rfl|rfl
   ·exact⟨trivial,rfl⟩
   ·exact⟨trivial,rfl⟩
   ·exact⟨a9s 0 q,rfl⟩
   ·exact⟨g8 (jc _) mj,rfl⟩
   ·exact⟨mj (n:=0),rfl⟩
  have kl:k<ds.length:=h5;obtain⟨pk,tk⟩:=pd ds[k] (aY kl);refine fin ds[k] o1 (P1.up (by omega)) pk tk ?_
  unfold a2g;refine ets (amk (bc rfl) rfl (amj ckk) (ao4 200 (dh (by omega)))) ?_
  refine ets (kh (bc rfl) ckk c1) ?_;have cz:sZ (jk (sIt (sV 2)) t1 (a5s SRC.aa SRC.cj) []) [some (.ref 0),some (.str (S T.tg)),some (.str (S q)),some (bj k),none,none] [o1]=.ok (.rol (ones q)) [o1]:=by
   refine a1c (qe (λc:Nat=>D.str (S [c])) (λc=>D.str (S [c])) q (a6a (bc rfl) (afz q _)) (dh (by omega)) λc _=>?_) (a9s _ q) (ad3 P1)
   rw[u6];exact bc rfl
  refine aU toR (a3j (ifr (tvc rfl (am5 (by omega))) (kj (PAP.aof (cns ckk (cns ckk (cns cz (cns (p7 (bc rfl) PAP.aim) (cns (EVT.aen (ajs P1)) rfl))))) b0d) (bc rfl) (a7a (ae kl)))))
 ·have op:=K34.afr h.tong.hi;have ol:(K34.others T.tg).length<=95:=by have:=ei (λc => !decide (c∈T.tg)) sig;rwa[a9n]at this
  obtain⟨a,o2,e2,a0,a1,P2⟩:=SRC.iw (m:=(q.length:Int)+1) P1 (by omega) (by omega) (by omega)
  obtain⟨b,o3,e3,b0,b1,P3⟩:=SRC.iw (m:=((K34.others T.tg).length:Int)) P2 (by omega) (by omega) (by omega)
  obtain⟨a,rfl⟩:=ay a0;obtain⟨b,rfl⟩:=ay b0;have bl:b<(K34.others T.tg).length:=by omega
  have ex:(K34.others T.tg)[b]? = some (K34.others T.tg)[b]:=ae bl;have nx:(K34.others T.tg)[b]∉T.tg:=by
   have:=(dE.mp (aY bl)).2
   simpa using this
  generalize (K34.others T.tg)[b]=c at ex nx
  have c2:gq false 2 SRC.aa [.ref 0,.int ((q.length:Int)+1)] [o1]=.ok (bj a) [o2]:=e2 0 _ rfl;have c3:gq false 2 SRC.aa [.ref 0,bj (K34.others T.tg).length] [o2]=.ok (bj b) [o3]:=e3 0 _ rfl;have pl:(q.take a++[c]++q.drop a).length<=1000:=by
   simp only[ah,aT,bb,av];omega
  refine fin (.str (S (q.take a++[c]++q.drop a))) o3 P3 (awd pl) (arl (c:=c) (by simp) nx) ?_
  unfold a2g;refine ets (amk (bc rfl) rfl (amj ckk) (ao4 200 (dh (by omega)))) ?_
  refine ets (kh (bc rfl) ckk c1) ?_;refine eti (tvc rfl (afj (by omega))) ?_
  have cf:∀τ:Sd,τ[1]? = some (some (.str (S T.tg)))->sZ (a3s (sIt (sA (gq false 0 SRC.cj) bu)) t1 (a0e SRC.aa SRC.cj) (a5t SRC.aa SRC.cj) [1]) τ [o1]=.ok (.rol (ones (K34.others T.tg))) [o1]:=λτ h0=>by
   rw[<-a9t];refine a1c (ab6 (λc:Nat=>D.str (S [c])) (λc=>if (!decide (c∈T.tg))=true then some (D.str (S [c])) else none) sig (a6a (azr (SRC.a6d _)) (afz sig _)) (dh (by rw[a9n];omega)) λc _=>?_) (by rw[a9t];exact a9s _ _) (ad3 P1)
   rw[aqw,aea,ai5,h0];have q:a0e SRC.aa SRC.cj [some (.str (S [c])),some (.str (S T.tg))] [o1]=.ok (!decide (c∈T.tg)) [o1]:=t2s (bc rfl) (bc rfl) (K21.awf c T.tg _);show(a0e SRC.aa SRC.cj [some (.str (S [c])),some (.str (S T.tg))] [o1]).bind _=_;rw[q,bf]
   by_cases hc:c∈T.tg
   ·simp[hc]
   ·simp only[hc,gR,Bool.not_false,dR];rfl
  refine ets (cf _ rfl) ?_;refine ets (kh (bc rfl) (kj (p7 (bc rfl) (a9g (l:=q) (dh (by omega)))) ckk u5) c2) ?_
  have lr:∀hh:Hd,qu [.rol (ones (K34.others T.tg))] hh=.ok (bj (K34.others T.tg).length) hh:=λhh=>by rw[a0k,ai]
  have ix:gIx (.rol (ones (K34.others T.tg))) (bj b) [o3]=.ok (.str (S [c])) [o3]:=asa (by rw[aM,ex];rfl)
  exact aU toR (nq (kj (kj (amk (bc rfl) rfl (amj (bc rfl)) (ao4 (l:=q) a (dh (by omega)))) (kj (bc rfl) (kh (bc rfl) (p7 (bc rfl) (lr _)) c3) ix) (afe (dh (by simp only[aT,av];omega)))) (amk (bc rfl) (amj (bc rfl)) rfl (ai3 (l:=q) a (dh (by omega)))) (afe (dh (by simp only[ah,aT,bb,av];omega)))))
end
def Tg(b:Bool)(d:D)(q:PyData):Prop:=(b=true->noL d=true)/\(b=false->q.hasDict=false)
structure EA (b:Bool) (e:D):Prop where
 gh:Gh e
 ex:∃q,toPy e=some q/\q.showable=true/\q.depth<=1/\q.shown.length<=60/\Tg b e q
structure RA (b:Bool) (e:D):Prop where
 gh:Gh e
 ex:∃q,toPy e=some q/\Sm e q/\Tg b e q
theorem EA.ra{b:Bool}{e:D}(h:EA b e):RA b e:=by
 obtain⟨g,q,e1,s,dp,ln,t⟩:=h;exact⟨g,q,e1,⟨s,by omega,by omega⟩,t⟩
theorem abm{n:Nat}(hn:n<40)(b:Bool):EA b (bj n):=by
 have:∀n,n<40->(PyData.showable (.int ((n:Nat):Int)))=true/\(PyData.shown (.int ((n:Nat):Int))).length<=60:=by decide +kernel
 exact⟨.int _,.int n,rfl,(this n hn).1,by simp[PyData.depth],(this n hn).2,λ_=>rfl,λ_=>rfl⟩
theorem ax0{b:Bool}{es:List D}(h:∀e∈es,∃q,toPy e=some q/\Tg b e q):∀qs,ab0 es=some qs->Tg b (.tup es) (.tuple qs):=λqs eq=>by
 refine⟨λhb=>a9o λe he=>let ⟨q,_,t⟩:=h e he;t.1 hb,λhb=>?_⟩;obtain⟨qs',e',_,rs⟩:=a7c (R:=λq=>q.hasDict=false) λe he=>let ⟨q,e1,t⟩:=h e he; ⟨q,e1,t.2 hb⟩;rw[eq]at e'
 cases e'
 exact a4m rs
theorem abn{b:Bool}{es:List D}(el:es.length<=40)(h:∀e∈es,EA b e):RA b (.tup es):=by
 obtain⟨qs,e,l,rs⟩:=a7c (R:=λq=>q.showable=true/\q.depth<=1/\q.shown.length<=60) λd hd=>let ⟨q,e,s,dp,ln,_⟩:=(h d hd).ex; ⟨q,e,s,dp,ln⟩;refine⟨.tup _ λe he=>(h e he).gh,.tuple qs,by simp only[toPy,e,dO],⟨a4l λq hq=>(rs q hq).1,?_,?_⟩,ax0 (λd hd=>let ⟨q,e,_,_,_,t⟩:=(h d hd).ex; ⟨q,e,t⟩) qs e⟩
 ·have:=a2j (k:=1) λq hq=>(rs q hq).2.1
  simp only[PyData.depth];omega
 ·have h1:=a4n (k:=60) λq hq=>(rs q hq).2.2;have h2:=a5u (PyData.shownAll qs);show(tupleText (PyData.shownAll qs)).length<=4000;have:qs.length*(60+2)<=40*62:=fh (by omega) (by omega)
  omega
theorem ax1{ns:List Nat}(el:ns.length<=40)(h:∀n∈ns,n<40):RA false (.rol (ns.map bj)):=by
 have hE:∀e∈ns.map bj,EA false e:=λe he=>by obtain⟨n,hn,rfl⟩:=bG.mp he;exact abm (h n hn) _
 obtain⟨qs,e,l,rs⟩:=a7c (R:=λq=>(q.showable=true/\q.depth<=1/\q.shown.length<=60)/\q.hasDict=false) λd hd=>let ⟨q,e,s,dp,ln,t⟩:=(hE d hd).ex; ⟨q,e,⟨s,dp,ln⟩,t.2 rfl⟩;rw[ai]at l;refine⟨.rol _ (iz _),.list qs,by simp only[toPy,e,dO],⟨a4l λq hq=>(rs q hq).1.1,?_,?_⟩,⟨λz=>(by cases z),λ_=>a4m λq hq=>(rs q hq).2⟩⟩
 ·have:=a2j (k:=1) λq hq=>(rs q hq).1.2.1
  simp only[PyData.depth];omega
 ·have h1:=a4n (k:=60) λq hq=>(rs q hq).1.2.2;have h2:=a7d (PyData.shownAll qs);show(listText (PyData.shownAll qs)).length<=4000;have:qs.length*(60+2)<=40*62:=fh (by omega) (by omega)
  omega
def WA(d:D):Prop:=Gh d/\∃q,toPy d=some q/\okR d q
theorem aet{b:Bool}{ys:List D}(yl:ys.length<=100)(h:∀y∈ys,RA b y):WA (.tup ys):=by
 refine⟨.tup _ λy hy=>(h y hy).gh,aw7 yl ⟨λd hd=>let ⟨q,e,s,_⟩:=(h d hd).ex; ⟨q,e,s⟩,?_⟩⟩
 cases b with
 |true=>exact .inl λd hd=>let ⟨q,e,_,t⟩:=(h d hd).ex;t.1 rfl
 |false=>exact .inr λd hd q e=>by obtain⟨q',e',_,t⟩:=(h d hd).ex;rw[e]at e';cases e';exact t.2 rfl
theorem ax2{ys:List D}(yl:ys.length<=100)(h:∀y∈ys,RA false y):WA (.rol ys) :=
 ⟨.rol _ (qw.mpr λy hy=>(h y hy).gh.clo),aw8 yl ⟨λd hd=>let ⟨q,e,s,_⟩:=(h d hd).ex; ⟨q,e,s⟩,λd hd q e=>by obtain⟨q',e',_,t⟩:=(h d hd).ex;rw[e]at e';cases e';exact t.2 rfl⟩⟩
theorem b25{a b c d e f:D}{h:Hd}:MI.ur [a,b,c,d,e,f] h=.ok (.tup [a,b,c,d,e,f]) h:=by unfold MI.ur;rw[aO (dh (by simp))]
theorem b26{a b c d:D}{h:Hd}:MI.ur [a,b,c,d] h=.ok (.tup [a,b,c,d]) h:=by unfold MI.ur;rw[aO (dh (by simp))]
theorem ax3{f g:SE}{τ:Sd}{h h1 h2:Hd}{xs:List D}(e:f τ h=.ok (.tup xs) h1)(e':g τ h1=.ok (.int (-1)) h2):al7 f g τ h=.ok (.tup xs.reverse) h2:=by
 unfold al7;rw[e,bf,e',bf];exact aO rfl
theorem ase{fa fb fc:SE}{τ:Sd}{h h1 h2 h3:Hd}{A B C:List D}(eA:fa τ h=.ok (.tup A) h1)(eB:fb τ h1=.ok (.tup B) h2)(eC:fc τ h2=.ok (.tup C) h3)(l:A.length+B.length+C.length<=1000):s2 ie (s2 ie fa fb) fc τ h=.ok (.tup (A++B++C)) h3 :=
 kj (kj eA eB (PAP.amb (by omega))) eC (PAP.amb (by rw[ah];omega))
theorem a4p:∀d∈[D.non,.int 7,.bl true,.str "0",.str "",.rod [] []],EA true d:=by
 intro d hd
 simp only[aR,bg,cE]at hd
 rcases hd with rfl|rfl|rfl|rfl|rfl|rfl
 ·exact⟨.non,.none,rfl,rfl,by simp[PyData.depth],by decide +kernel,λ_=>rfl,λz=>by cases z⟩
 ·exact abm (n:=7) (by omega) true
 ·exact⟨.bl _,.bool true,rfl,rfl,by simp[PyData.depth],by decide +kernel,λ_=>rfl,λz=>by cases z⟩
 ·exact⟨.str _ (by decide),.str "0",rfl,rfl,by simp[PyData.depth],by decide +kernel,λ_=>rfl,λz=>by cases z⟩
 ·exact⟨.str _ (by decide),.str "",rfl,rfl,by simp[PyData.depth],by decide +kernel,λ_=>rfl,λz=>by cases z⟩
 ·exact⟨.rod _ _ mj,.dict [],rfl,rfl,by simp[PyData.depth,PyData.depthKv],by decide +kernel,λ_=>rfl,λz=>by cases z⟩
abbrev ax4:List D:=[.tup [.bl true],.tup [.rol [.int 0]],.tup [.rod [] []],.tup [.tup [.int 0]]]
def Cl(d:D):Prop:=∃es b,d=.tup es/\es.length<=1/\∀e∈es,EA b e
theorem as4:∀d∈ax4,Cl d:=by
 intro d hd
 simp only[ax4,aR,bg,cE]at hd;have one:∀{e:D} {b:Bool},EA b e->Cl (.tup [e]):=λ{e b} h=>⟨[e],b,rfl,by simp,λy hy=>by rw[aw]at hy;subst hy;exact h⟩
 rcases hd with rfl|rfl|rfl|rfl
 ·exact one (a4p _ (by simp))
 ·exact one (b:=false) ⟨.rol _ (g8 (dg _) mj),.list [.int 0],rfl,by decide +kernel,by simp[PyData.depth,PyData.depthAll],by decide +kernel,λz=>(by cases z),λ_=>rfl⟩
 ·exact one (a4p _ (by simp))
 ·exact one (b:=true) ⟨.tup _ λy hy=>by rw[aw]at hy;subst hy;exact .int _,.tuple [.int 0],rfl,by decide +kernel,by simp[PyData.depth,PyData.depthAll],by decide +kernel,λ_=>rfl,λz=>by cases z⟩
noncomputable def dz:SF:=km (ig SRC.aa) 6
abbrev τr(row:List Nat)(m:Nat)(a b c:Option D):Sd:=[some (.ref 0),some (m8 row),some (bj m),a,b,c]
theorem a9y{row:List Nat}{m:Nat}(P:SRC.Src o N)(hN:N<=999990000)(rl:row.length<=32)(rr:∀n∈row,n<32)(m1:m<=32):∃y o' b,RA b y/\Dr dz 3 [m8 row,bj m] o y o'/\SRC.Src o' (N+5):=by
 obtain⟨a,o1,e1,a0,a1,P1⟩:=SRC.iw (m:=(row.length:Int)+1) P (by omega) (by omega) (by omega)
 obtain⟨a,rfl⟩:=ay a0;obtain⟨s,o2,e2,s0,s1,P2⟩:=SRC.iw (m:=9) P1 (by omega) (by omega) (by omega)
 obtain⟨s,rfl⟩:=ay s0;have c1:gq false 2 SRC.aa [.ref 0,.int ((row.length:Int)+1)] [o]=.ok (bj a) [o1]:=e1 0 _ rfl;have c2:gq false 2 SRC.aa [.ref 0,.int 9] [o1]=.ok (bj s) [o2]:=e2 0 _ rfl
 let xs:List D:=row.map bj
 have xl:xs.length=row.length:=ai ..;have cell:∀b,∀e∈xs,EA b e:=λb e he=>by obtain⟨n,hn,rfl⟩:=bG.mp he;exact abm (by have:=rr n hn;omega) b
 have args:∀x∈[m8 row,bj m],MI.clo 0 x:=a1s (my (iz _)) (dg _);have lenx:∀hh:Hd,qu [m8 row] hh=.ok (bj row.length) hh:=λhh=>by rw[ut,ai]
 have fin:∀b y u,SRC.Src u (N+5)->RA b y->toR (ig SRC.aa (τr row m none none none) [o])=.ok y [u]->∃y o' b,RA b y/\Dr dz 3 [m8 row,bj m] o y o'/\SRC.Src o' (N+5):=λb y u Pu r e =>
  ⟨y,u,b,r,Dr.of rfl args P.clo (r:=.ok y [u]) (by unfold dz;rw[dw];exact e) (jy (aaw (bq 1) r.gh.clo) (by simpa using ad3 Pu)) r.gh.clo Pu.clo,Pu⟩
 have st:∀g:SS,dm (j9 3 (sA (gq false 2 SRC.aa) (ak (sV 0) (ak (s2 ie (sA qu (ak (sV 1) bu)) (sI 1)) bu)))) (dm (j9 4 (sA (gq false 2 SRC.aa) (ak (sV 0) (ak (sI 9) bu)))) g) (τr row m none none none) [o]=g (τr row m (some (bj a)) (some (bj s)) none) [o2]:=λg=>by
  refine aH (jr (kh (bc rfl) (kj (p7 (bc rfl) (lenx _)) ckk u5) c1)) ?_;exact jr (kh (bc rfl) ckk c2)
 have tA:∀(τ:Sd) (hh:Hd),τ[1]? = some (some (m8 row))->τ[3]? = some (some (bj a))->yp (sV 1) oN (oS (sV 3)) τ hh=.ok (.tup (xs.take a)) hh:=λτ hh h1 h3=>PAP.afl (bc h1) rfl (PAP.aef (bc h3)) (PAP.b09 xs a _);have tB:∀(τ:Sd) (hh:Hd),τ[1]? = some (some (m8 row))->τ[3]? = some (some (bj a))->yp (sV 1) (oS (sV 3)) oN τ hh=.ok (.tup (xs.drop a)) hh:=λτ hh h1 h3=>PAP.afl (bc h1) (PAP.aef (bc h3)) rfl (PAP.aeg xs a _);have tC:∀(k:Nat) (τ:Sd) (hh:Hd),τ[1]? = some (some (m8 row))->τ[3]? = some (some (bj a))->yp (sV 1) (oS (s2 ie (sV 3) (sC (.int (k:Nat))))) oN τ hh=.ok (.tup (xs.drop (a+k))) hh:=λk τ hh h1 h3=>PAP.afl (bc h1) (PAP.aef (kj (bc h3) ckk u5)) rfl (by rw[show((a:Nat):Int)+((k:Nat):Int)=((a+k:Nat):Int) by omega];exact PAP.aeg xs (a+k) _)
 have tD:∀(k:Nat) (τ:Sd) (hh:Hd),τ[1]? = some (some (m8 row))->τ[3]? = some (some (bj a))->yp (sV 1) (oS (sV 3)) (oS (s2 ie (sV 3) (sC (.int (k:Nat))))) τ hh=.ok (.tup ((xs.drop a).take k)) hh:=λk τ hh h1 h3=>PAP.afl (bc h1) (PAP.aef (bc h3)) (PAP.aef (kj (bc h3) ckk u5)) (by rw[show((a:Nat):Int)+((k:Nat):Int)=((a+k:Nat):Int) by omega,PAP.axm,api,Nat.add_sub_cancel_left])
 have mT:∀b k,∀e∈xs.take k,EA b e:=λb k e he=>cell b e (bY he);have mD:∀b k,∀e∈xs.drop k,EA b e:=λb k e he=>cell b e (fH he);have m3:∀{b} {A B C:List D},(∀e∈A,EA b e)->(∀e∈B,EA b e)->(∀e∈C,EA b e)->∀e∈A++B++C,EA b e:=λhA hB hC e he=>by
  rcases bo.mp he with z|z
  ·rcases bo.mp z with z|z
   ·exact hA e z
   ·exact hB e z
  ·exact hC e z
 by_cases h6:6<s
 ·obtain⟨k,o3,e3,k0,k1,P3⟩:=SRC.iw (m:=6) P2 (by omega) (by omega) (by omega)
  obtain⟨k,rfl⟩:=ay k0;have c3:gq false 2 SRC.aa [.ref 0,.int 6] [o2]=.ok (bj k) [o3]:=e3 0 _ rfl
  let ds:List D:=[.non,.int 7,.bl true,.str "0",.str "",.rod [] []]
  have kl:k<ds.length:=by show k<6;omega
  refine fin true ds[k] o3 (P3.up (by omega)) (a4p ds[k] (aY kl)).ra ?_
  unfold ig;refine etr (st _) ?_;exact aU toR (a3j (ifr (tvc rfl (ayz (by omega))) (kj (PAP.aof (cns ckk (cns ckk (cns ckk (cns ckk (cns ckk (cns (EVT.aen (ajs P2)) rfl)))))) b25) (kh (bc rfl) ckk c3) (a7a (ae kl)))))
 by_cases h0:s=0
 ·obtain⟨k,o3,e3,k0,k1,P3⟩:=SRC.iw (m:=(m:Int)+1) P2 (by omega) (by omega) (by omega)
  obtain⟨k,rfl⟩:=ay k0;have c3:gq false 2 SRC.aa [.ref 0,.int ((m:Int)+1)] [o2]=.ok (bj k) [o3]:=e3 0 _ rfl;refine fin true (.tup (xs.take a++[bj k]++xs.drop a)) o3 (P3.up (by omega)) (abn (by simp only[ah,aT,bb,av];omega) (m3 (mT _ _) (λe he=>by rw[aw]at he;subst he;exact abm (by omega) _) (mD _ _))) ?_
  unfold ig;refine etr (st _) ?_;refine eti (tvc rfl (aqz (by omega))) ?_
  exact aU toR (a3j (ifr (tvc rfl (a2b (by omega))) (ase (tA _ _ rfl rfl) (p7 (kh (bc rfl) (a01 rfl u5) c3) PAP.aim) (tB _ _ rfl rfl) (by simp only[aT,bb,av];omega))))
 by_cases h1:s=1
 ·refine fin true (.tup (xs.take a++((xs.drop a).take 2).reverse++xs.drop (a+2))) o2 (P2.up (by omega)) (abn (by simp only[ah,aT,bb,cG];omega) (m3 (mT _ _) (λe he=>mD _ _ e (bY (List.mem_reverse.mp he))) (mD _ _))) ?_
  unfold ig;refine etr (st _) ?_;refine eti (tvc rfl (aqz (by omega))) ?_
  refine eti (tvc rfl (yx (by omega))) ?_
  exact aU toR (a3j (ifr (tvc rfl (a2b (by omega))) (ase (tA _ _ rfl rfl) (ax3 (tD 2 _ _ rfl rfl) (afh ckk (a5f _))) (tC 2 _ _ rfl rfl) (by simp only[aT,bb,cG];omega))))
 by_cases h2:s=2
 ·have cm:jk (sIt (sV 1)) t1 (zr SRC.aa) [] (τr row m (some (bj a)) (some (bj s)) none) [o2]=.ok (.ref 1) [o2,.lst xs]:=by
   refine qe bj bj row (a6a (bc rfl) rfl) (dh (by omega)) λc _=>?_
   rw[u6];exact bc rfl
  have ra:RA false (.rol xs):=ax1 (by omega) λn hn=>by have:=rr n hn;omega
  refine⟨.rol xs,o2,false,ra,Dr.of rfl args P.clo (r:=.ok (.ref 1) [o2,.lst xs]) ?_ (a4e (aI _) rfl (iz _) (by simpa using ad3 P2)) ra.gh.clo P2.clo,P2.up (by omega)⟩
  unfold dz;rw[dw];show toR (ig SRC.aa (τr row m none none none) [o])=_;unfold ig;refine etr (st _) ?_;refine eti (tvc rfl (aqz (by omega))) ?_
  refine eti (tvc rfl (yx (by omega))) ?_
  refine eti (tvc rfl (yx (by omega))) ?_
  exact aU toR (a3j (aH (ifT (tvc rfl (a2b (by omega)))) (nq cm)))
 by_cases h3:s=3
 ·refine fin true (.tup (xs.take a++(xs.drop a).take 1++xs.drop a)) o2 (P2.up (by omega)) (abn (by simp only[ah,aT,bb];omega) (m3 (mT _ _) (λe he=>mD _ _ e (bY he)) (mD _ _))) ?_
  unfold ig;refine etr (st _) ?_;refine eti (tvc rfl (aqz (by omega))) ?_
  refine eti (tvc rfl (yx (by omega))) ?_
  refine eti (tvc rfl (yx (by omega))) ?_
  refine eti (tvc rfl (yx (by omega))) ?_
  exact aU toR (a3j (ifr (tvc rfl (a2b (by omega))) (ase (tA _ _ rfl rfl) (tD 1 _ _ rfl rfl) (tB _ _ rfl rfl) (by simp only[aT,bb];omega))))
 ·obtain⟨k,o3,e3,k0,k1,P3⟩:=SRC.iw (m:=4) P2 (by omega) (by omega) (by omega)
  obtain⟨k,rfl⟩:=ay k0;have c3:gq false 2 SRC.aa [.ref 0,.int 4] [o2]=.ok (bj k) [o3]:=e3 0 _ rfl;have kl:k<ax4.length:=by show k<4;omega
  let ds:List D:=[.tup [],.tup [.non],ax4[k]]
  have cl:∀d∈ds,Cl d:=by
   intro d hd
   simp only[ds,aR,bg,cE]at hd
   rcases hd with rfl|rfl|rfl
   ·exact⟨[],true,rfl,by simp,λe he=>by cases he⟩
   ·exact⟨[.non],true,rfl,by simp,λe he=>by rw[aw]at he;subst he;exact a4p _ (by simp)⟩
   ·exact as4 _ (aY kl)
  have sl:s-4<ds.length:=by show s-4<3;omega
  obtain⟨es,b,ed,el,ee⟩:=cl ds[s-4] (aY sl);have ix:gIx (.tup ds) (.int ((s:Int)-4)) [o3]=.ok (.tup es) [o3]:=by
   rw[show(s:Int)-4=((s-4:Nat):Int) by omega]
   exact a7a (by rw[ae sl,ed])
  refine fin b (.tup (xs.take a++es++xs.drop (a+1))) o3 (P3.up (by omega)) (abn (by simp only[ah,aT,bb];omega) (m3 (mT _ _) ee (mD _ _))) ?_
  unfold ig;refine etr (st _) ?_;refine eti (tvc rfl (aqz (by omega))) ?_
  refine eti (tvc rfl (yx (by omega))) ?_
  refine eti (tvc rfl (yx (by omega))) ?_
  refine eti (tvc rfl (yx (by omega))) ?_
  refine eti (tvc rfl (yx (by omega))) ?_
  have od:∀τ:Sd,τ[0]? = some (some (.ref 0))->s2 gIx (sA ur (ak (sA ur (ak (sC (.bl true)) bu)) (ak (sA ur (ak (sZ (sA a1u (ak (sI 0) bu))) bu)) (ak (sA ur (ak (sZ aca) bu)) (ak (sA ur (ak (sA ur (ak (sI 0) bu)) bu)) bu))))) (sA (gq false 2 SRC.aa) (ak (sV 0) (ak (sI 4) bu))) τ [o2]=.ok ax4[k] [o3]:=λτ h0 =>
   kj (PAP.aof (cns (p7 ckk PAP.aim) (cns (p7 (EVT.awp (cns ckk rfl) rfl (g8 (dg _) mj) (ajs P2) (by simp)) PAP.aim) (cns (p7 (EVT.aen (ajs P2)) PAP.aim) (cns (p7 (p7 ckk PAP.aim) PAP.aim) rfl)))) b26) (kh (bc h0) ckk c3) (a7a (ae kl))
  refine ets (a7j (PAP.aof rfl PAP.b1x) (p7 ckk PAP.aim) (od _ rfl) ar0) ?_;exact aU toR (nq (ase (tA _ _ rfl rfl) (kj (bc rfl) (a01 rfl (a89 _ _)) ix) (tC 1 _ _ rfl rfl) (by simp only[aT,bb];omega)))
end K55
namespace K55
open L2 MI AT HND EVX K22 K23 K21
open K35 (Pc pcD a0p res aru a6f)
noncomputable def mq:SF:=km (o8 SRC.aa dz) 5
abbrev τw(L:List (List Nat))(m:Nat)(a b:Option D):Sd:=[some (.ref 0),some (.tup (L.map m8)),some (bj m),a,b]
theorem aos{l:List Nat}(hl:l.length<=32)(hr:∀n∈l,n<32)(b:Bool):RA b (m8 l):=abn (by rw[ai];omega) λe he=>by obtain⟨n,hn,rfl⟩:=bG.mp he;exact abm (by have:=hr n hn;omega) b
theorem ajt{L:List (List Nat)}{m:Nat}(P:SRC.Src o N)(hN:N<=999980000)(l1:1<=L.length)(l2:L.length<=70)(hL:∀l∈L,l.length<=32/\∀n∈l,n<32)(m1:m<=32):∃d o',WA d/\Dr mq 3 [.tup (L.map m8),bj m] o d o'/\SRC.Src o' (N+10):=by
 obtain⟨a,o1,e1,a0,a1,P1⟩:=SRC.iw (m:=(L.length:Nat)) P (by omega) (by omega) (by omega)
 obtain⟨a,rfl⟩:=ay a0;obtain⟨s,o2,e2,s0,s1,P2⟩:=SRC.iw (m:=14) P1 (by omega) (by omega) (by omega)
 obtain⟨s,rfl⟩:=ay s0;have al:a<L.length:=by omega
 have c1:gq false 2 SRC.aa [.ref 0,bj L.length] [o]=.ok (bj a) [o1]:=e1 0 _ rfl;have c2:gq false 2 SRC.aa [.ref 0,.int 14] [o1]=.ok (bj s) [o2]:=e2 0 _ rfl
 let xs:List D:=L.map m8
 have xl:xs.length=L.length:=ai ..;have cell:∀b,∀e∈xs,RA b e:=λb e he=>by obtain⟨l,hl,rfl⟩:=bG.mp he;exact aos (hL l hl).1 (hL l hl).2 b
 have args:∀x∈[D.tup xs,bj m],MI.clo 0 x:=a1s (my (a2s _ _)) (dg _);have lenx:∀hh:Hd,qu [.tup xs] hh=.ok (bj L.length) hh:=λhh=>by rw[ut,ai]
 have xa:∀hh:Hd,gIx (.tup xs) (bj a) hh=.ok (m8 L[a]) hh:=λhh=>a7a (by rw[aM,ae al];rfl)
 have fin:∀y u,SRC.Src u (N+10)->WA y->toR (o8 SRC.aa dz (τw L m none none) [o])=.ok y [u]->∃d o',WA d/\Dr mq 3 [.tup (L.map m8),bj m] o d o'/\SRC.Src o' (N+10):=λy u Pu r e =>
  ⟨y,u,r,Dr.of rfl args P.clo (r:=.ok y [u]) (by unfold mq;rw[dw];exact e) (jy (aaw (bq 1) r.1.clo) (by simpa using ad3 Pu)) r.1.clo Pu.clo,Pu⟩
 have st:∀g:SS,dm (j9 3 (sA (gq false 2 SRC.aa) (ak (sV 0) (ak (sA qu (ak (sV 1) bu)) bu)))) (dm (j9 4 (sA (gq false 2 SRC.aa) (ak (sV 0) (ak (sI 14) bu)))) g) (τw L m none none) [o]=g (τw L m (some (bj a)) (some (bj s))) [o2]:=λg=>by
  refine aH (jr (kh (bc rfl) (p7 (bc rfl) (lenx _)) c1)) ?_;exact jr (kh (bc rfl) ckk c2)
 have tA:∀(τ:Sd) (hh:Hd),τ[1]? = some (some (.tup xs))->τ[3]? = some (some (bj a))->yp (sV 1) oN (oS (sV 3)) τ hh=.ok (.tup (xs.take a)) hh:=λτ hh h1 h3=>PAP.afl (bc h1) rfl (PAP.aef (bc h3)) (PAP.b09 xs a _);have tB:∀(τ:Sd) (hh:Hd),τ[1]? = some (some (.tup xs))->τ[3]? = some (some (bj a))->yp (sV 1) (oS (sV 3)) oN τ hh=.ok (.tup (xs.drop a)) hh:=λτ hh h1 h3=>PAP.afl (bc h1) (PAP.aef (bc h3)) rfl (PAP.aeg xs a _);have tC:∀(k:Nat) (τ:Sd) (hh:Hd),τ[1]? = some (some (.tup xs))->τ[3]? = some (some (bj a))->yp (sV 1) (oS (s2 ie (sV 3) (sC (.int (k:Nat))))) oN τ hh=.ok (.tup (xs.drop (a+k))) hh:=λk τ hh h1 h3=>PAP.afl (bc h1) (PAP.aef (kj (bc h3) ckk u5)) rfl (by rw[show((a:Nat):Int)+((k:Nat):Int)=((a+k:Nat):Int) by omega];exact PAP.aeg xs (a+k) _)
 have mT:∀b k,∀e∈xs.take k,RA b e:=λb k e he=>cell b e (bY he);have mD:∀b k,∀e∈xs.drop k,RA b e:=λb k e he=>cell b e (fH he);have m3:∀{b} {A B C:List D},(∀e∈A,RA b e)->(∀e∈B,RA b e)->(∀e∈C,RA b e)->∀e∈A++B++C,RA b e:=λhA hB hC e he=>by
  rcases bo.mp he with z|z
  ·rcases bo.mp z with z|z
   ·exact hA e z
   ·exact hB e z
  ·exact hC e z
 by_cases h2:s<2
 ·refine fin (.tup xs) o2 (P2.up (by omega)) (aet (b:=true) (by omega) (cell _)) ?_
  unfold o8;refine etr (st _) ?_;exact aU toR (a3j (ifr (tvc rfl (am5 (by omega))) (bc rfl)))
 by_cases h10:s<10
 ·obtain⟨y,o3,b,ry,e3,P3⟩:=a9y (row:=L[a]) (m:=m) P2 (by omega) (hL _ (aY al)).1 (hL _ (aY al)).2 m1
  have c3:gq false 3 dz [.ref 0,m8 L[a],bj m] [o2]=.ok y [o3]:=e3 0 _ rfl;refine fin (.tup (xs.take a++[y]++xs.drop (a+1))) o3 (P3.up (by omega)) (aet (b:=b) (by simp only[ah,aT,bb,av];omega) (m3 (mT _ _) (λe he=>by rw[aw]at he;subst he;exact ry) (mD _ _))) ?_
  unfold o8;refine etr (st _) ?_;refine eti (tvc rfl (afj (by omega))) ?_
  exact aU toR (a3j (ifr (tvc rfl (am5 (by omega))) (ase (tA _ _ rfl rfl) (p7 (a7j (bc rfl) (kj (bc rfl) (bc rfl) (xa _)) (bc rfl) c3) PAP.aim) (tC 1 _ _ rfl rfl) (by simp only[aT,bb,av];omega))))
 by_cases h10:s=10
 ·refine fin (.tup (xs.take a++xs.drop (a+1))) o2 (P2.up (by omega)) (aet (b:=true) (by simp only[ah,aT,bb];omega) λe he=>(bo.mp he).elim (mT _ _ e) (mD _ _ e)) ?_
  unfold o8;refine etr (st _) ?_;refine eti (tvc rfl (afj (by omega))) ?_
  refine eti (tvc rfl (afj (by omega))) ?_
  exact aU toR (a3j (ifr (tvc rfl (a2b (by omega))) (kj (tA _ _ rfl rfl) (tC 1 _ _ rfl rfl) (PAP.amb (by simp only[aT,bb];omega)))))
 by_cases h11:s=11
 ·refine fin (.tup (xs.take a++[m8 L[a]]++xs.drop a)) o2 (P2.up (by omega)) (aet (b:=true) (by simp only[ah,aT,bb,av];omega) (m3 (mT _ _) (λe he=>by rw[aw]at he;subst he;exact aos (hL _ (aY al)).1 (hL _ (aY al)).2 _) (mD _ _))) ?_
  unfold o8;refine etr (st _) ?_;refine eti (tvc rfl (afj (by omega))) ?_
  refine eti (tvc rfl (afj (by omega))) ?_
  refine eti (tvc rfl (yx (by omega))) ?_
  exact aU toR (a3j (ifr (tvc rfl (a2b (by omega))) (ase (tA _ _ rfl rfl) (p7 (kj (bc rfl) (bc rfl) (xa _)) PAP.aim) (tB _ _ rfl rfl) (by simp only[aT,bb,av];omega))))
 ·obtain⟨k,o3,e3,k0,k1,P3⟩:=SRC.iw (m:=5) P2 (by omega) (by omega) (by omega)
  obtain⟨k,rfl⟩:=ay k0;have c3:gq false 2 SRC.aa [.ref 0,.int 5] [o2]=.ok (bj k) [o3]:=e3 0 _ rfl
  let ds:List D:=[.non,.int 7,.bl true,.str "",.rod [] []]
  have kl:k<ds.length:=by show k<5;omega
  have pw:∀d∈ds,WA d:=by
   intro d hd
   have ea:EA true d:=a4p d (by simp only[ds,aR,bg,cE]at hd ⊢;rcases hd with h|h|h|h|h<;>simp[h])
   obtain⟨g,q,e,sh,dp,ln,t⟩:=ea;exact⟨g,q,e,λ_=>t.1 rfl,sh,by omega,by show q.shown.length<=16777216;omega⟩
  let es:List D:=[.rol xs,ds[k]]
  have we:∀d∈es,WA d:=by
   intro d hd
   simp only[es,aR,bg,cE]at hd
   rcases hd with rfl|rfl
   ·exact ax2 (by omega) (cell _)
   ·exact pw _ (aY kl)
  have sl:s-12<es.length:=by show s-12<2;omega
  refine fin es[s-12] o3 (P3.up (by omega)) (we _ (aY sl)) ?_
  have cz:∀τ:Sd,τ[1]? = some (some (.tup xs))->sZ (jk (sIt (sV 1)) t1 (a2i SRC.aa dz) []) τ [o2]=.ok (.rol xs) [o2]:=λτ h1=>by
   refine a1c (qe m8 m8 L (a6a (bc h1) rfl) (dh (by omega)) λc _=>?_) (a2s _ _) (ad3 P2)
   rw[u6];exact bc rfl
  have ix:gIx (.tup es) (.int ((s:Int)-12)) [o3]=.ok es[s-12] [o3]:=by
   rw[show(s:Int)-12=((s-12:Nat):Int) by omega]
   exact a7a (ae sl)
  unfold o8;refine etr (st _) ?_;refine eti (tvc rfl (afj (by omega))) ?_
  refine eti (tvc rfl (afj (by omega))) ?_
  refine eti (tvc rfl (yx (by omega))) ?_
  refine eti (tvc rfl (yx (by omega))) ?_
  exact aU toR (nq (kj (kh (cz _ rfl) (kj (PAP.aof (cns ckk (cns ckk (cns ckk (cns ckk (cns (EVT.aen (ajs P2)) rfl))))) b0d) (kh (bc rfl) ckk c3) (a7a (ae kl))) ao6) (a01 rfl (a89 _ _)) ix))
theorem aju(ps:List Pc):Dr jo 2 [.rol (ps.map pcD)] (.lst (ps.map pcD)) (.bl true) (.lst (ps.map pcD)):=by
 have co:a0j 0 (.lst (ps.map pcD)):=a0p _ _;refine Dr.of rfl (awq (jq (a0p _ _))) co (r:=.ok (.bl true) [.lst (ps.map pcD)]) ?_ (jy (qy _) (by intro o ho;rw[show List.take 1 [O.lst (ps.map pcD)]=[O.lst (ps.map pcD)] from rfl,aw]at ho;subst ho;exact n6 (by omega) co)) (qy _) co
 unfold jo;rw[dw];show toR (vh SRC.bz [some (.ref 0),some (.rol (ps.map pcD)),none,none] [.lst (ps.map pcD)])=_;unfold vh;have t2:jz [.ref 0,.ty "list"] [.lst (ps.map pcD)]=.ok (.bl true) [.lst (ps.map pcD)]:=by simp[jz,aa1,tyD,a7z]
 have ln:qu [.ref 0] [.lst (ps.map pcD)]=.ok (bj (ps.map pcD).length) [.lst (ps.map pcD)]:=rfl;refine eti (orF (a79 (uc (kh (bc rfl) ckk t2) (jh _))) (t2s (p7 (bc rfl) ln) (p7 (bc rfl) a0k) (ab7 rfl))) ?_;have zz:∀l:List Pc,(l.map pcD).zip (l.map pcD)=l.map λp=>(pcD p,pcD p):=λl=>by
  induction l with
  |nil=>rfl
  |cons a l ih=>rw[bI,dZ,ih];rfl
 have zi:acd (sV 0) (sV 1) [some (.ref 0),some (.rol (ps.map pcD)),none,none] [.lst (ps.map pcD)]=.ok ⟨ps.map λp=>.tup [pcD p,pcD p],λh=>h[0]? = some (.lst (ps.map pcD))/\True⟩ [.lst (ps.map pcD)]:=by
  unfold acd;rw[bc rfl,bf,bc rfl,bf];show R.ok (⟨((ps.map pcD).zip (ps.map pcD)).map λp=>.tup [p.1,p.2],λh=>h[0]? = some (.lst (ps.map pcD))/\True⟩:Itm) _=_;rw[zz,bP];rfl
 refine etr (a3k zi) ?_;have nn:∀(a b c:Int) (hh:Hd),hNe (.tup [.int a,.int b,.int c]) (.tup [.int a,.int b,.int c]) hh=.ok (.bl false) hh:=λa b c hh=>by
  unfold hNe;rw[aO ⟨rfl,rfl⟩];simp[eqD,a5w]
 have lp:=aee (ck:=λh=>h[0]? = some (.lst (ps.map pcD))/\True) (g:=a7u 2 (o7 (kN 2) (o7 (kN 3) a8s))) (b:=ud SRC.bz) (λp:Pc=>D.tup [pcD p,pcD p])
  (λpre τ hh=>∃t2 t3:Option D,τ=[some (.ref 0),some (.rol (ps.map pcD)),t2,t3]/\hh=[.lst (ps.map pcD)]) (λpre τ h ⟨_,_,_,e⟩=>by rw[e];exact⟨rfl,trivial⟩) ps [] [some (.ref 0),some (.rol (ps.map pcD)),none,none] [.lst (ps.map pcD)] ?_ ⟨none,none,rfl,rfl⟩
 ·obtain⟨τ',h',e,t2,t3,rfl,rfl⟩:=lp;refine aH (aU (λz=>toR (MI.thn z _)) e) ?_;rfl
 ·rintro pre p post τ hh all ⟨t2,t3,rfl,rfl⟩
  refine⟨_,_,rfl,[some (.ref 0),some (.rol (ps.map pcD)),some (pcD p),some (pcD p)],[.lst (ps.map pcD)],?_,_,_,rfl,rfl⟩;unfold ud;exact aH (ifF (orF (a79 (uc (kh (bc rfl) ckk (SRC.a5g (xs:=[p.1,(p.2.1:Int),(p.2.2:Int)]) (by simp) _)) (jh _))) (t2s (bc rfl) (bc rfl) (nn _ _ _ _)))) rfl
section
variable{T:Table}
noncomputable def an2:SF:=km (ama wu CAS.vm v5 zx p8 SRC.bz jo ph SRC.oh mq v8 gj ye nj) 11
theorem ax5(ns:List Int):∃h',K55.an2 [.scr (ns.map D.int)] []=.ok (.bl true) h':=by
 obtain⟨o,P,e0⟩:=SRC.aih ns [];obtain⟨T,t,o1,hT,_,tl,tt,e1,P1⟩:=CAS.art P (by omega)
 have n32:=hT.n32
 let x:List Nat:=t.take 60
 have xl:x.length<=60:=by show(t.take 60).length<=60;rw[aT];omega
 have xt:∀c∈x,c∈T.tg:=λc hc=>tt c (bY hc);obtain⟨d,o2,pd,td,e2,P2⟩:=awz hT (l:=x) P1 (by omega) (by omega)
 obtain⟨w,o3,⟨gw,q,eq,oq⟩,e3,P3⟩:=ajt (L:=rws T x) (m:=T.go.length) P2 (by omega) (by rw[ad0];omega) (by rw[ad0];omega) (λl hl=>by
  unfold rws at hl;obtain⟨i,_,rfl⟩:=bG.mp hl;refine⟨bX aji n32,λn hn=>?_⟩;unfold rwA at hn;have:=bS.mp (dE.mp hn).1;omega) n32
 have c1:gq false 1 CAS.vm [.ref 0] [o]=.ok (.tup [T.d,.str (S t)]) [o1]:=e1 0 _ rfl;have c2:gq false 3 wu [.ref 0,.str (S T.tg),.str (S x)] [o1]=.ok d [o2]:=e2 0 _ rfl;have c3:gq false 3 mq [.ref 0,a8f T x,bj T.go.length] [o2]=.ok w [o3]:=e3 0 _ rfl;have gd:Gh (a8f T x):=awr (a9w _);have rp:∀hh,afb [w] hh=.ok (.str q.shown) hh:=λhh=>by
  unfold afb;simp only[eq,aO oq]
 have sne:∀(z:Str) (hh:Hd),hNe (.str z) (.str z) hh=.ok (.bl false) hh:=λz hh=>by
  unfold hNe;rw[aO ⟨rfl,rfl⟩];simp[eqD]
 have hs1:∀hh,gq false 2 p8 [a8f T x,a8f T x] hh=.ok (.bl true) hh:=λhh=>by
  have:=aes gd (rws T x) hh
  rw[acz (a9w _)]at this;exact this
 have hr1:∀hh,yw 3 nj [T.d,.str (S x),a8f T x] hh=.ok (.bl true) hh:=λhh=>by
  have:=ajm hT xt (by omega) gd hh
  rw[acz (a9w _)]at this;exact this
 let R:=res T x
 have i0:∀(j:Nat) (hh:Hd),gIx (.tup [.ref j,bj R.2]) (.int 0) hh=.ok (.ref j) hh:=λj hh=>a7a (j:=0) rfl;have i1:∀(j:Nat) (hh:Hd),gIx (.tup [.ref j,bj R.2]) (.int 1) hh=.ok (bj R.2) hh:=λj hh=>a7a (j:=1) rfl;have rl:R.1.length<=x.length+1:=by have:=K35.ajf T x (x.length+1) 0 [];simpa using this
 refine⟨[o3,.lst (R.1.map pcD++[.tup [.int 0,.int 0,.int 0]])],?_⟩;unfold K55.an2;rw[dw];show toR (ama wu CAS.vm v5 zx p8 SRC.bz jo ph SRC.oh mq v8 gj ye nj [some (.scr (ns.map D.int)),none,none,none,none,none,none,none,none,none,none] [])=_;unfold ama;refine ets (p7 (bc rfl) e0) ?_;refine etr (u9 (afi (p7 (bc rfl) c1) rfl)) ?_;refine ets (PAP.afl (bc rfl) rfl (PAP.aef ckk) (ao4 60 (dh (by omega)))) ?_
 refine ets (kh (bc rfl) (bc rfl) (aww hT xt (by omega) _)) ?_
 refine ets ((arc (ue (bc rfl) (ue (bc rfl) rfl))).trans (a8g hT xt (by omega) _)) ?_
 refine eti (orF (a79 (uc (kh (bc rfl) (bc rfl) (hs1 _)) (jh _))) (a79 (uc (kh (bc rfl) (a7j (bc rfl) (a01 rfl (amh _)) (bc rfl) c2) (afu pd td _)) (jh _)))) ?_;refine ets (a7j (bc rfl) (bc rfl) (p7 (a01 rfl (T1 _)) (b0b _)) c3) ?_;refine ets (p7 (bc rfl) (rp _)) ?_;refine eti (orF (a79 (uc (kh ((arc (ue (bc rfl) (ue (bc rfl) (ue (bc rfl) rfl)))).trans (ajm hT xt (by omega) gw _)) (kh (bc rfl) (bc rfl) (aes gw (rws T x) _)) (an1 _ _)) (jh _))) (t2s (p7 (bc rfl) (rp _)) (bc rfl) (sne _ _))) ?_
 refine etr (u9 (afi (kh (bc rfl) (bc rfl) (acy hT xt (by omega) _)) rfl)) ?_
 refine ets (a7j (bc rfl) (bc rfl) (bc rfl) (ad2 hT xt (by omega) _)) ?_
 have tt2:∀(j:Nat) (hh:Hd),jz [.tup [.ref j,bj R.2],.ty "tuple"] hh=.ok (.bl true) hh:=λj hh=>by simp[jz,aa1,tyD,a7z]
 have s1:∀(j:Nat) (hh:Hd),abr (.tup [.ref j,bj R.2]) (some 1) none hh=.ok (.tup [bj R.2]) hh:=λj hh=>by rw[PAP.axm];rfl
 refine eti (orF (a79 (uc (kh (bc rfl) ckk (tt2 _ _)) (jh _))) (orF (t2s (p7 (bc rfl) ut) ckk (ab7 rfl)) (a79 (uc (kh (PAP.afl (bc rfl) (PAP.aef ckk) rfl (s1 _ _)) ckk (SRC.a5g (xs:=[(R.2:Int)]) (by simp) _)) (jh _))))) ?_
 have pl:gq false 2 jo [.ref 1,.rol (R.1.map pcD)] [o3,.lst (R.1.map pcD)]=.ok (.bl true) [o3,.lst (R.1.map pcD)]:=aju R.1 1 _ rfl;refine eti (orF (a79 (uc (kh (a01 rfl (i0 _ _)) (bc rfl) pl) (jh _))) (t2s (a01 rfl (i1 _ _)) (bc rfl) (ab7 rfl))) ?_;refine etr (u9 (a06 (v:=.non) (a01 rfl (i0 _ _)) rfl (arg1 (a7j ckk ckk ckk ar0)) (a07 (xs:=R.1.map pcD) rfl (by rw[ai];exact a08 (by omega))))) ?_
 have r0:∀hh:Hd,gIx (aru T x) (.int 0) hh=.ok (.rol (R.1.map pcD)) hh:=λhh=>a7a (j:=0) rfl;exact aU toR (nq (acr (kh (kj (a7j (bc rfl) (bc rfl) (bc rfl) (ajp hT xt (by omega) _)) ckk (r0 _)) (bc rfl) (ajr R.1 _)) (kj ((arc (ue (bc rfl) (ue (bc rfl) (ue (bc rfl) rfl)))).trans (hr1 _)) ckk rfl)))
end
end K55
namespace L2
open PySem.W PyProof.Rows
theorem as5{K:Frag}{C:Addr}(q:excIn K C [.type "ValueError",.type "Exception",.type "BaseException",.type "object"] "ValueError.__new__" = true):XCls K C:=by
 unfold excIn at q
 split at q
 ·rename_i dd cd sl lo
  split at q
  ·rename_i C' bm k0 k1 k2 k3 n k5 mo ss;simp only[bV,hR,Bool.not_eq_true']at q;obtain⟨⟨⟨⟨⟨e1,e2⟩,nd⟩,tl⟩,no⟩,ni⟩:=q;subst e1 e2;cases cd
   dsimp only at mo nd no ni;subst mo nd;obtain⟨l⟩:=sl;simp only at ss;subst ss;exact⟨_,_,_,_,bm,_,_,_,_,_,dd,k0,k1,k2,k3,k5,lo,no,ni,tl⟩
  ·cases q
 ·cases q
end L2
namespace K55
open L2 MI
section
variable{P:Program}{w:World}{K:Fg}{mg:Str->Option Value}{base:Heap}{f:Addr}{fd:FuncData}
theorem d_2{f_2:Addr}{e_2:FuncData}(Fu_2:Fun K "is_same" "is_same" (top 3) f_2 e_2)(mk_2:mg "is_same" = some (.ref f_2))(kp_2:PySem.W.keepIn K (.ref f_2)=true)(bd_2:Binds K e_2 ["thing", "told"] [])(M:Nm mg){a_0:Addr}{d_0:FuncData}(D_0:Dn P w K mg base 1 "is_number" ["thing"] (yh K 1 (K55.m7)) a_0 d_0){a_1:Addr}{d_1:FuncData}(D_1:Dn P w K mg base 1 "is_row" ["thing", "low", "high"] (yh K 3 (K55.v7)) a_1 d_1):∀n:Nat,Dn P w K mg base (n+1) "is_same" ["thing", "told"] (yh K 2 (K55.jw n)) f_2 e_2:=by
 intro n
 induction n with
 |zero=>exact⟨ayo (ps:=["thing", "told"]),mk_2,kp_2,bd_2⟩
 |succ n ih =>
  have e:n+1+1=n+1+1:=by omega
  rw[e];have s_is_same:=ih;exact⟨ahk Fu_2 azz (m_2 M D_0 (by omega) D_1 (by omega) s_is_same (by omega)),mk_2,kp_2,bd_2⟩
end
def an3(K:Fg):Sp:=λvs H Q _=>∃(a:Addr) (ns:List Int),vs=[.ref a]/\SqF K H a (ns.map V.int)/\ns.length<=63/\∀H',Q (.bl true) H'
theorem abo{K:Fg}{ι:List Addr}{H:Hp}:∀ns:List Int,Reps K ι H (ns.map V.int) (ns.map D.int)
 |[]=>.nil
 |n::ns=>.cons (.int n) (abo ns)
theorem ax6{K:Fg}(vs:List V)(H:Hp)(Q:VK)(E:XK)(h:an3 K vs H Q E):yh K 1 K55.an2 vs H Q E:=by
 obtain⟨a,ns,rfl,hS,hl,q⟩:=h;obtain⟨h',e⟩:=K55.ax5 ns;refine⟨rfl,[],[.scr (ns.map D.int)],[],.cons (.scr hS (abo ns)) .nil,⟨eJ,rfl,λi a o z=>by simp at z⟩,?_⟩
 rw[e]
 intro ι' H' b g r hr
 cases r
 exact q H'
theorem ax7{K:Fg}{H:Hp}{a:Addr}{vs:List V}(hO:Only H)(hS:SqL K H a vs):SqF K H a vs:=by
 rcases hS with r|r
 ·rcases r with r|⟨o,r⟩
  ·rcases hO a with z|⟨o,xs,z⟩<;>rw[z]at r<;>cases r
  ·exact .inl ⟨o,r⟩
 ·exact .inr (.inr r)
abbrev fo(x:Str)(t:Stmt)(kV dc pm:Value)(an:Option Addr)(cd ct:Value):=PySem.W.fnOf x x (a3e t) (qz t) (bw t) .none kV dc pm an cd ct
def Df(K:Fg)(f:Addr)(nm:Str)(i:Nat):Prop:=∃oc od kV dc pm an cd ct sl,PySem.W.nsIn K mainGlobals nm=some (some (.ref f))/\K.lookup f=some ⟨oc,od,.func (fo nm (top i) kV dc pm an cd ct),sl⟩/\PySem.W.codeIn K cd nm=true/\PySem.W.keepIn K (.ref f)=true
theorem df{K:Fg}{f:Addr}{nm:Str}{i:Nat}(d:Df K f nm i):∃e,PySem.W.nsIn K mainGlobals nm=some (some (.ref f))/\Fun K nm nm (top i) f e:=by
 obtain⟨_,_,_,_,_,_,_,_,_,a,l,c,k⟩:=d;exact⟨_,a,atr l c k⟩
theorem yo{P:Program}{w:World}{K:Fg}{mg:Str->Option Value}{base h:Heap}{f:Addr}{nm:Str}{i k:Nat}{F:SF}{N ps:List Str}{b:SS}(S:FnScope N ps (bw (top i)))(d:Df K f nm i)(X:K.In h)(G:h.Ns mainGlobals mg)
  (hb:∀(cdv:Value) (A:Around) (outer:List Env) (s:Shared) (H:Hp) (E:XK),Room k (A.deeper (PyProof.Rows.envOfC nm (bw (top i)) s.heap.objs.size f cdv))->MSs (afv CX0 P w K mg base N nm (bw (top i)) f cdv A outer s H E).nox X0 (qz (top i)) b)
  (h:∀(kV doc pm:Value) (an:Option Addr) (cdv ct:Value) (us:List Value),us.length=ps.length->bindArgs (PySem.W.fnOf nm nm (a3e (top i)) (qz (top i)) (bw (top i)) .none kV doc pm an cdv ct) ⟨us,[]⟩=pure (ps.zip us)) (e:F=km b N.length:=by rfl) :
  ∃fd,Dn P w K mg base (k+1) nm ps (yh K ps.length F) f fd:=by
 obtain⟨_,a,Fu⟩:=df d;rw[e];exact⟨_,ahk Fu S hb,cn X G a,Fu.kp,Fu.binds h⟩
local macro_rules|`(tactic|walk_at "b") => `(tactic|(intro _ _ _ _ _ _ us hl;first|(apply azs hl;intro _;exact rfl)|(apply azt hl;intro _ _;exact rfl)|(apply azu hl;intro _ _ _;exact rfl)|(apply azv hl;intro _ _ _ _;exact rfl)|(apply azw hl;intro _ _ _ _ _;exact rfl)|(apply b19 hl;intro _ _ _ _ _ _;exact rfl)|(apply len0 hl;exact rfl)))
theorem ax8{l:PySem.W.OpenLaw}{w:World}{K:Fg}{h:Heap}{mg:Str->Option Value}{fa f1 f2 f3 f4 f5 f6 f7 f8 f9 f10 f11 f12 f13 f14 f15 f16 f17 f18 f19 f20 f21 f22 f23 f24 f25 f26 f27 f28 f29 f30 f31:Addr}(X:K.In h)(G:h.Ns mainGlobals mg)(hfa:mg "law" = some (.ref fa))
  (d1:Df K f1 "is_number" 1)
  (d2:Df K f2 "is_row" 2)
  (d3:Df K f3 "is_same" 3)
  (d4:Df K f4 "is_text" 14)
  (d5:Df K f5 "looked_text" 16)
  (d6:Df K f6 "room_from" 17)
  (d7:Df K f7 "rooms_along" 18)
  (d8:Df K f8 "ahead_rows" 20)
  (d9:Df K f9 "row_ahead" 21)
  (d10:Df K f10 "rows_hold" 22)
  (d11:Df K f11 "cut_by" 23)
  (d12:Df K f12 "_law_source" 25)
  (d13:Df K f13 "_law_draw" 26)
  (d14:Df K f14 "_law_signs" 27)
  (d15:Df K f15 "_law_tongue" 28)
  (d16:Df K f16 "_law_rooms" 29)
  (d17:Df K f17 "_law_grown" 30)
  (d18:Df K f18 "_law_met" 31)
  (d19:Df K f19 "_law_case" 32)
  (d20:Df K f20 "_law_first" 33)
  (d21:Df K f21 "_law_numbers" 34)
  (d22:Df K f22 "_law_pieces" 35)
  (d23:Df K f23 "_law_bad" 36)
  (d24:Df K f24 "_law_truth" 37)
  (d25:Df K f25 "_law_due" 38)
  (d26:Df K f26 "_law_cut" 39)
  (d27:Df K f27 "_law_row_spoilt" 40)
  (d28:Df K f28 "_law_spoilt" 41)
  (d29:Df K f29 "_law_holds" 42)
  (d30:Df K f30 "_law_refused" 43)
  (d31:Df K f31 "law" 44)
  {y_NoText y_ReachError y_Closed y_NoTable y_NoWord y_Stopped y_TooMany y_Unlike:Addr}
  (xg_NoText:PySem.W.nsIn K mainGlobals "NoText" = some (some (.ref y_NoText)))
  (xg_ReachError:PySem.W.nsIn K mainGlobals "ReachError" = some (some (.ref y_ReachError)))
  (xg_Closed:PySem.W.nsIn K mainGlobals "Closed" = some (some (.ref y_Closed)))
  (xg_NoTable:PySem.W.nsIn K mainGlobals "NoTable" = some (some (.ref y_NoTable)))
  (xg_NoWord:PySem.W.nsIn K mainGlobals "NoWord" = some (some (.ref y_NoWord)))
  (xg_Stopped:PySem.W.nsIn K mainGlobals "Stopped" = some (some (.ref y_Stopped)))
  (xg_TooMany:PySem.W.nsIn K mainGlobals "TooMany" = some (some (.ref y_TooMany)))
  (xg_Unlike:PySem.W.nsIn K mainGlobals "Unlike" = some (some (.ref y_Unlike)))
  (xc_NoText:XCls K y_NoText)
  (xk_NoText:XKit K y_NoText)
  (xe_NoText_ReachError:PySem.W.exmOne K (.ref y_NoText) (.ref y_ReachError)=some true)
  (xi_NoText_ValueError:PySem.W.kitOne K (.ref y_NoText) (.type "ValueError")=some true)
  (xi_NoText_NoText:PySem.W.kitOne K (.ref y_NoText) (.ref y_NoText)=some true)
  (xi_NoText_Closed_NoTable_NoWord_Stopped_TooMany_Unlike:PySem.W.kitAny K (.ref y_NoText) [.ref y_Closed,.ref y_NoTable,.ref y_NoWord,.ref y_Stopped,.ref y_TooMany,.ref y_Unlike]=some false)
  (z1:PySem.W.nsIn K mainGlobals "ValueError" = some none) (z2:PySem.W.nsIn K mainGlobals "abs" = some none) (z3:PySem.W.nsIn K mainGlobals "all" = some none) (z4:PySem.W.nsIn K mainGlobals "bool" = some none) (z5:PySem.W.nsIn K mainGlobals "enumerate" = some none) (z6:PySem.W.nsIn K mainGlobals "int" = some none) (z7:PySem.W.nsIn K mainGlobals "isinstance" = some none) (z8:PySem.W.nsIn K mainGlobals "len" = some none) (z9:PySem.W.nsIn K mainGlobals "list" = some none) (z10:PySem.W.nsIn K mainGlobals "range" = some none) (z11:PySem.W.nsIn K mainGlobals "repr" = some none) (z12:PySem.W.nsIn K mainGlobals "sorted" = some none) (z13:PySem.W.nsIn K mainGlobals "str" = some none) (z14:PySem.W.nsIn K mainGlobals "sum" = some none) (z15:PySem.W.nsIn K mainGlobals "tuple" = some none) (z16:PySem.W.nsIn K mainGlobals "zip" = some none)  :
  ∃fd:FuncData,(∀(s:Shared) (v:Value),BindsTo s fd ⟨[v],[]⟩ [("_law_script",v)])/\∀base:Heap,K.In base->base.Ns mainGlobals mg->FnOk l.prog w K mg base CX0 6 fa fd ["_law_script"] (an3 K):=by
 obtain⟨_,a3,F3⟩:=df d3;have b3:=F3.binds (ps:=["thing", "told"]) (by walk_at "b")
 obtain⟨_,a5,F5⟩:=df d5;have b5:=F5.binds (ps:=["tongue", "thing"]) (by walk_at "b")
 obtain⟨_,a8,F8⟩:=df d8;have b8:=F8.binds (ps:=["table", "text"]) (by walk_at "b")
 obtain⟨_,a10,F10⟩:=df d10;have b10:=F10.binds (ps:=["table", "text", "rows"]) (by walk_at "b")
 obtain⟨_,a31,F31⟩:=df d31;have e:=hfa.symm.trans (cn X G a31);cases e
 obtain⟨oc,od,kV31,dc31,pm31,an31,cd31,ct31,sl,rfl,lk,hc⟩:=id F31.ex;have b31:=F31.binds (ps:=["_law_script"]) (by walk_at "b")
 have M:Nm mg:=⟨bK X G z1,bK X G z2,bK X G z3,bK X G z4,bK X G z5,bK X G z6,bK X G z7,bK X G z8,bK X G z9,bK X G z10,bK X G z11,bK X G z12,bK X G z13,bK X G z14,bK X G z15,bK X G z16⟩;have Z:Xn K mg y_NoText y_ReachError y_Closed y_NoTable y_NoWord y_Stopped y_TooMany y_Unlike:=⟨cn X G xg_NoText,cn X G xg_ReachError,cn X G xg_Closed,cn X G xg_NoTable,cn X G xg_NoWord,cn X G xg_Stopped,cn X G xg_TooMany,cn X G xg_Unlike,xg_NoText,xc_NoText,xk_NoText,xe_NoText_ReachError,xi_NoText_ValueError,xi_NoText_NoText,xi_NoText_Closed_NoTable_NoWord_Stopped_TooMany_Unlike⟩
 refine⟨PySem.W.fnOf "law" "law" (a3e (top 44)) (qz (top 44)) (bw (top 44)) .none kV31 dc31 pm31 an31 cd31 ct31,λs v=>.of_eq rfl,λbase _ _=>?_⟩;obtain⟨_,D_0⟩:=yo (F:=K55.m7) (k:=0) azx d1 X G (m_0 M) (by walk_at "b")
 obtain⟨_,D_1⟩:=yo (F:=K55.v7) (k:=0) azy d2 X G (m_1 M) (by walk_at "b")
 have D_2:=d_2 (P:=l.prog) (w:=w) (base:=base) F3 (cn X G a3) F3.kp b3 M D_0 D_1 3;obtain⟨_,D_3⟩:=yo (F:=STP.lz) (k:=0) b00 d4 X G (m_3 M) (by walk_at "b")
 have D_4:DnX l.prog w K mg base 2 "looked_text" ["tongue", "thing"] (spX K mg 2 (K55.du)) _ _:=⟨ack F5 b01 (m_4 Z D_3 (by decide)),cn X G a5,F5.kp,b5⟩
 obtain⟨_,D_6⟩:=yo (F:=STP.jj) (k:=0) b03 d7 X G (m_6 ) (by walk_at "b")
 obtain⟨_,D_5⟩:=yo (F:=STP.di) (k:=1) b02 d6 X G (m_5 D_6 (by decide)) (by walk_at "b")
 obtain⟨_,D_8⟩:=yo (F:=K55.jt) (k:=0) b05 d9 X G (m_8 M) (by walk_at "b")
 have D_7:DnX l.prog w K mg base 3 "ahead_rows" ["table", "text"] (spX K mg 2 (K55.gj)) _ _:=⟨ack F8 b04 (m_7 M D_4 (by decide) D_8 (by decide)),cn X G a8,F8.kp,b8⟩
 have D_9:DnX l.prog w K mg base 5 "rows_hold" ["table", "text", "rows"] (spX K mg 3 (K55.nj)) _ _:=⟨ack F10 b06 (m_9 D_7 (by decide) D_2 (by decide)),cn X G a10,F10.kp,b10⟩
 obtain⟨_,D_10⟩:=yo (F:=K55.ye) (k:=2) avi d11 X G (b1b D_5 (by decide)) (by walk_at "b")
 obtain⟨_,D_11⟩:=yo (F:=SRC.oh) (k:=0) avj d12 X G (b1c M) (by walk_at "b")
 obtain⟨_,D_12⟩:=yo (F:=SRC.aa) (k:=0) avk d13 X G (b1d M) (by walk_at "b")
 obtain⟨_,D_13⟩:=yo (F:=SRC.cj) (k:=0) avl d14 X G (b1e ) (by walk_at "b")
 obtain⟨_,D_14⟩:=yo (F:=SRC.iu) (k:=1) avm d15 X G (b1f M D_12 (by decide) D_13 (by decide)) (by walk_at "b")
 obtain⟨_,D_15⟩:=yo (F:=CAS.j7) (k:=1) avn d16 X G (b1g M D_12 (by decide)) (by walk_at "b")
 obtain⟨_,D_16⟩:=yo (F:=CAS.j4) (k:=1) avo d17 X G (b1h M D_12 (by decide)) (by walk_at "b")
 obtain⟨_,D_17⟩:=yo (F:=CAS.m5) (k:=0) avp d18 X G (b1i M) (by walk_at "b")
 obtain⟨_,D_18⟩:=yo (F:=CAS.vm) (k:=2) avq d19 X G (b1j M D_12 (by decide) D_16 (by decide) D_17 (by decide) D_15 (by decide) D_14 (by decide)) (by walk_at "b")
 obtain⟨_,D_19⟩:=yo (F:=SRC.dq) (k:=0) avr d20 X G (b1k M) (by walk_at "b")
 obtain⟨_,D_20⟩:=yo (F:=SRC.bz) (k:=0) avs d21 X G (b1l M) (by walk_at "b")
 obtain⟨_,D_21⟩:=yo (F:=K55.jo) (k:=1) avt d22 X G (b1m M D_20 (by decide)) (by walk_at "b")
 obtain⟨_,D_22⟩:=yo (F:=K55.wu) (k:=1) avu d23 X G (b1n M D_12 (by decide) D_13 (by decide)) (by walk_at "b")
 obtain⟨_,D_23⟩:=yo (F:=K55.v8) (k:=0) avv d24 X G (b1o M) (by walk_at "b")
 obtain⟨_,D_24⟩:=yo (F:=K55.zx) (k:=0) avw d25 X G (b1p M) (by walk_at "b")
 obtain⟨_,D_25⟩:=yo (F:=K55.v5) (k:=1) avx d26 X G (b1q D_19 (by decide)) (by walk_at "b")
 obtain⟨_,D_26⟩:=yo (F:=K55.dz) (k:=1) avy d27 X G (b1r M D_12 (by decide)) (by walk_at "b")
 obtain⟨_,D_27⟩:=yo (F:=K55.mq) (k:=2) avz d28 X G (b1s M D_12 (by decide) D_26 (by decide)) (by walk_at "b")
 obtain⟨_,D_28⟩:=yo (F:=K55.p8) (k:=1) aw0 d29 X G (b1t M D_20 (by decide)) (by walk_at "b")
 obtain⟨_,D_29⟩:=yo (F:=K55.ph) (k:=3) aw1 d30 X G (b1u M Z D_7 (by decide)) (by walk_at "b")
 have D_30:Dn l.prog w K mg base 6 "law" ["_law_script"] (yh K 1 (K55.an2)) _ _:=⟨ahk F31 aw2 (b1v M D_22 (by decide) D_18 (by decide) D_25 (by decide) D_24 (by decide) D_28 (by decide) D_20 (by decide) D_21 (by decide) D_29 (by decide) D_11 (by decide) D_27 (by decide) D_23 (by decide) D_7 (by decide) D_10 (by decide) D_9 (by decide)),cn X G a31,F31.kp,b31⟩
 exact D_30.ok.imp ax6
theorem walk{l:PySem.W.OpenLaw}{q:Program}{loose:List Str}{XP:(Str->Option Value)->Heap->Prop}{YP:World->Heap->Prop}{d:DefRec}{K:Params->Fg}(hn:l.most=some 63)(hdf:d.params.defaults=[])
  (hY:∀(w:World) (h:Heap),YP w h->(K w.params).In h)
  (F:∀(w:World) (mg:Str->Option Value) (fa:Addr) (h:Heap),(K w.params).In h->h.Ns mainGlobals mg->mg d.name=some (.ref fa)->
   ∃fd:FuncData,(∀(s:Shared) (u:Value),BindsTo s fd ⟨[u],[]⟩ [("_law_script",u)])/\∀base:Heap,(K w.params).In base->base.Ns mainGlobals mg->FnOk l.prog w (K w.params) mg base CX0 6 fa fd ["_law_script"] (an3 (K w.params))) :
  PySem.W.WalkO q loose XP YP l.row.toRowW d [] (λf vs=>PySem.call f vs) :=
 L2.ape (n:=63) (k:=6) (x := "_law_script") (CX:=λ_=>CX0) (sp:=λw=>an3 (K w.params)) hn (by decide) hdf ⟨rfl,by decide,by decide,rfl⟩ hY F (λ_ _ a ns hl hO hS=>⟨a,ns,rfl,ax7 hO hS,hl,λ_=>rfl⟩) λ_ _ _ _ _ z=>z
end K55
open PySem.W PyProof.Rows
local macro_rules|`(tactic|o_head $H) => `(tactic|refine PySem.W.holds_open (q:=K55.hq) (loose:=K55.hl) (Xt:=fun _=>true) (XP:=fun _ _=>True) (Yf:=Hook.obs $H) (Ya:=Hook.val $H) (YP:=Hook.says $H) (N:=20000) ?hl (Hook.of $H) (Hook.keeps $H) (fun _ _=>trivial) (fun _ _ _ _ _=>trivial) (by rfl) (by rfl) (by rfl) (fun _ _=>recFacts_nil rfl) (by rfl) (by assumption) (by decide +kernel) ⟨rfl,rfl,rfl,rfl,rfl,by decide +kernel⟩ ?hw ?hc)
set_option maxRecDepth 100000 in
set_option maxHeartbeats 0 in
theorem PySem.Challenge.cw_nearreach_k55_rooms_with_a_kind_ahead_holds : PySem.Challenge.rw_nearreach_k55_rooms_with_a_kind_ahead.Holds := by
 w_on;refine holds_law K55.said fun said=>?_;o_head (kHook K55.A.heap_1 [2,3,15,17,18,20,21,22,24,25,27,28,29,32,33,34,41,42,43,44,47,54,55,56,59,66,67,68,71,78,79,80,83,90,91,92,95,102,103,104,107,114,115,116,119,126,127,128,131,134,135,136,138,139,141,142,143,145,146,148,149,150,152,153,155,156,157,159,160,162,163,164,167,168,169,171,172,174,175,176,178,179,181,182,183,186,187,188,190,191,193,194,195,197,198,200,201,202,204,205,207,208,209,212,213,214,217,218,219,222,223,224,227,228,229,231,232,234,235,236,238,239,241,242,243,245,246,248,249,250,253,254,255,257,258,260,261,262,264,265,267,268,269,271,272,274,275,276,279,280,281,284,285,286,288,289,291,292,293,295,296,298,299,300,302,303,305,306] (fun _=>by kernel_rfl))
 (case hw=>w_witness2)
 (case hl=>exact K55.hlok)
 k_fill
 refine K55.walk (l:=PySem.Challenge.rw_nearreach_k55_rooms_with_a_kind_ahead) rfl rfl (fun w h Y=>PySem.W.kIn_of Y) ?F
 case F =>
  intro w mg fa h KX G hmg
  refine' K55.ax8 KX G hmg ?_ ?_ ?_ ?_ ?_ ?_ ?_ ?_ ?_ ?_ ?_ ?_ ?_ ?_ ?_ ?_ ?_ ?_ ?_ ?_ ?_ ?_ ?_ ?_ ?_ ?_ ?_ ?_ ?_ ?_ ?_ ?xg_NoText ?xg_ReachError ?xg_Closed ?xg_NoTable ?xg_NoWord ?xg_Stopped ?xg_TooMany ?xg_Unlike ?xc_NoText ?xk_NoText ?xe_NoText_ReachError ?xi_NoText_ValueError ?xi_NoText_NoText ?xi_NoText_Closed_NoTable_NoWord_Stopped_TooMany_Unlike ?_ ?_ ?_ ?_ ?_ ?_ ?_ ?_ ?_ ?_ ?_ ?_ ?_ ?_ ?_ ?_
  all_goals first | k_is | exact ⟨_,_,_,_,_,_,_,_,_,by k_is,by k_is,by k_is,by k_is⟩ | skip
  (case xc_NoText=>exact L2.as5 (by kernel_rfl))
  (case xk_NoText=>constructor<;>first | k_is | kernel_rfl)
  (case xe_NoText_ReachError=>kernel_rfl)
  (case xi_NoText_ValueError=>kernel_rfl)
  (case xi_NoText_NoText=>kernel_rfl)
  (case xi_NoText_Closed_NoTable_NoWord_Stopped_TooMany_Unlike=>kernel_rfl)
