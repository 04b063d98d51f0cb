import PyProof.Rows.All
import Wide.All
import OpenK.AllK
import Wide.FinOn
import Lean
import PyProof.EqAt
import PyProof.EqKinds
import PyProof.TupleCall
import PyProof.ListStr
import PyProof.TupleOfStr
import PyProof.ConsumeWalk
import PyProof.SliceStr2
import PyProof.CompUse
import PyProof.Rows.SetFrom
import PyProof.SetRoads
import PyProof.StrLawsIn
import PyProof.Rows.StrIndexOr
import PyProof.Rows.StrJoin2
import PyProof.Rows.SumAny
import PyProof.WalkInts
import PyProof.SeqI3
import PyProof.Draws
import PyProof.ZipIter
import PyProof.EnumMake
import Wide.Txt2
import PyProof.Rows.SortWalk
import PyProof.ListRange
import PyProof.Rows.Range3
import KE.KStateDown
import PyProof.ReprRoads
import PyProof.CallFns
import KE.KTryDeep
import PyProof.ExcBaseAll.ValueError
import KE.KTryMore
import KE.KIsNot
import PyProof.ExcAttrAll.ValueError
import PyProof.NsDelKeeps
import PySem.SetOps
import PyProof.SetScanFacts
import PyProof.Walks
import PyProof.CollectWalk
import KE.KRevIter
import PyProof.CollectIter
import PyProof.WalksS
import KE.IntBitsLaws
import OpenK.KCls
import KE.KAssignIn
import PyProof.WalksMore
import PySem.Challenge.RW_nearreach_k51_twins_and_two_at_once
set_option Elab.async false
set_option linter.all false
set_option maxRecDepth 100000
set_option maxHeartbeats 4000000
section
open PySem PySem.W PyProof.Rows
theorem K51.said:PySem.Challenge.rw_nearreach_k51_twins_and_two_at_once.wellSaid=true:=by kernel_rfl
noncomputable def K51.hq:Program:=view PySem.Challenge.pw_nearreach_k51_twins_and_two_at_once [PySem.Challenge.pw_nearreach_k51_twins_and_two_at_once.main.body.length - 1]
noncomputable def K51.hl:List Str:=PySem.Challenge.pw_nearreach_k51_twins_and_two_at_once.boundNames
local macro_rules | `(tactic| o_head $H) => `(tactic| refine PySem.W.holds_open (q:=K51.hq) (loose:=K51.hl) (Xt:=fun _=>true) (XP:=fun _ _=>True) (Yf:=Hook.obs $H) (Ya:=Hook.val $H) (YP:=Hook.says $H) (N:=20000) ?hl (Hook.of $H) (Hook.keeps $H) (fun _ _=>trivial) (fun _ _ _ _ _=>trivial) (by rfl) (by rfl) (by rfl) (fun _ _=>recFacts_nil rfl) (by rfl) (by assumption) (by decide +kernel) ⟨rfl,rfl,rfl,rfl,rfl,by decide +kernel⟩ ?hw ?hc)
set_option maxRecDepth 100000 in
set_option maxHeartbeats 0 in
theorem K51.A (hyp:∀ p:Prop,p):PySem.Challenge.rw_nearreach_k51_twins_and_two_at_once.Holds:=by
 w_on;refine holds_law K51.said fun said=>?_;k_head
 all_goals exact hyp _
set_option maxRecDepth 100000 in
set_option maxHeartbeats 0 in
theorem K51.hlok:LeftO PySem.Challenge.rw_nearreach_k51_twins_and_two_at_once.row.prog K51.hq K51.hl (fun _=>true) (Hook.obs (kHook K51.A.heap_1 [2,3,15,22,23,24,25,28,35,36,37,40,47,48,49,52,59,60,61,64,67,68,69,71,72,74,75,76,78,79,81,82,83,85,86,88,89,90,93,94,95,97,98,100,101,102,105,106,114,116,117,119,120,121,123,124,126,127,128,130,131,133,134,135,137,138,140,141,142,144,145,147,148,149,151,152,154,155,156,157,158,159,160,163,170,172,173,175,176,177,179,180,182,183,184,186,187,189,190,191,193,194,196,197,198,200,201,203,204,205,207,208,210,211,212,214,215,217,218,219,221,222,224,225,226,228,229,231,232,233,234,235,238,245,247,248,250,251,252,254,255,257,258,259,261,262,264,265,266,268,269,271,272,273,274,275,278,280,281,283,284,285,288,289,290,292,293,295,296,297,299,300,302,303,304,306,307,309,310,311,314,315,316,319,320,321,324,325,326,329,330,331,334,335,336,338,339,341,342,343,345,346,348,349,350,352,353,355,356,357,359,360,362,363,364,366,367,369,370,371,374,375,376,378,379,381,382,383,385,386,388,389] (fun _=>by kernel_rfl))) (Hook.val (kHook K51.A.heap_1 [2,3,15,22,23,24,25,28,35,36,37,40,47,48,49,52,59,60,61,64,67,68,69,71,72,74,75,76,78,79,81,82,83,85,86,88,89,90,93,94,95,97,98,100,101,102,105,106,114,116,117,119,120,121,123,124,126,127,128,130,131,133,134,135,137,138,140,141,142,144,145,147,148,149,151,152,154,155,156,157,158,159,160,163,170,172,173,175,176,177,179,180,182,183,184,186,187,189,190,191,193,194,196,197,198,200,201,203,204,205,207,208,210,211,212,214,215,217,218,219,221,222,224,225,226,228,229,231,232,233,234,235,238,245,247,248,250,251,252,254,255,257,258,259,261,262,264,265,266,268,269,271,272,273,274,275,278,280,281,283,284,285,288,289,290,292,293,295,296,297,299,300,302,303,304,306,307,309,310,311,314,315,316,319,320,321,324,325,326,329,330,331,334,335,336,338,339,341,342,343,345,346,348,349,350,352,353,355,356,357,359,360,362,363,364,366,367,369,370,371,374,375,376,378,379,381,382,383,385,386,388,389] (fun _=>by kernel_rfl))) 20000:=by
 intro w
 kernel_rfl
end
abbrev Fg:=PySem.W.Frag
def af:=@List.getElem?_eq_getElem
def ag:=@List.getElem?_eq_some_iff
def ai:=@List.length_append
def ar:=@List.mem_singleton
def av:=@PySem.Heap.get?_push_of_some
def aw:=@Eq.trans
def ay:=@List.length_map
def aE:=@PySem.wpAny_bind
def aI:=@List.length_singleton
def aJ:=@Nat.le_refl
def aK:=@List.size_toArray
def aM:=@List.getElem?_append_left
def aN:=@List.getElem?_append_right
def aO:=@List.getElem?_map
def aP:=@congrArg
def aQ:=@List.mem_of_getElem?
def aR:=@List.mem_cons
def aS:=@List.mem_append
def aT:=@if_pos
def aU:=@Int.eq_ofNat_of_zero_le
def aV:=@Option.map_eq_some_iff
def aW:=@Nat.zero_le
def aX:=@PySem.Heap.lt_size
def aY:=@List.length_cons
def aZ:=@List.length_range
def ba:=@List.mem_cons_of_mem
def bb:=@PySem.Heap.get?_push_size
def bo:=@List.not_mem_nil
def bp:=@PySem.wpAny_pure
def bq:=@Nat.lt_of_lt_of_le
def br:=@List.map_cons
def bt:=@List.mem_cons_self
def bA:=@if_neg
def bB:=@List.map_append
def bC:=@PySem.PassesOwn.never
def bE:=@List.getElem?_set_self
def bF:=@List.getElem_mem
def bG:=@PySem.F.slot_list_append
def bH:=@PySem.F.type_list_append
def bI:=@Bool.false_ne_true
def bJ:=@List.mem_or_eq_of_mem_set
def bK:=@List.length_drop
def bL:=@decide_eq_false
def bM:=@List.nodup_append
def bN:=@Nat.ne_of_lt
def bO:=@List.append_assoc
def bP:=@PySem.W.mg_none_of
def bQ:=@Option.some.inj
def bR:=@List.mem_range
def bS:=@List.pairwise_iff_getElem
def bT:=@List.append_nil
def bU:=@List.drop_eq_nil_of_le
def bV:=@List.length_take
def bW:=@List.mem_append_right
def bX:=@List.mem_map
def bY:=@List.getElem?_of_mem
def bZ:=@Nat.mul_le_mul_right
def cf:=@PyProof.Rows.slot_tuple_getitem
def cn:=@beq_eq_false_iff_ne
def cp:=@List.all_eq_true
def cq:=@List.mem_append_left
def cw:=@List.getElem?_set_ne
def cy:=@List.take_of_length_le
def cA:=@Nat.le_trans
def cB:=@PySem.W.kia_one
def cC:=@PySem.mem_of_lookup
def cD:=@List.replicate_succ
def cE:=@List.nil_append
def cF:=@or_false
def cG:=@List.length_set
def cH:=@Bool.and_eq_true
def cI:=@List.map_map
def cJ:=@Nat.lt_irrefl
def cL:=@PySem.wpAny_callSpecial?_slot
def cM:=@PySem.Heap.size_push
def cN:=@List.getElem?_eq_none
def cO:=@PySem.call_meets
def cP:=@Bool.false_eq_true
def cQ:=@Option.getD_some
def cS:=@List.drop_append_of_le_length
def cT:=@List.mem_of_mem_take
def cU:=@List.reverse_reverse
def cV:=@PySem.wpAny_holding
def cW:=@decide_eq_true
def cZ:=@PySem.wpAny_newObj_type
def d0:=@PyProof.Rows.callWith_type1
def de:=@if_true
def dk:=@PySem.F.slot_int_rmul
def dn:=@List.find?_cons
def dv:=@List.getElem?_range
def dA:=@PySem.F.slot_tuple_iterator_next
def dB:=@PySem.wpAny_Call_Name_kw
def dC:=@Int.emod_lt_of_pos
def dD:=@PySem.wpAny_field
def dE:=@PySem.wpAny_binaryOp_repeat_ref
def dF:=@List.drop_eq_getElem_cons
def dG:=@Ne.symm
def dH:=@PySem.wpAny_mono
def dI:=@PySem.wpAny_passesOwn
def dJ:=@Int.toNat_natCast
def dM:=@List.flatten_cons
def dN:=@not_true_eq_false
def dO:=@List.find?_range_eq_some
def dP:=@List.reverse_cons
def dQ:=@List.map_nil
def dR:=@Array.length_toList
def dS:=@List.getElem?_replicate
def dU:=@List.length_reverse
def dW:=@PySem.wpAny_call_entry
def dX:=@beq_self_eq_true
def dY:=@List.mem_flatMap
def dZ:=@PySem.wpAny_setField_rec
def e7:=@PySem.sizeLine_eq
def e8:=@List.nodup_cons
def e9:=@List.length_replicate
def el:=@Int.emod_nonneg
def eB:=@PySem.wpAny_truthy_bool
def eC:=@List.any_cons
def eD:=@decide_eq_true_eq
def eE:=@List.getElem?_zip_eq_some
def eF:=@PySem.wpAny_seqItems
def eG:=@Nat.le_of_not_lt
def eI:=@List.any_eq_true
def eJ:=@List.map_congr_left
def eK:=@Nat.le_of_lt
def eM:=@PySem.typeIs_int
def eN:=@List.eq_of_mem_replicate
def eO:=@PySem.W.callWith_K
def eP:=@PySem.AutoListH.list___mul___list_int_3
def eQ:=@List.length_nil
def eR:=@List.getElem?_cons_zero
def eS:=@Bool.or_eq_true
def eU:=@List.getElem?_take
def eV:=@List.cons.injEq
def eW:=@List.find?_eq_none
def eX:=@List.map_singleton
def eY:=@PySem.Heap.get?_update_other
def eZ:=@PySem.wpAny_pyIter_list
def fg:=@beq_iff_eq
def fh:=@PySem.F.args_int_rmul_2
def fk:=@Nat.lt_trichotomy
def fq:=@List.ext_getElem?
def ft:=@if_false
def fv:=@PySem.W.methodCall_KW
def fz:=@Nat.succ_pos
def fA:=@List.singleton_append
def fB:=@PySem.F.slot_str_join
def fD:=@PySem.F.type_str_join
def fE:=@Nat.lt_succ_self
def fF:=@PySem.F.slot_int_index
def fG:=@PySem.F.entry_int_rmul
def fH:=@PySem.F.slot_tuple_mul
def fI:=@List.filter_cons
def fJ:=@List.cons_append
def fK:=@List.all_cons
def fL:=@PySem.F.args_tuple_iterator_next_1
def fM:=@PySem.W.mg_of
def fN:=@List.filterMap_cons
def fO:=@PySem.wpAny_execs_nil
def fP:=@PySem.W.plainGet_of
def fQ:=@PySem.F.fills_int_mul
def fR:=@List.range_succ
def fS:=@PySem.F.entry_tuple_iterator_next
def fT:=@PySem.F.slot_zip_next
def fU:=@Option.map_some
def fV:=@Nat.add_mul
def fW:=@Int.fdiv_eq_ediv_of_nonneg
def fX:=@Nat.mul_comm
def fY:=@Nat.lt_or_ge
def fZ:=@Nat.lt_or_eq_of_le
def g7:=@List.map_set
def g9:=@List.map_replicate
def gc:=@Array.getElem?_eq_getElem
def gs:=@List.nodup_nil
def gu:=@PySem.W.kitx_dict
def gv:=@Option.isSome_iff_exists
def gy:=@PySem.F.args_tuple_add_2
def gz:=@PySem.StrLaws.found_one
def gA:=@PySem.Paired.length
def gB:=@PySem.wpAny_standAt
def gC:=@Nat.le_succ
def gD:=@PySem.F.entry_tuple_add
def gE:=@List.length_eq_zero_iff
def gF:=@List.getElem?_cons_succ
def gG:=@PySem.noFill_tuple_add
def gH:=@PySem.Around.in1_units
def gI:=@List.drop_length
def gJ:=@List.take_length
def gK:=@List.mem_filter
def gL:=@PySem.codeAny_mono
def gM:=@List.of_mem_zip
def gN:=@PySem.seqIndex_neg
def gO:=@Nat.add_comm
def gP:=@PySem.typeIs_str
def gQ:=@Bool.and_false
def gR:=@PySem.seqIndex_of
def gS:=@decide_true
def gT:=@Nat.one_mul
open PySem PySem.Spec
namespace L2
open PyProof.Rows
abbrev Key:=Sum Int Str
def af3:Key->Value->Bool
 |.inl k,v=>Value.isInt k v
 |.inr x,v=>Value.isStrOf x v
def b12(w:World):Key->Int
 |.inl k=>hashInt k
 |.inr x=>hashStr w x
theorem uh:∀{k:Key} {v:Value},af3 k v=true->(∃i t,k=Sum.inl i/\v=Value.int i t)\/(∃x t,k=Sum.inr x/\v=Value.str x t)
 |.inl i,v,h=>by
  obtain⟨t,e⟩:=Value.isInt_shape (k:=i) (v:=v) h;exact .inl ⟨i,t,rfl,e⟩
 |.inr x,v,h=>by
  obtain⟨t,e⟩:=Value.isStrOf_shape (x:=x) (v:=v) h;exact .inr ⟨x,t,rfl,e⟩
theorem agc(i:Int)(t:Tok):af3 (.inl i) (.int i t)=true:=by simp[af3,Value.isInt]
theorem agd(x:Str)(t:Tok):af3 (.inr x) (.str x t)=true:=by simp[af3,Value.isStrOf]
theorem ash(a b:Int):decide ((Sum.inl a:Key)=Sum.inl b)=(a == b):=by
 by_cases e:a=b
 ·subst e;simp
 ·have h:¬ (Sum.inl a:Key)=Sum.inl b:=λq=>e (Sum.inl.inj q);rw[bL h];exact(cn.mpr e).symm
theorem asi(a b:Str):decide ((Sum.inr a:Key)=Sum.inr b)=decide (a=b):=by
 by_cases e:a=b
 ·subst e;simp
 ·have h:¬ (Sum.inr a:Key)=Sum.inr b:=λq=>e (Sum.inr.inj q);rw[bL h,bL e]
theorem asj(a:Int)(b:Str):decide ((Sum.inl a:Key)=Sum.inr b)=false:=bL (λq=>nomatch q)
theorem asl(a:Str)(b:Int):decide ((Sum.inr a:Key)=Sum.inl b)=false:=bL (λq=>nomatch q)
def v4(prog:Program)(w:World):PySem.KeyKind prog w Key where
 is:=af3
 hash:=b12 w
 inj:=λv a b ha hb=>by
  rcases uh ha with⟨i,t,rfl,rfl⟩|⟨x,t,rfl,rfl⟩
  ·rcases uh hb with⟨j,u,rfl,e⟩|⟨y,u,rfl,e⟩
   ·injection e with e1 _;rw[e1]
   ·exact nomatch e
  ·rcases uh hb with⟨j,u,rfl,e⟩|⟨y,u,rfl,e⟩
   ·exact nomatch e
   ·injection e with e1 _;rw[e1]
 byValue:=λk v h=>by
  rcases uh h with⟨i,t,rfl,rfl⟩|⟨x,t,rfl,rfl⟩<;>rfl
 pyHash:=λhv h=>by
  rcases uh hv with⟨i,t,rfl,rfl⟩|⟨x,t,rfl,rfl⟩
  ·exact wpAny_pyHash_int h
  ·exact wpAny_pyHash_str h
 eqBool:=λhu hv h=>by
  rcases uh hu with⟨i,t,rfl,rfl⟩|⟨x,t,rfl,rfl⟩
  ·rcases uh hv with⟨j,u,rfl,rfl⟩|⟨y,u,rfl,rfl⟩
   ·rw[ash]at h;exact wpAny_eqBool_int h
   ·rw[asj]at h;exact SeqAt.EqAt.int_str i t y u _ _ _ _ h
  ·rcases uh hv with⟨j,u,rfl,rfl⟩|⟨y,u,rfl,rfl⟩
   ·rw[asl]at h;exact SeqAt.EqAt.str_int x t j u _ _ _ _ h
   ·rw[asi]at h;exact wpAny_eqBool_str h
 «strs»:=λk x t v h=>by
  rcases uh h with⟨i,u,rfl,e⟩|⟨y,u,rfl,e⟩
  ·exact nomatch e
  ·injection e with e1 _
   subst e1
   cases v<;>rfl
theorem acn(prog:Program)(w:World)(i:Int)(t:Tok):(v4 prog w).is (.inl i) (.int i t)=true:=agc i t
theorem aco(prog:Program)(w:World)(x:Str)(t:Tok):(v4 prog w).is (.inr x) (.str x t)=true:=agd x t
inductive V where
 |non|bl (b:Bool)|int (i:Int)|str (x:Str)|byt (b:Array UInt8)|flt (b:UInt64)|ref (a:Addr)|ty (n:String)
 deriving DecidableEq
def RelV:V->Value->Prop
 |.non,u=>u=Value.none
 |.bl b,u=>u=Value.bool b
 |.int i,u=>∃t,u=Value.int i t
 |.str x,u=>∃t,u=Value.str x t
 |.byt b,u=>∃t,u=Value.bytes b t
 |.flt b,u=>∃t,u=Value.float b t
 |.ref a,u=>u=Value.ref a
 |.ty n,u=>u=Value.type n
abbrev Vals:List V->List Value->Prop:=Paired RelV
theorem Vals.length(r:Vals xs us):xs.length=us.length:=gA r
theorem Vals.get:∀{xs:List V} {us:List Value} {i:Nat} {x:V},Vals xs us->xs[i]? = some x->∃u,us[i]? = some u/\RelV x u
 |_,_,_,_,.nil,e=>by simp at e
 |_,_,0,_,.cons r _,e=>by simp at e;subst e;exact⟨_,rfl,r⟩
 |_,_,i+1,x,.cons _ t,e=>by
  obtain⟨u,h1,h2⟩:=Vals.get (i:=i) (x:=x) t (by simpa using e)
  exact⟨u,by simpa using h1,h2⟩
theorem Vals.set(r:RelV x u):∀{xs:List V} {us:List Value} (i:Nat),Vals xs us->Vals (xs.set i x) (us.set i u)
 |_,_,_,.nil=>.nil
 |_,_,0,.cons _ t=>.cons r t
 |_,_,i+1,.cons q t=>.cons q (Vals.set r i t)
theorem Vals.append:∀{xs ys:List V} {us ws:List Value},Vals xs us->Vals ys ws->Vals (xs++ys) (us++ws)
 |_,_,_,_,.nil,s=>s
 |_,_,_,_,.cons r t,s=>.cons r (Vals.append t s)
theorem Vals.take:∀{xs:List V} {us:List Value} (n:Nat),Vals xs us->Vals (xs.take n) (us.take n)
 |_,_,0,_=>.nil
 |_,_,_+1,.nil=>.nil
 |_,_,n+1,.cons r t=>.cons r (Vals.take n t)
theorem Vals.drop:∀{xs:List V} {us:List Value} (n:Nat),Vals xs us->Vals (xs.drop n) (us.drop n)
 |_,_,0,r=>r
 |_,_,_+1,.nil=>.nil
 |_,_,n+1,.cons _ t=>Vals.drop n t
def RelO:Option V->Option Value->Prop
 |some v,some u=>RelV v u
 |none,none=>True
 |_,_=>False
def KV{κ:Type}:List (κ×V)->List (κ×Value)->Prop:=Paired λ(p:κ×V) (q:κ×Value)=>p.1=q.1/\RelV p.2 q.2
def kV:Key->V
 |.inl i=>.int i
 |.inr x=>.str x
inductive HO where
 |lst (xs:List V)
 |tup (xs:List V)
 |dK (kvs:List (Key×V))|dT (kvs:List (List Key×V))
 |set (S:Int->Bool) (n:Nat)
 |ins (C dx:Addr) (fs:List (Str×V))
 |own (x:Addr)
 |xd (fs:List (Str×V))
 |met (f x:Addr)
 |rng (lo hi:Int)
 |frz (o:Obj) (u:HO)
 |tbl (ps:Array Value)
 |ext (φ:Heap->Prop)
abbrev Hp:=Addr->Option HO
def upd(H:Hp)(a:Addr)(o:HO):Hp:=λb=>if b=a then some o else H b
theorem ph:upd H a o a=some o:=by unfold upd;rw[aT rfl]
theorem jg(h:b≠a):upd H a o b=H b:=by unfold upd;rw[bA h]
theorem axv{H:Hp}{a b:Addr}{o u:HO}(h:H a=some o)(h':H b=some u)(d:o≠u):a≠b:=by
 intro e;subst e;rw[h]at h';exact d (bQ h')
theorem jr{H:Hp}{a b:Addr}{o:HO}(h:H a=some o)(h':H b=none):a≠b:=by
 intro e;subst e;rw[h]at h';cases h'
section
variable(P:Program)(w:World)
def ObjOk(H:Hp)(h:Heap)(a:Addr):HO->Prop
 |.lst xs=>xs.length<=sizeLine/\∃(its:List Value) (n:Nat),Vals xs its/\h.get? a=some {cls:=.type "list",data:=.seq its.toArray n}
 |.tup xs=>xs.length<=sizeLine/\∃its:List Value,Vals xs its/\IsTup h a its.toArray
 |.dK kvs=>kvs.length<=sizeLine/\(a == sysModules)=false/\∃vs,KV kvs vs/\h.DictOf (v4 P w) a vs
 | .dT kvs=>kvs.length<=sizeLine/\(a == sysModules)=false/\∃xs:List (List Key×Addr×Value),
   Paired (λ(p:List Key×V) (q:List Key×Addr×Value)=>p.1=q.1/\H q.2.1=some (.tup (p.1.map kV))/\RelV p.2 q.2.2) kvs xs /\
   ∃o es ep,h.get? a=some o/\o.ExactDict/\o.data=.dict es ep/\es.toList=xs.map (entryOfKey (tupleKind (v4 P w)))/\(xs.map (·.1)).Nodup
 |.set S n=>h.SetOf (intKind P w) a S n
 | .ins C dx fs=>H dx=some (.own a)/\fs.length<=1000/\dx≠a/\h.get? a=some (PySem.W.instObj C dx) /\
   ∃mA,h.Ns1 dx mA/\(∀f,RelO (fs.lookup f) (mA f))/\PySem.Within mA (fs.map (·.1))
 |.own _=>∃o,h.get? a=some o
 |.xd fs=>∃mA,h.Ns1 a mA/\∀f,RelO (fs.lookup f) (mA f)
 |.rng lo hi=>∃t u v,h.get? a=some {cls:=.type "range",data:=.fields #[.int lo t,.int hi u,.int 1 v]}
 |.frz o u=>h.get? a=some o/\ObjOk H h a u
 |.tbl ps=>h.get? a=some {cls:=.none,data:=.fields ps}
 |.met f x=>h.get? a=some (PySem.W.methodObj (.ref f) (.ref x))
 |.ext φ=>φ h/\(∃o,h.get? a=some o)/\∀h1 h2:Heap,φ h1->(∀o,h1.get? a=some o->h2.get? a=some o)->φ h2
def HOk(H:Hp)(h:Heap):Prop:=∀a o,H a=some o->ObjOk P w H h a o
end
section
variable{P:Program}{w:World}{H H':Hp}{h h':Heap}{a:Addr}{o:HO}
theorem ObjOk.lt(x:ObjOk P w H h a o):a<h.objs.size:=by
 cases o with
 |lst xs=>obtain⟨_,_,_,_,e⟩:=x;exact aX e
 |tup xs=>obtain⟨_,_,_,p⟩:=x;exact p.lt
 |dK kvs=>obtain⟨_,_,_,_,o,_,_,e,_⟩:=x;exact aX e
 |dT kvs=>obtain⟨_,_,_,_,o,_,_,e,_⟩:=x;exact aX e
 |set S n=>obtain⟨o,_,_,_,e,_⟩:=x;exact aX e
 |ins C dx fs=>obtain⟨_,_,_,e,_⟩:=x;exact aX e
 |own y=>obtain⟨_,e⟩:=x;exact aX e
 |xd fs=>obtain⟨_,⟨_,_,_,e,_⟩,_⟩:=x;exact aX e
 |rng lo hi=>obtain⟨_,_,_,e⟩:=x;exact aX e
 |frz ob u=>obtain⟨e,_⟩:=x;exact aX e
 |tbl ps=>exact aX (show h.get? a=some _ from x)
 |met f y=>exact aX (show h.get? a=some _ from x)
 |ext φ=>obtain⟨_,⟨_,e⟩,_⟩:=x;exact aX e
theorem Paired.mapP{α β:Type}{F G:α->β->Prop}:∀{l₁:List α} {l₂:List β},Paired F l₁ l₂->(∀a b,F a b->G a b)->Paired G l₁ l₂
 |_,_,.nil,_=>.nil
 |_,_,.cons r t,f=>.cons (f _ _ r) (Paired.mapP t f)
theorem ObjOk.stay(x:ObjOk P w H h a o)(k:∀b u,(b=a\/H b=some (.own a))->h.get? b=some u->h'.get? b=some u)
  (ho:∀b,H b=some (.own a)->H' b=some (.own a)) (ht:∀b xs,H b=some (.tup xs)->H' b=some (.tup xs)):ObjOk P w H' h' a o:=by
 induction o with
 |lst xs=>obtain⟨z,its,n,r,e⟩:=x;exact⟨z,its,n,r,k _ _ (.inl rfl) e⟩
 |tup xs=>obtain⟨z,its,r,ob,e,c⟩:=x;exact⟨z,its,r,ob,k _ _ (.inl rfl) e,c⟩
 |dK kvs=>obtain⟨z,y,vs,r,ob,es,ep,e,c⟩:=x;exact⟨z,y,vs,r,ob,es,ep,k _ _ (.inl rfl) e,c⟩
 |dT kvs =>
  obtain⟨z,y,xs,r,ob,es,ep,e,c⟩:=x;exact⟨z,y,xs,Paired.mapP r λp q z=>⟨z.1,ht _ _ z.2.1,z.2.2⟩,ob,es,ep,k _ _ (.inl rfl) e,c⟩
 |set S n=>obtain⟨ob,es,ep,t,e,c⟩:=x;exact⟨ob,es,ep,t,k _ _ (.inl rfl) e,c⟩
 |ins C dx fs =>
  obtain⟨d,z,ne,e,mA,⟨od,es,ep,e2,c⟩,r⟩:=x;exact⟨ho _ d,z,ne,k _ _ (.inl rfl) e,mA,⟨od,es,ep,k _ _ (.inr d) e2,c⟩,r⟩
 |own y=>obtain⟨ob,e⟩:=x;exact⟨ob,k _ _ (.inl rfl) e⟩
 |xd fs=>obtain⟨mA,⟨od,es,ep,e,c⟩,r⟩:=x;exact⟨mA,⟨od,es,ep,k _ _ (.inl rfl) e,c⟩,r⟩
 |rng lo hi=>obtain⟨t,u,v,e⟩:=x;exact⟨t,u,v,k _ _ (.inl rfl) e⟩
 |frz ob u ih=>obtain⟨e,q⟩:=x;exact⟨k _ _ (.inl rfl) e,ih q⟩
 |tbl ps =>
  have e:h.get? a=some {cls:=.none,data:=.fields ps}:=x;show h'.get? a=some {cls:=.none,data:=.fields ps};exact k a _ (.inl rfl) e
 |met f y =>
  have e:h.get? a=some (PySem.W.methodObj (.ref f) (.ref y)):=x;show h'.get? a=some (PySem.W.methodObj (.ref f) (.ref y));exact k a _ (.inl rfl) e
 |ext φ=>obtain⟨p,⟨o,e⟩,st⟩:=x;exact⟨st _ _ p λo q=>k _ _ (.inl rfl) q,⟨o,k _ _ (.inl rfl) e⟩,st⟩
theorem HOk.lt(x:HOk P w H h)(e:H a=some o):a<h.objs.size:=(x a o e).lt
theorem HOk.fresh(x:HOk P w H h)(e:h.objs.size<=a):H a=none:=by
 cases q:H a with
 |none=>rfl
 |some u=>exact absurd (bq (x.lt q) e) (cJ _)
theorem HOk.kept(x:HOk P w H h)(k:∀b u,h.get? b=some u->h'.get? b=some u):HOk P w H h':=λa o e =>
 (x a o e).stay (λb u _ q=>k b u q) (λ_ q=>q) λ_ _ q=>q
theorem HOk.laid(x:HOk P w H h)(k:∀b u,h.get? b=some u->h'.get? b=some u)(hp:h.objs.size<=a)(new:ObjOk P w (upd H a o) h' a o):HOk P w (upd H a o) h':=λb u e=>by
 have hn:=x.fresh hp
 by_cases hb:b=a
 ·subst hb;rw[ph]at e;cases e;exact new
 ·rw[jg hb]at e;exact(x b u e).stay (λc v _ q=>k c v q) (λc q=>by rw[jg (jr q hn)];exact q) λc xs q=>by rw[jg (jr q hn)];exact q
end
def Rd(H:Hp)(a:Addr)(u:HO):Prop:=H a=some u\/∃o,H a=some (.frz o u)
theorem Rd.of(h:H a=some u):Rd H a u:=.inl h
theorem Rd.ok(r:Rd H a u)(x:HOk P w H h):ObjOk P w H h a u:=by
 rcases r with r|⟨o,r⟩
 ·exact x a u r
 ·obtain⟨_,q⟩:=x a _ r;exact q
def Mut:Option HO->Prop
 |some (.lst _)=>True
 |some (.dK _)=>True
 |some (.dT _)=>True
 |some (.set _ _)=>True
 |some (.ins _ _ _)=>True
 |some (.ext _)=>True
 |_=>False
section
variable{P:Program}{w:World}{H:Hp}{h h':Heap}{x e:Addr}{o':HO}
theorem HOk.write(ok:HOk P w H h)(mu:Mut (H x))(he:e=x\/H e=some (.own x))(k:∀b u,b≠e->h.get? b=some u->h'.get? b=some u)(heo:∃u,h'.get? e=some u)
  (new:ObjOk P w (upd H x o') h' x o'):HOk P w (upd H x o') h':=λb u q=>by
 have nown:∀c y,H c=some (.own y)->c≠x:=λc y r z=>by subst z;rw[r]at mu;exact mu
 have ntup:∀c xs,H c=some (.tup xs)->c≠x:=λc xs r z=>by subst z;rw[r]at mu;exact mu
 by_cases hb:b=x
 ·subst hb;rw[ph]at q;cases q;exact new
 ·rw[jg hb]at q
  by_cases hbe:b=e
  ·have q':H b=some (.own x):=by
    rcases he with z|z
    ·exact absurd (hbe.trans z) hb
    ·rw[hbe];exact z
   rw[q]at q';cases q'
   obtain⟨v,hv⟩:=heo;exact⟨v,by rw[hbe];exact hv⟩
  ·refine(ok b u q).stay (λc v hc r=>k c v ?_ r) (λc r=>by rw[jg (nown c b r)];exact r) λc xs r=>by rw[jg (ntup c xs r)];exact r
   rcases hc with rfl|hc
   ·exact hbe
   ·rintro rfl
    rcases he with z|z
    ·exact nown c b hc z
    ·rw[hc]at z;cases z;exact hb rfl
end
structure Un (fs ex:List Addr) (H H':Hp) (h h':Heap):Prop where
 keep:∀b o,h.get? b=some o->H b=none->b∉fs->b∉ex->h'.get? b=some o
 slot:∀b o,h.get? b=some o->H b=none->b∈fs->b∉ex->∃sl,h'.get? b=some {o with slots:=sl}
 free:∀b o,h.get? b=some o->H b=none->b∉ex->H' b=none
 there:∀b o,h.get? b=some o->b∉ex->∃o',h'.get? b=some o'
 tups:∀b xs,H b=some (.tup xs)->H' b=some (.tup xs)
 frzs:∀b o u,H b=some (.frz o u)->H' b=some (.frz o u)
 tbls:∀b ps,H b=some (.tbl ps)->∃more,H' b=some (.tbl (ps++more))
section
variable{fs fs' ex ex':List Addr}{H H1 H2:Hp}{h h1 h2 h':Heap}{a x e:Addr}{o:HO}
theorem Un.any(u:Un fs ex H H1 h h1)(q:h.get? b=some ob)(n:H b=none)(hx:b∉ex):∃sl,h1.get? b=some {ob with slots:=sl}:=by
 by_cases hb:b∈fs
 ·exact u.slot b ob q n hb hx
 ·exact⟨ob.slots,u.keep b ob q n hb hx⟩
theorem Un.kept(k:∀b u,h.get? b=some u->h'.get? b=some u):Un fs ex H H h h' :=
 ⟨λb ob q _ _ _=>k b ob q,λb ob q _ _ _=>⟨ob.slots,k b ob q⟩,λ_ _ _ n _=>n,λb ob q _=>⟨ob,k b ob q⟩,λ_ _ q=>q,λ_ _ _ q=>q,λ_ ps q=>⟨#[],by rw[q];simp⟩⟩
theorem Un.refl:Un fs ex H H h h:=Un.kept λ_ _ q=>q
theorem Un.laid(k:∀b u,h.get? b=some u->h'.get? b=some u)(hp:h.objs.size<=a)(hn:H a=none):Un fs ex H (upd H a o) h h' where
 keep:=λb u q _ _ _=>k b u q
 slot:=λb u q _ _ _=>⟨u.slots,k b u q⟩
 free:=λb u q n _=>by rw[jg (bN (bq (aX q) hp))];exact n
 there:=λb u q _=>⟨u,k b u q⟩
 tups:=λb xs q=>by rw[jg (jr q hn)];exact q
 frzs:=λb u xs q=>by rw[jg (jr q hn)];exact q
 tbls:=λb ps q=>⟨#[],by rw[jg (jr q hn),q];simp⟩
theorem Un.write(mu:Mut (H x))(he:e=x\/H e=some (.own x))(k:∀b u,b≠e->h.get? b=some u->h'.get? b=some u)(heo:∃u,h'.get? e=some u):Un fs ex H (upd H x o) h h':=by
 have hx:∀b,H b=none->b≠x:=λb n z=>by subst z;rw[n]at mu;exact mu
 have hb:∀b,H b=none->b≠e:=λb n z=>by
  subst z
  rcases he with r|r
  ·exact hx b n r
  ·rw[n]at r;cases r
 have hm:∀b u,H b=some u->¬ Mut (some u)->b≠x:=λb u q nm z=>by subst z;rw[q]at mu;exact nm mu
 refine⟨λb u q n _ _=>k b u (hb b n) q,λb u q n _ _=>⟨u.slots,k b u (hb b n) q⟩,λb u q n _=>by rw[jg (hx b n)];exact n,λb u q _=>?_,
  λb xs q=>by rw[jg (hm b _ q λz=>z)];exact q,λb u xs q=>by rw[jg (hm b _ q λz=>z)];exact q,λb ps q=>⟨#[],by rw[jg (hm b _ q λz=>z),q];simp⟩⟩
 by_cases hbe:b=e
 ·subst hbe;exact heo
 ·exact⟨u,k b u hbe q⟩
end
def trk(h:Heap)(H:Hp):List Addr:=(List.range h.objs.size).filter λa=>(H a).isSome
def ak6(h:Heap)(H:Hp):Heap:=PySem.W.hideAll h (trk h H)
theorem age(h:Heap)(H:Hp):(ak6 h H).objs.size=h.objs.size:=PySem.W.hideAll_size _ _
theorem ak7{h:Heap}(e:h.get? b=some o)(n:H b=none):(ak6 h H).get? b=some o :=
 PySem.W.hideAll_get _ e λhm=>by
  have q:(H b).isSome=true:=(gK.mp hm).2;rw[n]at q;simp at q
theorem ao8(e:(ak6 h H).get? b=some o):h.get? b=some o/\H b=none:=by
 have e':h.get? b=some o:=PySem.W.of_hideAll (trk h H) e;refine⟨e',?_⟩
 cases q:H b with
 |none=>rfl
 |some x =>
  have hm:b∈trk h H:=gK.mpr ⟨bR.mpr (aX e'),by simp[q]⟩
  have z:(ak6 h H).get? b=none:=PySem.W.hideAll_none (trk h H) hm;rw[z]at e;cases e
def ao9(g h:Heap)(L:Addr):List (Addr×Obj):=(List.range h.objs.size).filterMap λa=>if a=L\/(g.get? a).isSome=true then none else (h.get? a).map λo=>(a,o)
def aG(g h:Heap)(L d:Addr):List (Addr×Obj):=(ao9 g h L).filter λp=>decide (p.1≠d)
structure Mod (K:Fg) (mg:Str->Option Value) (base:Heap):Prop where
 kin:K.In base
 glob:base.Ns mainGlobals mg
 blt:∃mb,base.Ns builtinsNs mb/\∀x:Str,x ≠ "__name__"->mb x=bootBuiltins x
 nolimit:base.NoLimit
structure Cx where
 prog:Program
 w:World
 K:Fg
 mg:Str->Option Value
 base:Heap
 A:Around
 N:List Str
 s₀:Shared
 H₀:Hp
 env:Env
 outer:List Env
 stack:List Env
 ex:List Addr
 fn:Str->Bool
 calm:Bool
 pn:List (Addr×Obj)
 xe:Value->Shared->Prop
def frs(l:List Env):List Addr:=l.filterMap (·.frame)
abbrev Cx.fs(X:Cx):List Addr:=frs X.outer
def Vis(sc:Scope)(x:Str):Prop:=sc.names.lookup x=some .local\/sc.names.lookup x=some .cell\/sc.names.lookup x=some .free
def Loc(sc:Scope)(x:Str):Prop:=sc.names.lookup x=some .local\/sc.names.lookup x=some .cell
def Look(env:Env)(h:Heap)(m:Str->Option Value)(x:Str)(u:Value):Prop :=
 (env.kindOf x=some .local/\m x=some u)\/((env.kindOf x=some .cell\/env.kindOf x=some .free)/\∃c,env.cells.lookup x=some c/\h.IsCell c (some u))
structure Cx.Ok (X:Cx):Prop where
 mod:Mod X.K X.mg X.base
 kind:X.env.scope.kind=.function
 glob:X.env.globals=mainGlobals
 blt:X.env.builtins=builtinsNs
 above:X.s₀.heap.objs.size<=X.env.locals
 inj:∀x y c,X.env.cells.lookup x=some c->X.env.cells.lookup y=some c->x=y
 has:∀x,(X.env.kindOf x=some .cell\/X.env.kindOf x=some .free)->∃c,X.env.cells.lookup x=some c
 cab:∀x c,X.fn x=true->X.env.cells.lookup x=some c->X.s₀.heap.objs.size<=c
 hd:X.calm=true->X.A.handled=none
 frames:X.A.frames=some X.stack
 stk:X.stack=X.outer\/(X.stack=X.env::X.outer/\X.env.frame=some X.env.locals)
 exf:∀b∈X.ex,b≠X.env.locals/\∀x c,X.env.cells.lookup x=some c->c≠b
 bs:∀b o,X.base.get? b=some o->X.s₀.heap.get? b=some o/\X.H₀ b=none
 bsz:X.base.objs.size<=X.s₀.heap.objs.size
 noex:∀b o,X.base.get? b=some o->b∉X.ex
 exfs:∀b∈X.ex,b∉X.fs
 funs:X.s₀.heap.FunFrames X.base X.outer
 frf:∀b∈X.fs,X.H₀ b=none
structure Inv (X:Cx) (aA:List (Addr×Obj)) (σ:List (Option V)) (H:Hp) (s:Shared):Prop where
 ok:X.Ok
 os:s.os=X.s₀.os
 bare:AllBare s.gens
 base:Un X.fs X.ex X.H₀ H X.s₀.heap s.heap
 loc:∃m,s.heap.Ns X.env.locals m/\∀(i:Nat) (x:Str) (v:V),X.N[i]? = some x->σ[i]? = some (some v)->Vis X.env.scope x->∃u,RelV v u/\Look X.env s.heap m x u
 cell:∀x c,X.env.cells.lookup x=some c->∃v,s.heap.IsCell c v
 free:H X.env.locals=none
 freeC:∀x c,X.env.cells.lookup x=some c->H c=none
 pin:∀p∈X.pn++aA,s.heap.get? p.1=some p.2/\H p.1=none/\p.1≠X.env.locals/\p.1∉X.fs/\∀v,p.2.data≠.cell v
 hok:HOk X.prog X.w H s.heap
 len:σ.length=X.N.length
section
variable{X:Cx}{aA:List (Addr×Obj)}{σ:List (Option V)}{H H':Hp}{s:Shared}{h':Heap}
theorem Cx.Ok.nofr(ok:X.Ok)(e:X.base.get? b=some o):b∉X.fs:=λhb=>by
 have:=(ok.funs.mem hb).1
 rw[e]at this;cases this
theorem Inv.bs(I:Inv X aA σ H s):∀b o,X.base.get? b=some o->s.heap.get? b=some o/\H b=none:=λb o e =>
 ⟨I.base.keep b o (I.ok.bs b o e).1 (I.ok.bs b o e).2 (I.ok.nofr e) (I.ok.noex b o e),I.base.free b o (I.ok.bs b o e).1 (I.ok.bs b o e).2 (I.ok.noex b o e)⟩
theorem Inv.bk(I:Inv X aA σ H s):∀b o,X.base.get? b=some o->s.heap.get? b=some o:=λb o e=>(I.bs b o e).1
theorem Inv.mod(I:Inv X aA σ H s):Mod X.K X.mg X.base:=I.ok.mod
theorem Inv.kIn(I:Inv X aA σ H s):X.K.In s.heap:=I.ok.mod.kin.keeps I.bk
theorem Inv.fr(I:Inv X aA σ H s):∃m,Fr X.base X.env.locals s.heap m :=
 let ⟨m,hn,_⟩:=I.loc
 ⟨m,hn,I.bk,cA I.ok.bsz I.ok.above⟩
theorem Inv.lt(I:Inv X aA σ H s):X.env.locals<s.heap.objs.size:=let ⟨_,hn,_⟩:=I.loc;hn.lt
theorem Inv.sz(I:Inv X aA σ H s):X.s₀.heap.objs.size<=s.heap.objs.size:=cA I.ok.above (eK I.lt)
theorem Inv.nofs(I:Inv X aA σ H s)(h:s.heap.objs.size<=a):a∉X.fs:=λhb=>by
 obtain⟨_,o,ho,_⟩:=I.ok.funs.mem hb;exact absurd (bq (aX ho) (cA I.sz h)) (cJ _)
theorem Inv.cne(I:Inv X aA σ H s):∀x c,X.env.cells.lookup x=some c->c≠X.env.locals:=λx c e z=>by
 obtain⟨v,o,ho,hd⟩:=I.cell x c e;obtain⟨m,⟨o',es,ep,ho',hd',_⟩,_⟩:=I.loc;rw[z,ho']at ho;cases ho;rw[hd']at hd;cases hd
theorem Inv.funs(I:Inv X aA σ H s):s.heap.FunFrames X.base X.outer:=by
 have all:∀(l:List Env),(∀b∈frs l,b∈X.fs)->X.s₀.heap.FunFrames X.base l->s.heap.FunFrames X.base l:=by
  intro l
  induction l with
  |nil=>intro _ _;trivial
  |cons env r ih =>
   intro hs hl
   obtain⟨hk,⟨L,o,hf,hn,ho,hd⟩,hr⟩:=hl;have hL:L∈X.fs:=hs L (by unfold frs;rw[fN,hf];exact bt)
   obtain⟨sl,e⟩:=I.base.slot L o ho (I.ok.frf L hL) hL λz=>I.ok.exfs L z hL;exact⟨hk,⟨L,_,hf,hn,e,hd⟩,ih (λb hb=>hs b (by unfold frs;rw[fN,hf];exact ba _ hb)) hr⟩
 exact all X.outer (λ_ hb=>hb) I.ok.funs
theorem Inv.stack(I:Inv X aA σ H s):s.heap.FunFrames X.base X.stack:=by
 rcases I.ok.stk with e|⟨e,hf⟩
 ·rw[e];exact I.funs
 ·rw[e];obtain⟨m,hn,_⟩:=I.loc;refine .cons (by rw[I.ok.kind];decide) hf hn ?_ I.funs
  exact Heap.get?_none_of_le (cA I.ok.bsz I.ok.above)
theorem Inv.stkSub(I:Inv X aA σ H s):∀b∈frs X.stack,b∈X.env.locals::X.fs:=λb hb=>by
 rcases I.ok.stk with e|⟨e,hf⟩
 ·rw[e]at hb;exact ba _ hb
 ·rw[e]at hb;unfold frs at hb;rw[fN,hf]at hb;exact hb
theorem Inv.stkFree(I:Inv X aA σ H s):∀b∈frs X.stack,H b=none:=λb hb=>by
 rcases aR.mp (I.stkSub b hb) with e|hb
 ·rw[e];exact I.free
 ·obtain⟨_,o,ho,_⟩:=I.ok.funs.mem hb;exact I.base.free b o ho (I.ok.frf b hb) λz=>I.ok.exfs b z hb
theorem Inv.step{g':Array GenState}{t':Nat}{d':Drawn}{ch:List Addr}(I:Inv X aA σ H s)
  (hch:∀b∈ch,(b∈X.ex\/X.s₀.heap.objs.size<=b)/\b≠X.env.locals/\(∀x c,X.env.cells.lookup x=some c->c≠b)/\∀p∈X.pn++aA,p.1≠b)
  (keep:∀b o,b≠X.env.locals->b∉X.fs->b∉ch->s.heap.get? b=some o->H b=none->h'.get? b=some o)
  (slot:∀b o,b≠X.env.locals->b∈X.fs->b∉ch->s.heap.get? b=some o->H b=none->∃sl,h'.get? b=some {o with slots:=sl}) (free:∀b o,b∉ch->s.heap.get? b=some o->H b=none->H' b=none)
  (there:∀b o,b∉ch->s.heap.get? b=some o->∃o',h'.get? b=some o')
  (tups:∀b xs,H b=some (.tup xs)->H' b=some (.tup xs)) (frzs:∀b o u,H b=some (.frz o u)->H' b=some (.frz o u)) (tbls:∀b ps,H b=some (.tbl ps)->∃more,H' b=some (.tbl (ps++more)))
  (ns:∀m,s.heap.Ns X.env.locals m->h'.Ns X.env.locals m) (hok:HOk X.prog X.w H' h') (hg:AllBare g') :
  Inv X aA σ H' {s with heap:=h',gens:=g',drawn:=d',toks:=t' }:=by
 have neL:∀b o,X.s₀.heap.get? b=some o->b≠X.env.locals:=λb o e=>bN (bq (aX e) I.ok.above);have neC:∀b o,X.s₀.heap.get? b=some o->b∉X.ex->b∉ch:=λb o e hx hb=>by
  rcases(hch b hb).1 with z|z
  ·exact hx z
  ·exact absurd (bq (aX e) z) (cJ _)
 have cellK:∀x c,X.env.cells.lookup x=some c->∀v,s.heap.IsCell c v->h'.IsCell c v:=λx c e v ⟨o,ho,hd⟩=>by
  have nch:c∉ch:=λz=>(hch c z).2.2.1 x c e rfl
  by_cases hc:c∈X.fs
  ·obtain⟨sl,q⟩:=slot c o (I.cne x c e) hc nch ho (I.freeC x c e);exact⟨_,q,hd⟩
  ·exact⟨o,keep c o (I.cne x c e) hc nch ho (I.freeC x c e),hd⟩
 refine⟨I.ok,I.os,hg,⟨λb o e n hb hx=>?_,λb o e n hb hx=>?_,λb o e n hx=>?_,λb o e hx=>?_,λb xs e=>tups b xs (I.base.tups b xs e),λb o xs e=>frzs b o xs (I.base.frzs b o xs e),λb ps e=>?_⟩,?_,λx c e=>?_,?_,λx c e=>?_,λp hp=>?_,hok,I.len⟩
 ·exact keep b o (neL b o e) hb (neC b o e hx) (I.base.keep b o e n hb hx) (I.base.free b o e n hx)
 ·obtain⟨sl,e1⟩:=I.base.slot b o e n hb hx;obtain⟨sl',e2⟩:=slot b _ (neL b o e) hb (neC b o e hx) e1 (I.base.free b o e n hx);exact⟨sl',e2⟩
 ·obtain⟨o',e1⟩:=I.base.there b o e hx;exact free b o' (neC b o e hx) e1 (I.base.free b o e n hx)
 ·obtain⟨o',e1⟩:=I.base.there b o e hx;exact there b o' (neC b o e hx) e1
 ·obtain⟨m1,e1⟩:=I.base.tbls b ps e;obtain⟨m2,e2⟩:=tbls b _ e1;exact⟨m1++m2,by rw[e2,Array.append_assoc]⟩
 ·obtain⟨m,hn,hl⟩:=I.loc;refine⟨m,ns m hn,λi x v e1 e2 e3=>?_⟩;obtain⟨u,r,l⟩:=hl i x v e1 e2 e3;refine⟨u,r,?_⟩
  rcases l with l|⟨k,c,e,z⟩
  ·exact .inl l
  ·exact .inr ⟨k,c,e,cellK x c e _ z⟩
 ·obtain⟨v,z⟩:=I.cell x c e;exact⟨v,cellK x c e v z⟩
 ·obtain⟨m,⟨o,_,_,ho,_⟩,_⟩:=I.loc;exact free _ o (λz=>(hch _ z).2.1 rfl) ho I.free
 ·obtain⟨v,o,ho,hd⟩:=I.cell x c e;exact free c o (λz=>(hch c z).2.2.1 x c e rfl) ho (I.freeC x c e)
 ·obtain⟨e,n,ne,nf,d⟩:=I.pin p hp;have nch:p.1∉ch:=λz=>(hch p.1 z).2.2.2 p hp rfl;exact⟨keep p.1 p.2 ne nf nch e n,free p.1 p.2 nch e n,ne,nf,d⟩
theorem Inv.un{t':Nat}(I:Inv X aA σ H s)(u:Un X.fs [] H H' s.heap h')(hok:HOk X.prog X.w H' h'):Inv X aA σ H' {s with heap:=h',toks:=t' }:=by
 obtain⟨m,⟨o,es,ep,ho,r⟩,_⟩:=id I.loc;obtain⟨sl,hL⟩:=u.any ho I.free (by simp)
 exact I.step (g':=s.gens) (d':=s.drawn) (ch:=[]) (λ_ z=>nomatch z) (λb o _ hb _ e n=>u.keep b o e n hb (by simp)) (λb o _ hb _ e n=>u.slot b o e n hb (by simp)) (λb o _ e n=>u.free b o e n (by simp)) (λb o _ e=>u.there b o e (by simp)) u.tups u.frzs u.tbls (λm' hm=>by
  obtain⟨o',es',ep',ho',r'⟩:=hm;rw[ho]at ho';cases ho'
  exact⟨_,es',ep',hL,r'⟩) hok I.bare
theorem Inv.call{g':Array GenState}{t':Nat}{d':Drawn}{ch:List Addr}(I:Inv X aA σ H s)(u:Un (frs X.stack) ch H H' s.heap h')(hok:HOk X.prog X.w H' h')(hg:AllBare g')
  (hch:∀b∈ch,(b∈X.ex\/X.s₀.heap.objs.size<=b)/\b≠X.env.locals/\(∀x c,X.env.cells.lookup x=some c->c≠b)/\∀p∈X.pn++aA,p.1≠b) :
  Inv X aA σ H' {s with heap:=h',gens:=g',drawn:=d',toks:=t' }:=by
 obtain⟨m,⟨o,es,ep,ho,r⟩,_⟩:=id I.loc;obtain⟨sl,hL⟩:=u.any ho I.free λz=>(hch _ z).2.1 rfl;exact I.step (ch:=ch) hch (λb o hL hb hc e n=>u.keep b o e n (λz=>(aR.mp (I.stkSub b z)).elim hL hb) hc) (λb o _ _ hc e n=>u.any e n hc) (λb o hc e n=>u.free b o e n hc) (λb o hc e=>u.there b o e hc) u.tups u.frzs u.tbls (λm' hm=>by
  obtain⟨o',es',ep',ho',r'⟩:=hm;rw[ho]at ho';cases ho'
  exact⟨_,es',ep',hL,r'⟩) hok hg
theorem Inv.turned{t':Nat}{it:Addr}(I:Inv X aA σ H s)(k:∀b o,b≠it->s.heap.get? b=some o->h'.get? b=some o)(hn:H it=none)(hL:it≠X.env.locals)
  (h1:it∈X.ex\/X.s₀.heap.objs.size<=it) (h2:∀x c,X.env.cells.lookup x=some c->c≠it) (h3:∀p∈X.pn++aA,p.1≠it):Inv X aA σ H {s with heap:=h',toks:=t' }:=by
 have nit:∀b u,H b=some u->b≠it:=λb u e z=>by rw[z,hn]at e;cases e
 refine I.step (g':=s.gens) (d':=s.drawn) (ch:=[it]) (λb hb=>?_) (λb o _ _ hc e _=>k b o (λz=>hc (by simp[z])) e) (λb o _ _ hc e _=>⟨o.slots,k b o (λz=>hc (by simp[z])) e⟩) (λ_ _ _ _ n=>n)
  (λb o hc e=>⟨o,k b o (λz=>hc (by simp[z])) e⟩) (λ_ _ e=>e) (λ_ _ _ e=>e) (λb ps e=>⟨#[],by rw[e];simp⟩) (λm hm=>?_) (λb u e=>?_) I.bare
 ·have e:b=it:=by simpa using hb
  subst e;exact⟨h1,hL,h2,h3⟩
 ·obtain⟨o,es,ep,ho,r⟩:=hm;exact⟨o,es,ep,k _ o (dG hL) ho,r⟩
 ·refine(I.hok b u e).stay (λc v hc q=>k c v ?_ q) (λ_ q=>q) λ_ _ q=>q
  rcases hc with z|z
  ·rw[z];exact nit b u e
  ·exact nit c _ z
theorem Inv.tok(I:Inv X aA σ H s)(t:Nat):Inv X aA σ H {s with toks:=t}:=I.un (h':=s.heap) (t':=t) Un.refl I.hok
theorem Inv.kept(I:Inv X aA σ H s)(k:∀b u,s.heap.get? b=some u->h'.get? b=some u):Inv X aA σ H {s with heap:=h',toks:=t' }:=I.un (Un.kept k) (I.hok.kept k)
theorem Inv.laid(I:Inv X aA σ H s)(k:∀b u,s.heap.get? b=some u->h'.get? b=some u)(hp:s.heap.objs.size<=a)(new:ObjOk X.prog X.w (upd H a o) h' a o) :
  Inv X aA σ (upd H a o) {s with heap:=h',toks:=t' }:=I.un (Un.laid k hp (I.hok.fresh hp)) (I.hok.laid k hp new)
theorem Inv.write(I:Inv X aA σ H s)(mu:Mut (H x))(he:e=x\/H e=some (.own x))(k:∀b u,b≠e->s.heap.get? b=some u->h'.get? b=some u)(heo:∃u,h'.get? e=some u)
  (new:ObjOk X.prog X.w (upd H x o) h' x o):Inv X aA σ (upd H x o) {s with heap:=h',toks:=t' }:=I.un (Un.write mu he k heo) (I.hok.write mu he k heo new)
theorem Inv.weak{σ':List (Option V)}(I:Inv X aA σ H s)(hl:σ'.length=σ.length)(w:∀(i:Nat) v,σ'[i]? = some (some v)->σ[i]? = some (some v)):Inv X aA σ' H s :=
 ⟨I.ok,I.os,I.bare,I.base,let ⟨m,hn,hl'⟩:=I.loc; ⟨m,hn,λi x v e1 e2 e3=>hl' i x v e1 (w i v e2) e3⟩,I.cell,I.free,I.freeC,I.pin,I.hok,hl.trans I.len⟩
theorem Inv.pins_of(I:Inv X aA σ H s)(h:∀p∈pins',s.heap.get? p.1=some p.2/\H p.1=none/\p.1≠X.env.locals/\p.1∉X.fs/\∀v,p.2.data≠.cell v):Inv X pins' σ H s :=
 ⟨I.ok,I.os,I.bare,I.base,I.loc,I.cell,I.free,I.freeC,λp hp=>(aS.mp hp).elim (λz=>I.pin p (cq _ z)) (h p),I.hok,I.len⟩
theorem adn{N:List Str}(hN:N.Nodup){i j:Nat}(a:N[i]? = some x)(b:N[j]? = some x):i=j:=by
 obtain⟨h1,e1⟩:=ag.mp a;obtain⟨h2,e2⟩:=ag.mp b;exact(List.getElem_inj hN).mp (e1.trans e2.symm)
abbrev Hf(X:Cx)(x:Str):Prop:=X.fn x=true\/X.env.scope.names.lookup x=some .local
theorem aay{i:Nat}(I:Inv X aA σ H s)(hN:X.N.Nodup)(hi:X.N[i]? = some x)(hx:Loc X.env.scope x)(r:RelV v u)
  (h:∀s',Inv X aA (σ.set i (some v)) H s'->(∃a,Heap.SameBut a s.heap s'.heap/\(a=X.env.locals\/X.env.cells.lookup x=some a))->Q () s') (hf:Hf X x:=by first|exact .inl rfl|exact .inr rfl|assumption):wpAny M A (storeName X.env x u) Q E s:=by
 obtain⟨m,hn,hl⟩:=id I.loc;have hcls:(X.env.scope.kind == .class || (X.env.scope.kind == .module && X.env.locals != X.env.globals))=false:=by rw[I.ok.kind];rfl
 have hiσ:i<σ.length:=by rw[I.len];exact(ag.mp hi).1
 have cne:=I.cne;have tracked:∀{a:Addr} {h':Heap},(∃o,s.heap.get? a=some o/\H a=none)->Heap.SameBut a s.heap h'->HOk X.prog X.w H h':=λ{a h'} ha hs b ob e=>by
  obtain⟨_,_,hfree⟩:=ha;refine(I.hok b ob e).stay (λc w' hc q=>(hs.2 c ?_).trans q) (λ_ q=>q) λ_ _ q=>q
  rintro rfl
  rcases hc with rfl|hc
  ·rw[hfree]at e;cases e
  ·rw[hfree]at hc;cases hc
 rcases hx with hk|hk
 ·refine wpAny_storeName_local hk hn (λh' hn' hs=>?_) hcls;obtain⟨oL,_,_,hoL,_⟩:=id hn;refine h _ ⟨I.ok,I.os,I.bare,⟨λb o e n hb hx=>?_,λb o e n hb hx=>?_,I.base.free,λb o e hx=>?_,I.base.tups,I.base.frzs,I.base.tbls⟩,⟨_,hn',λj y v' e1 e2 e3=>?_⟩,λy c e=>?_,I.free,I.freeC,λp hp=>?_,tracked ⟨oL,hoL,I.free⟩ hs,by simpa using I.len⟩ ⟨_,hs,.inl rfl⟩
  ·exact(hs.2 b (bN (bq (aX e) I.ok.above))).trans (I.base.keep b o e n hb hx)
  ·obtain⟨sl,e1⟩:=I.base.slot b o e n hb hx;exact⟨sl,(hs.2 b (bN (bq (aX e) I.ok.above))).trans e1⟩
  ·obtain⟨o',e1⟩:=I.base.there b o e hx;exact⟨o',(hs.2 b (bN (bq (aX e) I.ok.above))).trans e1⟩
  ·by_cases hj:j=i
   ·subst hj;rw[hi]at e1;cases e1
    rw[bE hiσ]at e2;cases e2
    exact⟨u,r,.inl ⟨hk,by simp⟩⟩
   ·rw[cw (dG hj)]at e2;obtain⟨u',r',q⟩:=hl j y v' e1 e2 e3;refine⟨u',r',?_⟩
    rcases q with⟨k,e⟩|⟨k,c,e,z⟩
    ·refine .inl ⟨k,?_⟩;have:y≠x:=λe=>hj (adn hN e1 (e ▸ hi));simp[this,e]
    ·exact .inr ⟨k,c,e,z.sameBut hs (cne y c e)⟩
  ·obtain⟨w',z⟩:=I.cell y c e;exact⟨w',z.sameBut hs (cne y c e)⟩
  ·obtain⟨e,n,ne,nf,d⟩:=I.pin p hp;exact⟨(hs.2 p.1 ne).trans e,n,ne,nf,d⟩
 ·have hfn:X.fn x=true:=by
   rcases hf with z|z
   ·exact z
   ·rw[z]at hk;cases hk
  obtain⟨c,hc⟩:=I.ok.has x (.inl hk);obtain⟨w',z⟩:=I.cell x c hc;refine wpAny_storeName_cell I.ok.kind hk hc z (λh' hc' hs=>?_);obtain⟨oc,hoc,hocd⟩:=id z;refine h {s with heap:=h' } ⟨I.ok,I.os,I.bare,⟨λb o e n hb hx=>?_,λb o e n hb hx=>?_,I.base.free,λb o e hx=>?_,I.base.tups,I.base.frzs,I.base.tbls⟩,⟨m,hn.sameBut hs (dG (cne x c hc)),λj y v' e1 e2 e3=>?_⟩,λy c' e=>?_,I.free,I.freeC,λp hp=>?_,tracked ⟨oc,hoc,I.freeC x c hc⟩ hs,by simpa using I.len⟩ ⟨c,hs,.inr hc⟩
  ·exact(hs.2 b (bN (bq (aX e) (I.ok.cab x c hfn hc)))).trans (I.base.keep b o e n hb hx)
  ·obtain⟨sl,e1⟩:=I.base.slot b o e n hb hx;exact⟨sl,(hs.2 b (bN (bq (aX e) (I.ok.cab x c hfn hc)))).trans e1⟩
  ·obtain⟨o',e1⟩:=I.base.there b o e hx;exact⟨o',(hs.2 b (bN (bq (aX e) (I.ok.cab x c hfn hc)))).trans e1⟩
  ·by_cases hj:j=i
   ·subst hj;rw[hi]at e1;cases e1
    rw[bE hiσ]at e2;cases e2
    exact⟨u,r,.inr ⟨.inl hk,c,hc,hc'⟩⟩
   ·rw[cw (dG hj)]at e2;obtain⟨u',r',q⟩:=hl j y v' e1 e2 e3;refine⟨u',r',?_⟩
    rcases q with q|⟨k,c',e,z'⟩
    ·exact .inl q
    ·refine .inr ⟨k,c',e,z'.sameBut hs ?_⟩
     rintro rfl
     exact hj (adn hN e1 (I.ok.inj _ _ _ e hc ▸ hi))
  ·by_cases hcc:c'=c
   ·subst hcc;exact⟨_,hc'⟩
   ·obtain⟨w2,z2⟩:=I.cell y c' e;exact⟨w2,z2.sameBut hs hcc⟩
  ·obtain⟨e,n,ne,nf,d⟩:=I.pin p hp;refine⟨(hs.2 p.1 ?_).trans e,n,ne,nf,d⟩
   intro q
   rw[q,hoc]at e;have q':oc=p.2:=bQ e;exact d w' (by rw[<-q'];exact hocd)
theorem a9f(I:Inv X aA σ H s)(hN:X.N.Nodup)(hi:X.N[i]? = some x)(hx:Loc X.env.scope x)(r:RelV v u)
  (h:∀s',Inv X aA (σ.set i (some v)) H s'->Q () s') (hf:Hf X x:=by first|exact .inl rfl|exact .inr rfl|assumption):wpAny M A (storeName X.env x u) Q E s :=
 aay I hN hi hx r (λs' I' _=>h s' I') hf
end
abbrev XK:=Value->Option Addr->Hp->Prop
abbrev St:=List (Option V)
abbrev VK:=V->Hp->Prop
abbrev TE:=St->Hp->VK->Prop
abbrev TT:=St->Hp->(Bool->Hp->Prop)->Prop
abbrev TA:=St->Hp->(List V->Hp->Prop)->Prop
structure Ends where
 nx:St->Hp->Prop
 rt:VK
 bk:St->Hp->Prop:=λ_ _=>False
 ct:St->Hp->Prop:=λ_ _=>False
abbrev TS:=Ends->St->Hp->Prop
def EP(X:Cx)(aA:List (Addr×Obj))(σ:St)(Q:VK)(u:Value)(s':Shared):Prop:=∃v H',Inv X aA σ H' s'/\RelV v u/\Q v H'
def TP(X:Cx)(aA:List (Addr×Obj))(σ:St)(Q:Bool->Hp->Prop)(b:Bool)(s':Shared):Prop:=∃H',Inv X aA σ H' s'/\Q b H'
def AP(X:Cx)(aA:List (Addr×Obj))(σ:St)(Q:List V->Hp->Prop)(us:List Value)(s':Shared):Prop:=∃vs H',Inv X aA σ H' s'/\Vals vs us/\Q vs H'
def SP(X:Cx)(aA:List (Addr×Obj))(D:Ends)(f:Flow)(s':Shared):Prop :=
 match f with
 |.next=>∃σ' H',Inv X aA σ' H' s'/\D.nx σ' H'
 |.brk=>∃σ' H',Inv X aA σ' H' s'/\D.bk σ' H'
 |.cont=>∃σ' H',Inv X aA σ' H' s'/\D.ct σ' H'
 |.ret u=>∃v σ' H',Inv X aA σ' H' s'/\RelV v u/\D.rt v H'
def PE(X:Cx)(e:Expr)(t:TE):Prop :=
 ∀(aA:List (Addr×Obj)) (s:Shared) (σ:St) (H:Hp) (Q:VK),Inv X aA σ H s->t σ H Q->wpAny (model X.prog X.w) X.A (eval e X.env) (EP X aA σ Q) X.xe s
def PT(X:Cx)(e:Expr)(t:TT):Prop :=
 ∀(aA:List (Addr×Obj)) (s:Shared) (σ:St) (H:Hp) (Q:Bool->Hp->Prop),Inv X aA σ H s->t σ H Q->wpAny (model X.prog X.w) X.A (isTrue e X.env (eval e X.env)) (TP X aA σ Q) X.xe s
def PW(X:Cx)(e:Expr)(t:TT):Prop :=
 ∀(whole:Sem Value) (aA:List (Addr×Obj)) (s:Shared) (σ:St) (H:Hp) (Q:Bool->Hp->Prop),Inv X aA σ H s->t σ H Q->wpAny (model X.prog X.w) X.A (isTrue e X.env whole) (TP X aA σ Q) X.xe s
theorem PW.pt(h:PW X e t):PT X e t:=h _
def PA(X:Cx)(es:List Expr)(t:TA):Prop :=
 ∀(pos:Pos) (aA:List (Addr×Obj)) (s:Shared) (σ:St) (H:Hp) (Q:List V->Hp->Prop),Inv X aA σ H s->t σ H Q->wpAny (model X.prog X.w) X.A (spliced (backTo pos (starEach es X.env))) (AP X aA σ Q) X.xe s
def PS(X:Cx)(st:Stmt)(t:TS):Prop :=
 ∀(aA:List (Addr×Obj)) (s:Shared) (σ:St) (H:Hp) (D:Ends),Inv X aA σ H s->t D σ H->wpAny (model X.prog X.w) X.A (exec st X.env) (SP X aA D) X.xe s
def PSs(X:Cx)(st:List Stmt)(t:TS):Prop :=
 ∀(aA:List (Addr×Obj)) (s:Shared) (σ:St) (H:Hp) (D:Ends),Inv X aA σ H s->t D σ H->wpAny (model X.prog X.w) X.A (execs st X.env) (SP X aA D) X.xe s
theorem thn{α:Type}{t:Sem α}{Q Q':α->Shared->Prop}{M:Model}{A:Around}{E:Value->Shared->Prop}{s:Shared}(h:wpAny M A t Q E s)(hQ:∀a s,Q a s->Q' a s):wpAny M A t Q' E s:=dH h hQ λ_ _ x=>x
section
variable{X:Cx}
def b13(i:Nat):TE:=λσ H Q=>∃v,σ[i]? = some (some v)/\Q v H
def tC(v:V):TE:=λ_ H Q=>Q v H
theorem asm(hN:X.N[i]? = some x)(hv:Vis X.env.scope x)(hd:(x == ("__debug__" : Str))=false:=by decide)(hcd:(x == ("__classdict__" : Str))=false:=by decide):PE X (.Name x pos) (b13 i):=by
 intro aA s σ H Q I h
 obtain⟨v,e,h⟩:=h;obtain⟨m,hn,hl⟩:=I.loc;obtain⟨u,r,l⟩:=hl i x v hN e hv;have fin:EP X aA σ Q u s:=⟨v,H,I,r,h⟩
 rcases l with⟨hk,hm⟩|⟨hk,c,hc,hcell⟩
 ·exact wpAny_Name (wpAny_loadName_local I.ok.kind hk hn hm fin) hd
 ·rcases hk with hk|hk
  ·exact wpAny_Name (wpAny_loadName_cell I.ok.kind hk hc hcell fin) hd
  ·exact wpAny_Name (wpAny_loadName_free I.ok.kind hk hc hcell fin hcd) hd
theorem asn{i j pos}:PE X (.Constant (.int i) j pos) (tC (.int i)):=λ_ _ _ H _ I h=>wpAny_Constant_int ⟨.int i,H,I.tok _,⟨_,rfl⟩,h⟩
theorem axw{b j pos}:PE X (.Constant (.bool b) j pos) (tC (.bl b)):=λ_ _ _ H _ I h=>Constant_bool ⟨.bl b,H,I,rfl,h⟩
theorem aso{j pos}:PE X (.Constant .none j pos) (tC .non):=λ_ _ _ H _ I h=>Constant_none ⟨.non,H,I,rfl,h⟩
theorem asp{x j pos}:PE X (.Constant (.str x) j pos) (tC (.str x)):=λ_ _ _ H _ I h=>Calls.Constant_str ⟨.str x,H,I.tok _,⟨_,rfl⟩,h⟩
def Gl(X:Cx)(x:Str):Prop:=X.env.kindOf x=some .globalImplicit
theorem a9g(I:Inv X aA σ H s)(hg:Gl X x)(hm:X.mg x=some u)(h:Q u s)
  (hd:(x == ("__debug__" : Str))=false:=by decide):wpAny (model X.prog X.w) X.A (eval (.Name x pos) X.env) Q E s :=
 Calls.Name_function_global I.ok.kind hg (Calls.loadGlobal_global (by rw[I.ok.glob];exact I.mod.glob.keeps I.bk) hm h) hd
theorem a8t(I:Inv X aA σ H s)(hg:Gl X x)(hm:X.mg x=none)(hv:bootBuiltins x=some u)(h:Q u s)
  (hn:x ≠ "__name__":=by decide) (hd:(x == ("__debug__" : Str))=false:=by decide):wpAny (model X.prog X.w) X.A (eval (.Name x pos) X.env) Q E s:=by
 obtain⟨mb,h1,h2⟩:=I.mod.blt;exact Calls.Name_function_global I.ok.kind hg (Calls.loadGlobal_builtin (by rw[I.ok.glob];exact I.mod.glob.keeps I.bk) hm (by rw[I.ok.blt];exact h1.keeps I.bk) ((h2 x hn).trans hv) h) hd
theorem aoa(hg:Gl X x)(hm:X.mg x=some u)(r:RelV v u)(hd:(x == ("__debug__" : Str))=false:=by decide):PE X (.Name x pos) (tC v) :=
 λ_ _ _ H _ I h=>a9g I hg hm ⟨v,H,I,r,h⟩ hd
theorem aob(hg:Gl X x)(hm:X.mg x=none)(hv:bootBuiltins x=some u)(r:RelV v u)(hn:x ≠ "__name__":=by decide)(hd:(x == ("__debug__" : Str))=false:=by decide):PE X (.Name x pos) (tC v) :=
 λ_ _ _ H _ I h=>a8t I hg hm hv ⟨v,H,I,r,h⟩ hn hd
variable{a b:Expr}{ta tb:TE}{pos:Pos}
variable{tA tB':TT}{aG:List Expr}
def b14(t u:TT):TT:=λσ H Q=>t σ H λc H1=>if c=true then u σ H1 Q else Q false H1
def tOr(t u:TT):TT:=λσ H Q=>t σ H λc H1=>if c=true then Q true H1 else u σ H1 Q
def b15(t:TT):TT:=λσ H Q=>t σ H λc H1=>Q (!c) H1
theorem aoc(ha:PT X a tA):PW X (.BoolOp .And [a] pos) tA:=by
 intro wh aA s σ H Q I h
 refine isTrue_and (thn (ha aA s σ H Q I h) λc s1 e=>?_)
 cases c with
 |true=>exact isTrue_and_nil e
 |false=>exact e
theorem asq(ha:PT X a tA):PW X (.BoolOp .Or [a] pos) tA:=by
 intro wh aA s σ H Q I h
 refine isTrue_or (thn (ha aA s σ H Q I h) λc s1 e=>?_)
 cases c with
 |false=>exact isTrue_or_nil e
 |true=>exact e
theorem asr(ha:PT X a tA)(hb:PW X (.BoolOp .And (b::aG) pos) tB'):PW X (.BoolOp .And (a::b::aG) pos) (b14 tA tB'):=by
 intro wh aA s σ H Q I h
 refine isTrue_and (thn (ha aA s σ H _ I h) λc s1 ⟨H1,I1,q1⟩=>?_)
 cases c with
 |true=>exact hb wh aA s1 σ H1 Q I1 q1
 |false=>exact⟨H1,I1,q1⟩
theorem axx(ha:PT X a tA)(hb:PW X (.BoolOp .Or (b::aG) pos) tB'):PW X (.BoolOp .Or (a::b::aG) pos) (tOr tA tB'):=by
 intro wh aA s σ H Q I h
 refine isTrue_or (thn (ha aA s σ H _ I h) λc s1 ⟨H1,I1,q1⟩=>?_)
 cases c with
 |true=>exact⟨H1,I1,q1⟩
 |false=>exact hb wh aA s1 σ H1 Q I1 q1
theorem ass(ha:PT X a tA):PT X (.UnaryOp .Not a pos) (b15 tA):=by
 intro aA s σ H Q I h
 exact isTrue_not (ha aA s σ H (λc H1=>Q (!c) H1) I h)
def axy(ta tb:TE):TE:=λσ H Q=>ta σ H λx H1=>∃c,x=.bl c/\if c=true then tb σ H1 Q else Q (.bl false) H1
def axz(ta:TE):TE:=λσ H Q=>ta σ H λx H1=>∃c,x=.bl c/\Q (.bl (!c)) H1
theorem asu{op}(h:PE X a t):PE X (.BoolOp op [a] pos) t:=λaA s σ H Q I hw=>BoolOp_one (h aA s σ H Q I hw)
theorem asv(ha:PE X a ta)(hb:PE X (.BoolOp .And (b::aG) pos) tb):PE X (.BoolOp .And (a::b::aG) pos) (axy ta tb):=by
 intro aA s σ H Q I h
 refine BoolOp_and (thn (ha aA s σ H _ I h) λv s1 ⟨x,H1,I1,r1,q1⟩=>?_);obtain⟨c,rfl,q1⟩:=q1;cases r1
 refine eB ?_
 cases c with
 |true=>exact hb aA s1 σ H1 Q I1 q1
 |false=>exact⟨.bl false,H1,I1,rfl,q1⟩
theorem asw(ha:PE X a ta):PE X (.UnaryOp .Not a pos) (axz ta):=by
 intro aA s σ H Q I h
 refine UnaryOp_ (thn (ha aA s σ H _ I h) λv s1 ⟨x,H1,I1,r1,q1⟩=>?_);obtain⟨c,rfl,q1⟩:=q1;cases r1
 exact not_of (eB ⟨.bl (!c),H1,I1,rfl,q1⟩)
def tIf(t:TT)(ta tb:TE):TE:=λσ H Q=>t σ H λc H1=>if c=true then ta σ H1 Q else tb σ H1 Q
theorem ak8{c:Expr}(hc:PT X c tA)(ha:PE X a ta)(hb:PE X b tb):PE X (.IfExp c a b pos) (tIf tA ta tb):=by
 intro aA s σ H Q I h
 refine wpAny_IfExp (thn (hc aA s σ H _ I h) λd s1 ⟨H1,I1,q1⟩=>?_)
 cases d with
 |true=>exact ha aA s1 σ H1 Q I1 q1
 |false=>exact hb aA s1 σ H1 Q I1 q1
end
def SqL(K:Fg)(H:Hp)(a:Addr)(xs:List V):Prop :=
 Rd H a (.lst xs) \/
  ∃(o:Obj) (its:Array Value) (n:Nat),K.lookup a=some o/\o.cls=.type "list"/\o.dict=none/\o.data=.seq its n/\its.size<=sizeLine/\Vals xs its.toList
def SqT(K:Fg)(H:Hp)(a:Addr)(xs:List V):Prop :=
 Rd H a (.tup xs) \/
  ∃(o:Obj) (its:Array Value) (n:Nat),K.lookup a=some o/\o.cls=.type "tuple"/\o.data=.seq its n/\its.size<=sizeLine/\Vals xs its.toList
def b16:Value->Option V
 |.none=>some .non
 |.bool b=>some (.bl b)
 |.int i _=>some (.int i)
 |.str x _=>some (.str x)
 |.bytes b _=>some (.byt b)
 |.float b _=>some (.flt b)
 |.ref a=>some (.ref a)
 |.type n=>some (.ty n)
 |_=>none
theorem RelV.abs(r:RelV x u):b16 u=some x:=by
 cases x with
 |non=>cases r;rfl
 |bl _=>cases r;rfl
 |int _=>obtain⟨t,rfl⟩:=r;rfl
 |str _=>obtain⟨t,rfl⟩:=r;rfl
 |byt _=>obtain⟨t,rfl⟩:=r;rfl
 |flt _=>obtain⟨t,rfl⟩:=r;rfl
 |ref _=>cases r;rfl
 |ty _=>cases r;rfl
theorem RelV.inj(r:RelV x u)(q:RelV y u):x=y:=bQ (r.abs.symm.trans q.abs)
theorem Vals.inj:∀{xs ys:List V} {us:List Value},Vals xs us->Vals ys us->xs=ys
 |_,_,_,.nil,.nil=>rfl
 |_,_,_,.cons r t,.cons r' t'=>by rw[r.inj r',Vals.inj t t']
section
variable{X:Cx}{aA:List (Addr×Obj)}{σ:St}{H:Hp}{s:Shared}{a:Addr}{xs ys:List V}
theorem SqL.of{K:Fg}(h:H a=some (.lst xs)):SqL K H a xs:=.inl (.inl h)
theorem SqT.of{K:Fg}(h:H a=some (.tup xs)):SqT K H a xs:=.inl (.inl h)
theorem Inv.list(I:Inv X aA σ H s)(h:SqL X.K H a xs):∃its:List Value,Vals xs its/\PlainL s.heap a its.toArray/\xs.length<=sizeLine:=by
 rcases h with h|⟨o,its,n,hk,hc,hd,hs,hz,r⟩
 ·obtain⟨z,its,n,r,e⟩:=h.ok I.hok;exact⟨its,r,⟨_,n,e,rfl,rfl,rfl⟩,z⟩
 ·refine⟨its.toList,r,⟨o,n,I.kIn a o hk,hc,hd,by simpa using hs⟩,?_⟩
  have e:=r.length;simp only[dR]at e;omega
theorem Inv.tuple(I:Inv X aA σ H s)(h:SqT X.K H a xs):∃its:List Value,Vals xs its/\IsTup s.heap a its.toArray/\xs.length<=sizeLine:=by
 rcases h with h|⟨o,its,n,hk,hc,hs,hz,r⟩
 ·obtain⟨z,its,r,p⟩:=h.ok I.hok;exact⟨its,r,p,z⟩
 ·refine⟨its.toList,r,⟨o,I.kIn a o hk,hc,n,by simpa using hs⟩,?_⟩
  have e:=r.length;simp only[dR]at e;omega
theorem Inv.list_inj(I:Inv X aA σ H s)(h:SqL X.K H a xs)(h':SqL X.K H a ys):xs=ys:=by
 obtain⟨its,r,⟨o,n,e,_,_,d⟩,_⟩:=I.list h;obtain⟨its',r',⟨o',n',e',_,_,d'⟩,_⟩:=I.list h';rw[e]at e';cases e'
 rw[d]at d'
 injection d' with d1 _
 have:its=its':=by simpa using aP Array.toList d1
 subst this;exact r.inj r'
theorem Inv.tuple_inj(I:Inv X aA σ H s)(h:SqT X.K H a xs)(h':SqT X.K H a ys):xs=ys:=by
 obtain⟨its,r,⟨o,e,_,n,d⟩,_⟩:=I.tuple h;obtain⟨its',r',⟨o',e',_,n',d'⟩,_⟩:=I.tuple h';rw[e]at e';cases e'
 rw[d]at d'
 injection d' with d1 _
 have:its=its':=by simpa using aP Array.toList d1
 subst this;exact r.inj r'
end
abbrev Cx.wish(X:Cx)(E:Value->Shared->Prop):Cx:={X with xe:=E}
abbrev Cx.nox(X:Cx):Cx:=X.wish λ_ _=>False
theorem Cx.Ok.wish{X:Cx}(ok:X.Ok)(E:Value->Shared->Prop):(X.wish E).Ok :=
 ⟨ok.mod,ok.kind,ok.glob,ok.blt,ok.above,ok.inj,ok.has,ok.cab,ok.hd,ok.frames,ok.stk,ok.exf,ok.bs,ok.bsz,ok.noex,ok.exfs,ok.funs,ok.frf⟩
theorem Cx.Ok.unwish{X:Cx}(ok:(X.wish E).Ok):X.Ok :=
 ⟨ok.mod,ok.kind,ok.glob,ok.blt,ok.above,ok.inj,ok.has,ok.cab,ok.hd,ok.frames,ok.stk,ok.exf,ok.bs,ok.bsz,ok.noex,ok.exfs,ok.funs,ok.frf⟩
section
variable{X:Cx}{aA:List (Addr×Obj)}{σ:St}{H:Hp}{s:Shared}{E:Value->Shared->Prop}
theorem Inv.wish(I:Inv X aA σ H s)(E:Value->Shared->Prop):Inv (X.wish E) aA σ H s:=⟨I.ok.wish E,I.os,I.bare,I.base,I.loc,I.cell,I.free,I.freeC,I.pin,I.hok,I.len⟩
theorem Inv.unwish(I:Inv (X.wish E) aA σ H s):Inv X aA σ H s:=⟨I.ok.unwish,I.os,I.bare,I.base,I.loc,I.cell,I.free,I.freeC,I.pin,I.hok,I.len⟩
theorem SP.unwish(h:SP (X.wish E) aA D f s'):SP X aA D f s':=by
 cases f with
 |next=>obtain⟨σ',H',I,q⟩:=h;exact⟨σ',H',I.unwish,q⟩
 |brk=>obtain⟨σ',H',I,q⟩:=h;exact⟨σ',H',I.unwish,q⟩
 |cont=>obtain⟨σ',H',I,q⟩:=h;exact⟨σ',H',I.unwish,q⟩
 |ret u=>obtain⟨v,σ',H',I,r,q⟩:=h;exact⟨v,σ',H',I.unwish,r,q⟩
theorem PSs.nox{st:List Stmt}{t:TS}(h:PSs X.nox st t):PSs X st t:=λaA s σ H D I hw =>
 dH (h aA s σ H D (I.wish _) hw) (λ_ _ q=>q.unwish) λ_ _ z=>False.elim z
end
section
variable{X:Cx}{st:Stmt}{aG:List Stmt}{t u:TS}{e:Expr}{te:TE}{pos:Pos}
def ay0:TS:=λD σ H=>D.nx σ H
def b17(t u:TS):TS:=λD σ H=>t {D with nx:=u D} σ H
theorem aod:PSs X [] ay0:=λ_ _ σ H _ I h=>fO ⟨σ,H,I,h⟩
theorem ak9(h1:PS X st t)(h2:PSs X aG u):PSs X (st::aG) (b17 t u):=by
 intro aA s σ H D I h
 refine wpAny_execs_cons (thn (h1 aA s σ H {D with nx:=u D} I h) λf s1 q=>?_)
 cases f with
 |next =>
  obtain⟨σ',H',I',q⟩:=q;exact h2 aA s1 σ' H' D I' q
 |ret v=>exact q
 |brk=>exact q
 |cont=>exact q
theorem aoe(h1:PS X st t):PSs X [st] t:=by
 intro aA s σ H D I h
 refine wpAny_execs_cons (thn (h1 aA s σ H D I h) λf s1 q=>?_)
 cases f with
 |next=>exact fO q
 |ret v=>exact q
 |brk=>exact q
 |cont=>exact q
theorem Inv.quiet(I:Inv X aA σ H s):interactive X.env=false:=by simp[interactive,I.ok.kind]
def ay1(te:TE):TS:=λD σ H=>te σ H λ_ H1=>D.nx σ H1
theorem aog(he:PE X e te)(hs:swapsWith e none pos.line X.env=pure false:=by rfl):PS X (.Expr e pos) (ay1 te):=by
 intro aA s σ H D I h
 exact wpAny_Expr_any (thn (he aA s σ H _ I h) λv s1 ⟨x,H1,I1,r1,q1⟩=>⟨σ,H1,I1,q1⟩) I.quiet hs
def b18(te:TE):TS:=λD σ H=>te σ H D.rt
theorem asx(he:PE X e te):PS X (.Return (some e) pos) (b18 te):=by
 intro aA s σ H D I h
 exact wpAny_Return_some (thn (he aA s σ H _ I h) λv s1 ⟨x,H1,I1,r1,q1⟩=>⟨x,σ,H1,I1,r1,q1⟩)
def b19(c:TT)(t u:TS):TS:=λD σ H=>c σ H λb H1=>if b=true then t D σ H1 else u D σ H1
theorem ay2{c:Expr}{a b:List Stmt}{tc:TT}(hc:PT X c tc)(ha:PSs X a t)(hb:PSs X b u):PS X (.If c a b pos) (b19 tc t u):=by
 intro aA s σ H D I h
 refine wpAny_If (thn (hc aA s σ H _ I h) λd s1 ⟨H1,I1,q1⟩=>?_)
 cases d with
 |true=>exact ha aA s1 σ H1 D I1 q1
 |false=>exact hb aA s1 σ H1 D I1 q1
end
abbrev TG:=V->St->Hp->(St->Hp->Prop)->Prop
abbrev TGs:=List V->St->Hp->(St->Hp->Prop)->Prop
def PG(X:Cx)(target:Expr)(t:TG):Prop :=
 ∀(aA:List (Addr×Obj)) (s:Shared) (σ:St) (H:Hp) (v:V) (u:Value) (Q:St->Hp->Prop),Inv X aA σ H s->RelV v u->t v σ H Q->
  wpAny (model X.prog X.w) X.A (assign target X.env u) (λ_ s'=>∃σ' H',Inv X aA σ' H' s'/\Q σ' H') X.xe s
def PGs(X:Cx)(ts:List Expr)(t:TGs):Prop :=
 ∀(aA:List (Addr×Obj)) (s:Shared) (σ:St) (H:Hp) (vs:List V) (us:List Value) (Q:St->Hp->Prop),Inv X aA σ H s->Vals vs us->t vs σ H Q->
  wpAny (model X.prog X.w) X.A (assignInOrder ((assignEach ts X.env).map (·.2)) us) (λ_ s'=>∃σ' H',Inv X aA σ' H' s'/\Q σ' H') X.xe s
abbrev asy:=V->V->V->Hp->(Hp->Prop)->Prop
def ay3(X:Cx)(t:asy):Prop :=
 ∀(aA:List (Addr×Obj)) (s:Shared) (σ:St) (H:Hp) (o i v:V) (ov iv u:Value) (Q:Hp->Prop),Inv X aA σ H s->RelV o ov->RelV i iv->RelV v u->t o i v H Q->
  wpAny (model X.prog X.w) X.A (setItem ov iv u) (λ_ s'=>∃H',Inv X aA σ H' s'/\Q H') X.xe s
abbrev TIp:=V->V->Hp->VK->Prop
def PIp(X:Cx)(op:Operator)(t:TIp):Prop :=
 ∀(aA:List (Addr×Obj)) (s:Shared) (σ:St) (H:Hp) (x y:V) (v u:Value) (Q:VK),Inv X aA σ H s->RelV x v->RelV y u->t x y H Q->
  wpAny (model X.prog X.w) X.A (inplaceOp op v u) (EP X aA σ Q) X.xe s
section
variable{X:Cx}{pos:Pos}
def af4(i:Nat):TG:=λv σ H Q=>Q (σ.set i (some v)) H
theorem agf(hN:X.N.Nodup)(hi:X.N[i]? = some x)(hx:Loc X.env.scope x)(hf:Hf X x:=by first|exact .inl rfl|exact .inr rfl|assumption):PG X (.Name x pos) (af4 i):=by
 intro aA s σ H v u Q I r h
 exact wpAny_assign_Name (a9f I hN hi hx r (λs' I'=>⟨_,H,I',h⟩) hf)
def b1a:TGs:=λvs σ H Q=>vs=[]/\Q σ H
def asz(t:TG)(u:TGs):TGs:=λvs σ H Q=>∃v r,vs=v::r/\t v σ H λσ' H'=>u r σ' H' Q
theorem aoh:PGs X [] b1a:=by
 intro aA s σ H vs us Q I r h
 obtain⟨e,h⟩:=h;subst e;cases r
 exact assignInOrder_nil ⟨σ,H,I,h⟩
theorem aka{e:Expr}{es:List Expr}{t:TG}{u:TGs}(h1:PG X e t)(h2:PGs X es u)
  (hs:(assignEach (e::es) X.env).map (·.2)=assign e X.env::(assignEach es X.env).map (·.2):=by rfl):PGs X (e::es) (asz t u):=by
 intro aA s σ H vs us Q I r h
 obtain⟨v,vr,e1,h⟩:=h;subst e1
 cases r with
 |cons r rr =>
  rw[hs];refine assignInOrder_cons (thn (h1 aA s σ H _ _ _ I r h) λ_ s1 ⟨σ1,H1,I1,q1⟩=>?_);exact h2 aA s1 σ1 H1 _ _ Q I1 rr q1
def a1c(K:Fg)(n:Nat)(t:TGs):TG:=λv σ H Q=>∃a xs,v=.ref a/\SqT K H a xs/\xs.length=n/\t xs σ H Q
theorem at5(hc:X.calm=true)(h:PGs X es t)
  (hn:(assignEach es X.env).length=n:=by rfl) (hst:(assignEach es X.env).findIdx? (·.1)=none:=by rfl):PG X (.Tuple es k pos) (a1c X.K n t):=by
 intro aA s σ H v u Q I r hw
 obtain⟨a,xs,e1,hq,hl,hw⟩:=hw;subst e1;cases r
 obtain⟨its,rv,ht,hz⟩:=I.tuple hq;refine assign_Tuple_tuple (I.ok.hd hc) ht (by simp[hn,<-hl,rv.length]) hst λh' hx=>?_
 have I1:Inv X aA σ H {s with heap:=h' }:=I.kept (t':=s.toks) λb o e=>hx b o (bN (aX e)) e
 exact h aA _ σ H xs _ Q I1 (by simpa using rv) hw
def ack(to ti:TE)(t:asy):TG:=λv σ H Q=>to σ H λo H1=>ti σ H1 λi H2=>t o i v H2 λH3=>Q σ H3
theorem at6{o i:Expr}{to ti:TE}{t:asy}(ho:PE X o to)(hi:PE X i ti)(hs:ay3 X t)
  (ha:∀v,assign (.Subscript o i pos) X.env v=(do
   let ov <-holding [v] (eval o X.env)
   let iv <-holding [v,ov] (eval i X.env)
   standAt pos
   holding [v,ov,iv] (setItem ov iv v)
   release [v,ov,iv] []):=by intro _;rfl):PG X (.Subscript o i pos) (ack to ti t):=by
 intro aA s σ H v u Q I r h
 rw[ha];refine aE (cV (thn (ho aA s σ H _ I h) λov s1 ⟨x,H1,I1,r1,q1⟩=>?_));refine aE (cV (thn (hi aA s1 σ H1 _ I1 q1) λiv s2 ⟨y,H2,I2,r2,q2⟩=>?_));refine aE (gB (aE (cV (thn (hs aA s2 σ H2 x y v ov iv u _ I2 r1 r2 r q2) λ_ s3 ⟨H3,I3,q3⟩=>?_))));exact wpAny_release ⟨σ,H3,I3,q3⟩
def ay4(te:TE)(g:TG):TS:=λD σ H=>te σ H λx H1=>g x σ H1 D.nx
theorem amu{tg e:Expr}{te:TE}{g:TG}(he:PE X e te)(hg:PG X tg g)(hs:swapsWithSole [tg] e pos.line X.env=pure false:=by rfl)(hw:swappedStores [tg] e X.env=pure none:=by rfl)
  (h1:(assignEach [tg] X.env).map (·.2)=[assign tg X.env]:=by rfl):PS X (.Assign [tg] e pos) (ay4 te g):=by
 intro aA s σ H D I h
 refine wpAny_Assign_stores (thn (he aA s σ H _ I h) λv s1 ⟨x,H1,I1,r1,q1⟩=>?_) hs hw;rw[h1];exact thn (hg aA s1 σ H1 x v _ I1 r1 q1) λ_ s2 q=>q
theorem at7{i:Nat}{x:Str}{e:Expr}{te:TE}{pos':Pos}(hN:X.N.Nodup)(hi:X.N[i]? = some x)(hx:Loc X.env.scope x)(he:PE X e te)(hs:swapsWith e (some (.Name x pos')) pos.line X.env=pure false:=by rfl)(hf:Hf X x:=by first|exact .inl rfl|exact .inr rfl|assumption) :
  PS X (.Assign [.Name x pos'] e pos) (ay4 te (af4 i)):=by
 intro aA s σ H D I h
 refine wpAny_Assign_Name (thn (he aA s σ H _ I h) λv s1 ⟨y,H1,I1,r1,q1⟩=>?_) hs;exact a9f I1 hN hi hx r1 (λs2 I2=>⟨_,H1,I2,q1⟩) hf
def b1b(i:Nat)(te:TE)(ti:TIp):TS:=λD σ H=>∃x,σ[i]? = some (some x)/\te σ H λy H1=>ti x y H1 λz H2=>D.nx (σ.set i (some z)) H2
theorem at8{i:Nat}{x:Str}{e:Expr}{te:TE}{op:Operator}{ti:TIp}{pos':Pos}(hN:X.N.Nodup)(hi:X.N[i]? = some x)(hx:Loc X.env.scope x)(he:PE X e te)(ho:PIp X op ti)(hf:Hf X x:=by first|exact .inl rfl|exact .inr rfl|assumption) :
  PS X (.AugAssign (.Name x pos') op e pos) (b1b i te ti):=by
 intro aA s σ H D I h
 obtain⟨v,e1,h⟩:=h;obtain⟨m,hn,hl⟩:=I.loc;have vis:Vis X.env.scope x:=by rcases hx with k|k;exact .inl k;exact .inr (.inl k)
 obtain⟨u,r,l⟩:=hl i x v hi e1 vis;refine wpAny_AugAssign_Name ?_;have go:wpAny (model X.prog X.w) X.A (eval e X.env) (λw s₂=>wpAny (model X.prog X.w) X.A (inplaceOp op u w) (λr s₃=>wpAny (model X.prog X.w) X.A (storeName X.env x r) (λ_=>SP X aA D .next) X.xe s₃) X.xe s₂) X.xe s:=by
  refine thn (he aA s σ H _ I h) ?_
  rintro w s1 ⟨y,H1,I1,r1,q1⟩
  refine thn (ho aA s1 σ H1 v y u w _ I1 r r1 q1) ?_
  rintro z s2 ⟨zv,H2,I2,r2,q2⟩
  exact a9f I2 hN hi hx r2 (λs3 I3=>⟨_,H2,I3,q2⟩) hf
 rcases l with⟨hk,hm⟩|⟨hk,c,hc,hcell⟩
 ·exact wpAny_loadName_local I.ok.kind hk hn hm go
 ·rcases hk with hk|hk
  ·exact wpAny_loadName_cell I.ok.kind hk hc hcell go
  ·rcases hx with k|k
   ·have:X.env.scope.names.lookup x=some .free:=hk
    rw[k]at this;cases this
   ·have:X.env.scope.names.lookup x=some .free:=hk
    rw[k]at this;cases this
def ay5(to ti te:TE)(tget:V->V->Hp->VK->Prop)(tip:TIp)(tset:asy):TS:=λD σ H=>to σ H λo H1=>ti σ H1 λi H2=>tget o i H2 λx H3=>te σ H3 λy H4=>tip x y H4 λz H5=>tset o i z H5 λH6=>D.nx σ H6
def azx(X:Cx)(t:V->V->Hp->VK->Prop):Prop :=
 ∀(aA:List (Addr×Obj)) (s:Shared) (σ:St) (H:Hp) (o i:V) (ov iv:Value) (Q:VK),Inv X aA σ H s->RelV o ov->RelV i iv->t o i H Q->
  wpAny (model X.prog X.w) X.A (getItem ov iv) (EP X aA σ Q) X.xe s
theorem aoi{o i e:Expr}{to ti te:TE}{tget:V->V->Hp->VK->Prop}{tip:TIp}{tset:asy}{op:Operator}{tpos:Pos}(ho:PE X o to)(hi:PE X i ti)(hg:azx X tget)(he:PE X e te)(hp:PIp X op tip)(hs:ay3 X tset)
  (ha:∀ov iv new,augStore i ov iv new=(do holding [new,ov,iv] (setItem ov iv new);release [new,ov,iv] [];pure .next):=by intros;rfl):PS X (.AugAssign (.Subscript o i tpos) op e pos) (ay5 to ti te tget tip tset):=by
 intro aA s σ H D I h
 refine wpAny_AugAssign_SubscriptAny (thn (ho aA s σ H _ I h) λov s1 ⟨x1,H1,I1,r1,q1⟩=>?_) ha;refine thn (hi aA s1 σ H1 _ I1 q1) ?_
 rintro iv s2 ⟨x2,H2,I2,r2,q2⟩
 refine thn (hg aA s2 σ H2 x1 x2 ov iv _ I2 r1 r2 q2) ?_
 rintro old s3 ⟨x3,H3,I3,r3,q3⟩
 refine thn (he aA s3 σ H3 _ I3 q3) ?_
 rintro v s4 ⟨x4,H4,I4,r4,q4⟩
 refine thn (hp aA s4 σ H4 x3 x4 old v _ I4 r3 r4 q4) ?_
 rintro new s5 ⟨x5,H5,I5,r5,q5⟩
 exact thn (hs aA s5 σ H5 x1 x2 x5 ov iv new _ I5 r1 r2 r5 q5) λ_ s6 ⟨H6,I6,q6⟩=>⟨σ,H6,I6,q6⟩
end
section
variable{X:Cx}{pos:Pos}
def at9(c:TT)(tb:TS):TS:=λD σ H=>∃W:Nat->St->Hp->Prop,(∃m,W m σ H)/\∀m σ H,W m σ H->
 c σ H λb H1=>if b=true then ∃N:St->Hp->Prop,(∀σ' H',N σ' H'->∃m',m'<m/\W m' σ' H')/\tb {D with nx:=N,ct:=N,bk:=D.nx} σ H1 else D.nx σ H1
theorem akb{c:Expr}{body:List Stmt}{tc:TT}{tb:TS}(hp:PassesOwn (model X.prog X.w) X.A X.env X.xe)(hc:PT X c tc)(hb:PSs X body tb):PS X (.While c body [] pos) (at9 tc tb):=by
 intro aA s σ H D I h
 obtain⟨W,⟨m0,w0⟩,turn⟩:=h;refine wpAny_While (codeAny_whileLoop (λn s'=>∃σ' H',Inv X aA σ' H' s'/\W n σ' H') ?_ m0 ⟨σ,H,I,w0⟩)
 rintro n s1 ⟨σ1,H1,I1,w1⟩
 refine dI hp (thn (hc aA s1 σ1 H1 _ I1 (turn n σ1 H1 w1)) λb s2 ⟨H2,I2,q2⟩=>?_)
 cases b with
 |true =>
  obtain⟨N,hN,q2⟩:=q2;rw[aT rfl];refine dI hp (thn (hb aA s2 σ1 H2 _ I2 q2) λf s3 q3=>?_)
  cases f with
  |next =>
   obtain⟨σ3,H3,I3,n3⟩:=q3;obtain⟨m',hm,w3⟩:=hN σ3 H3 n3;exact⟨m',hm,σ3,H3,I3,w3⟩
  |cont =>
   obtain⟨σ3,H3,I3,n3⟩:=q3;obtain⟨m',hm,w3⟩:=hN σ3 H3 n3;exact⟨m',hm,σ3,H3,I3,w3⟩
  |brk=>exact q3
  |ret v=>exact q3
 |false =>
  rw[bA bI];exact fO ⟨σ1,H2,I2,q2⟩
end
structure It where
 go:Nat->Hp->Prop
 yld:Nat->Hp->V->Hp->Prop
 stop:Nat->Hp->Prop
def aaz(X:Cx)(aA:List (Addr×Obj))(H:Hp)(b:Addr):Prop :=
 H b=none/\b≠X.env.locals/\b∉X.fs/\(b∈X.ex\/X.s₀.heap.objs.size<=b)/\(∀x c,X.env.cells.lookup x=some c->c≠b)/\∀p∈X.pn++aA,p.1≠b
theorem Inv.fpOk(I:Inv X aA σ H s)(hb:s.heap.objs.size<=b)(hn:H' b=none):aaz X aA H' b:=by
 refine⟨hn,Nat.ne_of_gt (bq I.lt hb),I.nofs hb,.inr (cA I.sz hb),λx c e z=>?_,λp hp z=>?_⟩
 ·obtain⟨v,q⟩:=I.cell x c e;exact absurd (bq q.lt (by rw[z];exact hb)) (cJ _)
 ·exact absurd (bq (aX (I.pin p hp).1) (by rw[z];exact hb)) (cJ _)
structure Turn (P:Program) (w:World) (K:Fg) (tg:Expr) (J:It) (fp:List Addr) (it:Addr) (tn:Nat->Heap->Prop):Prop where
 mem:it∈fp
 obj:∀i h,tn i h->∀b∈fp,∃o,h.get? b=some o/\∀v,o.data≠.cell v
 keep:∀i h h',tn i h->(∀b∈fp,∀o,h.get? b=some o->h'.get? b=some o)->tn i h'
 item:∀(X:Cx),X.prog=P->X.w=w->X.K=K->X.calm=true->∀(i:Nat) (aA:List (Addr×Obj)) (s:Shared) (σ:St) (H:Hp) (E:Value->Shared->Prop),Inv X aA σ H s->(∀b∈fp,aaz X aA H b)->tn i s.heap->J.go i H->
  wpAny (model P w) X.A (pyNext (.ref it)) (λr s1=>∃u,r=some u /\
   wpAny (model P w) X.A (letOwnedTupleGo tg (.ref it) u) (λ_ s2=>∃x H',Inv X aA σ H' s2/\RelV x u/\J.yld i H x H'/\tn (i+1) s2.heap/\∀b∈fp,H' b=none) E s1) E s
 done:∀(X:Cx),X.prog=P->X.w=w->X.K=K->X.calm=true->∀(i:Nat) (aA:List (Addr×Obj)) (s:Shared) (σ:St) (H:Hp) (E:Value->Shared->Prop),Inv X aA σ H s->(∀b∈fp,aaz X aA H b)->tn i s.heap->J.stop i H->
  wpAny (model P w) X.A (pyNext (.ref it)) (λr s1=>r=none/\Inv X aA σ H s1) E s
 self:∀(A:Around) (i:Nat) (s:Shared) (Q:Value->Shared->Prop) (E:Value->Shared->Prop),tn i s.heap->Q (.ref it) s->wpAny (model P w) A (pyIter (.ref it)) Q E s
abbrev TI:=St->Hp->(It->Hp->Prop)->Prop
def PIE(X:Cx)(aA:List (Addr×Obj))(σ:St)(tg:Expr)(R:It->Hp->Prop)(itv:Value)(s2:Shared):Prop :=
 ∃(it:Addr) (fp:List Addr) (tn:Nat->Heap->Prop) (J:It) (H':Hp),itv=.ref it/\Inv X aA σ H' s2/\Turn X.prog X.w X.K tg J fp it tn/\tn 0 s2.heap/\(∀b∈fp,aaz X aA H' b)/\R J H'
def PI(X:Cx)(tg aF:Expr)(wi:TI):Prop :=
 ∀(aA:List (Addr×Obj)) (s:Shared) (σ:St) (H:Hp) (R:It->Hp->Prop),Inv X aA σ H s->wi σ H R->
  wpAny (model X.prog X.w) X.A (eval aF X.env) (λv s1=>wpAny (model X.prog X.w) X.A (pyIter v) (PIE X aA σ tg R) X.xe s1) X.xe s
theorem akc{s:Shared}(ho:s.heap.get? it=some o)(hc:o.cls=.type n)(hd:o.data=.fields vs)
  (hn:["enumerate","zip","dict_itemiterator","dict_reverseitemiterator","odict_iterator","itertools.zip_longest","itertools.pairwise"].contains n=false) (hQ:Q () s):wpAny M A (letOwnedTupleGo tg (.ref it) u) Q E s:=by
 unfold letOwnedTupleGo
 cases tg<;>first
  |exact bp hQ
  | (cases u<;>first
    |exact bp hQ
    | (refine aE (wpAny_load ho ?_)
       rw[hc,hd];show wpAny M A (if (["enumerate","zip","dict_itemiterator","dict_reverseitemiterator","odict_iterator","itertools.zip_longest","itertools.pairwise"].contains n && vs[0]? == some (rawInt _))=true then _ else _) Q E s
       rw[bA (by intro h;rw[hn,Bool.false_and]at h;cases h)]
       exact bp hQ))
def Itl(K:Fg)(a:Addr):It :=
 ⟨λi H=>∃xs x,SqL K H a xs/\xs[i]? = some x,λi H x H'=>H'=H/\∀xs,SqL K H a xs->xs[i]? = some x,λi H=>∃xs,SqL K H a xs/\xs.length<=i⟩
def Itt(K:Fg)(a:Addr):It :=
 ⟨λi H=>∃xs x,SqT K H a xs/\xs[i]? = some x,λi H x H'=>H'=H/\∀xs,SqT K H a xs->xs[i]? = some x,λi H=>∃xs,SqT K H a xs/\xs.length<=i⟩
def Itr(lo:Int)(n:Nat):It:=⟨λi _=>i<n,λi H x H'=>H'=H/\x=.int (lo+i),λi _=>n<=i⟩
theorem agg{P:Program}{w:World}{K:Fg}{tg:Expr}(a it:Addr):Turn P w K tg (Itl K a) [it] it (λi h=>h.IsListIter it a i) where
 mem:=by simp
 obj:=λi h st b hb=>by
  have e:b=it:=by simpa using hb
  subst e;obtain⟨o,e,c,d⟩:=st;exact⟨o,e,λv z=>by rw[d]at z;cases z⟩
 keep:=λi h h' st k=>st.at λo e=>k it (by simp) o e
 item:=by
  intro X hP hw hK hc i aA s σ H E I hf st hg
  subst hP hw hK;obtain⟨xs,x,hq,hx⟩:=hg;obtain⟨its,rv,p,hz⟩:=I.list hq;obtain⟨u,hu,ru⟩:=rv.get hx;obtain⟨f0,f1,f2,f3,f4,f5⟩:=hf it (by simp)
  refine wpAny_pyNext_list_item st p.isList (x:=u) (by simpa using hu) λh' st' sb=>?_
  have I1:Inv X aA σ H {s with heap:=h' }:=I.turned (t':=s.toks) (λb o hb e=>(sb.2 b hb).trans e) f0 f1 f3 f4 f5
  obtain⟨o,e,c,d⟩:=id st';exact⟨u,rfl,akc (s:={s with heap:=h' }) e c d (by decide) ⟨x,H,I1,ru,⟨rfl,λys hy=>by rw[I.list_inj hy hq];exact hx⟩,st',λb hb=>(hf b hb).1⟩⟩
 done:=by
  intro X hP hw hK hc i aA s σ H E I hf st hg
  subst hP hw hK;obtain⟨xs,hq,hx⟩:=hg;obtain⟨its,rv,p,hz⟩:=I.list hq;obtain⟨f0,f1,f2,f3,f4,f5⟩:=hf it (by simp)
  have hl:=rv.length;exact wpAny_pyNext_list_end (I.ok.hd hc) st p.isList (by simp;omega) λh' eb=>⟨rfl,I.turned (t':=s.toks) (λb o hb e=>eb b o hb e) f0 f1 f3 f4 f5⟩
 self:=λ_ _ _ _ _ st h=>wpAny_pyIter_listiter st h
theorem af5{P:Program}{w:World}{K:Fg}{tg:Expr}(a it:Addr):Turn P w K tg (Itt K a) [it] it (λi h=>h.IsTupleIter it a i) where
 mem:=by simp
 obj:=λi h st b hb=>by
  have e:b=it:=by simpa using hb
  subst e;obtain⟨o,e,c,d⟩:=st;exact⟨o,e,λv z=>by rw[d]at z;cases z⟩
 keep:=λi h h' st k=>st.at λo e=>k it (by simp) o e
 item:=by
  intro X hP hw hK hc i aA s σ H E I hf st hg
  subst hP hw hK;obtain⟨xs,x,hq,hx⟩:=hg;obtain⟨its,rv,p,hz⟩:=I.tuple hq;obtain⟨u,hu,ru⟩:=rv.get hx;obtain⟨f0,f1,f2,f3,f4,f5⟩:=hf it (by simp)
  refine wpAny_pyNext_tuple_item st (show s.heap.IsTuple a its.toArray from p) (x:=u) (by simpa using hu) λh' st' sb=>?_
  have I1:Inv X aA σ H {s with heap:=h' }:=I.turned (t':=s.toks) (λb o hb e=>(sb.2 b hb).trans e) f0 f1 f3 f4 f5
  obtain⟨o,e,c,d⟩:=id st';exact⟨u,rfl,akc (s:={s with heap:=h' }) e c d (by decide) ⟨x,H,I1,ru,⟨rfl,λys hy=>by rw[I.tuple_inj hy hq];exact hx⟩,st',λb hb=>(hf b hb).1⟩⟩
 done:=by
  intro X hP hw hK hc i aA s σ H E I hf st hg
  subst hP hw hK;obtain⟨xs,hq,hx⟩:=hg;obtain⟨its,rv,p,hz⟩:=I.tuple hq;obtain⟨f0,f1,f2,f3,f4,f5⟩:=hf it (by simp)
  have hl:=rv.length;exact wpAny_pyNext_tuple_end (I.ok.hd hc) st (show s.heap.IsTuple a its.toArray from p) (by simp;omega) λh' eb=>⟨rfl,I.turned (t':=s.toks) (λb o hb e=>eb b o hb e) f0 f1 f3 f4 f5⟩
 self:=λ_ _ _ _ _ st h=>wpAny_pyIter_tupleiter st h
theorem af6{P:Program}{w:World}{K:Fg}{tg:Expr}(it:Addr)(lo:Int)(n:Nat):Turn P w K tg (Itr lo n) [it] it (λi h=>IsRangeIter h it (lo+(i:Nat)*1) ((n:Int)-(i:Nat)) 1) where
 mem:=by simp
 obj:=λi h st b hb=>by
  have e:b=it:=by simpa using hb
  subst e;exact⟨_,st,λv z=>by
   have z':Data.fields _=Data.cell v:=z
   cases z'⟩
 keep:=λi h h' st k=>k it (by simp) _ st
 item:=by
  intro X hP hw hK hc i aA s σ H E I hf st hg
  subst hP hw hK;obtain⟨f0,f1,f2,f3,f4,f5⟩:=hf it (by simp)
  have W:=Walks.range (prog:=X.prog) (w:=X.w) (I.ok.hd hc) it lo 1 n;refine W.item i s _ _ hg st λv h' tk hv st' kk=>?_;obtain⟨t,rfl⟩:=hv;have I1:Inv X aA σ H {s with heap:=h',toks:=tk}:=I.turned (λb o hb e=>kk b o (by simpa using hb) e) f0 f1 f3 f4 f5
  refine⟨_,rfl,akc (s:={s with heap:=h',toks:=tk}) (n := "range_iterator") st' rfl rfl (by decide) ⟨.int (lo+i),H,I1,⟨t,?_⟩,⟨rfl,rfl⟩,st',λb hb=>(hf b hb).1⟩⟩
  rw[Int.mul_one]
 done:=by
  intro X hP hw hK hc i aA s σ H E I hf st hg
  subst hP hw hK;obtain⟨f0,f1,f2,f3,f4,f5⟩:=hf it (by simp)
  exact wpAny_pyNext_range_end (I.ok.hd hc) st (by have:n<=i:=hg;omega) λh' eb=>⟨rfl,I.turned (t':=s.toks) (λb o hb e=>eb b o hb e) f0 f1 f3 f4 f5⟩
 self:=λ_ _ _ _ _ st h=>wpAny_pyIter_rangeiter st h
section
variable{X:Cx}{tg:Expr}
def ay6(K:Fg)(tl:TE):TI:=λσ H R=>tl σ H λx H1=>∃a,x=.ref a/\(∃xs,SqL K H1 a xs)/\R (Itl K a) H1
def b1c(K:Fg)(tl:TE):TI:=λσ H R=>tl σ H λx H1=>∃a,x=.ref a/\(∃xs,SqT K H1 a xs)/\R (Itt K a) H1
theorem agh{l:Expr}{tl:TE}(hl:PE X l tl):PI X tg l (ay6 X.K tl):=by
 intro aA s σ H R I h
 refine thn (hl aA s σ H _ I h) ?_
 rintro v s1 ⟨x,H1,I1,r1,q1⟩
 obtain⟨a,e,⟨xs,hq⟩,q⟩:=q1;subst e;cases r1
 obtain⟨its,rv,p,hz⟩:=I1.list hq;refine eZ p.isList ?_;refine⟨s1.heap.objs.size,[s1.heap.objs.size],_,_,H1,rfl,I1.kept (t':=s1.toks) λb o e=>av _ e,agg a _,⟨_,bb _ rfl,rfl,rfl⟩,λb hb=>?_,q⟩;have e:b=s1.heap.objs.size:=by simpa using hb
 subst e;exact I1.fpOk (aJ _) (I1.hok.fresh (aJ _))
theorem ata{l:Expr}{tl:TE}(hl:PE X l tl):PI X tg l (b1c X.K tl):=by
 intro aA s σ H R I h
 refine thn (hl aA s σ H _ I h) ?_
 rintro v s1 ⟨x,H1,I1,r1,q1⟩
 obtain⟨a,e,⟨xs,hq⟩,q⟩:=q1;subst e;cases r1
 obtain⟨its,rv,p,hz⟩:=I1.tuple hq;refine wpAny_pyIter_tuple (show s1.heap.IsTuple a its.toArray from p) ?_
 refine⟨s1.heap.objs.size,[s1.heap.objs.size],_,_,H1,rfl,I1.kept (t':=s1.toks) λb o e=>av _ e,af5 a _,⟨_,bb _ rfl,rfl,rfl⟩,λb hb=>?_,q⟩;have e:b=s1.heap.objs.size:=by simpa using hb
 subst e;exact I1.fpOk (aJ _) (I1.hok.fresh (aJ _))
theorem ado{s:Shared}{lo hi:Int}{tk:Nat}(I:Inv X aA σ H s)(h1 : -(2^62)<=lo)(h2:lo<2^62)(h3 : -(2^62)<=hi)(h4:hi<2^62)
  (q:R (Itr lo (hi-lo).toNat) H):wpAny (model X.prog X.w) X.A (pyIter (.ref s.heap.objs.size)) (PIE X aA σ tg R) E {s with heap:=s.heap.push {cls:=.type "range",data:=.fields #[.int lo t,.int hi u,.int 1 v]},toks:=tk}:=by
 refine wpAny_pyIter_range (IsRange.new ..) (small_one h1 h2 h3 h4) ?_;have I1:Inv X aA σ H {s with heap:=s.heap.push {cls:=.type "range",data:=.fields #[.int lo t,.int hi u,.int 1 v]},toks:=tk}:=I.kept λb o e=>av _ e
 refine⟨(s.heap.push {cls:=.type "range",data:=.fields #[.int lo t,.int hi u,.int 1 v]}).objs.size,[(s.heap.push {cls:=.type "range",data:=.fields #[.int lo t,.int hi u,.int 1 v]}).objs.size],_,_,H,rfl,
  I1.kept (t':=tk) λb o e=>av _ e,af6 _ lo (hi-lo).toNat,?_,λb hb=>?_,q⟩
 ·have e1:lo+((0:Nat):Int)*1=lo:=by simp
  have e2:(((hi-lo).toNat:Nat):Int)-((0:Nat):Int)=Builtin.Range.rangeSize lo hi 1:=by rw[rangeSize_one];split<;>omega
  show IsRangeIter _ _ (lo+((0:Nat):Int)*1) ((((hi-lo).toNat:Nat):Int)-((0:Nat):Int)) 1;rw[e1,e2];exact bb _ rfl
 ·have e:b=(s.heap.push {cls:=.type "range",data:=.fields #[.int lo t,.int hi u,.int 1 v]}).objs.size:=by simpa using hb
  subst e;exact I1.fpOk (aJ _) (I1.hok.fresh (aJ _))
def ay7(ta:TA):TI:=λσ H R=>ta σ H λvs H1=>∃j:Int,vs=[.int j] /\ -(2^62)<=j/\j<2^62/\R (Itr 0 j.toNat) H1
def ay8(ta:TA):TI:=λσ H R=>ta σ H λvs H1=>∃i j:Int,vs=[.int i,.int j]/\(-(2^62)<=i/\i<2^62 /\ -(2^62)<=j/\j<2^62)/\R (Itr i (j-i).toNat) H1
theorem agi{a:Expr}{ta:TA}{p pos:Pos}(hg:Gl X "range")(hm:X.mg "range" = none)(ha:PA X [a] ta)(hs:starEach [a] X.env=[(false,eval a X.env)]:=by rfl):PI X tg (.Call (.Name "range" p) [a] [] pos) (ay7 ta):=by
 intro aA s σ H R I h
 refine Call_ (a8t I hg hm boot_range (d0 (thn (ha pos aA s σ H _ I h) λus s1 ⟨vs,H1,I1,r1,q1⟩=>?_) hs rfl));obtain⟨j,e,q1,q2,q⟩:=q1;subst e
 cases r1 with
 |cons r rr =>
  cases rr
  obtain⟨t,rfl⟩:=r;exact call_range_1 (ado I1 (by omega) (by omega) q1 q2 (by simpa using q))
theorem agj{a b:Expr}{ta:TA}{p pos:Pos}(hg:Gl X "range")(hm:X.mg "range" = none)(ha:PA X [a,b] ta)(hs:starEach [a,b] X.env=[(false,eval a X.env),(false,eval b X.env)]:=by rfl)(hs2:starEach [b] X.env=[(false,eval b X.env)]:=by rfl) :
  PI X tg (.Call (.Name "range" p) [a,b] [] pos) (ay8 ta):=by
 intro aA s σ H R I h
 refine Call_ (a8t I hg hm boot_range (d0 (thn (ha pos aA s σ H _ I h) λus s1 ⟨vs,H1,I1,r1,q1⟩=>?_) (by rw[hs,hs2]) (by rw[hs2];rfl)))
 obtain⟨i,j,e,⟨q1,q2,q3,q4⟩,q⟩:=q1;subst e
 cases r1 with
 |cons r rr =>
  cases rr with
  |cons r' rr =>
   cases rr
   obtain⟨t,rfl⟩:=r;obtain⟨t',rfl⟩:=r';exact call_range_2 (ado I1 q1 q2 q3 q4 q)
def b1d(wi:TI)(g:TG)(tb:TS):TS:=λD σ H=>wi σ H λJ H1=>∃W:Nat->Nat->St->Hp->Prop,(∃m,W 0 m σ H1)/\∀i m σ H,W i m σ H->
 (J.stop i H/\D.nx σ H)\/(J.go i H/\∃N:St->Hp->Prop,(∀σ' H',N σ' H'->∃m',m'<m/\W (i+1) m' σ' H')/\∀x H',J.yld i H x H'->g x σ H' λσ2 H2=>tb {D with nx:=N,ct:=N,bk:=D.nx} σ2 H2)
def a7o(fp:List Addr)(h:Heap):List (Addr×Obj):=fp.filterMap λb=>(h.get? b).map λo=>(b,o)
theorem a3z{h:Heap}(hb:b∈fp)(e:h.get? b=some o):(b,o)∈a7o fp h:=List.mem_filterMap.mpr ⟨b,hb,by rw[e];rfl⟩
theorem agk(hp:p∈a7o fp h):p.1∈fp/\h.get? p.1=some p.2:=by
 obtain⟨b,hb,e⟩:=List.mem_filterMap.mp hp
 cases q:h.get? b with
 |none=>rw[q]at e;cases e
 |some o =>
  rw[q]at e;have e':(b,o)=p:=bQ e;subst e';exact⟨hb,q⟩
theorem Inv.pinned(I:Inv X aA σ H s)(hf:∀b∈fp,aaz X aA H b)(ho:∀b∈fp,∃o,s.heap.get? b=some o/\∀v,o.data≠.cell v):Inv X (aA++a7o fp s.heap) σ H s :=
 I.pins_of λp hp=>(aS.mp hp).elim (λz=>I.pin p (bW _ z)) λz=>by
  obtain⟨hb,e⟩:=agk z;obtain⟨f0,f1,f2,_⟩:=hf p.1 hb;obtain⟨o,e',d⟩:=ho p.1 hb;rw[e]at e';cases e'
  exact⟨e,f0,f1,f2,d⟩
theorem Inv.unpinned(I:Inv X (aA++pl) σ H s):Inv X aA σ H s:=I.pins_of λp hp=>I.pin p (bW _ (cq _ hp))
theorem atb{aF:Expr}{body:List Stmt}{wi:TI}{g:TG}{tb:TS}{pos:Pos}(hp:PassesOwn (model X.prog X.w) X.A X.env X.xe)(hc:X.calm=true)(hi:PI X tg aF wi)(hg:PG X tg g)(hb:PSs X body tb)
  (hs:∀x,foldedSetIterable aF X.env x=pure x:=by intro _;rfl):PS X (.For tg aF body [] pos) (b1d wi g tb):=by
 intro aA s σ H D I h
 refine wpAny_For (thn (hi aA s σ H _ I h) λv s1 h1=>thn h1 λitv s2 h2=>?_) hs;obtain⟨it,fp,tn,J,H2,e,I2,T,st2,f2,W,⟨m0,w0⟩,turn⟩:=h2;subst e;have stat:∀{H':Hp},(∀b∈fp,H' b=none)->∀b∈fp,aaz X aA H' b:=λhn b hb=>⟨hn b hb,(f2 b hb).2⟩;refine codeAny_forLoop_any (λn s'=>∃i σ' H',Inv X aA σ' H' s'/\tn i s'.heap/\(∀b∈fp,H' b=none)/\W i n σ' H') ?_ m0 ⟨0,σ,H2,I2,st2,λb hb=>(f2 b hb).1,w0⟩
 rintro n s3 ⟨i,σ3,H3,I3,st3,fr3,w3⟩
 rcases turn i n σ3 H3 w3 with⟨stop,qn⟩|⟨go,N,hN,step⟩
 ·refine dI hp (thn (T.done X rfl rfl rfl hc i aA s3 σ3 H3 X.xe I3 (stat fr3) st3 stop) λr s4 ⟨hr,I4⟩=>?_);subst hr;exact fO ⟨σ3,H3,I4,qn⟩
 ·refine dI hp (thn (T.item X rfl rfl rfl hc i aA s3 σ3 H3 X.xe I3 (stat fr3) st3 go) λr s4 ⟨u,hr,h4⟩=>?_);subst hr;refine dI hp (thn h4 λ_ s5 ⟨x,H5,I5,r5,y5,st5,fr5⟩=>?_);have I5':=I5.pinned (stat fr5) (T.obj _ _ st5);refine dI hp (thn (hg _ s5 σ3 H5 x u _ I5' r5 (step x H5 y5)) λ_ s6 ⟨σ6,H6,I6,q6⟩=>?_);refine dI hp (thn (hb _ s6 σ6 H6 _ I6 q6) λf s7 q7=>?_);have again:∀{σ7:St} {H7:Hp},Inv X (aA++a7o fp s5.heap) σ7 H7 s7->N σ7 H7->∃m,m<n/\∃i σ' H',Inv X aA σ' H' s7/\tn i s7.heap/\(∀b∈fp,H' b=none)/\W i m σ' H':=λ{σ7 H7} I7 n7=>by
   obtain⟨m',hm,w7⟩:=hN σ7 H7 n7;refine⟨m',hm,i+1,σ7,H7,I7.unpinned,T.keep _ _ _ st5 λb hb o e=>(I7.pin (b,o) (bW _ (bW _ (a3z hb e)))).1,λb hb=>?_,w7⟩;obtain⟨o,e,d⟩:=T.obj _ _ st5 b hb;exact(I7.pin (b,o) (bW _ (bW _ (a3z hb e)))).2.1
  cases f with
  |next=>obtain⟨σ7,H7,I7,n7⟩:=q7;exact again I7 n7
  |cont=>obtain⟨σ7,H7,I7,n7⟩:=q7;exact again I7 n7
  |brk=>obtain⟨σ7,H7,I7,q7⟩:=q7;exact⟨σ7,H7,I7.unpinned,q7⟩
  |ret v=>obtain⟨x7,σ7,H7,I7,r7,q7⟩:=q7;exact⟨x7,σ7,H7,I7.unpinned,r7,q7⟩
end
abbrev R2:=V->V->Hp->VK->Prop
def OpR(X:Cx)(f:Value->Value->Sem Value)(r:R2):Prop :=
 ∀(aA:List (Addr×Obj)) (s:Shared) (σ:St) (H:Hp) (x y:V) (v u:Value) (Q:VK),Inv X aA σ H s->RelV x v->RelV y u->r x y H Q->
  wpAny (model X.prog X.w) X.A (f v u) (EP X aA σ Q) X.xe s
def UnR(X:Cx)(f:Value->Sem Value)(r:V->Hp->VK->Prop):Prop :=
 ∀(aA:List (Addr×Obj)) (s:Shared) (σ:St) (H:Hp) (x:V) (v:Value) (Q:VK),Inv X aA σ H s->RelV x v->r x H Q->
  wpAny (model X.prog X.w) X.A (f v) (EP X aA σ Q) X.xe s
def CallR(X:Cx)(f:Value)(r:List V->Hp->VK->Prop):Prop :=
 ∀(aA:List (Addr×Obj)) (s:Shared) (σ:St) (H:Hp) (xs:List V) (us:List Value) (Q:VK),Inv X aA σ H s->Vals xs us->r xs H Q->
  wpAny (model X.prog X.w) X.A (call f us) (EP X aA σ Q) X.xe s
def b1e(X:Cx)(r:V->Hp->(Bool->Hp->Prop)->Prop):Prop :=
 ∀(aA:List (Addr×Obj)) (s:Shared) (σ:St) (H:Hp) (x:V) (v:Value) (Q:Bool->Hp->Prop),Inv X aA σ H s->RelV x v->r x H Q->
  wpAny (model X.prog X.w) X.A (truthy v) (TP X aA σ Q) X.xe s
def tOp(r:R2)(ta tb:TE):TE:=λσ H Q=>ta σ H λx H1=>tb σ H1 λy H2=>r x y H2 Q
def tUn(r:V->Hp->VK->Prop)(ta:TE):TE:=λσ H Q=>ta σ H λx H1=>r x H1 Q
def rI(C:Int->Int->Prop)(g:Int->Int->V):R2:=λx y H Q=>∃i j,x=.int i/\y=.int j/\C i j/\Q (g i j) H
def rI0(g:Int->Int->V):R2:=λx y H Q=>∃i j,x=.int i/\y=.int j/\Q (g i j) H
def rU(g:Int->V):V->Hp->VK->Prop:=λx H Q=>∃i,x=.int i/\Q (g i) H
section
variable{X:Cx}{a b c:Expr}{ta tb tc:TE}{pos:Pos}
theorem ay9(ha:PE X a ta)(hb:PE X b tb){aA:List (Addr×Obj)}{s:Shared}{σ:St}{H:Hp}{R:V->V->Hp->Prop}(I:Inv X aA σ H s)
  (h:ta σ H λx H1=>tb σ H1 λy H2=>R x y H2) {Q:Value->Shared->Prop} {f:Value->Value->Sem Value}
  (hf:∀v u s2 x y H2,Inv X aA σ H2 s2->RelV x v->RelV y u->R x y H2->wpAny (model X.prog X.w) X.A (f v u) Q X.xe s2) :
  wpAny (model X.prog X.w) X.A (eval a X.env) (λv s₁=>wpAny (model X.prog X.w) X.A (eval b X.env) (λu s₂=>wpAny (model X.prog X.w) X.A (f v u) Q X.xe s₂) X.xe s₁) X.xe s:=by
 refine thn (ha aA s σ H _ I h) ?_
 rintro v s1 ⟨x,H1,I1,r1,q1⟩
 refine thn (hb aA s1 σ H1 _ I1 q1) ?_
 rintro u s2 ⟨y,H2,I2,r2,q2⟩
 exact hf v u s2 x y H2 I2 r1 r2 q2
theorem aya{op:Operator}{r:R2}(ho:OpR X (binaryOp op) r)(ha:PE X a ta)(hb:PE X b tb):PE X (.BinOp a op b pos) (tOp r ta tb):=by
 intro aA s σ H Q I h
 exact wpAny_BinOp (ay9 ha hb I h λv u s2 x y H2 I2 rx ry q=>ho aA s2 σ H2 x y v u Q I2 rx ry q)
theorem ayb{op:UnaryOp}{r:V->Hp->VK->Prop}(ho:UnR X (unaryOp op) r)(ha:PE X a ta):PE X (.UnaryOp op a pos) (tUn r ta):=by
 intro aA s σ H Q I h
 exact UnaryOp_ (thn (ha aA s σ H _ I h) λv s1 ⟨x,H1,I1,r1,q1⟩=>ho aA s1 σ H1 x v Q I1 r1 q1)
theorem opI{f:Value->Value->Sem Value}{C:Int->Int->Prop}{g:Int->Int->Int}
  (rule:∀(i j:Int) (t u:Tok) (s:Shared) (Q:Value->Shared->Prop) (E:Value->Shared->Prop),C i j->Q (.int (g i j) s.toks) {s with toks:=s.toks+1}->wpAny (model X.prog X.w) X.A (f (.int i t) (.int j u)) Q E s) :
  OpR X f (rI C λi j=>.int (g i j)):=by
 intro aA s σ H x y v u Q I rx ry h
 obtain⟨i,j,rfl,rfl,hc,q⟩:=h;obtain⟨t,rfl⟩:=rx;obtain⟨t',rfl⟩:=ry;exact rule i j t t' s _ _ hc ⟨.int (g i j),H,I.tok _,⟨_,rfl⟩,q⟩
theorem ayc{f:Value->Value->Sem Value}{g:Int->Int->Int}
  (rule:∀(i j:Int) (t u:Tok) (s:Shared) (Q:Value->Shared->Prop) (E:Value->Shared->Prop),Q (.int (g i j) s.toks) {s with toks:=s.toks+1}->wpAny (model X.prog X.w) X.A (f (.int i t) (.int j u)) Q E s) :
  OpR X f (rI0 λi j=>.int (g i j)):=by
 intro aA s σ H x y v u Q I rx ry h
 obtain⟨i,j,rfl,rfl,q⟩:=h;obtain⟨t,rfl⟩:=rx;obtain⟨t',rfl⟩:=ry;exact rule i j t t' s _ _ ⟨.int (g i j),H,I.tok _,⟨_,rfl⟩,q⟩
theorem axg{f:Value->Value->Sem Value}{g:Int->Int->Bool}
  (rule:∀(i j:Int) (t u:Tok) (s:Shared) (Q:Value->Shared->Prop) (E:Value->Shared->Prop),Q (.bool (g i j)) s->wpAny (model X.prog X.w) X.A (f (.int i t) (.int j u)) Q E s) :
  OpR X f (rI0 λi j=>.bl (g i j)):=by
 intro aA s σ H x y v u Q I rx ry h
 obtain⟨i,j,rfl,rfl,q⟩:=h;obtain⟨t,rfl⟩:=rx;obtain⟨t',rfl⟩:=ry;exact rule i j t t' s _ _ ⟨.bl (g i j),H,I,rfl,q⟩
def ayd(i j:Int):Prop:=0<j/\j<1073741824
def azy(i j:Int):Prop:=0<=j/\j<=1000000/\i.natAbs<2^64
def CMul(i j:Int):Prop:=(-(2^64)<i/\i<2^64)\/(-(2^64)<j/\j<2^64)
theorem CMul.ok(h:CMul i j):IntMulOk i j:=by
 rcases h with⟨h1,h2⟩|⟨h1,h2⟩
 ·exact .of_left (intBits_le_64 h1 h2)
 ·exact .of_right (intBits_le_64 h1 h2)
theorem atc:OpR X (binaryOp .Add) (rI0 λi j=>.int (i+j)):=ayc λ_ _ _ _ _ _ _ q=>add_int q
theorem atd:OpR X (binaryOp .Sub) (rI0 λi j=>.int (i-j)):=ayc λ_ _ _ _ _ _ _ q=>sub_int q
theorem amv:OpR X (binaryOp .Mult) (rI CMul λi j=>.int (i*j)):=opI λ_ _ _ _ _ _ _ hc q=>mul_int q hc.ok
theorem aoj:OpR X (binaryOp .FloorDiv) (rI ayd λi j=>.int (i / j)):=opI λi j _ _ _ _ _ hc q=>by
 have h1:(0:Int)<j:=hc.1;have h2:j<1073741824:=hc.2;exact floordiv_int (by omega) (by rw[fW i (by omega)];exact q) (.inl (PyProof.noPylong_small (by omega)))
theorem ate:OpR X (binaryOp .Mod) (rI (λ_ j=>0<j) λi j=>.int (i%j)):=opI λi j _ _ _ _ _ hc q=>by
 have h1:(0:Int)<j:=hc;exact mod_int' (by omega) (by rw[Int.fmod_eq_emod_of_nonneg i (by omega)];exact q)
theorem atf:OpR X (binaryOp .Pow) (rI azy λi j=>.int (i^j.toNat)):=opI λ_ _ _ _ _ _ _ hc q=>pow_int_small hc.1 hc.2.1 hc.2.2 q
theorem a2m:OpR X (inplaceOp .Add) (rI0 λi j=>.int (i+j)):=ayc λ_ _ _ _ _ _ _ q=>iadd_int q
theorem akd:OpR X (inplaceOp .FloorDiv) (rI ayd λi j=>.int (i / j)):=opI λi j _ _ _ _ _ hc q=>by
 have h1:(0:Int)<j:=hc.1;have h2:j<1073741824:=hc.2;exact ifloordiv_int (by omega) (by rw[fW i (by omega)];exact q) (.inl (PyProof.noPylong_small (by omega)))
theorem unI{f:Value->Sem Value}{g:Int->Int}
  (rule:∀(i:Int) (t:Tok) (s:Shared) (Q:Value->Shared->Prop) (E:Value->Shared->Prop),Q (.int (g i) s.toks) {s with toks:=s.toks+1}->wpAny (model X.prog X.w) X.A (f (.int i t)) Q E s) :
  UnR X f (rU λi=>.int (g i)):=by
 intro aA s σ H x v Q I rx h
 obtain⟨i,rfl,q⟩:=h;obtain⟨t,rfl⟩:=rx;exact rule i t s _ _ ⟨.int (g i),H,I.tok _,⟨_,rfl⟩,q⟩
theorem atg:UnR X (unaryOp .USub) (rU λi=>.int (-i)):=unI λ_ _ _ _ _ q=>neg_int q
end
section
variable{X:Cx}{a b c:Expr}{ta tb tc:TE}{pos:Pos}
theorem a74(I:Inv X aA σ H s)(q:Q (.bl k) H)(e:k=k'):EP X aA σ Q (.bool k') s:=by
 subst e;exact⟨.bl k,H,I,rfl,q⟩
theorem a8m:OpR X (compareOp .Lt) (rI0 λi j=>.bl (decide (i<j))):=axg λ_ _ _ _ _ _ _ q=>lt_int q
theorem aye:OpR X (compareOp .LtE) (rI0 λi j=>.bl (decide (i<=j))):=axg λ_ _ _ _ _ _ _ q=>le_int q
theorem aok:OpR X (compareOp .Gt) (rI0 λi j=>.bl (decide (j<i))):=axg λ_ _ _ _ _ _ _ q=>gt_int q
theorem ake:OpR X (compareOp .GtE) (rI0 λi j=>.bl (decide (j<=i))):=axg λ_ _ _ _ _ _ _ q=>ge_int q
theorem wj:OpR X (compareOp .Lt) (λx y H Q=>∃i j,x=.str i/\y=.str j/\Q (.bl (decide (i.cps.toList<j.cps.toList))) H):=by
 intro aA s σ H x y v u Q I rx ry h
 obtain⟨i,j,rfl,rfl,q⟩:=h;obtain⟨t,rfl⟩:=rx;obtain⟨t',rfl⟩:=ry;exact lt_str (a74 I q rfl)
theorem agl:OpR X (compareOp .In) (λx y H Q=>∃i j,x=.str i/\y=.str j/\Q (.bl (!(Builtin.Str.occurrences j i 0 j.length 1).isEmpty)) H):=by
 intro aA s σ H x y v u Q I rx ry h
 obtain⟨i,j,rfl,rfl,q⟩:=h;obtain⟨t,rfl⟩:=rx;obtain⟨t',rfl⟩:=ry;exact in_str (a74 I q rfl)
theorem adp:OpR X (compareOp .Is) (λx y H Q=>y=.non/\Q (.bl (decide (x=.non))) H):=by
 intro aA s σ H x y v u Q I rx ry h
 obtain⟨rfl,q⟩:=h;cases ry
 refine is_none_gen (a74 I q ?_)
 cases x<;>first
  |(cases rx;rfl)
  |(obtain⟨t,rfl⟩:=rx;rfl)
theorem acp:OpR X (compareOp .IsNot) (λx y H Q=>y=.non/\Q (.bl (!decide (x=.non))) H):=by
 intro aA s σ H x y v u Q I rx ry h
 obtain⟨rfl,q⟩:=h;cases ry
 refine isnot_none_gen (a74 I q ?_)
 cases x<;>first
  |(cases rx;rfl)
  |(obtain⟨t,rfl⟩:=rx;rfl)
theorem ab0:OpR X (compareOp .NotIn) (λx y H Q=>∃i j,x=.str i/\y=.str j/\Q (.bl (!(!(Builtin.Str.occurrences j i 0 j.length 1).isEmpty))) H):=by
 intro aA s σ H x y v u Q I rx ry h
 obtain⟨i,j,rfl,rfl,q⟩:=h;obtain⟨t,rfl⟩:=rx;obtain⟨t',rfl⟩:=ry;exact notIn_str (a74 I q rfl)
theorem OpR.or(h:OpR X f r)(h':OpR X f r'):OpR X f (λx y H Q=>r x y H Q\/r' x y H Q):=by
 intro aA s σ H x y v u Q I rx ry q
 rcases q with q|q
 ·exact h aA s σ H x y v u Q I rx ry q
 ·exact h' aA s σ H x y v u Q I rx ry q
theorem a8u(b:Expr)(h:op≠.In:=by decide)(h2:op≠.NotIn:=by decide):behindInMarks op b=false:=by
 have e1:(op == CmpOp.In)=false:=by cases op<;>first|rfl|exact absurd rfl h
 have e2:(op == CmpOp.NotIn)=false:=by cases op<;>first|rfl|exact absurd rfl h2
 cases b<;>simp[behindInMarks,e1,e2]
theorem aol(ho:OpR X (compareOp op) r)(ha:PE X a ta)(hb:PE X b tb)(hm:behindInMarks op b=false):PE X (.Compare a [op] [b] pos) (tOp r ta tb):=by
 intro aA s σ H Q I h
 exact wpAny_Compare1 (ay9 ha hb I h λv u s2 x y H2 I2 rx ry q=>ho aA s2 σ H2 x y v u Q I2 rx ry q) hm
def ath(t:TE):TT:=λσ H Q=>t σ H λx H'=>∃k,x=.bl k/\Q k H'
theorem aom{op:CmpOp}{r:R2}(ho:OpR X (compareOp op) r)(ha:PE X a ta)(hb:PE X b tb)(hm:behindInMarks op b=false):PT X (.Compare a [op] [b] pos) (ath (tOp r ta tb)):=by
 intro aA s σ H Q I h
 refine wpAny_isTrue_Compare1 (thn (ha aA s σ H _ I h) λv s1 ⟨x,H1,I1,r1,q1⟩=>thn (hb aA s1 σ H1 _ I1 q1) λu s2 ⟨y,H2,I2,r2,q2⟩ =>
  thn (ho aA s2 σ H2 x y v u _ I2 r1 r2 q2) λc s3 ⟨z,H3,I3,r3,k,e,q3⟩=>?_) hm
 subst e;cases r3
 exact eB ⟨H3,I3,q3⟩
def ayf(K:Fg)(x:V)(H:Hp)(k:Bool):Prop :=
 match x with
 |.non=>k=false
 |.bl b=>k=b
 |.int i=>k=(i != 0)
 |.str y=>y.length<=sizeLine/\k=((y.length:Int) != 0)
 |.byt y=>y.size<=sizeLine/\k=((y.size:Int) != 0)
 |.ref p=>(∃xs,SqL K H p xs/\k = !xs.isEmpty)\/(∃xs,SqT K H p xs/\k = !xs.isEmpty)\/∃kvs,H p=some (.dK kvs)/\k = !kvs.isEmpty
 |_=>False
theorem af7{κ:Type}{kvs:List (κ×V)}{vs:List (κ×Value)}(r:KV kvs vs):(!vs.isEmpty) = !kvs.isEmpty:=by
 cases r<;>rfl
theorem a8v(r:Vals xs its):(!its.toArray.isEmpty) = !xs.isEmpty:=by
 cases r<;>simp
theorem a75:(sizeLine:Nat)<2^63:=by rw[e7];decide
theorem ati:b1e X (λx H Q=>∃k,ayf X.K x H k/\Q k H):=by
 intro aA s σ H x v Q I rx h
 obtain⟨k,e,q⟩:=h;have hl:=a75;have hs:sizeLine=16777216:=e7
 cases x with
 |non =>
  cases rx
  have e':k=false:=e;subst e';exact truthy_none ⟨H,I,q⟩
 |bl b =>
  cases rx
  have e':k=b:=e;subst e';exact eB ⟨H,I,q⟩
 |int i =>
  obtain⟨t,rfl⟩:=rx;have e':k=(i != 0):=e;subst e';exact PySem.P.truthy_int ⟨H,I,q⟩
 |str y =>
  obtain⟨t,rfl⟩:=rx;obtain⟨hy,e'⟩:y.length<=sizeLine/\k=((y.length:Int) != 0):=e;subst e';exact PySem.P.truthy_str (by omega) ⟨H,I.tok _,q⟩
 |byt y =>
  obtain⟨t,rfl⟩:=rx;obtain⟨hy,e'⟩:y.size<=sizeLine/\k=((y.size:Int) != 0):=e;subst e';exact PySem.W.truthy_bytes (by omega) ⟨H,I.tok _,q⟩
 |ref p =>
  cases rx
  have e':(∃xs,SqL X.K H p xs/\k = !xs.isEmpty)\/(∃xs,SqT X.K H p xs/\k = !xs.isEmpty)\/∃kvs,H p=some (.dK kvs)/\k = !kvs.isEmpty:=e
  rcases e' with⟨xs,hx,e'⟩|⟨xs,hx,e'⟩|⟨kvs,hx,e'⟩
  ·subst e';obtain⟨its,r,pl,hz⟩:=I.list hx;have aH:=r.length;exact wpAny_truthy_list pl.isList (by simp only[aK];omega) ⟨H,I.tok _,by rw[a8v r];exact q⟩
  ·subst e';obtain⟨its,r,pl,hz⟩:=I.tuple hx;have aH:=r.length;exact truthy_tuple pl (by simp only[aK];omega) ⟨H,I.tok _,by rw[a8v r];exact q⟩
  ·subst e';obtain⟨hz,hS,vs,r,m⟩:kvs.length<=sizeLine/\(p == sysModules)=false/\∃vs,KV kvs vs/\s.heap.DictOf (v4 X.prog X.w) p vs:=I.hok p _ hx;have aH:kvs.length=vs.length:=gA r;exact wpAny_truthy_dict hS m (by omega) ⟨H,I.tok _,by rw[af7 r];exact q⟩
 |_=>exact(show False from e).elim
theorem akf(ha:PE X a ta)(he:∀whole,isTrue a X.env whole=(do let v <-whole;standAt a.pos;holding [v] (truthy v))) :
  PT X a (λσ H Q=>ta σ H λx H'=>∃k,ayf X.K x H' k/\Q k H'):=by
 intro aA s σ H Q I h
 exact isTrue_plain (thn (ha aA s σ H _ I h) λv s1 ⟨x,H1,I1,r1,q1⟩=>ati aA s1 σ H1 x v Q I1 r1 q1) (he _)
theorem af8:OpR X (binaryOp .Add) (λx y H Q=>∃i j,x=.str i/\y=.str j/\i.length+j.length<=sizeLine/\Q (.str (i++j)) H):=by
 intro aA s σ H x y v u Q I rx ry h
 obtain⟨i,j,rfl,rfl,hz,q⟩:=h;obtain⟨t,rfl⟩:=rx;obtain⟨t',rfl⟩:=ry;exact add_str (λt' tk=>⟨.str (i++j),H,I.tok _,⟨_,rfl⟩,q⟩) hz
theorem ul:OpR X (inplaceOp .Add) (λx y H Q=>∃i j,x=.str i/\y=.str j/\i.length+j.length<=sizeLine/\Q (.str (i++j)) H):=by
 intro aA s σ H x y v u Q I rx ry h
 obtain⟨i,j,rfl,rfl,hz,q⟩:=h;obtain⟨t,rfl⟩:=rx;obtain⟨t',rfl⟩:=ry;exact iadd_str (λt' tk=>⟨.str (i++j),H,I.tok _,⟨_,rfl⟩,q⟩) hz
theorem vals1(r:Vals [x] us):∃u,us=[u]/\RelV x u:=by
 cases r with
 |cons r1 r2=>cases r2;exact⟨_,rfl,r1⟩
theorem vals2(r:Vals [x,y] us):∃u w',us=[u,w']/\RelV x u/\RelV y w':=by
 cases r with
 |cons r1 r2 =>
  cases r2 with
  |cons r3 r4=>cases r4;exact⟨_,_,rfl,r1,r3⟩
theorem akg:CallR X (.builtin "abs") (λxs H Q=>∃i,xs=[.int i]/\Q (.int (if i<0 then -i else i)) H):=by
 intro aA s σ H xs us Q I r h
 obtain⟨i,rfl,q⟩:=h;obtain⟨u,rfl,t,rfl⟩:=vals1 r;exact call_abs_int λu tk=>⟨.int (if i<0 then -i else i),H,I.tok _,⟨_,rfl⟩,q⟩
theorem agm(hc:X.calm=true):CallR X (.builtin "min") (λxs H Q=>∃i j,xs=[.int i,.int j]/\Q (.int (if j<i then j else i)) H):=by
 intro aA s σ H xs us Q I r h
 obtain⟨i,j,rfl,q⟩:=h;obtain⟨u,w',rfl,⟨t,rfl⟩,⟨t',rfl⟩⟩:=vals2 r;refine min_two_ints (I.ok.hd hc) λh' tk k=>⟨_,H,I.kept k,?_,q⟩
 by_cases hj:j<i
 ·rw[aT hj,aT hj];exact⟨_,rfl⟩
 ·rw[bA hj,bA hj];exact⟨_,rfl⟩
theorem agn:CallR X (.type "int") (λxs H Q=>(∃i,xs=[.int i]/\Q (.int i) H)\/∃k,xs=[.bl k]/\Q (.int (if k then 1 else 0)) H):=by
 intro aA s σ H xs us Q I r h
 rcases h with⟨i,rfl,q⟩|⟨k,rfl,q⟩
 ·obtain⟨u,rfl,t,rfl⟩:=vals1 r;exact call_int_int ⟨.int i,H,I,⟨_,rfl⟩,q⟩
 ·obtain⟨u,rfl,r1⟩:=vals1 r;cases r1
  exact call_int_bool ⟨.int (if k then 1 else 0),H,I.tok _,⟨_,rfl⟩,q⟩
end
structure ObjM (h:Heap) (x dx C:Addr) (mA:Str->Option Value):Prop where
 obj:h.get? x=some (PySem.W.instObj C dx)
 ns:h.Ns1 dx mA
 ne:dx≠x
theorem ago{h:Heap}(n:h.Ns1 dx mA):∃od,h.get? dx=some od/\∀name,PySem.W.lookIn name od=some (mA name):=by
 obtain⟨o,es,ep,ho,hd,hk,_,hm⟩:=n;refine⟨o,ho,λname=>?_⟩;have e:=hm name;unfold nsFind findBy at e;rw[<-Array.find?_toList]at e;unfold PySem.W.lookIn;rw[hd];dsimp only
 split
 ·rename_i y q;rw[q]at e;exact aP some e
 ·rename_i q;rw[q]at e;have a:es.toList.any (·.refKey)=false:=by
   rw[List.any_eq_false]
   intro y hy
   obtain⟨z,t,hkey⟩:=hk y (Array.mem_toList_iff.mp hy);simp[DictEntry.refKey,hkey]
  have a':¬ es.toList.any (·.refKey)=true:=by rw[a];exact bI
  rw[bA a'];exact aP some e
theorem ObjM.look(I:ObjM h x dx C mA):∃od,PySem.W.InstAt h x (PySem.W.instObj C dx) C (some od)/\∀name,PySem.W.lookIn name od=some (mA name) :=
 let ⟨od,ho,hl⟩:=ago I.ns
 ⟨od,⟨I.obj,rfl,rfl,ho⟩,hl⟩
section
variable{prog:Program}{w:World}{A:Around}{E:Value->Shared->Prop}{s:Shared}{K:Fg}{x dx C f:Addr}{mA:Str->Option Value}{name:Str}{v:Value}
theorem agp(X:K.In s.heap)(I:ObjM s.heap x dx C mA)(hg:PySem.W.plainGet K C name=true)(hh:PySem.W.hasDictIn K C=true)
  (ha:PySem.W.findIn K (.ref C) name=some none) (hv:mA name=some v) (hv':PySem.W.handedIn v=true) (h:Q v {s with toks:=s.toks+1}) :
  wpAny (model prog w) A (getAttr (.ref x) name expr) Q E s:=by
 obtain⟨od,J,hl⟩:=I.look;exact PySem.W.get_value X J (fP hg).1 (PySem.W.findObj_own hh ha rfl (by rw[hl,hv])) hv' h
theorem akh(X:K.In s.heap)(I:ObjM s.heap x dx C mA)(hg:PySem.W.plainGet K C name=true)
  (hf:PySem.W.findIn K (.ref C) name=some (some (.ref f))) (ht:PySem.W.isFn K (.ref f)=true) (hv:mA name=none) (h:Q (.ref f,[.ref x]) s) :
  wpAny (model prog w) A (getMethod (.ref x) name pl) Q E s:=by
 obtain⟨od,J,hl⟩:=I.look;exact PySem.W.method_fn X J (fP hg).1 (fP hg).2 hf (fg.mp ht) (by show(PySem.W.lookIn name od).map (·.isSome)=some false;rw[hl,hv];rfl) h
theorem aon(X:K.In s.heap)(I:ObjM s.heap x dx C mA)
  (hs:PySem.W.findIn K (.ref C) "__setattr__" = some (some (.builtin "object.__setattr__"))) (hp:PySem.W.plainOver K C=true) (ht:PySem.W.takerIn K C name=some none) (hh:PySem.W.hasDictIn K C=true)
  (hw:PySem.Within mA ns) (hsz:ns.length<=sizeLine)
  (h:∀h',ObjM h' x dx C (λy=>if y=name then some v else mA y)->Heap.SameBut dx s.heap h'->Q () {s with heap:=h',toks:=s.toks+2}) :
  wpAny (model prog w) A (setAttr (.ref x) name v) Q E s:=by
 obtain⟨od,J,hl⟩:=I.look;refine PySem.W.set_plain X J hs (PySem.W.osa_open (s:={s with toks:=s.toks+1}) (r:=none) X J hp ht λb=>?_)
 obtain⟨cd,hc,hd'⟩:=PySem.W.any_some hh;have hx:s.heap.get? x=some ⟨.ref C,some dx,.plain, #[]⟩:=I.obj;refine aE (bp (aE (aE (wpAny_loadPart hx (aE (PySem.W.Looks.here (s:={s with toks:=s.toks+1}) (PySem.W.looks_clsIn X hc) ?_))))))
 rw[hd'];refine bp (a:=some dx) (aE (bp (aE ?_)));refine wpAny_nsSet1 (s:={s with toks:=s.toks+1}) I.ns λh' hn2 hs2=>?_
 obtain⟨oD,esD,epD,hoD,hdD,hcD⟩:=hn2.count (PySem.Within.cons name v hw);refine aE (wpAny_lookBehind hoD (by rw[hdD];exact pastItsLine_dict (cA hcD (by rw[aY];omega))) ?_)
 exact bp (h _ ⟨(hs2.2 _ (dG I.ne)).trans I.obj,hn2,I.ne⟩ hs2)
theorem aki(X:K.In s.heap)(hm:PySem.W.makesIn K C=true)
  (hi:PySem.W.findIn K (.ref C) "__init__" = some (some (.ref f))) (hf:PySem.W.typeIn K (.ref f)=some (.type "function"))
  (h:codeAny (model prog w) (A.under (.builtin "type.__call__" ⟨.ref C::vs,kw⟩)) (.call (.ref f) ⟨.ref (s.heap.objs.size+1)::vs,kw⟩) (PySem.W.InitBack (s.heap.objs.size+1) R)
   {s with heap:=(s.heap.push PySem.W.emptyDict).push (PySem.W.instObj C s.heap.objs.size)}) :
  codeAny (model prog w) A (.call (.ref C) ⟨vs,kw⟩) R s:=by
 obtain⟨hh,g,d,t,os⟩:=s;exact PySem.W.make_core (PySem.W.makes_of X hm) (PySem.W.looks_findIn X hi) (λself=>PySem.W.bind_fn X self hf) (.inl rfl) h
end
def a7p(f:Str)(v:V):List (Str×V)->List (Str×V)
 |[]=>[(f,v)]
 |(g,x)::r=>if g=f then (g,v)::r else (g,x)::a7p f v r
theorem a7q(f g:Str)(v:V):∀fs:List (Str×V),(a7p f v fs).lookup g=if g=f then some v else fs.lookup g
 |[]=>by
  show List.lookup g [(f,v)]=_
  by_cases h:g=f
  ·have hb:(g == f)=true:=fg.mpr h;simp only[List.lookup,hb,aT h]
  ·have hb:(g == f)=false:=cn.mpr h;simp only[List.lookup,hb,bA h]
 |(k,x)::r=>by
  have ih:=a7q f g v r;rw[show a7p f v ((k,x)::r)=(if k=f then (k,v)::r else (k,x)::a7p f v r) from rfl]
  by_cases hk:k=f
  ·rw[aT hk]
   by_cases h:g=k
   ·have hb:(g == k)=true:=fg.mpr h;simp only[List.lookup,hb,aT (h.trans hk)]
   ·have hb:(g == k)=false:=cn.mpr h;simp only[List.lookup,hb,bA (λe:g=f=>h (e.trans hk.symm))]
  ·rw[bA hk]
   by_cases h:g=k
   ·have hb:(g == k)=true:=fg.mpr h;simp only[List.lookup,hb,bA (λe:g=f=>hk (h.symm.trans e))]
   ·have hb:(g == k)=false:=cn.mpr h;simp only[List.lookup,hb];exact ih
theorem a7r(f:Str)(v:V):∀fs:List (Str×V),f∈(a7p f v fs).map (·.1)/\∀g,g∈fs.map (·.1)->g∈(a7p f v fs).map (·.1)
 |[]=>⟨by simp[a7p],λg h=>by simp at h⟩
 |(k,x)::r=>by
  obtain⟨i1,i2⟩:=a7r f v r;rw[show a7p f v ((k,x)::r)=(if k=f then (k,v)::r else (k,x)::a7p f v r) from rfl]
  by_cases hk:k=f
  ·rw[aT hk];subst hk;exact⟨by simp,λg h=>by simpa using h⟩
  ·rw[bA hk];refine⟨?_,λg h=>?_⟩
   ·rw[br];exact ba _ i1
   ·rw[br]at h ⊢
    rcases aR.mp h with e|e
    ·exact aR.mpr (.inl e)
    ·exact ba _ (i2 g e)
theorem a7s(f:Str)(v:V):∀fs:List (Str×V),(a7p f v fs).length<=fs.length+1
 |[]=>by simp[a7p]
 |(k,x)::r=>by
  have ih:=a7s f v r;rw[show a7p f v ((k,x)::r)=(if k=f then (k,v)::r else (k,x)::a7p f v r) from rfl]
  by_cases hk:k=f
  ·rw[aT hk,aY,aY];omega
  ·rw[bA hk,aY,aY];omega
theorem RelO.some_of(r:RelO (some v) o):∃u,o=some u/\RelV v u:=by
 cases o with
 |none=>exact(show False from r).elim
 |some u=>exact⟨u,rfl,r⟩
theorem RelO.none_of(r:RelO none o):o=none:=by
 cases o with
 |none=>rfl
 |some u=>exact(show False from r).elim
theorem ab1(r:RelV v u):PySem.W.handedIn u=true:=by
 cases v with
 |non=>cases (show u=Value.none from r);rfl
 |bl b=>cases (show u=Value.bool b from r);rfl
 |int i=>obtain⟨t,e⟩:=(show ∃t,u=Value.int i t from r);cases e;rfl
 |str x=>obtain⟨t,e⟩:=(show ∃t,u=Value.str x t from r);cases e;rfl
 |byt b=>obtain⟨t,e⟩:=(show ∃t,u=Value.bytes b t from r);cases e;rfl
 |flt b=>obtain⟨t,e⟩:=(show ∃t,u=Value.float b t from r);cases e;rfl
 |ref a=>cases (show u=Value.ref a from r);rfl
 |ty n=>cases (show u=Value.type n from r);rfl
section
variable{P:Program}{w:World}{H H':Hp}{h h':Heap}{a C dx:Addr}{fs fs':List (Str×V)}
theorem a9h(hok:HOk P w H h)(e:H a=some (.ins C dx fs)):∃mA,ObjM h a dx C mA/\(∀f,RelO (fs.lookup f) (mA f))/\PySem.Within mA (fs.map (·.1))/\fs.length<=1000/\H dx=some (.own a):=by
 obtain⟨d,z,ne,ob,mA,n,r,q⟩:=(show ObjOk P w H h a (.ins C dx fs) from hok a _ e)
 exact⟨mA,⟨ob,n,ne⟩,r,q,z,d⟩
end
structure Cls (K:Fg) (C:Addr):Prop where
 pg:PySem.W.plainGet K C Str.empty=true
 hd:PySem.W.hasDictIn K C=true
 po:PySem.W.plainOver K C=true
 sa:PySem.W.findIn K (.ref C) "__setattr__" = some (some (.builtin "object.__setattr__"))
theorem Cls.get{K:Fg}{C:Addr}(c:Cls K C)(f:Str):PySem.W.plainGet K C f=true:=c.pg
def NoAttr(K:Fg)(C:Addr)(f:Str):Prop:=PySem.W.findIn K (.ref C) f=some none
theorem NoAttr.taker{K:Fg}{C:Addr}{f:Str}(n:NoAttr K C f):PySem.W.takerIn K C f=some none:=by
 unfold PySem.W.takerIn;rw[show PySem.W.findIn K (.ref C) f=some none from n]
 rfl
structure Meth (K:Fg) (C:Addr) (m:Str) (f:Addr):Prop where
 at_:PySem.W.findIn K (.ref C) m=some (some (.ref f))
 fn:PySem.W.isFn K (.ref f)=true
 kp:PySem.W.keepIn K (.ref f)=true
section
variable{X:Cx}{aA:List (Addr×Obj)}{σ:St}{H:Hp}{s:Shared}{a C dx:Addr}{fs:List (Str×V)}{f:Str}{v:V}{A:Around}{E:Value->Shared->Prop}
theorem a8w(I:Inv X aA σ H s)(e:H a=some (.ins C dx fs))(c:Cls X.K C)(n:NoAttr X.K C f)(l:fs.lookup f=some v)
  (h:∀u s',Inv X aA σ H s'->RelV v u->Q u s'):wpAny (model X.prog X.w) A (getAttr (.ref a) f b) Q E s:=by
 obtain⟨mA,O,r,_,_,_⟩:=a9h I.hok e;obtain⟨u,hu,ru⟩:=RelO.some_of (v:=v) (o:=mA f) (by rw[<-l];exact r f)
 exact agp I.kIn O (c.get f) c.hd n hu (ab1 ru) (h u _ (I.tok _) ru)
theorem a6k(I:Inv X aA σ H s)(e:H a=some (.ins C dx fs))(c:Cls X.K C)(k:Meth X.K C m g)(l:fs.lookup m=none)
  (h:Q (.ref g,[.ref a]) s):wpAny (model X.prog X.w) A (getMethod (.ref a) m pl) Q E s:=by
 obtain⟨mA,O,r,_,_,_⟩:=a9h I.hok e;have hn:mA m=none:=RelO.none_of (by rw[<-l];exact r m)
 exact akh I.kIn O (c.get m) k.at_ k.fn hn h
theorem a6l(I:Inv X aA σ H s)(e:H a=some (.ins C dx fs))(c:Cls X.K C)(n:NoAttr X.K C f)(hl:fs.length<1000)(ry:RelV y u)
  (h:∀s',Inv X aA σ (upd H a (.ins C dx (a7p f y fs))) s'->Q () s'):wpAny (model X.prog X.w) A (setAttr (.ref a) f u) Q E s:=by
 obtain⟨mA,O,r,wi,_,ho⟩:=a9h I.hok e;have hz:(fs.map (·.1)).length<=sizeLine:=by rw[ay,e7];omega
 refine aon I.kIn O c.sa c.po n.taker c.hd wi hz λh' O' sb=>h _ ?_;have hd:∃o,h'.get? dx=some o:=let ⟨o,_,_,e',_⟩:=O'.ns; ⟨o,e'⟩;refine I.write (x:=a) (e:=dx) (by rw[e];exact True.intro) (.inr ho) (λb q hb z=>(sb.2 b hb).trans z) hd ?_
 refine⟨by rw[jg O.ne];exact ho,?_,O.ne,O'.obj,_,O'.ns,λg=>?_,λg hg=>?_⟩
 ·have:=a7s f y fs;omega
 ·show RelO ((a7p f y fs).lookup g) (if g=f then some u else mA g)
  rw[a7q]
  by_cases q:g=f
  ·rw[aT q,aT q];exact ry
  ·rw[bA q,bA q];exact r g
 ·by_cases q:g=f
  ·rw[q];exact(a7r f y fs).1
  ·refine(a7r f y fs).2 g (wi g λz=>hg ?_);show(if g=f then some u else mA g)=none
   rw[bA q];exact z
theorem Inv.made(I:Inv X aA σ H s):Inv X aA σ (upd (upd H s.heap.objs.size (.own (s.heap.objs.size+1))) (s.heap.objs.size+1) (.ins C s.heap.objs.size []))
  {s with heap:=(s.heap.push PySem.W.emptyDict).push (PySem.W.instObj C s.heap.objs.size)}:=by
 have e1:(s.heap.push PySem.W.emptyDict).get? s.heap.objs.size=some PySem.W.emptyDict:=bb s.heap rfl;have e2:((s.heap.push PySem.W.emptyDict).push (PySem.W.instObj C s.heap.objs.size)).get? (s.heap.objs.size+1)=some (PySem.W.instObj C s.heap.objs.size):=by
  have:=bb (s.heap.push PySem.W.emptyDict) (o:=PySem.W.instObj C s.heap.objs.size) rfl
  rwa[cM]at this
 have e3:(s.heap.push PySem.W.emptyDict).Ns s.heap.objs.size (λ_=>none):=⟨PySem.W.emptyDict, #[],_,e1,rfl,(λe he=>absurd he (by simp)),λ_=>rfl⟩
 have I1:=I.laid (a:=s.heap.objs.size) (o:=.own (s.heap.objs.size+1)) (h':=s.heap.push PySem.W.emptyDict) (t':=s.toks) (λb u q=>av _ q) (aJ _) ⟨_,e1⟩;refine I1.laid (a:=s.heap.objs.size+1) (o:=.ins C s.heap.objs.size []) (t':=s.toks) (λb u q=>av _ q) (Nat.le_of_eq (cM _ _)) ?_;have ne:s.heap.objs.size≠s.heap.objs.size+1:=bN (fE _);refine⟨by rw[jg ne,ph],aW _,ne,e2,λ_=>none,(Heap.Ns1.of_empty e3).at λo q=>av _ q,λ_=>True.intro,λy hy=>absurd rfl hy⟩
theorem aoo(hb:attributeBase e f env (eval e env)=eval e env)
  (h:wpAny (model prog w) A (eval e env) (λo s₁=>wpAny (model prog w) A (getAttr o f true) Q E s₁) E s):wpAny (model prog w) A (eval (.Attribute e f pos) env) Q E s :=
 Attribute_any_ h (by rw[arm_eval_Attribute,hb])
end
def b1f(K:Fg)(ta tv:TE)(f:Str):TS:=λD σ H=>tv σ H λy H1=>ta σ H1 λx H2=>∃a C dx fs,x=.ref a/\H2 a=some (.ins C dx fs)/\Cls K C/\NoAttr K C f/\fs.length<1000 /\
 D.nx σ (upd H2 a (.ins C dx (a7p f y fs)))
def b1g(X:Cx)(op:Operator)(rd:V->V->Hp->VK->Prop):Prop :=
 ∀(aA:List (Addr×Obj)) (s:Shared) (σ:St) (H:Hp) (x y:V) (u v:Value) (Q:VK),Inv X aA σ H s->RelV x u->RelV y v->rd x y H Q->wpAny (model X.prog X.w) X.A (inplaceOp op u v) (EP X aA σ Q) X.xe s
def aop(K:Fg)(ta tv:TE)(rd:V->V->Hp->VK->Prop)(f:Str):TS:=λD σ H=>ta σ H λx H1=>∃a C dx fs v,x=.ref a/\H1 a=some (.ins C dx fs)/\Cls K C/\NoAttr K C f/\fs.lookup f=some v /\
 tv σ H1 λy H2=>rd v y H2 λz H3=>∃dx' fs',H3 a=some (.ins C dx' fs')/\fs'.length<1000/\D.nx σ (upd H3 a (.ins C dx' (a7p f z fs')))
section
variable{X:Cx}{o e value:Expr}{f:Str}{pos pos' tpos:Pos}{ta tv:TE}
theorem atj(ha:PE X o ta)(hv:PE X value tv)(hs:swapsWith value (some (.Attribute o f pos')) pos.line X.env=pure false):PS X (.Assign [.Attribute o f pos'] value pos) (b1f X.K ta tv f):=by
 intro aA s σ H D I h
 refine plainObj_wpAny_Assign_Attribute (thn (hv aA s σ H _ I h) λu s1 ⟨y,H1,I1,ry,q⟩=>thn (ha aA s1 σ H1 _ I1 q) λov s2 ⟨x,H2,I2,rx,a,C,dx,fs,ex,ea,c,n,l,q2⟩=>?_) hs;subst ex;obtain rfl:ov=Value.ref a:=rx;exact a6l I2 ea c n l ry λs3 I3=>⟨σ,_,I3,q2⟩
theorem agq{op:Operator}{rd:V->V->Hp->VK->Prop}(ha:PE X o ta)(hv:PE X value tv)(hop:b1g X op rd):PS X (.AugAssign (.Attribute o f tpos) op value pos) (aop X.K ta tv rd f):=by
 intro aA s σ H D I h
 refine wpAny_AugAssign_AttributeAny (thn (ha aA s σ H _ I h) λov s1 ⟨x,H1,I1,rx,a,C,dx,fs,v,ex,ea,c,n,l,q⟩=>?_);subst ex;obtain rfl:ov=Value.ref a:=rx;refine a8w I1 ea c n l λu s2 I2 ru=>thn (hv aA s2 σ H1 _ I2 q) λw3 s3 ⟨y,H2,I3,ry,q3⟩=>thn (hop aA s3 σ H2 v y u w3 _ I3 ru ry q3) ?_
 rintro w4 s4 ⟨z,H3,I4,rz,dx',fs',ea',l',q4⟩
 exact a6l I4 ea' c n l' rz λs5 I5=>⟨σ,_,I5,q4⟩
end
section
variable{X:Cx}{aA:List (Addr×Obj)}{σ:St}{H:Hp}{s:Shared}{A:Around}{E:Value->Shared->Prop}{Q:Value->Shared->Prop}{c:Value}{b:Bool}
inductive TyOf (K:Fg) (H:Hp):V->Value->Prop where
 |non:TyOf K H .non (.type "NoneType")
 |bl (x:Bool):TyOf K H (.bl x) (.type "bool")
 |int (i:Int):TyOf K H (.int i) (.type "int")
 |str (x:Str):TyOf K H (.str x) (.type "str")
 |flt (x:UInt64):TyOf K H (.flt x) (.type "float")
 |lst {a:Addr} {xs:List V} (e:H a=some (.lst xs)):TyOf K H (.ref a) (.type "list")
 |frz {a:Addr} {o:Obj} {xs:List V} (e:H a=some (.frz o (.lst xs))):TyOf K H (.ref a) (.type "list")
 |tup {a:Addr} {xs:List V} (e:H a=some (.tup xs)):TyOf K H (.ref a) (.type "tuple")
 |dK {a:Addr} {kvs:List (Key×V)} (e:H a=some (.dK kvs)):TyOf K H (.ref a) (.type "dict")
 |dT {a:Addr} {kvs:List (List Key×V)} (e:H a=some (.dT kvs)):TyOf K H (.ref a) (.type "dict")
 | ins {a C dx:Addr} {fs:List (Str×V)} (e:H a=some (.ins C dx fs)) (cl:Cls K C) (ha:PySem.W.findIn K (.ref C) "__class__" = some (some (.builtin "object.__class__")))
   (hn:PySem.W.specialIn K (.builtin "object.__class__") "__get__" = some (some (.builtin "getset_descriptor.__get__"))) (htk:PySem.W.takesIn K (.builtin "object.__class__")=some true)
   (hm:PySem.W.mroIn K C (.type "object")=some true):TyOf K H (.ref a) (.ref C)
theorem agr(I:Inv X aA σ H s)(rx:RelV x u)(ty:TyOf X.K H x t)(e:PySem.W.kitOne X.K t c=some b)(h:∀tk,Q (.bool b) {s with toks:=tk}) :
  wpAny (model X.prog X.w) A (call (.builtin "isinstance") [u,c]) Q E s:=by
 cases ty with
 |non=>cases (show u=Value.none from rx);exact cB PySem.W.kitx_none I.kIn True.intro e (λz=>nomatch z) h
 |bl y=>cases (show u=Value.bool y from rx);exact cB PySem.W.kitx_bool I.kIn True.intro e (λz=>nomatch z) h
 |int i=>obtain⟨t,q⟩:=(show ∃t,u=Value.int i t from rx);cases q;exact cB PySem.W.kitx_int I.kIn True.intro e (λz=>nomatch z) h
 |str y=>obtain⟨t,q⟩:=(show ∃t,u=Value.str y t from rx);cases q;exact cB PySem.W.kitx_str I.kIn True.intro e (λz=>nomatch z) h
 |flt y=>obtain⟨t,q⟩:=(show ∃t,u=Value.float y t from rx);cases q;exact cB PySem.W.kitx_float I.kIn True.intro e (λz=>nomatch z) h
 |@lst a xs ea =>
  cases (show u=Value.ref a from rx)
  obtain⟨_,_,n,_,h1⟩:=(show ObjOk X.prog X.w H s.heap a (.lst xs) from I.hok a _ ea)
  exact cB PySem.W.kitx_list I.kIn ⟨_,h1,rfl⟩ e (λz=>nomatch z) h
 |@frz a ob xs ea =>
  cases (show u=Value.ref a from rx)
  obtain⟨_,_,_,n,_,h1⟩:=(show ObjOk X.prog X.w H s.heap a (.frz ob (.lst xs)) from I.hok a _ ea)
  exact cB PySem.W.kitx_list I.kIn ⟨_,h1,rfl⟩ e (λz=>nomatch z) h
 |@tup a xs ea =>
  cases (show u=Value.ref a from rx)
  obtain⟨_,_,_,p⟩:=(show ObjOk X.prog X.w H s.heap a (.tup xs) from I.hok a _ ea)
  obtain⟨o,h1,h2,_⟩:=p;exact cB PySem.W.kitx_tuple I.kIn ⟨o,h1,h2⟩ e (λz=>nomatch z) h
 |@dK a kvs ea =>
  cases (show u=Value.ref a from rx)
  obtain⟨_,_,vs,_,p⟩:=(show ObjOk X.prog X.w H s.heap a (.dK kvs) from I.hok a _ ea)
  obtain⟨o,es,ep,h1,h2,_⟩:=p;exact cB gu I.kIn ⟨o,h1,h2.1⟩ e (λz=>nomatch z) h
 |@dT a kvs ea =>
  cases (show u=Value.ref a from rx)
  obtain⟨_,_,xs,_,o,es,ep,h1,h2,_⟩:=(show ObjOk X.prog X.w H s.heap a (.dT kvs) from I.hok a _ ea)
  exact cB gu I.kIn ⟨o,h1,h2.1⟩ e (λz=>nomatch z) h
 |@ins a C dx fs ea cl ha hn htk hm =>
  cases (show u=Value.ref a from rx)
  obtain⟨mA,O,_⟩:=a9h I.hok ea;obtain⟨od,J,_⟩:=O.look;exact cB (PySem.W.kitx_own (cl.get _) cl.hd ha hn htk hm) I.kIn J e (λz=>nomatch z) h
end
structure Room (k:Nat) (A:Around):Prop where
 hd:A.handled=none
 dp:A.depth+3*k+5<recursionLimit
 un:A.units+16*k+200<cLine
 gd:A.guards=some []
theorem Room.mono(r:Room k A)(h:j<=k):Room j A:=⟨r.hd,by have:=r.dp;omega,by have:=r.un;omega,r.gd⟩
theorem Room.deeper(r:Room (k+1) A)(env:Env):Room k (A.deeper env) :=
 ⟨r.hd,by have:=r.dp;show A.depth+1+3*k+5<_;omega,by have:=r.un;show A.units+3+16*k+200<_;omega,r.gd⟩
theorem af9{A:Around}:(A.under (.builtin "type.__call__" ⟨.ref C::us,kw⟩)).depth=A.depth+1:=by
 first|rfl|simp[Around.under,Code.weight,Code.isCreation,Code.isGuard,Code.isCaller,Code.frames,Code.isFrame,guardIds]
theorem afa{A:Around}:(A.under (.builtin "type.__call__" ⟨.ref C::us,kw⟩)).units=A.units+1:=by
 first|rfl|simp[Around.under,Code.cUnits,Code.frames,Code.isFrame]
theorem acq{A:Around}:(A.under (.builtin "type.__call__" ⟨.ref C::us,kw⟩)).guards=A.guards:=by
 obtain⟨_,_,_,g,_⟩:=A
 cases g<;>first|rfl|simp[Around.under,pushGuards,Code.guards,Code.isGuard,guardIds]
theorem Room.make(r:Room (k+1) A)(C:Addr)(us:List Value)(kw:List (Str×Value)):Room k (A.under (.builtin "type.__call__" ⟨.ref C::us,kw⟩)) :=
 ⟨r.hd,by have:=r.dp;rw[af9];omega,by have:=r.un;rw[afa];omega,by rw[acq];exact r.gd⟩
theorem Room.depth(r:Room k A):A.depth<recursionLimit:=by have:=r.dp;omega
theorem Room.units(r:Room k A):A.units+64<cLine:=by have:=r.un;omega
def ayg:TA:=λ_ H Q=>Q [] H
def ayh(ta:TE)(tr:TA):TA:=λσ H Q=>ta σ H λx H1=>tr σ H1 λxs H2=>Q (x::xs) H2
section
variable{X:Cx}{e:Expr}{es:List Expr}{te:TE}{t:TA}{pos:Pos}
theorem amw:PA X [] ayg:=λ_ _ _ _ H Q I h=>Calls.spliced_nil ⟨[],H,I,.nil,h⟩
theorem acr(ha:PE X e te)(hr:PA X es t)(hs:starEach (e::es) X.env=(false,eval e X.env)::starEach es X.env:=by rfl):PA X (e::es) (ayh te t):=by
 intro pos aA s σ H Q I h
 rw[hs];show wpAny _ _ (spliced ((false,eval e X.env)::backTo pos (starEach es X.env))) _ _ s;refine Calls.spliced_cons (thn (ha aA s σ H _ I h) λu s1 ⟨x,H1,I1,r1,q1⟩=>?_);exact thn (hr pos aA s1 σ H1 _ I1 q1) λus s2 ⟨xs,H2,I2,r2,q2⟩=>⟨x::xs,H2,I2,.cons r1 r2,q2⟩
def b1h(t:TA):TE:=λσ H Q=>t σ H λxs H1=>xs.length<=sizeLine/\∀p,H1 p=none->Q (.ref p) (upd H1 p (.tup xs))
def b1i(t:TA):TE:=λσ H Q=>t σ H λxs H1=>xs.length<=sizeLine/\∀p,H1 p=none->Q (.ref p) (upd H1 p (.lst xs))
theorem atk{x1}(h:PA X es t):PE X (.Tuple es x1 pos) (b1h t):=by
 intro aA s σ H Q I hq
 refine wpAny_Tuple_spliced (thn (h pos aA s σ H _ I hq) λus s1 ⟨xs,H1,I1,r,z,q⟩=>⟨by rw[<-r.length];exact z,?_⟩)
 have hf:H1 s1.heap.objs.size=none:=I1.hok.fresh (aJ _);refine⟨.ref s1.heap.objs.size,upd H1 s1.heap.objs.size (.tup xs),I1.laid (t':=s1.toks) (λb u e=>av _ e) (aJ _) ?_,rfl,q _ hf⟩;exact⟨z,us,r,⟨_,bb _ rfl,rfl,_,rfl⟩⟩
theorem atl(h:PA X es t):PE X (.List es pos) (b1i t):=by
 intro aA s σ H Q I hq
 refine wpAny_List_spliced (thn (h pos aA s σ H _ I hq) λus s1 ⟨xs,H1,I1,r,z,q⟩=>⟨by rw[<-r.length];exact z,?_⟩)
 have hf:H1 s1.heap.objs.size=none:=I1.hok.fresh (aJ _);refine⟨.ref s1.heap.objs.size,upd H1 s1.heap.objs.size (.lst xs),I1.laid (t':=s1.toks) (λb u e=>av _ e) (aJ _) ?_,rfl,q _ hf⟩;exact⟨z,us,0,r,bb _ rfl⟩
end
abbrev Sp:=List V->Hp->VK->XK->Prop
abbrev CXT:=List Env->Hp->Shared->XK->Value->Shared->Prop
structure Env0 (P:Program) (w:World) (K:Fg) (mg:Str->Option Value) (base:Heap) (A:Around) (outer:List Env) (s:Shared) (H:Hp):Prop where
 frames:A.frames=some outer
 mod:Mod K mg base
 bs:∀b o,base.get? b=some o->s.heap.get? b=some o/\H b=none
 bsz:base.objs.size<=s.heap.objs.size
 funs:s.heap.FunFrames base outer
 frf:∀b∈frs outer,H b=none
 hok:HOk P w H s.heap
 bare:AllBare s.gens
def CE(outer:List Env)(P:Program)(w:World)(H:Hp)(s:Shared)(Q:VK)(u:Value)(s':Shared):Prop :=
 ∃v H',s'.os=s.os/\AllBare s'.gens/\Un (frs outer) [] H H' s.heap s'.heap/\HOk P w H' s'.heap/\RelV v u/\Q v H'
def CR(CX:CXT)(outer:List Env)(P:Program)(w:World)(H:Hp)(s:Shared)(Q:VK)(E:XK)(r:Result)(s':Shared):Prop :=
 match r with
 |.ok (.ret u)=>CE outer P w H s Q u s'
 |.ok _=>False
 |.error e=>CX outer H s E e s'
structure FnOk (P:Program) (w:World) (K:Fg) (mg:Str->Option Value) (base:Heap) (CX:CXT) (k:Nat) (f:Addr) (fd:FuncData) (ps:List Str) (sp:Sp):Prop where
 len:∀vs H Q E,sp vs H Q E->vs.length=ps.length
 run:∀(A:Around) (outer:List Env) (s:Shared) (H:Hp) (args:Args) (us:List Value) (vs:List V) (Q:VK) (E:XK),Room k A->Env0 P w K mg base A outer s H->BindsTo s fd args (ps.zip us)->Vals vs us->sp vs H Q E->
  codeAny (model P w) A (.call (.ref f) args) (CR CX outer P w H s Q E) s
theorem FnOk.imp{P:Program}{w:World}{K:Fg}{mg:Str->Option Value}{base:Heap}{CX:CXT}{k:Nat}{f:Addr}{fd:FuncData}{ps:List Str}{sp sp':Sp}(F:FnOk P w K mg base CX k f fd ps sp)
  (h:∀vs H Q E,sp' vs H Q E->sp vs H Q E):FnOk P w K mg base CX k f fd ps sp' :=
 ⟨λvs H Q E q=>F.len vs H Q E (h _ _ _ _ q),λA outer s H args us vs Q E hr he hb hv hs=>F.run A outer s H args us vs Q E hr he hb hv (h _ _ _ _ hs)⟩
theorem Env0.make{P:Program}{w:World}{K:Fg}{mg:Str->Option Value}{base:Heap}{A:Around}{outer:List Env}{s:Shared}{H:Hp}(e:Env0 P w K mg base A outer s H)(C:Addr)(us:List Value)(kw:List (Str×Value)) :
  Env0 P w K mg base (A.under (.builtin "type.__call__" ⟨.ref C::us,kw⟩)) outer s H:=⟨by first|exact e.frames|(simpa[Around.under,Code.envs,Code.isFrame,pushEnvs] using e.frames),e.mod,e.bs,e.bsz,e.funs,e.frf,e.hok,e.bare⟩
section
variable{X:Cx}{aA:List (Addr×Obj)}{σ:St}{H:Hp}{s s':Shared}
theorem Inv.env0(I:Inv X aA σ H s):Env0 X.prog X.w X.K X.mg X.base X.A X.stack s H :=
 ⟨I.ok.frames,I.ok.mod,I.bs,cA I.ok.bsz I.sz,I.stack,I.stkFree,I.hok,I.bare⟩
theorem Inv.after(I:Inv X aA σ H s)(h:CE X.stack X.prog X.w H s Q u s'):EP X aA σ Q u s':=by
 obtain⟨v,H',os,bare,un,hok,r,q⟩:=h;obtain⟨hh,g,d,t,os'⟩:=s';obtain rfl:os'=s.os:=os;exact⟨v,H',I.call (h':=hh) (g':=g) (d':=d) (t':=t) (ch:=[]) un hok bare (λb z=>absurd z (by simp)),r,q⟩
end
def aor(sp:Sp)(dvs:List V)(E:XK)(t:TA):TE:=λσ H Q=>t σ H λvs H1=>sp (vs++dvs) H1 Q E
def aos(C:Addr)(m:Str)(sp:Sp)(dvs:List V)(E:XK)(ta:TE)(t:TA):TE:=λσ H Q=>ta σ H λx H1=>∃a dx fs,x=.ref a/\H1 a=some (.ins C dx fs)/\fs.lookup m=none /\
 t σ H1 λvs H2=>sp (x::(vs++dvs)) H2 Q E
def ayi(C:Addr)(sp:Sp)(dvs:List V)(E:XK)(t:TA):TE:=λσ H Q=>t σ H λvs H1=>∀x dx,H1 x=none->H1 dx=none->dx≠x->
 sp (.ref x::(vs++dvs)) (upd (upd H1 dx (.own x)) x (.ins C dx [])) (λv H2=>v=.non/\Q (.ref x) H2) E
def Binds(K:Fg)(fd:FuncData)(ps:List Str)(ds:List Value):Prop :=
 ∀(s:Shared) (us:List Value),K.In s.heap->(us++ds).length=ps.length->BindsTo s fd ⟨us,[]⟩ (ps.zip (us++ds))
theorem Binds.all{K:Fg}{fd:FuncData}{ps:List Str}(h:∀us:List Value,us.length=ps.length->bindArgs fd ⟨us,[]⟩=pure (ps.zip us)):Binds K fd ps []:=λs us _ hl=>by
 rw[bT]at hl ⊢;exact .of_eq (h us hl)
def a76(CX:CXT)(X:Cx)(E:XK):Prop:=∀(aA:List (Addr×Obj)) (σ:St) (H:Hp) (s:Shared) (e:Value) (s':Shared),Inv X aA σ H s->CX X.stack H s E e s'->X.xe e s'
section
variable{X:Cx}{CX:CXT}{k:Nat}{f C:Addr}{fd:FuncData}{ps:List Str}{sp:Sp}{dvs:List V}{ds:List Value}{E:XK}{x m:Str}{p pos apos:Pos}{e o:Expr}{es:List Expr}{ta:TE}{t:TA}
theorem ab2(F:FnOk X.prog X.w X.K X.mg X.base CX k f fd ps sp)(hr:Room k X.A)(hb:Binds X.K fd ps ds)(hd:Vals dvs ds)(hx:a76 CX X E)
  (I:Inv X aA σ H s) (r:Vals vs us) (h:sp (vs++dvs) H Q E):wpAny (model X.prog X.w) X.A (call (.ref f) us) (EP X aA σ Q) X.xe s:=by
 have r2:Vals (vs++dvs) (us++ds):=r.append hd;have hl:(us++ds).length=ps.length:=by rw[<-r2.length];exact F.len _ _ _ _ h
 refine wpAny_call (gL (F.run X.A X.stack s H ⟨us,[]⟩ (us++ds) (vs++dvs) Q E hr I.env0 (hb s us I.kIn hl) r2 h) λr s' hq=>?_)
 cases r with
 |error e=>exact hx aA σ H s e s' I hq
 |ok fl =>
  cases fl with
  |ret u=>exact I.after hq
  |next=>exact False.elim hq
  |brk=>exact False.elim hq
  |cont=>exact False.elim hq
theorem ags(F:FnOk X.prog X.w X.K X.mg X.base CX k f fd ps sp)(hr:Room k X.A)(hg:Gl X x)(hm:X.mg x=some (.ref f))(hk:PySem.W.keepIn X.K (.ref f)=true)(hb:Binds X.K fd ps ds)(hd:Vals dvs ds)(hx:a76 CX X E)
  (ha:PA X (e::es) t) (hdb:(x == ("__debug__" : Str))=false:=by decide) (he:starEach (e::es) X.env=(false,eval e X.env)::starEach es X.env:=by rfl) (hpl:(backTo pos (starEach es X.env)).any (·.1)=false:=by rfl) :
  PE X (.Call (.Name x p) (e::es) [] pos) (aor sp dvs E t):=by
 intro aA s σ H Q I h
 refine dB (a9g I hg hm ?_ hdb);refine eO (h₀:=X.base) I.ok.mod.kin hk (thn (ha pos aA s σ H _ I h) λus s1 ⟨vs,H1,I1,r,q⟩=>⟨I1.kIn,?_⟩) he hpl;exact ab2 F hr hb hd hx I1 r q
theorem akj(F:FnOk X.prog X.w X.K X.mg X.base CX k f fd ps sp)(hr:Room k X.A)(hg:Gl X x)(hm:X.mg x=some (.ref f))(hk:PySem.W.keepIn X.K (.ref f)=true)(hb:Binds X.K fd ps ds)(hd:Vals dvs ds)(hx:a76 CX X E)
  (hdb:(x == ("__debug__" : Str))=false:=by decide):PE X (.Call (.Name x p) [] [] pos) (aor sp dvs E ayg):=by
 intro aA s σ H Q I h
 refine dB (a9g I hg hm ?_ hdb);exact PySem.W.callWith_K0 I.kIn hk (ab2 (us:=[]) F hr hb hd hx I .nil h)
theorem aot(he:PE X o ta)(c:Cls X.K C)(hm:Meth X.K C m f)(F:FnOk X.prog X.w X.K X.mg X.base CX k f fd ps sp)(hr:Room k X.A)(hb:Binds X.K fd ps ds)(hd:Vals dvs ds)(hx:a76 CX X E)(ha:PA X (e::es) t)
  (hst:starEach (e::es) X.env=(false,eval e X.env)::starEach es X.env:=by rfl) (hpl:(backTo pos (starEach es X.env)).any (·.1)=false:=by rfl)
  (ht:eval (.Call (.Attribute o m apos) (e::es) [] pos) X.env=(do
   let ov <-eval o X.env
   standAt apos.atName
   let (f,first) <-holding [ov] (getMethod ov m pl)
   callWith pos f first (backTo pos (starEach (e::es) X.env)) (backToKw pos (keywordEach [] X.env))):=by rfl) :
  PE X (.Call (.Attribute o m apos) (e::es) [] pos) (aos C m sp dvs E ta t):=by
 intro aA s σ H Q I h
 refine fv (pl:=pl) (thn (he aA s σ H _ I h) λu s1 ⟨x,H1,I1,rx,a,dx,fs,ex,ea,l,q⟩=>?_) ht;subst ex;obtain rfl:u=Value.ref a:=rx;refine a6k I1 ea c hm l ?_;refine eO (first:=[.ref a]) (h₀:=X.base) I.ok.mod.kin hm.kp (thn (ha pos aA s1 σ H1 _ I1 q) λus s2 ⟨vs,H2,I2,r,q2⟩=>⟨I2.kIn,?_⟩) hst hpl
 exact ab2 (us:=.ref a::us) (vs:=.ref a::vs) F hr hb hd hx I2 (.cons rfl r) q2
theorem akk(he:PE X o ta)(c:Cls X.K C)(hm:Meth X.K C m f)(F:FnOk X.prog X.w X.K X.mg X.base CX k f fd ps sp)(hr:Room k X.A)(hb:Binds X.K fd ps ds)(hd:Vals dvs ds)(hx:a76 CX X E)
  (ht:eval (.Call (.Attribute o m apos) [] [] pos) X.env=(do
   let ov <-eval o X.env
   standAt apos.atName
   let (f,first) <-holding [ov] (getMethod ov m pl)
   callWith pos f first (backTo pos (starEach [] X.env)) (backToKw pos (keywordEach [] X.env))):=by rfl) :
  PE X (.Call (.Attribute o m apos) [] [] pos) (aos C m sp dvs E ta ayg):=by
 intro aA s σ H Q I h
 refine fv (pl:=pl) (thn (he aA s σ H _ I h) λu s1 ⟨x,H1,I1,rx,a,dx,fs,ex,ea,l,q⟩=>?_) ht;subst ex;obtain rfl:u=Value.ref a:=rx;refine a6k I1 ea c hm l ?_;exact PySem.W.callWith_K0 (first:=[.ref a]) I1.kIn hm.kp (ab2 (us:=[.ref a]) (vs:=[.ref a]) F hr hb hd hx I1 (.cons rfl .nil) q)
structure Mk (K:Fg) (C f:Addr):Prop where
 makes:PySem.W.makesIn K C=true
 init:PySem.W.findIn K (.ref C) "__init__" = some (some (.ref f))
 fn:PySem.W.isFn K (.ref f)=true
 kp:PySem.W.keepIn K (.ref C)=true
theorem akl(M:Mk X.K C f)(F:FnOk X.prog X.w X.K X.mg X.base CX k f fd ps sp)(hr:Room (k+1) X.A)(hb:Binds X.K fd ps ds)(hd:Vals dvs ds)
  (hx:a76 CX X E) (I:Inv X aA σ H s) (r:Vals vs us)
  (h:∀x dx,H x=none->H dx=none->dx≠x->sp (.ref x::(vs++dvs)) (upd (upd H dx (.own x)) x (.ins C dx [])) (λv H2=>v=.non/\Q (.ref x) H2) E) :
  wpAny (model X.prog X.w) X.A (call (.ref C) us) (EP X aA σ Q) X.xe s:=by
 have hq:=h (s.heap.objs.size+1) s.heap.objs.size (I.hok.fresh (gC _)) (I.hok.fresh (aJ _)) (bN (fE _));have I2:=Inv.made (C:=C) I;have r2:Vals (V.ref (s.heap.objs.size+1)::(vs++dvs)) (Value.ref (s.heap.objs.size+1)::(us++ds)):=.cons rfl (r.append hd);have hl:(Value.ref (s.heap.objs.size+1)::us++ds).length=ps.length:=by
  have e:=r2.length;rw[F.len _ _ _ _ hq]at e;exact e.symm
 refine wpAny_call (aki (f:=f) I.kIn M.makes M.init (fg.mp M.fn) (gL (F.run _ X.stack _ _ ⟨Value.ref (s.heap.objs.size+1)::us,[]⟩ (Value.ref (s.heap.objs.size+1)::(us++ds)) _ _ E (hr.make C us [])
  (I2.env0.make C us []) (hb _ (Value.ref (s.heap.objs.size+1)::us) I2.kIn hl) r2 hq) λr s' hq'=>?_))
 cases r with
 |error e=>exact hx aA σ _ _ e s' I2 hq'
 |ok fl =>
  cases fl with
  |ret u =>
   obtain⟨v,H',I3,rv,ev,q3⟩:=I2.after hq';subst ev;exact⟨rv,⟨V.ref (s.heap.objs.size+1),H',I3,rfl,q3⟩⟩
  |next=>exact False.elim hq'
  |brk=>exact False.elim hq'
  |cont=>exact False.elim hq'
theorem aou(M:Mk X.K C f)(F:FnOk X.prog X.w X.K X.mg X.base CX k f fd ps sp)(hr:Room (k+1) X.A)(hg:Gl X x)(hm:X.mg x=some (.ref C))(hb:Binds X.K fd ps ds)(hd:Vals dvs ds)(hx:a76 CX X E)
  (ha:PA X (e::es) t) (hdb:(x == ("__debug__" : Str))=false:=by decide) (he:starEach (e::es) X.env=(false,eval e X.env)::starEach es X.env:=by rfl) (hpl:(backTo pos (starEach es X.env)).any (·.1)=false:=by rfl) :
  PE X (.Call (.Name x p) (e::es) [] pos) (ayi C sp dvs E t):=by
 intro aA s σ H Q I h
 refine dB (a9g I hg hm ?_ hdb);refine eO (h₀:=X.base) I.ok.mod.kin M.kp (thn (ha pos aA s σ H _ I h) λus s1 ⟨vs,H1,I1,r,q⟩=>⟨I1.kIn,?_⟩) he hpl;exact akl M F hr hb hd hx I1 r q
end
structure FnScope (N P:List Str) (sc:Scope):Prop where
 kind:sc.kind=.function
 co:sc.isCoroutine=false
 gen:sc.isGenerator=false
 nd:N.Nodup
 pre:N.take P.length=P
 par:∀x∈P,sc.names.lookup x=some .local\/sc.names.lookup x=some .cell
 nofree:∀y∈sc.names,y.2≠.free
theorem ab3{kindOf:Str->Option NameKind}{x:Str}:∀{binds:List (Str×Value)} {m:Str->Option Value},(∀v,(x,v)∉binds)->bindL kindOf binds m x=m x
 |[],_,_=>rfl
 |(n,v)::r,m,h=>by
  unfold bindL;rw[ab3 λw hw=>h w (ba _ hw)]
  split
  ·have:x≠n:=by rintro rfl;exact h v bt
   simp[this]
  ·rfl
theorem ab4{kindOf:Str->Option NameKind}{x:Str}:∀{binds:List (Str×Value)} {m:Str->Option Value},(∀v,(x,v)∉binds)->bindC kindOf binds m x=m x
 |[],_,_=>rfl
 |(n,v)::r,m,h=>by
  unfold bindC;rw[ab4 λw hw=>h w (ba _ hw)]
  split
  ·rfl
  ·have:x≠n:=by rintro rfl;exact h v bt
   simp[this]
theorem ab5{kindOf:Str->Option NameKind}{x:Str}{v:Value}:∀{P:List Str} {vs:List Value} {i:Nat} {m:Str->Option Value},P.Nodup->P[i]? = some x->vs[i]? = some v->kindOf x=some .local->
  bindL kindOf (P.zip vs) m x=some v
 |[],_,_,_,_,h,_,_=>by simp at h
 |_::_,[],_,_,_,_,h,_=>by simp at h
 |p::P,w::vs,0,m,nd,h1,h2,hk=>by
  simp at h1 h2;subst h1;subst h2
  show bindL kindOf ((p,w)::P.zip vs) m p=_;unfold bindL;rw[ab3 λv hv=>(e8.mp nd).1 (gM hv).1,aT hk];simp
 |p::P,w::vs,i+1,m,nd,h1,h2,hk=>by
  show bindL kindOf ((p,w)::P.zip vs) m x=_;unfold bindL;exact ab5 (i:=i) (e8.mp nd).2 (by simpa using h1) (by simpa using h2) hk
theorem ab6{kindOf:Str->Option NameKind}{x:Str}{v:Value}:∀{P:List Str} {vs:List Value} {i:Nat} {m:Str->Option Value},P.Nodup->P[i]? = some x->vs[i]? = some v->kindOf x≠some .local->
  bindC kindOf (P.zip vs) m x=some v
 |[],_,_,_,_,h,_,_=>by simp at h
 |_::_,[],_,_,_,_,h,_=>by simp at h
 |p::P,w::vs,0,m,nd,h1,h2,hk=>by
  simp at h1 h2;subst h1;subst h2
  show bindC kindOf ((p,w)::P.zip vs) m p=_;unfold bindC;rw[ab4 λv hv=>(e8.mp nd).1 (gM hv).1,bA hk];simp
 |p::P,w::vs,i+1,m,nd,h1,h2,hk=>by
  show bindC kindOf ((p,w)::P.zip vs) m x=_;unfold bindC;exact ab6 (i:=i) (e8.mp nd).2 (by simpa using h1) (by simpa using h2) hk
def start(N:List Str)(vs:List V):St:=vs.map some++List.replicate (N.length-vs.length) none
def a5b(CX:CXT)(P:Program)(w:World)(K:Fg)(mg:Str->Option Value)(base:Heap)(N:List Str)(qual:Str)(aB:Scope)(f:Addr)(cd:Value)(A:Around)(outer:List Env)(s:Shared)(H:Hp)(E:XK):Cx where
 prog:=P
 w:=w
 K:=K
 mg:=mg
 base:=base
 A:=A.deeper (envOfC qual aB s.heap.objs.size f cd)
 N:=N
 s₀:=s
 H₀:=H
 env:=envOfC qual aB s.heap.objs.size f cd
 outer:=outer
 stack:=envOfC qual aB s.heap.objs.size f cd::outer
 ex:=[]
 calm:=true
 fn:=λ_=>true
 pn:=[]
 xe:=λe s'=>wpAny (model P w) (A.deeper (envOfC qual aB s.heap.objs.size f cd)) (leaving (envOfC qual aB s.heap.objs.size f cd) e) (λ_ s''=>CX outer H s E e s'') (λe' s''=>CX outer H s E e' s'') s'
theorem adq{sc:Scope}(h:sc.names.lookup x=some .cell):∃c,(cellsFrom n sc.names []).lookup x=some c:=by
 have q:=PySem.W.cellsFrom_some sc.names n [] (.inl h);exact gv.mp q
theorem agt{CX:CXT}{P:Program}{w:World}{K:Fg}{mg:Str->Option Value}{base:Heap}{N ps:List Str}{qual:Str}{aB:Scope}{f:Addr}{cd:Value}{A:Around}{outer:List Env}{s s1:Shared}{H:Hp}{E:XK}{us:List Value}{vs:List V}
  (S:FnScope N ps aB) (hd:A.handled=none) (e0:Env0 P w K mg base A outer s H) (hl:vs.length=ps.length) (r:Vals vs us)
  (x:InCallC s s.heap.objs.size (bindL (envOfC qual aB s.heap.objs.size f cd).kindOf (ps.zip us) λ_=>none) (cellsFrom (s.heap.objs.size+1) aB.names []) (bindC (envOfC qual aB s.heap.objs.size f cd).kindOf (ps.zip us) λ_=>none) s1) :
  Inv (a5b CX P w K mg base N qual aB f cd A outer s H E) [] (start N vs) H s1:=by
 have hpl:ps.length<=N.length:=by have:=aP List.length S.pre;rw[bV]at this;omega
 obtain⟨h1,tk,rfl,hk⟩:=x.done;have noA:∀b:Addr,b∉(a5b CX P w K mg base N qual aB f cd A outer s H E).ex:=λb z=>absurd (show b∈([]:List Addr) from z) (by simp)
 refine⟨⟨e0.mod,S.kind,rfl,rfl,aJ _,λy z c h1 h2=>?_,λy hy=>?_,λy c _ h=>?_,λ_=>hd,Around.frames_deeper e0.frames,.inr ⟨rfl,rfl⟩,λb z=>absurd z (noA b),e0.bs,e0.bsz,λb _ _=>noA b,λb z=>absurd z (noA b),e0.funs,e0.frf⟩,
  rfl,e0.bare,Un.kept hk,⟨_,x.toInCall.ns,λi y v h1 h2 h3=>?_⟩,λy c h=>⟨_,x.cell y c h⟩,e0.hok.fresh (aJ _),λy c h=>?_,λp hp=>absurd (show p∈([]:List (Addr×Obj)) from hp) (by simp),e0.hok.kept hk,?_⟩
 ·exact name_of_addr x.apart (cC h1) (cC h2)
 ·have hy:aB.names.lookup y=some .cell\/aB.names.lookup y=some .free:=hy
  rcases hy with hy|hy
  ·exact adq hy
  ·exact absurd rfl (S.nofree _ (cC hy))
 ·exact eK (x.above y c (cC h))
 ·have hi:i<vs.length:=by
   unfold start at h2
   by_cases hi:i<vs.length
   ·exact hi
   ·rw[aN (by simpa using hi)]at h2
    rw[dS]at h2
    split at h2<;>cases h2
  have ha:vs[i]? = some v:=by
   unfold start at h2;rw[aM (by simpa using hi),aO]at h2
   cases e:vs[i]? with
   |none=>rw[e]at h2;cases h2
   |some a=>rw[e]at h2;cases h2;rfl
  obtain⟨u,hu,rv⟩:=r.get ha;have hp:ps[i]? = some y:=by
   rw[<-S.pre,List.getElem?_take_of_lt (by omega)];exact h1
  have ndP:ps.Nodup:=by rw[<-S.pre];exact S.nd.sublist (List.take_sublist _ _)
  refine⟨u,rv,?_⟩
  rcases S.par y (aQ hp) with k|k
  ·exact .inl ⟨k,ab5 ndP hp hu k⟩
  ·obtain⟨c,e⟩:=adq (n:=s.heap.objs.size+1) k;refine .inr ⟨.inl k,c,e,?_⟩;have q:=x.cell y c e;rw[ab6 ndP hp hu (by show aB.names.lookup y≠_;rw[k];decide)]at q
   exact q
 ·exact e0.hok.fresh (eK (x.above y c (cC h)))
 ·unfold start;show _=N.length;rw[ai,ay,e9];omega
theorem ayj{CX:CXT}{P:Program}{w:World}{K:Fg}{mg:Str->Option Value}{base:Heap}{k:Nat}{f:Addr}{name qual:Str}{params:Arguments}{body:List Stmt}{aB:Scope}{dV kV doc pm cdv ct oc:Value}{an od:Option Addr}
  {osl:Array (Option Value)} {N ps:List Str} {sp:Sp} (lk:K.lookup f=some ⟨oc,od,.func (PySem.W.fnOf name qual params body aB dV kV doc pm an cdv ct),osl⟩) (hcd:PySem.W.codeIn K cdv qual=true) (S:FnScope N ps aB)
  (len:∀vs H Q E,sp vs H Q E->vs.length=ps.length)
  (hbody:∀(A:Around) (outer:List Env) (s:Shared) (H:Hp) (vs:List V) (Q:VK) (E:XK),Room k (A.deeper (envOfC qual aB s.heap.objs.size f cdv))->sp vs H Q E->
   ∃t,PSs (a5b CX P w K mg base N qual aB f cdv A outer s H E) body t/\t {nx:=λ_ H'=>Q .non H',rt:=Q} (start N vs) H) :
  FnOk P w K mg base CX (k+1) f (PySem.W.fnOf name qual params body aB dV kV doc pm an cdv ct) ps sp:=by
 refine⟨len,λA outer s H args us vs Q E hr e0 hb r hsp=>?_⟩;have hl:=len _ _ _ _ hsp;have KX:K.In s.heap:=e0.mod.kin.keeps λb o e=>(e0.bs b o e).1;have lim:s.heap.NoLimit:=e0.mod.nolimit.keeps λb o e=>(e0.bs b o e).1;have hkind:∀y∈ps.zip us,aB.names.lookup y.1=some .local\/(aB.names.lookup y.1=some .cell/\((cellsFrom (s.heap.objs.size+1) aB.names []).lookup y.1).isSome=true):=λ⟨n,v⟩ hy=>by
  rcases S.par n (gM hy).1 with q|q
  ·exact .inl q
  ·exact .inr ⟨q,PySem.W.cellsFrom_some _ _ _ (.inl q)⟩
 refine codeAny_call_function hr.depth (KX _ _ lk) rfl S.co S.gen rfl (PySem.W.codeRec_of KX hcd) (hb _ _ _ _ ?_);refine wpAny_newFunctionEnv_cells S.kind hkind λenv he s1 x=>?_;subst he;refine⟨lim.keeps x.toInCall.keep,codeAny_func ?_⟩;obtain⟨t,ht,hq⟩:=hbody A outer s H vs Q E (hr.deeper _) hsp;have I:Inv (a5b CX P w K mg base N qual aB f cdv A outer s H E) [] (start N vs) H s1:=agt S hr.hd e0 hl r x;refine dH (ht [] s1 (start N vs) H _ I hq) (λfl s' hs=>?_) λe s' hs=>hs;have fin:∀{σ':St} {H':Hp} {v:V} {u:Value},Inv (a5b CX P w K mg base N qual aB f cdv A outer s H E) [] σ' H' s'->RelV v u->Q v H'->CE outer P w H s Q u s' :=
  λ{σ' H' v u} J rv q=>⟨v,H',J.os,J.bare,J.base,J.hok,rv,q⟩
 cases fl with
 |ret u =>
  obtain⟨v,σ',H',J,rv,q⟩:=hs;exact fin J rv q
 |next =>
  obtain⟨σ',H',J,q⟩:=hs;exact fin (v:=V.non) (u:=Value.none) J rfl q
 |brk =>
  obtain⟨_,_,_,q⟩:=hs;exact False.elim q
 |cont =>
  obtain⟨_,_,_,q⟩:=hs;exact False.elim q
section
variable{X:Cx}{x:Str}{p pos:Pos}{e:Expr}{es:List Expr}{t:TA}{id T:String}{r:List V->Hp->VK->Prop}
def tCB(r:List V->Hp->VK->Prop)(t:TA):TE:=λσ H Q=>t σ H λvs H1=>r vs H1 Q
theorem akm(hc:CallR X (.builtin id) r)(hg:Gl X x)(hm:X.mg x=none)(hv:bootBuiltins x=some (.builtin id))(ha:PA X (e::es) t)(hn:x ≠ "__name__":=by decide)(hdb:(x == ("__debug__" : Str))=false:=by decide)
  (he:starEach (e::es) X.env=(false,eval e X.env)::starEach es X.env:=by rfl) (hpl:(backTo pos (starEach es X.env)).any (·.1)=false:=by rfl):PE X (.Call (.Name x p) (e::es) [] pos) (tCB r t):=by
 intro aA s σ H Q I h
 refine dB (a8t I hg hm hv ?_ hn hdb);exact PyProof.Rows.callWith_builtin1 (thn (ha pos aA s σ H _ I h) λus s1 ⟨vs,H1,I1,r1,q1⟩=>hc aA s1 σ H1 vs us Q I1 r1 q1) he hpl
theorem agu(hc:CallR X (.type T) r)(hg:Gl X x)(hm:X.mg x=none)(hv:bootBuiltins x=some (.type T))(ha:PA X (e::es) t)(hn:x ≠ "__name__":=by decide)(hdb:(x == ("__debug__" : Str))=false:=by decide)
  (he:starEach (e::es) X.env=(false,eval e X.env)::starEach es X.env:=by rfl) (hpl:(backTo pos (starEach es X.env)).any (·.1)=false:=by rfl):PE X (.Call (.Name x p) (e::es) [] pos) (tCB r t):=by
 intro aA s σ H Q I h
 refine dB (a8t I hg hm hv ?_ hn hdb);exact d0 (thn (ha pos aA s σ H _ I h) λus s1 ⟨vs,H1,I1,r1,q1⟩=>hc aA s1 σ H1 vs us Q I1 r1 q1) he hpl
end
end L2
namespace HT
open PyProof.Rows
section
variable{prog:Program}{w:World}{A:Around}{E:Value->Shared->Prop}{s:Shared}
theorem aov{vs ws:List Value}(ht:IsTup s.heap t vs.toArray)(hb:IsTup s.heap b ws.toArray)(hv:vs≠[])
  (h1:ws=[]->Q (.ref t) s) (h2:ws≠[]->Q (.ref s.heap.objs.size) {s with heap:=s.heap.push {cls:=.type "tuple",data:=.seq (vs++ws).toArray} })
  (hsz:vs.length+ws.length<=sizeLine):wpAny (model prog w) A (binaryOp .Add (.ref t) (.ref b)) Q E s:=by
 obtain⟨⟨cls,dd,data,sl⟩,ho,hc,n,hd⟩:=id ht;obtain⟨⟨cls2,dd2,data2,sl2⟩,ho2,hc2,n2,hd2⟩:=id hb;simp only at hc hd hc2 hd2;subst hc hd hc2 hd2;have e:vs.toArray++ws.toArray=(vs++ws).toArray:=by simp
 by_cases hw:ws=[]
 ·exact concat_meets ⟨_,ho,rfl⟩ ⟨_,ho2,rfl⟩ gG seq_tuple_add PySem.F.slot_tuple_add gD (gy _ _)
   (tuple_addW1 t b vs.toArray ws.toArray n n2 dd dd2 sl sl2 (by simpa using hv) (by simp[hw])) ⟨ho,ho2,h1 hw⟩
 ·refine concat_meets ⟨_,ho,rfl⟩ ⟨_,ho2,rfl⟩ gG seq_tuple_add PySem.F.slot_tuple_add gD (gy _ _)
   (tuple_addW2 t b vs.toArray ws.toArray n n2 dd dd2 sl sl2 (by simpa using hv) (by simpa using hw) (by rw[aK,aK];exact hsz)) ⟨ho,ho2,?_⟩
  rw[e];exact h2 hw
def sIx(n d:Nat):Option Int->Nat
 |none=>d
 |some v=>if v<0 then (v+(n:Int)).toNat else min v.toNat n
theorem adt(n d:Nat):sIx n d none=d:=rfl
theorem agv(n d k:Nat):sIx n d (some (k:Int))=min k n:=by
 show(if (k:Int)<0 then ((k:Int)+(n:Int)).toNat else min (k:Int).toNat n)=min k n
 rw[bA (by omega),dJ]
theorem agw(n d:Nat)(hd:d<=n)(o:Option Int):sIx n d o<=n:=by
 cases o with
 |none=>exact hd
 |some v =>
  show(if v<0 then (v+(n:Int)).toNat else min v.toNat n)<=n
  by_cases hv:v<0
  ·rw[aT hv];omega
  ·rw[bA hv];exact Nat.min_le_right _ _
theorem agx(v:Int)(n d:Nat):(if v<0 then max (v+(n:Int)) 0 else min v (n:Int))=((sIx n d (some v):Nat):Int):=by
 show(if v<0 then max (v+(n:Int)) 0 else min v (n:Int))=(((if v<0 then (v+(n:Int)).toNat else min v.toNat n):Nat):Int)
 by_cases hv:v<0
 ·simp only[aT hv];omega
 ·simp only[bA hv];omega
theorem afb(lo hi:Option Int)(n:Nat):Builtin.Slice.sliceAdjust lo hi 1 (n:Int)=(((sIx n 0 lo:Nat):Int),((sIx n n hi:Nat):Int)):=by
 have h1:¬ ((1:Int)<0):=by omega
 unfold Builtin.Slice.sliceAdjust;simp only[h1,ft];refine Prod.ext ?_ ?_
 ·cases lo with
  |none=>rfl
  |some v=>exact agx v n 0
 ·cases hi with
  |none=>rfl
  |some v=>exact agx v n n
theorem afc(i j:Nat):Builtin.Slice.slicePlaces (i:Int) (j:Int) 1=j-i:=by
 unfold Builtin.Slice.slicePlaces;have h1:(1:Int) > 0:=by omega
 simp only[h1,de,Int.ediv_one]
 split<;>omega
theorem a8x(p:IsPart v o)(h:Q o s):wpAny (model prog w) A (Builtin.Slice.slicePartIndex v) Q E s:=by
 cases p with
 |none=>exact slicePart_none h
 |int i t=>exact slicePart_int h
theorem a3c{sl:Addr}{vl vu:Value}{lo hi:Option Int}{n:Nat}{Q:Int×Int×Nat->Shared->Prop}(hs:s.heap.IsSliceOf sl vl vu .none)(pl:IsPart vl lo)(pu:IsPart vu hi)
  (h:Q (((sIx n 0 lo:Nat):Int),1,sIx n n hi-sIx n 0 lo) s):wpAny (model prog w) A (Builtin.Slice.sliceApplied (.ref sl) (pure (n:Int))) Q E s:=by
 obtain⟨os,hos,hcs,hds⟩:=id hs;unfold Builtin.Slice.sliceApplied Builtin.Slice.sliceFields;refine aE (aE (dD hos hds (x:=vl) rfl (aE (dD hos hds (x:=vu) rfl (aE (dD hos hds (x:=.none) rfl (bp ?_)))))));refine aE (slicePart_none ?_);show wpAny _ _ (if ((1:Int) == 0)=true then _ else _) _ _ s
 rw[bA (by decide)]
 refine aE (a8x pl (aE (a8x pu (aE (bp ?_)))));show wpAny _ _ (match Builtin.Slice.sliceAdjust lo hi 1 (n:Int) with|(lo,hi)=>pure (lo,(1:Int),Builtin.Slice.slicePlaces lo hi 1)) _ _ s
 rw[afb lo hi n];show wpAny _ _ (pure (((sIx n 0 lo:Nat):Int),(1:Int),Builtin.Slice.slicePlaces ((sIx n 0 lo:Nat):Int) ((sIx n n hi:Nat):Int) 1)) _ _ s;rw[afc];exact bp h
theorem akn(xs:Array Value)(i k:Nat):((List.range k).filterMap λ(m:Nat)=>xs[((i:Int)+(m:Int)*1).toNat]?).toArray=((xs.toList.drop i).take k).toArray:=by
 have e:(λ(m:Nat)=>xs[((i:Int)+(m:Int)*1).toNat]?)=λm=>xs[i+m]?:=by
  funext m
  have:((i:Int)+(m:Int)*1).toNat=i+m:=by omega
  rw[this]
 rw[e];have:=pick_run xs i k;rw[List.filterMap_map]at this;have e2:((λx=>xs[x]?) ∘ λx=>i+x)=λm=>xs[i+m]?:=rfl;rw[e2]at this;rw[this]
theorem a6m{t sl:Addr}{aC:Array Value}{vl vu:Value}{lo hi:Option Int}{Q:Value->Shared->Prop}(ht:IsTup s.heap t aC)(hs:s.heap.IsSliceOf sl vl vu .none)(pl:IsPart vl lo)(pu:IsPart vu hi)
  (hw:¬ (sIx aC.size 0 lo=0/\sIx aC.size aC.size hi=aC.size))
  (h:Q (.ref s.heap.objs.size) {s with heap:=s.heap.push {cls:=.type "tuple",data:=.seq ((aC.toList.drop (sIx aC.size 0 lo)).take (sIx aC.size aC.size hi-sIx aC.size 0 lo)).toArray} })
  (hsz:aC.size<=sizeLine):wpAny (model prog w) A (getItem (.ref t) (.ref sl)) Q E s:=by
 have htake:sizeOk (.seq ((aC.toList.drop (sIx aC.size 0 lo)).take (sIx aC.size aC.size hi-sIx aC.size 0 lo)).toArray):=by
  show((aC.toList.drop (sIx aC.size 0 lo)).take (sIx aC.size aC.size hi-sIx aC.size 0 lo)).toArray.size<=sizeLine;rw[aK,bV,bK,dR];omega
 have hj:sIx aC.size aC.size hi<=aC.size:=agw _ _ (aJ _) hi;obtain⟨os,hos,hcs,hds⟩:=id hs;have hTs:s.TypeIs (.ref sl) "slice":=⟨os,hos,hcs⟩;unfold getItem
 try with_reducible refine cV ?_
 first|refine aE (bp ?_)|skip
 refine aE (wpAny_sequenceKey ht.typeIs (by decide) ?_)
 refine aE (cL (name:=Str.ofString "__getitem__") ht.typeIs cf
  (dW cf ht.typeIs entry_tuple_getitem ?_ (args_tuple_getitem _ _)))
 show wpAny _ _ (Builtin.Tuple.tupleItemsOf (.ref t)>>=_) _ _ s;refine aE (tupleItemsOf_ ht ?_);refine aE (wpAny_typeOf hTs ?_);rw[aT (by decide)]
 refine aE (a3c hs pl pu ?_);have hno:¬ ((((sIx aC.size 0 lo:Nat):Int) == 0 && (1:Int) == 1 && (sIx aC.size aC.size hi-sIx aC.size 0 lo) == aC.size)=true):=by
  intro q
  rw[cH,cH]at q;have q1:((sIx aC.size 0 lo:Nat):Int)=0:=eq_of_beq q.1.1;have q2:sIx aC.size aC.size hi-sIx aC.size 0 lo=aC.size:=eq_of_beq q.2;exact hw ⟨by omega,by omega⟩
 show wpAny _ _ (if (((sIx aC.size 0 lo:Nat):Int) == 0 && (1:Int) == 1 && (sIx aC.size aC.size hi-sIx aC.size 0 lo) == aC.size)=true then _ else _) _ _ s
 rw[bA hno,akn]
 first
  |exact aE (m:=Builtin.Tuple.tupleExact _) (cZ (bp ⟨_,rfl,bp h⟩) htake)
  |exact aE (m:=Builtin.Tuple.tupleExact _) (cZ (aE (bp (bp ⟨_,rfl,bp h⟩))) htake)
  |exact aE (aE (m:=Builtin.Tuple.tupleExact _) (cZ (bp (bp ⟨_,rfl,bp h⟩)) htake))
  |exact aE (aE (m:=Builtin.Tuple.tupleExact _) (cZ (bp ⟨_,rfl,bp h⟩) htake))
end
end HT
namespace L2
open PyProof.Rows
abbrev TO:=St->Hp->(Option Int->Hp->Prop)->Prop
def PO(X:Cx)(e:Option Expr)(t:TO):Prop :=
 ∀(aA:List (Addr×Obj)) (s:Shared) (σ:St) (H:Hp) (Q:Option Int->Hp->Prop),Inv X aA σ H s->t σ H Q->
  wpAny (model X.prog X.w) X.A (evalPart e X.env) (λu s'=>∃o H',Inv X aA σ H' s'/\IsPart u o/\Q o H') X.xe s
def aow:TO:=λ_ H Q=>Q none H
def ayk(t:TE):TO:=λσ H Q=>t σ H λx H1=>∃i,x=.int i/\Q (some i) H1
theorem intsAre_of{ns:List Int}:∀{us:List Value},Vals (ns.map V.int) us->IntsAre us ns:=by
 induction ns with
 |nil=>intro us r;rw[dQ]at r;cases r;exact .nil
 |cons n ns ih =>
  intro us r
  rw[br]at r
  cases r with
  |cons r1 r2 =>
   obtain⟨t,e⟩:=r1;subst e;exact .cons n t (ih r2)
section
variable{X:Cx}{e:Expr}{te:TE}{lo hi:Option Expr}{tl th:TO}{pos p2:Pos}
theorem aox:PO X none aow:=by
 intro aA s σ H Q I h
 rw[evalPart_none];exact bp ⟨none,H,I,.none,h⟩
theorem aoy(h:PE X e te):PO X (some e) (ayk te):=by
 intro aA s σ H Q I hw
 rw[evalPart_some];refine thn (h aA s σ H _ I hw) ?_
 rintro u s1 ⟨x,H1,I1,r1,q1⟩
 obtain⟨i,rfl,q⟩:=q1;obtain⟨t,rfl⟩:=r1;exact⟨some i,H1,I1,.int i t,q⟩
def SlR(X:Cx)(r:V->Option Int->Option Int->Hp->VK->Prop):Prop :=
 ∀(aA:List (Addr×Obj)) (s:Shared) (σ:St) (H:Hp) (x:V) (v vl vu:Value) (lo hi:Option Int) (sl:Addr) (Q:VK),Inv X aA σ H s->RelV x v->s.heap.IsSliceOf sl vl vu .none->IsPart vl lo->IsPart vu hi->r x lo hi H Q->
  ∃T id,typeLookup (.type T) "__getitem__" = pure (some (.builtin id))/\s.TypeIs v T/\wpAny (model X.prog X.w) X.A (getItem v (.ref sl)) (EP X aA σ Q) X.xe s
theorem SlR.or(h:SlR X r)(h':SlR X r'):SlR X (λx lo hi H Q=>r x lo hi H Q\/r' x lo hi H Q):=by
 intro aA s σ H x v vl vu lo hi sl Q I rx hs pl pu q
 rcases q with q|q
 ·exact h aA s σ H x v vl vu lo hi sl Q I rx hs pl pu q
 ·exact h' aA s σ H x v vl vu lo hi sl Q I rx hs pl pu q
def tSl(r:V->Option Int->Option Int->Hp->VK->Prop)(te:TE)(tl th:TO):TE:=λσ H Q=>te σ H λx H1=>tl σ H1 λl H2=>th σ H2 λu H3=>r x l u H3 Q
theorem ako(hr:SlR X r)(he:PE X e te)(hl:PO X lo tl)(hu:PO X hi th):PE X (.Subscript e (.Slice lo hi none p2) pos) (tSl r te tl th):=by
 intro aA s σ H Q I h
 refine Subscript_ (thn (he aA s σ H _ I h) λv s1 ⟨x,H1,I1,r1,q1⟩=>?_);refine wpAny_Slice (thn (hl aA s1 σ H1 _ I1 q1) λvl s2 ⟨l,H2,I2,pl,q2⟩=>thn (hu aA s2 σ H2 _ I2 q2) λvu s3 ⟨u,H3,I3,pu,q3⟩=>?_);rw[evalPart_none];refine bp ?_;have I4:Inv X aA σ H3 {s3 with heap:=s3.heap.push {cls:=.type "slice",data:=.fields #[vl,vu,.none]} }:=I3.kept (t':=s3.toks) λb ob q=>av _ q
 obtain⟨T,id,hT,ht,hg⟩:=hr aA {s3 with heap:=s3.heap.push {cls:=.type "slice",data:=.fields #[vl,vu,.none]} } σ H3 x v vl vu l u s3.heap.objs.size Q I4 r1 (Heap.IsSliceOf.new ..) pl pu q3
 show wpAny (model X.prog X.w) X.A (subscriptTail e (.Slice lo hi none p2) v (.ref s3.heap.objs.size)) (EP X aA σ Q) X.xe {s3 with heap:=s3.heap.push {cls:=.type "slice",data:=.fields #[vl,vu,.none]} }
 exact tail_any (ops:=[.ref s3.heap.objs.size,v]) ht hT hg (by with_unfolding_all rfl)
def amx(xs:List V)(lo hi:Option Int):List V:=(xs.drop (HT.sIx xs.length 0 lo)).take (HT.sIx xs.length xs.length hi-HT.sIx xs.length 0 lo)
theorem a7t(xs:List V)(lo hi:Option Int):(amx xs lo hi).length<=xs.length:=by
 unfold amx;rw[bV,bK];omega
def ayl(K:Fg):V->Option Int->Option Int->Hp->VK->Prop:=λx lo hi H Q=>∃a xs,x=.ref a/\SqT K H a xs /\
 ¬ (HT.sIx xs.length 0 lo=0/\HT.sIx xs.length xs.length hi=xs.length)/\∀p,H p=none->Q (.ref p) (upd H p (.tup (amx xs lo hi)))
theorem atm:SlR X (ayl X.K):=by
 intro aA s σ H x v vl vu lo hi sl Q I rx hs pl pu h
 obtain⟨a,xs,rfl,hx,hw,q⟩:=h;cases rx
 obtain⟨its,r,ht,hz⟩:=I.tuple hx;have aH:its.toArray.size=xs.length:=by rw[aK];exact r.length.symm
 refine⟨"tuple",_,cf.lookup,ht.typeIs,?_⟩;refine HT.a6m ht hs pl pu (by rw[aH];exact hw) ?_ (by rw[aH];exact hz)
 rw[aH];refine⟨.ref s.heap.objs.size,_,I.laid (t':=s.toks) (o:=.tup (amx xs lo hi)) (λb ob q=>av _ q) (aJ _) ?_,rfl,q _ (I.hok.fresh (aJ _))⟩;exact⟨cA (a7t xs lo hi) hz,_,(r.drop (HT.sIx xs.length 0 lo)).take (HT.sIx xs.length xs.length hi-HT.sIx xs.length 0 lo),IsTup.new _ _⟩
def atn(K:Fg):R2:=λx y H Q=>∃a b xs ys,x=.ref a/\y=.ref b/\SqT K H a xs/\SqT K H b ys/\xs≠[]/\xs.length+ys.length<=sizeLine /\
 (ys=[]->Q (.ref a) H)/\(ys≠[]->∀p,H p=none->Q (.ref p) (upd H p (.tup (xs++ys))))
theorem Vals.nil_iff(r:Vals xs us):us=[]↔xs=[]:=by
 cases r with
 |nil=>simp
 |cons _ _=>simp
theorem aoz:OpR X (binaryOp .Add) (atn X.K):=by
 intro aA s σ H x y v u Q I rx ry h
 obtain⟨a,b,xs,ys,rfl,rfl,ha,hb,hx,hz,q1,q2⟩:=h;cases rx
 cases ry
 obtain⟨its,r1,p1,_⟩:=I.tuple ha;obtain⟨its2,r2,p2,_⟩:=I.tuple hb;refine HT.aov p1 p2 (λz=>hx (r1.nil_iff.mp z)) (λz=>⟨.ref a,H,I,rfl,q1 (r2.nil_iff.mp z)⟩) (λz=>?_) (by rw[<-r1.length,<-r2.length];exact hz)
 refine⟨.ref s.heap.objs.size,_,I.laid (t':=s.toks) (o:=.tup (xs++ys)) (λb ob q=>av _ q) (aJ _) ?_,rfl,q2 (λw=>z (r2.nil_iff.mpr w)) _ (I.hok.fresh (aJ _))⟩;exact⟨by rw[ai];exact hz,_,r1.append r2,IsTup.new _ _⟩
end
def ixN(n:Nat)(i:Int):Option Nat:=if 0<=i then (if i<n then some i.toNat else none) else if -(n:Int)<=i then some (i+n).toNat else none
def atI{α:Type}(xs:List α)(i:Int):Option α:=(ixN xs.length i).bind λj=>xs[j]?
theorem agy(h:ixN n i=some j):seqIndex? i n=some j/\j<n /\ -(n:Int)<=i/\i<n:=by
 unfold ixN at h
 by_cases h0:0<=i
 ·rw[aT h0]at h
  by_cases h1:i<n
  ·rw[aT h1]at h;have e:i.toNat=j:=bQ h;exact⟨by rw[gR h0 h1,e],by omega,by omega,h1⟩
  ·rw[bA h1]at h;cases h
 ·rw[bA h0]at h
  by_cases h1 : -(n:Int)<=i
  ·rw[aT h1]at h;have e:(i+n).toNat=j:=bQ h;exact⟨by rw[gN (by omega) h1,e],by omega,h1,by omega⟩
  ·rw[bA h1]at h;cases h
theorem a9i{α:Type}{xs:List α}{i:Int}{v:α}(h:atI xs i=some v):∃j,seqIndex? i xs.length=some j/\xs[j]? = some v/\j<xs.length /\ -(xs.length:Int)<=i/\i<xs.length:=by
 unfold atI at h
 cases e:ixN xs.length i with
 |none=>rw[e]at h;cases h
 |some j =>
  rw[e]at h;obtain⟨h1,h2,h3,h4⟩:=agy e;exact⟨j,h1,h,h2,h3,h4⟩
theorem zp{α:Type}{xs:List α}{j:Nat}{v:α}(h:xs[j]? = some v):atI xs (j:Int)=some v:=by
 have hj:j<xs.length:=(ag.mp h).1;have e:ixN xs.length (j:Int)=some j:=by
  unfold ixN;rw[aT (by omega),aT (by omega)];simp
 unfold atI;rw[e];exact h
def a9j(b:Expr):Prop:=∀o i,subscripted b false o i=operate [o,i] (getItem o i)
def IxR(X:Cx)(r:R2):Prop :=
 ∀(value slice:Expr) (aA:List (Addr×Obj)) (s:Shared) (σ:St) (H:Hp) (x y:V) (v u:Value) (Q:VK),Inv X aA σ H s->RelV x v->RelV y u->r x y H Q->
  subscripted slice false v u=operate [v,u] (getItem v u)->wpAny (model X.prog X.w) X.A (subscriptTail value slice v u) (EP X aA σ Q) X.xe s
def MtR(X:Cx)(id:String)(r:V->List V->Hp->VK->Prop):Prop :=
 ∀(aA:List (Addr×Obj)) (s:Shared) (σ:St) (H:Hp) (x:V) (xs:List V) (v:Value) (us:List Value) (Q:VK),Inv X aA σ H s->RelV x v->Vals xs us->r x xs H Q->
  wpAny (model X.prog X.w) X.A (call (.builtin id) (v::us)) (EP X aA σ Q) X.xe s
section
variable{X:Cx}{a b:Expr}{ta tb:TE}{pos:Pos}
theorem IxR.or(h:IxR X r)(h':IxR X r'):IxR X (λx y H Q=>r x y H Q\/r' x y H Q):=by
 intro value slice aA s σ H x y v u Q I rx ry q hs
 rcases q with q|q
 ·exact h value slice aA s σ H x y v u Q I rx ry q hs
 ·exact h' value slice aA s σ H x y v u Q I rx ry q hs
theorem MtR.or{id:String}{r r':V->List V->Hp->VK->Prop}(h:MtR X id r)(h':MtR X id r'):MtR X id (λx xs H Q=>r x xs H Q\/r' x xs H Q):=by
 intro aA s σ H x xs v us Q I rx rs q
 rcases q with q|q
 ·exact h aA s σ H x xs v us Q I rx rs q
 ·exact h' aA s σ H x xs v us Q I rx rs q
theorem aym(hr:IxR X r)(ha:PE X a ta)(hb:PE X b tb)(hs:a9j b):PE X (.Subscript a b pos) (tOp r ta tb):=by
 intro aA s σ H Q I h
 exact Subscript_ (ay9 ha hb I h λv u s2 x y H2 I2 rx ry q=>hr a b aA s2 σ H2 x y v u Q I2 rx ry q (hs _ _))
def axh(K:Fg):R2:=λx y H Q=>∃p xs i v,x=.ref p/\y=.int i/\SqL K H p xs/\atI xs i=some v/\Q v H
def azz(K:Fg):R2:=λx y H Q=>∃p xs i v,x=.ref p/\y=.int i/\SqT K H p xs/\atI xs i=some v/\Q v H
def b00:R2:=λx y H Q=>∃z i c,x=.str z/\y=.int i/\z.length<=sizeLine/\atI z.cps.toList i=some c/\Q (.str ⟨#[c]⟩) H
theorem ap0:IxR X (axh X.K):=by
 intro value slice aA s σ H x y v u Q I rx ry h hs
 obtain⟨p,xs,i,z,rfl,rfl,hq,he,q⟩:=h;cases rx
 obtain⟨t,rfl⟩:=ry;obtain⟨its,r,pl,hz⟩:=I.list hq;obtain⟨j,h1,h2,h3,h4,h5⟩:=a9i he;obtain⟨w,ew,rw'⟩:=r.get h2;have hl:=r.length;have hn:=a75;have fin:EP X aA σ Q w s:=⟨z,H,I,rw',q⟩
 by_cases h0:0<=i
 ·have hj:i.toNat=j:=by
   rw[gR h0 h5]at h1;exact bQ h1
  exact item_listR pl.isList h0 (by omega) (by rw[hj];simpa using ew) fin hs
 ·have hj:(i+(its.toArray.size:Int)).toNat=j:=by
   rw[gN (by omega) h4]at h1
   rw[aK,<-hl];exact bQ h1
  exact subscriptTail_builtinR (x:=w) pl.isList.typeIs slot_list_getitem.lookup
   (wpAny_getItem_list_neg (Q:=λr s'=>r=w/\EP X aA σ Q r s') pl.isList (by omega) (by rw[aK]<;>omega) (by omega) (by rw[hj];simpa using ew) ⟨rfl,fin⟩) hs
theorem a7u:IxR X (azz X.K):=by
 intro value slice aA s σ H x y v u Q I rx ry h hs
 obtain⟨p,xs,i,z,rfl,rfl,hq,he,q⟩:=h;cases rx
 obtain⟨t,rfl⟩:=ry;obtain⟨its,r,pl,hz⟩:=I.tuple hq;obtain⟨j,h1,h2,h3,h4,h5⟩:=a9i he;obtain⟨w,ew,rw'⟩:=r.get h2;have hl:=r.length;have hn:=a75;have fin:EP X aA σ Q w s:=⟨z,H,I,rw',q⟩;exact subscriptTail_builtinR (x:=w) pl.typeIs slot_tuple_getitem.lookup
  (getItem_tuple (j:=j) (Q:=λr s'=>r=w/\EP X aA σ Q r s') pl (by omega) (by omega) (by rw[aK,<-hl];exact h1) (by simpa using ew) ⟨rfl,fin⟩) hs
theorem ato:IxR X b00:=by
 intro value slice aA s σ H x y v u Q I rx ry h hs
 obtain⟨z,i,c,rfl,rfl,hz,he,q⟩:=h;obtain⟨t,rfl⟩:=rx;obtain⟨t',rfl⟩:=ry;obtain⟨j,h1,h2,h3,h4,h5⟩:=a9i he;have hl:z.cps.toList.length=z.length:=by simp[Str.length]
 rw[hl]at h1 h4 h5;have hn:=a75;exact tail_any (gP s z t) slot_str_getitem.lookup (getItem_str (c:=c) (by
  have e1:decide (i < -(2^63:Int))=false:=bL (by omega)
  have e2:decide (i≥2^63)=false:=bL (by omega)
  rw[e1,e2,Bool.or_false]) (by rw[h1];simpa using h2) ⟨.str ⟨#[c]⟩,H,I.tok _,⟨_,rfl⟩,q⟩) hs
def rIx(K:Fg):R2:=λx y H Q=>axh K x y H Q\/azz K x y H Q\/b00 x y H Q
theorem atp:IxR X (rIx X.K):=ap0.or (a7u.or ato)
theorem afd(its:List Value)(n j:Nat)(u:Value):Obj.mapSeq (·.setIfInBounds j u) {cls:=.type "list",data:=.seq its.toArray n}={cls:=.type "list",data:=.seq (its.set j u).toArray n}:=by
 simp[Obj.mapSeq]
theorem Inv.lst{aA:List (Addr×Obj)}{σ:St}{H:Hp}{s:Shared}{p:Addr}{xs:List V}(I:Inv X aA σ H s)(h:H p=some (.lst xs)) :
  ∃(its:List Value) (n:Nat),Vals xs its/\s.heap.get? p=some {cls:=.type "list",data:=.seq its.toArray n}/\xs.length<=sizeLine:=by
 obtain⟨z,its,n,r,e⟩:=I.hok p _ h;exact⟨its,n,r,e,z⟩
theorem Inv.lstUpd{its its':List Value}(I:Inv X aA σ H s)(h:H p=some (.lst xs))
  (ho:s.heap.get? p=some {cls:=.type "list",data:=.seq its.toArray n}) (hf:f {cls:=.type "list",data:=.seq its.toArray n}={cls:=.type "list",data:=.seq its'.toArray n' }) (r:Vals ys its') (hz:ys.length<=sizeLine) (t:Nat) :
  Inv X aA σ (upd H p (.lst ys)) {s with heap:=s.heap.update p f,toks:=t}:=by
 have e:(s.heap.update p f).get? p=some {cls:=.type "list",data:=.seq its'.toArray n' }:=by
  rw[Heap.get?_update_self f ho (by rw[hf]<;>rfl),hf]
 refine I.write (x:=p) (e:=p) (by rw[h];trivial) (.inl rfl) (λb u hb q=>(eY _ _ (dG hb)).trans q) ⟨_,e⟩ ?_
 exact⟨hz,its',n',r,e⟩
def atq:V->V->V->Hp->(Hp->Prop)->Prop:=λo i v H Q=>∃p xs k j,o=.ref p/\i=.int k/\H p=some (.lst xs)/\ixN xs.length k=some j/\Q (upd H p (.lst (xs.set j v)))
theorem set_list:ay3 X atq:=by
 intro aA s σ H o i v ov iv u Q I ro ri rv h
 obtain⟨p,xs,k,j,rfl,rfl,hp,hj,q⟩:=h;cases ro
 obtain⟨t,rfl⟩:=ri;obtain⟨its,n,r,ho,hz⟩:=I.lst hp;obtain⟨h1,h2,h3,h4⟩:=agy hj;have hl:=r.length;have hn:=a75;have I':Inv X aA σ (upd H p (.lst (xs.set j v))) {s with heap:=s.heap.update p (Obj.mapSeq (·.setIfInBounds j u))} :=
  I.lstUpd hp ho (afd its n j u) (r.set rv j) (by rw[cG];exact hz) s.toks
 by_cases h0:0<=k
 ·have hk:k.toNat=j:=by
   rw[gR h0 h4]at h1;exact bQ h1
  exact PySem.W.ki_setAt ho h0 (by omega) (by rw[aK,<-hl];exact h4) (by rw[hk];exact⟨_,I',q⟩)
 ·have hk:(k+(its.toArray.size:Int)).toNat=j:=by
   rw[gN (by omega) h3]at h1
   rw[aK,<-hl];exact bQ h1
  exact PySem.W.ki_setBack ho (by omega) (by rw[aK,<-hl];exact h3) (by omega) (by rw[hk];exact⟨_,I',q⟩)
theorem ab7(lo hi:Option Int)(n:Nat):(sliceBounds lo hi none n).1=((HT.sIx n 0 lo:Nat):Int)/\(sliceBounds lo hi none n).2.1=((HT.sIx n n hi:Nat):Int)/\(sliceBounds lo hi none n).2.2=1:=by
 refine⟨?_,?_,rfl⟩
 ·cases lo with
  |none=>simp[sliceBounds,HT.sIx]
  |some i =>
   simp only[sliceBounds,HT.sIx,Option.getD_none,show(1:Int) > 0 by decide,de]
   by_cases h:i<0
   ·simp only[h,de]<;>omega
   ·simp only[h,ft]<;>omega
 ·cases hi with
  |none=>simp[sliceBounds,HT.sIx]
  |some i =>
   simp only[sliceBounds,HT.sIx,Option.getD_none,show(1:Int) > 0 by decide,de]
   by_cases h:i<0
   ·simp only[h,de]<;>omega
   ·simp only[h,ft]<;>omega
theorem a9k(its:List Value)(lo hi:Option Int):slicePick its.toArray lo hi none=((its.drop (HT.sIx its.length 0 lo)).take (HT.sIx its.length its.length hi-HT.sIx its.length 0 lo)).toArray:=by
 obtain⟨h1,h2,h3⟩:=ab7 lo hi its.toArray.size;unfold slicePick;rw[h1,h2,h3];simp only[sliceRange_one,pick_run,aK]<;>rfl
def ayn(K:Fg):V->Option Int->Option Int->Hp->VK->Prop:=λx lo hi H Q=>∃a xs,x=.ref a/\SqL K H a xs/\∀p,H p=none->Q (.ref p) (upd H p (.lst (amx xs lo hi)))
theorem ap1:SlR X (ayn X.K):=by
 intro aA s σ H x v vl vu lo hi sl Q I rx hs pl pu h
 obtain⟨a,xs,rfl,hx,q⟩:=h;cases rx
 obtain⟨its,r,ht,hz⟩:=I.list hx;have aH:=r.length;refine⟨"list",_,slot_list_getitem.lookup,ht.isList.typeIs,?_⟩;refine wpAny_getItem_list_slice ht.isList hs pl pu .none (by simp) ?_ (by rw[aK]<;>omega)
 rw[a9k,<-aH];refine⟨.ref s.heap.objs.size,_,I.laid (t':=s.toks) (o:=.lst (amx xs lo hi)) (λb ob q=>av _ q) (aJ _) ?_,rfl,q _ (I.hok.fresh (aJ _))⟩;exact⟨cA (a7t xs lo hi) hz,_,0,(r.drop (HT.sIx xs.length 0 lo)).take (HT.sIx xs.length xs.length hi-HT.sIx xs.length 0 lo),bb _ rfl⟩
def a4u:V->Bool
 |.non=>true
 |.bl _=>true
 |.int _=>true
 |.str _=>true
 |_=>false
def eqV:V->V->Bool
 |.non,.non=>true
 |.bl a,.bl b=>a == b
 |.bl a,.int b=>(if a then 1 else 0) == b
 |.int a,.bl b=>a == (if b then 1 else 0)
 |.int a,.int b=>a == b
 |.str a,.str b=>a == b
 |_,_=>false
theorem agz(ry:RelV y u)(rx:RelV x v)(fy:a4u y=true)(fx:a4u x=true):SeqAt.EqAt A s u v (eqV y x):=by
 cases y with
 |non =>
  cases ry
  cases x with
  |non=>cases rx;exact SeqAt.EqAt.same _
  |bl b=>cases rx;exact SeqAt.EqAt.none_bool b
  |int b=>obtain⟨t,rfl⟩:=rx;exact SeqAt.EqAt.none_int b t
  |str b=>obtain⟨t,rfl⟩:=rx;exact SeqAt.EqAt.none_str b t
  |_=>exact absurd (show false=true from fx) bI
 |bl a =>
  cases ry
  cases x with
  |non=>cases rx;exact SeqAt.EqAt.bool_none a
  |bl b=>cases rx;exact SeqAt.EqAt.bool_bool a b
  |int b=>obtain⟨t,rfl⟩:=rx;exact SeqAt.EqAt.bool_int a b t
  |str b=>obtain⟨t,rfl⟩:=rx;exact SeqAt.EqAt.bool_str a b t
  |_=>exact absurd (show false=true from fx) bI
 |int a =>
  obtain⟨t',rfl⟩:=ry
  cases x with
  |non=>cases rx;exact SeqAt.EqAt.int_none a t'
  |bl b=>cases rx;exact SeqAt.EqAt.int_bool a t' b
  |int b=>obtain⟨t,rfl⟩:=rx;exact SeqAt.EqAt.int_int a t' b t
  |str b=>obtain⟨t,rfl⟩:=rx;exact SeqAt.EqAt.int_str a t' b t
  |_=>exact absurd (show false=true from fx) bI
 |str a =>
  obtain⟨t',rfl⟩:=ry
  cases x with
  |non=>cases rx;exact SeqAt.EqAt.str_none a t'
  |bl b=>cases rx;exact SeqAt.EqAt.str_bool a t' b
  |int b=>obtain⟨t,rfl⟩:=rx;exact SeqAt.EqAt.str_int a t' b t
  |str b=>obtain⟨t,rfl⟩:=rx;exact SeqAt.EqAt.str_str a t' b t
  |_=>exact absurd (show false=true from fx) bI
 |_=>exact absurd (show false=true from fy) bI
def eqU(x:V)(u:Value):Bool:=match u with
 |.none=>eqV .non x
 |.bool b=>eqV (.bl b) x
 |.int i _=>eqV (.int i) x
 |.str z _=>eqV (.str z) x
 |_=>false
theorem amy(r:RelV y u)(f:a4u y=true):eqU x u=eqV y x:=by
 cases y with
 |non=>cases r;rfl
 |bl b=>cases r;rfl
 |int i=>obtain⟨t,rfl⟩:=r;rfl
 |str z=>obtain⟨t,rfl⟩:=r;rfl
 |_=>exact absurd (show false=true from f) bI
theorem a7v:∀{xs:List V} {us:List Value},Vals xs us->xs.all a4u=true->us.any (eqU x)=xs.any λy=>eqV y x
 |_,_,.nil,_=>rfl
 |y::xs,u::us,.cons r t,f=>by
  rw[fK,cH]at f;rw[eC,eC,amy r f.1,a7v t f.2]
theorem a5c(rx:RelV x v)(fx:a4u x=true):∀{xs:List V} {us:List Value},Vals xs us->xs.all a4u=true->∀u∈us,SeqAt.EqAt A s u v (eqU x u)
 |_,_,.nil,_=>λu hu=>by cases hu
 |y::xs,u::us,.cons r t,f=>λu' hu=>by
  rw[fK,cH]at f
  rcases aR.mp hu with rfl|hu
  ·rw[amy r f.1];exact agz r rx f.1 fx
  ·exact a5c rx fx t f.2 u' hu
def inV(x:V)(xs:List V):Bool:=xs.any λy=>eqV y x
def rIn(K:Fg)(neg:Bool):R2:=λx y H Q=>∃p xs,y=.ref p/\(SqL K H p xs\/SqT K H p xs)/\a4u x=true/\xs.all a4u=true/\Q (.bl (if neg then !inV x xs else inV x xs)) H
theorem ah0:OpR X (compareOp .In) (rIn X.K false):=by
 intro aA s σ H x y v u Q I rx ry h
 obtain⟨p,xs,rfl,hq,fx,fs,q⟩:=h;cases ry
 rcases hq with hq|hq
 ·obtain⟨its,r,pl,hz⟩:=I.list hq;refine SeqAt.in_listAt (eqU x) pl.isList (λw hw=>a5c rx fx r fs w (by simpa using hw)) ⟨.bl _,H,I,rfl,?_⟩
  rw[show its.toArray.any (eqU x)=its.any (eqU x) by simp,a7v r fs]
  exact q
 ·obtain⟨its,r,pl,hz⟩:=I.tuple hq;refine SeqAt.in_tupleAt (eqU x) pl (λw hw=>a5c rx fx r fs w (by simpa using hw)) ⟨.bl _,H,I,rfl,?_⟩
  rw[show its.toArray.any (eqU x)=its.any (eqU x) by simp,a7v r fs]
  exact q
theorem ab8:OpR X (compareOp .NotIn) (rIn X.K true):=by
 intro aA s σ H x y v u Q I rx ry h
 obtain⟨p,xs,rfl,hq,fx,fs,q⟩:=h;cases ry
 rcases hq with hq|hq
 ·obtain⟨its,r,pl,hz⟩:=I.list hq;refine SeqAt.notIn_listAt (eqU x) pl.isList (λw hw=>a5c rx fx r fs w (by simpa using hw)) ⟨.bl _,H,I,rfl,?_⟩
  rw[show its.toArray.any (eqU x)=its.any (eqU x) by simp,a7v r fs]
  exact q
 ·obtain⟨its,r,pl,hz⟩:=I.tuple hq;refine SeqAt.notIn_tupleAt (eqU x) pl (λw hw=>a5c rx fx r fs w (by simpa using hw)) ⟨.bl _,H,I,rfl,?_⟩
  rw[show its.toArray.any (eqU x)=its.any (eqU x) by simp,a7v r fs]
  exact q
theorem ab9:CallR X (.builtin "len") (λxs H Q=>∃p ys,xs=[.ref p]/\(SqL X.K H p ys\/SqT X.K H p ys)/\Q (.int ys.length) H):=by
 intro aA s σ H xs us Q I r h
 obtain⟨p,ys,rfl,hq,q⟩:=h;obtain⟨u,rfl,rx⟩:=vals1 r;cases rx
 have hn:=a75
 rcases hq with hq|hq
 ·obtain⟨its,r',pl,hz⟩:=I.list hq;have aH:=r'.length;exact Calls.call_len_list pl.isList (by simp only[aK]<;>omega) ⟨.int ys.length,H,I.tok _,⟨s.toks+1,by rw[aK,aH]⟩,q⟩
 ·obtain⟨its,r',pl,hz⟩:=I.tuple hq;have aH:=r'.length;exact len_tuple pl (by simp only[aK]<;>omega) ⟨.int ys.length,H,I.tok _,⟨s.toks+1,by rw[aK,aH]⟩,q⟩
theorem aba:CallR X (.builtin "len") (λxs H Q=>∃z,xs=[.str z]/\z.length<=sizeLine/\Q (.int z.length) H):=by
 intro aA s σ H xs us Q I r h
 obtain⟨z,rfl,hz,q⟩:=h;obtain⟨u,rfl,t,rfl⟩:=vals1 r;have hn:=a75;exact len_str (by omega) ⟨.int z.length,H,I.tok _,⟨_,rfl⟩,q⟩
theorem CallR.or(h:CallR X f r)(h':CallR X f r'):CallR X f (λxs H Q=>r xs H Q\/r' xs H Q):=by
 intro aA s σ H xs us Q I rs q
 rcases q with q|q
 ·exact h aA s σ H xs us Q I rs q
 ·exact h' aA s σ H xs us Q I rs q
theorem yf:CallR X (.type "tuple") (λxs H Q=>∃p ys,xs=[.ref p]/\((SqL X.K H p ys/\∀l,H l=none->Q (.ref l) (upd H l (.tup ys)))\/(SqT X.K H p ys/\Q (.ref p) H))):=by
 intro aA s σ H xs us Q I r h
 obtain⟨p,ys,rfl,h⟩:=h;obtain⟨u,rfl,rx⟩:=vals1 r;cases rx
 rcases h with⟨hq,q⟩|⟨hq,q⟩
 ·obtain⟨its,r',pl,hz⟩:=I.list hq;have aH:=r'.length;refine call_tuple_list pl.isList (λh' kp=>?_) (by simp only[aK]<;>omega)
  have I1:Inv X aA σ H {s with heap:=h' }:=I.kept (t':=s.toks) kp
  have I2:Inv X aA σ (upd H h'.objs.size (.tup ys)) {s with heap:=h'.push {cls:=.type "tuple",data:=.seq its.toArray} } :=
   I1.laid (t':=s.toks) (λb o e=>av _ e) (aJ _) (show ObjOk X.prog X.w _ _ _ (.tup ys) from ⟨hz,its,r',IsTup.new _ _⟩)
  exact⟨.ref h'.objs.size,_,I2,rfl,q _ (I1.hok.fresh (aJ _))⟩
 ·obtain⟨its,r',pl,hz⟩:=I.tuple hq;exact call_tuple_same pl ⟨.ref p,H,I,rfl,q⟩
def tyV(K:Fg)(T:String)(x:V)(H:Hp):Prop:=match x with
 |.str _=>T = "str"
 |.int _=>T = "int"
 | .ref p=>(T = "list"/\∃xs,SqL K H p xs)\/(T = "tuple"/\∃o,K.lookup p=some o/\o.cls=.type "tuple"/\o.dict=none) \/
   (T = "dict"/\((∃kvs,H p=some (.dK kvs))\/∃kvs,H p=some (.dT kvs)))\/(T = "set"/\∃S n,H p=some (.set S n))
 |_=>False
theorem amz(I:Inv X aA σ H s)(r:RelV x v)(ty:tyV X.K T x H) :
  s.TypeIs v T/\∀a,v=.ref a->∃ob,s.heap.get? a=some ob/\ob.dict=none:=by
 cases x with
 |str z =>
  obtain⟨t,rfl⟩:=r
  cases (show T = "str" from ty)
  exact⟨gP s z t,λ_ e=>nomatch e⟩
 |int i =>
  obtain⟨t,rfl⟩:=r
  cases (show T = "int" from ty)
  exact⟨eM s i t,λ_ e=>nomatch e⟩
 |ref p =>
  cases r
  rcases ty with⟨rfl,xs,hq⟩|⟨rfl,o,hk,hc,hd⟩|⟨rfl,hk⟩|⟨rfl,S,n,hk⟩
  ·obtain⟨its,_,pl,_⟩:=I.list hq;refine⟨pl.isList.typeIs,λa e=>?_⟩;cases e
   obtain⟨o,n,e,c,hd,_⟩:=pl;exact⟨o,e,hd⟩
  ·refine⟨⟨o,I.kIn p o hk,hc⟩,λa e=>?_⟩;cases e
   exact⟨o,I.kIn _ o hk,hd⟩
  ·have z:∃o,s.heap.get? p=some o/\o.ExactDict:=by
    rcases hk with⟨kvs,hk⟩|⟨kvs,hk⟩
    ·obtain⟨_,_,_,_,o,_,_,e,ex,_⟩:=I.hok p _ hk;exact⟨o,e,ex⟩
    ·obtain⟨_,_,_,_,o,_,_,e,ex,_⟩:=I.hok p _ hk;exact⟨o,e,ex⟩
   obtain⟨o,e,ex⟩:=z;refine⟨⟨o,e,ex.1⟩,λa e2=>?_⟩;cases e2
   exact⟨o,e,ex.2.1⟩
  ·obtain⟨o,_,_,_,e,ex,_⟩:=I.hok p _ hk;refine⟨⟨o,e,ex.1⟩,λa e2=>?_⟩;cases e2
   exact⟨o,e,ex.2.1⟩
 |_=>exact False.elim ty
def tBM(K:Fg)(T:String)(r:V->List V->Hp->VK->Prop)(to:TE)(t:TA):TE:=λσ H Q=>to σ H λx H1=>tyV K T x H1/\t σ H1 λxs H2=>r x xs H2 Q
variable{o e:Expr}{es:List Expr}{to:TE}{t:TA}{name:Str}{apos cpos:Pos}{T id:String}{r:V->List V->Hp->VK->Prop}
theorem ayo(pa:PlainAttrs T)(slot:Slot T name id)(hty:typeOf (.builtin id)=pure (.type "method_descriptor"))(hm:MtR X id r)(ho:PE X o to)(ha:PA X (e::es) t)
  (hbase:attributeBase o name X.env (eval o X.env)=eval o X.env:=by rfl)
  (hfew:((backTo cpos (starEach (e::es) X.env)).all (λx => !x.1) && (backToKw cpos (keywordEach [] X.env)).all (λx=>x.1.isSome)
   && decide ((e::es).length+([]:List Keyword).length+(if ([]:List Keyword).isEmpty then 0 else 1)<30))=true:=by rfl)
  (hline:(apos.endLine == cpos.line)=true:=by rfl) (hs:starEach (e::es) X.env=(false,eval e X.env)::starEach es X.env:=by rfl) (hplain:(backTo cpos (starEach es X.env)).any (·.1)=false:=by rfl) :
  PE X (.Call (.Attribute o name apos) (e::es) [] cpos) (tBM X.K T r to t):=by
 intro aA s σ H Q I h
 refine wpAny_Call_method_late hbase hfew hline rfl (thn (ho aA s σ H _ I h) λv s1 ⟨x,H1,I1,r1,ty,q1⟩=>?_);obtain⟨h1,h2⟩:=amz I1 r1 ty;refine⟨T,id,pa,slot,hty,h1,h2,?_⟩;have hA:=ha cpos aA s1 σ H1 _ I1 q1;rw[hs]at hA ⊢;refine Calls.callWith_builtin (by show(false || (backTo cpos (starEach es X.env)).any (·.1))=false;rw[hplain]<;>rfl) (Calls.evalArgs_plain ?_)
 exact thn hA λus s2 ⟨vs,H2,I2,r2,q2⟩=>hm aA s2 σ H2 x vs v us Q I2 r1 r2 q2
end
def MtM(X:Cx)(id:String)(r:V->List V->Hp->VK->Prop):Prop :=
 ∀(aA:List (Addr×Obj)) (s:Shared) (σ:St) (H:Hp) (x:V) (xs:List V) (v:Value) (us:List Value) (Q:VK),Inv X aA σ H s->RelV x v->Vals xs us->r x xs H Q->
  wpAny (model X.prog X.w) X.A (call (.builtin id) (v::us)) (EP X aA σ Q) X.xe s
theorem Vals.one:∀{x:V} {us:List Value},Vals [x] us->∃u,us=[u]/\RelV x u
 |_,_,.cons r .nil=>⟨_,rfl,r⟩
theorem Vals.rep(h:Vals xs us):∀k:Nat,Vals (List.replicate k xs).flatten (List.replicate k us).flatten
 |0=>.nil
 |k+1=>by
  rw[cD,cD,dM,dM];exact Vals.append h (Vals.rep h k)
theorem foldl_rep(its:List Value):∀(k:Nat) (acc:List Value),
  List.foldl (λx1 x2=>x1++x2) acc.toArray (List.replicate k its.toArray)=(acc++(List.replicate k its).flatten).toArray
 |0,acc=>by simp
 |k+1,acc=>by
  have e:acc.toArray++its.toArray=(acc++its).toArray:=by simp
  have e2:(acc++its)++(List.replicate k its).flatten=acc++(List.replicate (k+1) its).flatten:=by
   rw[cD,dM,bO]
  rw[<-e2,<-foldl_rep its k (acc++its),<-e,cD,List.foldl_cons]
section
variable{X:Cx}{aA:List (Addr×Obj)}{σ:St}{H:Hp}{s:Shared}{l b:Addr}{xs ys zs:List V}
theorem Inv.lset{its its':List Value}(I:Inv X aA σ H s)(hH:H l=some (.lst xs))
  (e:s.heap.get? l=some {cls:=.type "list",data:=.seq its.toArray n}) (hf:f its.toArray=its'.toArray) (hv:Vals ys its') (hz:ys.length<=sizeLine) :
  Inv X aA σ (upd H l (.lst ys)) {s with heap:=s.heap.update l (Obj.mapSeq f),toks:=t' }:=by
 have q:=PySem.IsL.update e f;rw[hf]at q;refine I.write (x:=l) (e:=l) (by rw[hH];exact trivial) (.inl rfl) (λb' u hb hu=>(eY s.heap (Obj.mapSeq f) (dG hb)).trans hu) ⟨_,q⟩ ?_
 exact⟨hz,its',_,hv,q⟩
theorem Inv.lnew(I:Inv X aA σ H s)(hv:Vals ys its)(hz:ys.length<=sizeLine) :
  Inv X aA σ (upd H s.heap.objs.size (.lst ys)) {s with heap:=s.heap.push {cls:=.type "list",data:=.seq its.toArray},toks:=t' } :=
 I.laid (λ_ _ q=>av _ q) (aJ _) ⟨hz,its,0,hv,bb _ rfl⟩
theorem Inv.fresh(I:Inv X aA σ H s):H s.heap.objs.size=none:=I.hok.fresh (aJ _)
theorem Inv.lstM(I:Inv X aA σ H s)(hH:H l=some (.lst xs)):xs.length<=sizeLine/\∃(its:List Value) (n:Nat),Vals xs its/\xs.length=its.length/\s.heap.get? l=some {cls:=.type "list",data:=.seq its.toArray n}:=by
 obtain⟨z,its,n,r,e⟩:=I.hok l _ hH;exact⟨z,its,n,r,r.length,e⟩
theorem a7f(h:n<=sizeLine):Builtin.List.listTooLong n=false:=by
 unfold Builtin.List.listTooLong;exact bL (by omega)
end
section
variable{X:Cx}
def ah1:V->List V->Hp->VK->Prop:=λx vs H Q=>∃l xs y,x=.ref l/\vs=[y]/\H l=some (.lst xs)/\xs.length<sizeLine/\Q .non (upd H l (.lst (xs++[y])))
theorem sr:MtM X "list.append" ah1:=by
 intro aA s σ H x vs v us Q I rx rv h
 obtain⟨l,xs,y,rfl,rfl,hH,hz,q⟩:=h;cases rx
 obtain⟨u,rfl,ru⟩:=rv.one;obtain⟨z,its,n,r,hl,e⟩:=I.lstM hH;refine cO F.slot_list_append ⟨_,e,rfl⟩ F.entry_list_append (F.args_list_append_2 _ _) (PySem.list_append l its.toArray n u (by rw[aK];omega)) ⟨e,?_⟩
 refine⟨.non,_,I.lset (its':=its++[u]) hH e (by simp) (r.append (.cons ru .nil)) ?_,rfl,q⟩
 rw[ai,aI];omega
def atr:R2:=λx y H Q=>∃l k xs,x=.ref l/\y=.int k/\H l=some (.lst xs) /\ -(2^63)<=k/\k<2^63/\xs.length*k.toNat<=sizeLine /\
 ∀p,H p=none->Q (.ref p) (upd H p (.lst (List.replicate k.toNat xs).flatten))
theorem len_rep{α:Type}(xs:List α)(k:Nat):(List.replicate k xs).flatten.length=k*xs.length:=by
 induction k with
 |zero=>simp
 |succ k ih=>rw[cD,dM,ai,ih,Nat.succ_mul,gO]
theorem atu:OpR X (binaryOp .Mult) atr:=by
 intro aA s σ H x y v u Q I rx ry h
 obtain⟨l,k,xs,rfl,rfl,hH,h1,h2,hz,q⟩:=h;cases rx
 obtain⟨t,rfl⟩:=ry;obtain⟨z,its,n,r,hl,e⟩:=I.lstM hH;have aH:its.toArray.size*k.toNat<=sizeLine:=by rw[aK,<-hl];exact hz
 have hcap:¬ its.toArray.size*k.toNat > (2^63-1) / 8:=by
  have:(sizeLine:Nat)<=(2^63-1) / 8:=by decide
  omega
 have hfit:¬ (!Builtin.List.listFitsIndex k)=true:=by
  rw[fitsIndex_both h1 h2];exact bI
 have hlong:¬ Builtin.List.listTooLong (its.toArray.size*k.toNat)=true:=by
  rw[a7f aH];exact bI
 have hnew:List.foldl (λx1 x2=>x1++x2) #[] (List.replicate (if its.toArray.isEmpty=true then 0 else k.toNat) its.toArray)=(List.replicate k.toNat its).flatten.toArray:=by
  have f0:∀m:Nat,List.foldl (λx1 x2=>x1++x2) #[] (List.replicate m its.toArray)=(List.replicate m its).flatten.toArray:=λm=>by
   have:=foldl_rep its m []
   rw[cE]at this;exact this
  rw[f0]
  cases its with
  |nil=>simp
  |cons a r'=>rw[bA (by simp)]
 refine dE (T := "list") (U := "int") (by decide) ⟨_,e,rfl⟩ (λs'=>eM s' k t) noFill_list_mul fQ dk repeat_list fF.lookup
  (cO dk (eM s k t) fG (fh _ _) (int___rmul___int_list k t l its.toArray n)
   ⟨e,rfl,⟨_,e,rfl⟩,cO F.slot_list_mul ⟨_,e,rfl⟩ F.entry_list_mul (F.args_list_mul_2 _ _) (eP l its.toArray n k t hfit hcap hlong) ⟨e,?_⟩⟩)
 rw[hnew];exact⟨.ref _,_,I.lnew (t':=s.toks) (r.rep k.toNat) (by rw[len_rep,fX];exact hz),rfl,q _ I.fresh⟩
end
end L2
namespace Att
open PySem.W PySem.Calls PyProof.Rows
theorem a7w:∀(ns:List Int) (vs:List Value),WellAll P h vs (ns.map WData.int)->IntsAre vs ns:=by
 intro ns
 induction ns with
 |nil =>
  intro vs w
  rw[dQ]at w;cases w
  exact .nil
 |cons n ns ih =>
  intro vs w
  rw[br]at w
  cases w with
  |cons a b =>
   cases a
   exact .cons _ _ (ih _ b)
theorem ah2{l:OpenLaw}(hn:l.most=some n)
  (hpre:l.row.toRowW.claim.pre args=true) (hwl:WellAll P h vals args) :
  ∃a vs ns,vals=[Value.ref a]/\args=[WData.list (ns.map WData.int)]/\h.get? a=some {cls:=.type "list",data:=.seq vs.toArray}/\IntsAre vs ns/\ns.length<=n:=by
 have hsh:WShape.hasAll [] args [.list .int]=true:=(pre_splitW hpre).1;have hc:l.pre.holds [] {args:=args}=true:=(pre_splitW hpre).2;obtain⟨d,r,rfl,h1,h2⟩:=hasAllW_cons hsh;obtain rfl:=hasAllW_nil h2;obtain⟨xs,rfl,h3⟩:=hasW_list h1;obtain⟨ns,rfl⟩:=items_int h3;have aH:ns.length<=n:=by
  unfold OpenLaw.pre at hc;have h4:(WTm.not (.lt (.lit (.int (n:Int))) (.len (.arg 0)))).holds [] {args:=[.list (ns.map .int)]}=true:=by
   have h4:=(holds_andW hc).1;rw[hn]at h4;exact h4
  have h5:=condW_of h4 (w_not (w_lt w_lit (w_len_list (w_arg rfl))));rw[ay]at h5;refine eG λq=>?_;have q':(n:Int)<((ns.length:Nat):Int):=by omega
  first
   |(rw[cW q']at h5;exact absurd h5 (by decide))
   |(simp at h5;omega)
 cases hwl with
 |cons w1 w2 =>
  cases w2
  cases w1 with
  |list ho hall=>exact⟨_,_,ns,rfl,rfl,ho,a7w ns _ hall,aH⟩
theorem ah3(l:OpenLaw)(args:List WData):l.row.toRowW.claim.post args (.bool true) args=true :=
 postW_of (r:=l.row.toRowW) (X:=(true == true))
  (show WShape.has [] (.bool true) .bool=true by first|rfl|decide|simp[WShape.has,WShape.arms,WShape.armsAll])
  (show(WTm.eq .res (.lit (.bool true))).value [] {args:=args,res:=some (.bool true),after:=args}=some (.bool (true == true)) from w_eq_bool (w_res rfl) w_lit) rfl
theorem acs{l:OpenLaw}{d:DefRec}
  (hn:l.most=some n) (hdf:d.params.defaults=[])
  (call:∀(w:World) (s₀ s₁:Shared) (mg mb:Str->Option Value) (fa:Addr) (o:Obj) (pm cd doc:Value) (a:Addr) (vs:List Value) (ns:List Int),
   Ground q loose [] XP w s₀ mg mb s₁.heap->YP w s₁.heap->
   s₁.heap.get? fa=some o->o.data=.func (docDef d.name d.params d.body d.scope pm cd doc)->s₁.heap.CodeRec cd d.name->mg d.name=some (.ref fa)->
   s₁.heap.get? a=some {cls:=.type "list",data:=.seq vs.toArray}->IntsAre vs ns->ns.length<=n->s₁.gens = #[]->
   codeAny (model l.prog w) callerA (.call (.ref fa) ⟨[.ref a],[]⟩) (λr s'=>r=.ok (.ret (.bool true))/\OldK s₁.heap s'.heap/\s'.os=s₁.os/\AllBare s'.gens) s₁) :
  WalkO q loose XP YP l.row.toRowW d [] (λf vs=>PySem.call f vs):=by
 intro w s₀ s₁ mg mb G Y fa o pm cd doc dV kV ho hd hcd hD hmg hg args vals as hpre hlay hrd hwl hlo
 obtain rfl:dV=.none:=Dflts.none hD hdf
 obtain rfl:kV=.none:=Dflts.noKw hD
 obtain⟨a,vs,ns,rfl,rfl,hobj,hints,aH⟩:=ah2 hn hpre hwl;refine enter_call (gL (call w s₀ s₁ mg mb fa o pm cd doc a vs ns G Y ho (fd_plain hd) hcd hmg hobj hints aH hg) λr s' hq=>?_);obtain⟨rfl,h2,h3,h4⟩:=hq;exact⟨.inl ⟨.bool true,.bool true,[],rfl,λ_=>rfl,.bool true,ah3 l _,λ_=>⟨List.Pairwise.nil,λ_ hm=>(nomatch hm)⟩⟩,h2,h3,h4⟩
end Att
namespace L2
open PyProof.Rows
theorem a7x:∀{vs:List Value} {ns:List Int},IntsAre vs ns->Vals (ns.map V.int) vs
 |_,_,.nil=>.nil
 |_,_,.cons n t h=>.cons ⟨t,rfl⟩ (a7x h)
def Only(H:Hp):Prop:=∀b,H b=none\/∃o xs,H b=some (.frz o (.lst xs))
theorem akp{K:Fg}{s₁:Shared}{vs:List Value}
  (KX:K.In s₁.heap) (hns:s₁.heap.Ns mainGlobals mg) (hb:s₁.heap.Ns builtinsNs mb) (hbb:∀x:Str,x ≠ "__name__"->mb x=bootBuiltins x) (hlim:s₁.heap.NoLimit) (hg:s₁.gens = #[])
  (ha:s₁.heap.get? a=some {cls:=.type "list",data:=.seq vs.toArray}) (hi:IntsAre vs ns) (hl:ns.length<=sizeLine) (hr:Room k callerA)
  (F:∀base:Heap,K.In base->base.Ns mainGlobals mg->FnOk P w K mg base CX k fa fd [x] sp) (hbind:∀(s:Shared) (u:Value),BindsTo s fd ⟨[u],[]⟩ [(x,u)])
  (hsp:∀H:Hp,Only H->SqL K H a (ns.map V.int)->sp [.ref a] H (λv _=>v=.bl true) λ_ _ _=>False)
  (hCX:∀H e s',CX [] H s₁ (λ_ _ _=>False) e s'->False) :
  codeAny (model P w) callerA (.call (.ref fa) ⟨[.ref a],[]⟩) (λr s'=>r=.ok (.ret (.bool true))/\OldK s₁.heap s'.heap/\s'.os=s₁.os/\AllBare s'.gens) s₁:=by
 have rv:=a7x hi;have lenV:=hi.length;have core:∀H:Hp,Only H->SqL K H a (ns.map V.int)->HOk P w H s₁.heap->(∀b,H b≠none->b=a)->(H a≠none->K.lookup a=none)->
   codeAny (model P w) callerA (.call (.ref fa) ⟨[.ref a],[]⟩) (λr s'=>r=.ok (.ret (.bool true))/\OldK s₁.heap s'.heap/\s'.os=s₁.os/\AllBare s'.gens) s₁:=by
  intro H hO hS hok hA hK
  have base_of:∀{b:Addr} {o:Obj},s₁.heap.get? b=some o->H b=none->(ak6 s₁.heap H).get? b=some o:=λe n=>ak7 e n;have noA:∀{b:Addr} {o:Obj} {es:Array DictEntry} {ep:Nat},s₁.heap.get? b=some o->o.data=.dict es ep->H b=none:=λ{b o es ep} e d=>by
   cases q:H b with
   |none=>rfl
   |some u =>
    have e':b=a:=hA b (by rw[q];simp)
    subst e';rw[ha]at e;cases e
    have d':Data.seq vs.toArray _=Data.dict es ep:=d
    cases d'
  have nsK:∀{b:Addr} {m:Str->Option Value},s₁.heap.Ns b m->(ak6 s₁.heap H).Ns b m:=λ{b m} ⟨o,es,ep,e,d,r⟩=>⟨o,es,ep,base_of e (noA e d),d,r⟩;have hKb:K.In (ak6 s₁.heap H):=λb o e=>base_of (KX b o e) (by
   cases q:H b with
   |none=>rfl
   |some u =>
    have e':b=a:=hA b (by rw[q];simp)
    subst e';rw[hK (by rw[q];simp)]at e;cases e)
  have hM:Mod K mg (ak6 s₁.heap H):=⟨hKb,nsK hns,⟨mb,nsK hb,hbb⟩,let ⟨mc,h1,h2⟩:=hlim; ⟨mc,nsK h1,h2⟩⟩;have e0:Env0 P w K mg (ak6 s₁.heap H) callerA [] s₁ H:=⟨rfl,hM,λb o e=>ao8 e,Nat.le_of_eq (age _ _),trivial,λb hb=>absurd (show b∈([]:List Addr) from hb) (by simp),hok,.of_eq hg⟩
  refine gL ((F _ hKb (nsK hns)).run callerA [] s₁ H ⟨[.ref a],[]⟩ [.ref a] [.ref a] _ _ hr e0 (hbind s₁ (.ref a)) (.cons rfl .nil) (hsp H hO hS)) λr s' h=>?_
  cases r with
  |error e=>exact(hCX H e s' h).elim
  |ok fl =>
   cases fl with
   |next=>exact False.elim h
   |brk=>exact False.elim h
   |cont=>exact False.elim h
   |ret u =>
    obtain⟨v,H',os,bare,un,hok',r',q⟩:=h;have q':v=.bl true:=q;subst q';obtain rfl:u=Value.bool true:=r';refine⟨rfl,OldK.of_keep λb o e=>?_,os,bare⟩
    cases q:H b with
    |none=>exact un.keep b o e q (by intro z;exact absurd (show b∈([]:List Addr) from z) (by simp)) (by simp)
    |some u =>
     rcases hO b with z|⟨ob,xs,z⟩
     ·rw[q]at z;cases z
     ·have z2:=un.frzs b ob _ z;obtain⟨e1,_⟩:=hok b _ z;obtain⟨e2,_⟩:=hok' b _ z2;rw[e]at e1;cases e1
      exact e2
 cases hk:K.lookup a with
 |some o =>
  have e:=KX a o hk;rw[ha]at e;cases e
  refine core (λ_=>none) (λ_=>.inl rfl) (.inr ⟨_,vs.toArray,_,hk,rfl,rfl,rfl,by rw[aK,lenV];exact hl,by simpa using rv⟩) (λb u z=>by have z':(none:Option HO)=some u:=z;cases z') (λb z=>absurd rfl z) λz=>absurd rfl z
 |none =>
  refine core (λb=>if b=a then some (.frz {cls:=.type "list",data:=.seq vs.toArray} (.lst (ns.map V.int))) else none) (λb=>?_) (.inl (.inr ⟨{cls:=.type "list",data:=.seq vs.toArray},aT rfl⟩)) (λb u z=>?_) (λb z=>?_) λ_=>hk
  ·by_cases hb:b=a
   ·exact .inr ⟨_,_,aT hb⟩
   ·exact .inl (bA hb)
  ·by_cases hb:b=a
   ·have z':=(aT hb).symm.trans z
    cases z'
    subst hb;exact⟨ha,by rw[ay];exact hl,vs,_,rv,ha⟩
   ·have z':=(bA hb).symm.trans z
    cases z'
  ·by_cases hb:b=a
   ·exact hb
   ·exact absurd (bA hb) z
theorem ap2{l:PySem.W.OpenLaw}{n k:Nat}{q:Program}{loose:List Str}{XP:(Str->Option Value)->Heap->Prop}{YP:World->Heap->Prop}{d:DefRec}{K:Params->Fg}{CX:World->CXT}{sp:World->Sp}{x:Str}
  (hn:l.most=some n) (hn2:n<=sizeLine) (hdf:d.params.defaults=[]) (hr:Room k callerA)
  (hY:∀(w:World) (h:Heap),YP w h->(K w.params).In h)
  (F:∀(w:World) (mg:Str->Option Value) (fa:Addr) (h:Heap),(K w.params).In h->h.Ns mainGlobals mg->mg d.name=some (.ref fa)->
   ∃fd:FuncData,(∀(s:Shared) (u:Value),BindsTo s fd ⟨[u],[]⟩ [(x,u)]) /\
    ∀base:Heap,(K w.params).In base->base.Ns mainGlobals mg->FnOk l.prog w (K w.params) mg base (CX w) k fa fd [x] (sp w))
  (hsp:∀(w:World) (H:Hp) (a:Addr) (ns:List Int),ns.length<=n->Only H->SqL (K w.params) H a (ns.map V.int)->sp w [.ref a] H (λv _=>v=.bl true) λ_ _ _=>False)
  (hCX:∀(w:World) (H:Hp) (s:Shared) (e:Value) (s':Shared),CX w [] H s (λ_ _ _=>False) e s'->False) :
  PySem.W.WalkO q loose XP YP l.row.toRowW d [] (λf vs=>PySem.call f vs):=by
 refine Att.acs hn hdf λw s₀ s₁ mg mb fa o pm cd doc a vs ns G Y ho hd hcd hmg hobj hints aH hg=>?_;have KX:=hY w _ Y;obtain⟨fd,hb,hF⟩:=F w mg fa _ KX G.T.g hmg;exact akp KX G.T.g G.T.b G.T.builtins G.T.nolimit hg hobj hints (cA aH hn2) hr hF hb (λH hO hS=>hsp w H a ns aH hO hS) λH e s'=>hCX w H s₁ e s'
def a3m(s:Stmt):Arguments:=match s with
 |.FunctionDef _ a _ _ _ _ _ _ _ _=>a
 |_=>{posonlyargs:=[],args:=[],vararg:=none,kwonlyargs:=[],kw_defaults:=[],kwarg:=none,defaults:=[]}
def jz(s:Stmt):List Stmt:=match s with
 |.FunctionDef _ _ b _ _ _ _ _ _ _=>b
 |_=>[]
def az(s:Stmt):Scope:=match s with
 |.FunctionDef _ _ _ _ _ _ sc _ _ _=>sc
 |_=>{kind:=.function,names:=[],isGenerator:=false,isCoroutine:=false}
abbrev CX0:CXT:=λ_ _ _ _ _ _=>False
abbrev E0:XK:=λ_ _ _=>False
theorem acu:a76 CX0 X E0:=λ_ _ _ _ _ _ _ h=>h.elim
structure Fun (K:Fg) (x qual:Str) (st:Stmt) (f:Addr) (fd:FuncData):Prop where
 ex:∃(oc:Value) (od:Option Addr) (kV doc pm:Value) (an:Option Addr) (cdv ct:Value) (osl:Array (Option Value)),
  fd=PySem.W.fnOf x qual (a3m st) (jz st) (az st) .none kV doc pm an cdv ct/\K.lookup f=some ⟨oc,od,.func fd,osl⟩/\PySem.W.codeIn K cdv qual=true
 kp:PySem.W.keepIn K (.ref f)=true
section
variable{P:Program}{w:World}{K:Fg}{mg:Str->Option Value}{base:Heap}
theorem Fun.ok{x qual:Str}{st:Stmt}{f:Addr}{fd:FuncData}{N ps:List Str}{k:Nat}{sp:Sp}(F:Fun K x qual st f fd)(S:FnScope N ps (az st))(len:∀vs H Q E,sp vs H Q E->vs.length=ps.length)
  (hbody:∀(cdv:Value) (A:Around) (outer:List Env) (s:Shared) (H:Hp) (vs:List V) (Q:VK) (E:XK),Room k (A.deeper (envOfC qual (az st) s.heap.objs.size f cdv))->sp vs H Q E->
   ∃t,PSs (a5b CX0 P w K mg base N qual (az st) f cdv A outer s H E).nox (jz st) t/\t {nx:=λ_ H'=>Q .non H',rt:=Q} (start N vs) H):FnOk P w K mg base CX0 (k+1) f fd ps sp:=by
 obtain⟨oc,od,kV,doc,pm,an,cdv,ct,osl,rfl,lk,hcd⟩:=F.ex;refine ayj lk hcd S len λA outer s H vs Q E hr hsp=>?_;obtain⟨t,h,q⟩:=hbody cdv A outer s H vs Q E hr hsp;exact⟨t,h.nox,q⟩
theorem Fun.binds{x qual:Str}{st:Stmt}{f:Addr}{fd:FuncData}{ps:List Str}(F:Fun K x qual st f fd)
  (h:∀(kV doc pm:Value) (an:Option Addr) (cdv ct:Value) (us:List Value),us.length=ps.length->bindArgs (PySem.W.fnOf x qual (a3m st) (jz st) (az st) .none kV doc pm an cdv ct) ⟨us,[]⟩=pure (ps.zip us)):Binds K fd ps []:=by
 obtain⟨oc,od,kV,doc,pm,an,cdv,ct,osl,rfl,lk,hcd⟩:=F.ex;exact .all (h kV doc pm an cdv ct)
theorem an0{x qual:Str}{st:Stmt}{f:Addr}{oc:Value}{od an:Option Addr}{osl:Array (Option Value)}{kV doc pm cdv ct:Value}(l:K.lookup f=some ⟨oc,od,.func (PySem.W.fnOf x qual (a3m st) (jz st) (az st) .none kV doc pm an cdv ct),osl⟩)
  (c:PySem.W.codeIn K cdv qual=true) (k:PySem.W.keepIn K (.ref f)=true):Fun K x qual st f (PySem.W.fnOf x qual (a3m st) (jz st) (az st) .none kV doc pm an cdv ct):=⟨⟨oc,od,kV,doc,pm,an,cdv,ct,osl,rfl,l,c⟩,k⟩
end
def Same(H H':Hp):Prop:=∀b o,H b=some o->H' b=some o
theorem Same.seq{K:Fg}{H H':Hp}{a:Addr}{xs:List V}(e:Same H H')(h:SqL K H a xs):SqL K H' a xs:=by
 rcases h with(h|⟨o,h⟩)|h
 ·exact .inl (.inl (e _ _ h))
 ·exact .inl (.inr ⟨o,e _ _ h⟩)
 ·exact .inr h
section
variable{κ:Type}[DecidableEq κ]
def adu(kvs:List (κ×V))(k:κ):Option V:=(kvs.find? λkv=>decide (kv.1=k)).map (·.2)
def putK(kvs:List (κ×V))(k:κ)(v:V):List (κ×V) :=
 if (kvs.any λkv=>decide (kv.1=k))=true then kvs.map (λkv=>if kv.1=k then (kv.1,v) else kv) else kvs++[(k,v)]
theorem a9l{p:κ×V}{r:List (κ×V)}{k:κ}(e:p.1=k):adu (p::r) k=some p.2:=by simp[adu,dn,e]
theorem a9m{p:κ×V}{r:List (κ×V)}{k:κ}(e:¬ p.1=k):adu (p::r) k=adu r k:=by simp[adu,dn,e]
theorem adv(k:κ):∀kvs:List (κ×V),(kvs.any λkv=>decide (kv.1=k))=(adu kvs k).isSome
 |[]=>rfl
 |p::r=>by
  rw[eC]
  by_cases e:p.1=k
  ·simp only[a9l e,cW e,Bool.true_or,Option.isSome_some]
  ·rw[a9m e,bL e,Bool.false_or];exact adv k r
theorem a4v(kvs:List (κ×V))(k:κ)(v:V):(putK kvs k v).length<=kvs.length+1:=by
 unfold putK
 split
 ·rw[ay];omega
 ·rw[ai,aY,eQ];omega
theorem RelO.isSome_eq{o:Option V}{u:Option Value}(r:RelO o u):o.isSome=u.isSome:=by
 cases o with
 |none=>cases u with
  |none=>rfl
  |some _=>exact(show False from r).elim
 |some _=>cases u with
  |none=>exact(show False from r).elim
  |some _=>rfl
theorem KV.val{kvs:List (κ×V)}{vs:List (κ×Value)}(r:KV kvs vs)(k:κ):RelO (adu kvs k) (valueAt vs k):=by
 unfold KV at r
 induction r with
 |nil=>exact True.intro
 |@cons p q ps qs h t ih =>
  obtain⟨h1,h2⟩:=h
  by_cases e:p.1=k
  ·have e':q.1=k:=h1.symm.trans e;have b:valueAt (q::qs) k=some q.2:=by simp[valueAt,dn,e']
   rw[a9l e,b];exact h2
  ·have e':¬ q.1=k:=λz=>e (h1.trans z);have b:valueAt (q::qs) k=valueAt qs k:=by simp[valueAt,dn,e']
   rw[a9m e,b];exact ih
theorem KV.any{kvs:List (κ×V)}{vs:List (κ×Value)}(r:KV kvs vs)(k:κ):(kvs.any λkv=>decide (kv.1=k))=vs.any λkv=>decide (kv.1=k):=by
 unfold KV at r
 induction r with
 |nil=>rfl
 |cons h t ih=>rw[eC,eC,ih,h.1]
theorem KV.repl{kvs:List (κ×V)}{vs:List (κ×Value)}(r:KV kvs vs)(k:κ){y:V}{u:Value}(ry:RelV y u) :
  KV (kvs.map λkv=>if kv.1=k then (kv.1,y) else kv) (vs.map λkv=>if kv.1=k then (kv.1,u) else kv):=by
 unfold KV at r ⊢
 induction r with
 |nil=>exact .nil
 |@cons p q ps qs h t ih =>
  rw[br,br];refine .cons ?_ ih;obtain⟨h1,h2⟩:=h
  by_cases e:p.1=k
  ·rw[aT e,aT (h1.symm.trans e)];exact⟨h1,ry⟩
  ·rw[bA e,bA (λz=>e (h1.trans z))];exact⟨h1,h2⟩
theorem KV.put{kvs:List (κ×V)}{vs:List (κ×Value)}(r:KV kvs vs)(k:κ){y:V}{u:Value}(ry:RelV y u):KV (putK kvs k y) (stored vs k u):=by
 unfold putK stored;rw[r.any k]
 by_cases e:(vs.any λkv=>decide (kv.1=k))=true
 ·rw[aT e,aT e];exact r.repl k ry
 ·rw[bA e,bA e];exact Paired.snoc r ⟨rfl,ry⟩
theorem KV.length{kvs:List (κ×V)}{vs:List (κ×Value)}(r:KV kvs vs):kvs.length=vs.length:=gA r
end
theorem akq{P:Program}{w:World}{k:Key}{u:Value}(r:RelV (kV k) u):(v4 P w).is k u=true:=by
 cases k with
 |inl i=>obtain⟨t,e⟩:=(show ∃t,u=Value.int i t from r);subst e;exact acn P w i t
 |inr x=>obtain⟨t,e⟩:=(show ∃t,u=Value.str x t from r);subst e;exact aco P w x t
theorem abb{P:Program}{w:World}:∀{ks:List Key} {us:List Value},Vals (ks.map kV) us->ItemsAre (v4 P w) ks us
 |[],_,r=>by rw[dQ]at r;cases r;exact .nil
 |k::ks,_,r=>by
  rw[br]at r
  cases r with
  |cons h t=>exact .cons (akq h) (abb t)
abbrev KT(H:Hp):List (List Key×V)->List (List Key×Addr×Value)->Prop:=Paired λp q=>p.1=q.1/\H q.2.1=some (.tup (p.1.map kV))/\RelV p.2 q.2.2
theorem KT.val{H:Hp}{kvs:List (List Key×V)}{xs:List (List Key×Addr×Value)}(r:KT H kvs xs)(k:List Key):RelO (adu kvs k) ((atKey xs k).map (·.2)):=by
 induction r with
 |nil=>exact True.intro
 |@cons p q ps qs h t ih =>
  obtain⟨h1,_,h2⟩:=h
  by_cases e:p.1=k
  ·have e':q.1=k:=h1.symm.trans e;have b:atKey (q::qs) k=some q.2:=by simp[atKey,dn,e']
   rw[a9l e,b];exact h2
  ·have e':¬ q.1=k:=λz=>e (h1.trans z);have b:atKey (q::qs) k=atKey qs k:=by simp[atKey,dn,e']
   rw[a9m e,b];exact ih
theorem KT.repl{H:Hp}{kvs:List (List Key×V)}{xs:List (List Key×Addr×Value)}(r:KT H kvs xs)(k:List Key){y:V}{u:Value}(ry:RelV y u) :
  KT H (kvs.map λkv=>if kv.1=k then (kv.1,y) else kv) (xs.map (putAt k u)):=by
 induction r with
 |nil=>exact .nil
 |@cons p q ps qs h t ih =>
  rw[br,br];refine .cons ?_ ih;obtain⟨h1,h2,h3⟩:=h;unfold putAt
  by_cases e:p.1=k
  ·rw[aT e,aT (h1.symm.trans e)];exact⟨h1,h2,ry⟩
  ·rw[bA e,bA (λz=>e (h1.trans z))];exact⟨h1,h2,h3⟩
theorem KT.put{H:Hp}{kvs:List (List Key×V)}{xs:List (List Key×Addr×Value)}(r:KT H kvs xs)(k:List Key){b:Addr}{y:V}{u:Value}(hb:H b=some (.tup (k.map kV)))(ry:RelV y u) :
  KT H (putK kvs k y) (storedH xs k b u):=by
 have e:(kvs.any λkv=>decide (kv.1=k))=(atKey xs k).isSome:=by
  rw[adv,(r.val k).isSome_eq,Option.isSome_map]
 unfold putK storedH;rw[e]
 by_cases q:(atKey xs k).isSome=true
 ·rw[aT q,aT q];exact r.repl k ry
 ·rw[bA q,bA q];exact Paired.snoc r ⟨rfl,hb,ry⟩
theorem KT.keeps{H H':Hp}{kvs:List (List Key×V)}{xs:List (List Key×Addr×Value)}(r:KT H kvs xs)(ht:∀b ys,H b=some (.tup ys)->H' b=some (.tup ys)):KT H' kvs xs :=
 Paired.mapP r λ_ _ z=>⟨z.1,ht _ _ z.2.1,z.2.2⟩
section
variable{P:Program}{w:World}{H:Hp}{h:Heap}{a:Addr}
theorem atv{u:HO}(ok:HOk P w H h)(e:Rd H a u):ObjOk P w H h a u:=e.ok ok
theorem atw{kvs:List (Key×V)}(ok:HOk P w H h)(e:Rd H a (.dK kvs)):kvs.length<=sizeLine/\(a == sysModules)=false/\∃vs,KV kvs vs/\h.DictOf (v4 P w) a vs :=
 show ObjOk P w H h a (.dK kvs) from atv ok e
theorem atx{kvs:List (Key×V)}(ok:HOk P w H h)(e:H a=some (.dK kvs)):kvs.length<=sizeLine/\(a == sysModules)=false/\∃vs,KV kvs vs/\h.DictOf (v4 P w) a vs:=atw ok (.inl e)
theorem ah4{ks:List Key}(ok:HOk P w H h)(e:H a=some (.tup (ks.map kV))):(tupleKind (v4 P w)).is h ks a:=by
 obtain⟨_,its,r,o,h1,h2,n,h3⟩:=(show ObjOk P w H h a (.tup (ks.map kV)) from ok a _ e)
 exact⟨o,its.toArray,n,h1,h2,h3,by simpa using abb r⟩
theorem aty{kvs:List (List Key×V)}(ok:HOk P w H h)(e:Rd H a (.dT kvs)):kvs.length<=sizeLine/\(a == sysModules)=false /\
  ∃xs,KT H kvs xs/\h.DictOfH (tupleKind (v4 P w)) a xs:=by
 obtain⟨z,y,xs,r,o,es,ep,h1,h2,h3,h4,h5⟩:=(show ObjOk P w H h a (.dT kvs) from atv ok e)
 refine⟨z,y,xs,r,o,es,ep,h1,h2,h3,h4,λx hx=>?_,h5⟩;have all:∀{l:List (List Key×V)} {m:List (List Key×Addr×Value)},KT H l m->∀x∈m,(tupleKind (v4 P w)).is h x.1 x.2.1:=by
  intro l m q
  induction q with
  |nil=>intro x hx;exact nomatch hx
  |@cons p q ps qs hq t ih =>
   intro x hx
   rcases aR.mp hx with e|hx
   ·subst e;exact ah4 ok (by rw[<-hq.1];exact hq.2.1)
   ·exact ih x hx
 exact all r x hx
theorem ayp{kvs:List (List Key×V)}(ok:HOk P w H h)(e:H a=some (.dT kvs)):kvs.length<=sizeLine/\(a == sysModules)=false /\
  ∃xs,KT H kvs xs/\h.DictOfH (tupleKind (v4 P w)) a xs:=aty ok (.inl e)
end
def axi(H:Hp)(a:Addr)(y:V)(r:Option V):Prop :=
 (∃kvs k,Rd H a (.dK kvs)/\y=kV k/\r=adu kvs k)\/∃kvs k b,Rd H a (.dT kvs)/\y=.ref b/\H b=some (.tup (k.map kV))/\r=adu kvs k
def ayq(H:Hp)(a:Addr)(y v:V)(H':Hp):Prop :=
 (∃kvs k,H a=some (.dK kvs)/\y=kV k/\kvs.length<sizeLine/\H'=upd H a (.dK (putK kvs k v))) \/
 ∃kvs k b,H a=some (.dT kvs)/\y=.ref b/\H b=some (.tup (k.map kV))/\kvs.length<sizeLine/\H'=upd H a (.dT (putK kvs k v))
section
variable{X:Cx}{aA:List (Addr×Obj)}{σ:St}{H:Hp}{s:Shared}{a:Addr}{y v:V}{u r:Value}{o:Option V}{A:Around}{E:Value->Shared->Prop}
theorem Inv.big(I:Inv X aA σ H s):sysModules<s.heap.objs.size:=by
 have h:mainGlobals<s.heap.objs.size:=(I.mod.glob.keeps I.bk).lt;exact Nat.lt_trans (by decide) h
theorem ap3{Q:Value->Shared->Prop}(hu:A.units+1<cLine)(I:Inv X aA σ H s)(g:axi H a y o)(ry:RelV y u)(h:∀s',Inv X aA σ H s'->Q (.bool (!o.isSome)) s') :
  wpAny (model X.prog X.w) A (compareOp .NotIn u (.ref a)) Q E s:=by
 rcases g with⟨kvs,k,e,ey,l⟩|⟨kvs,k,b,e,ey,eb,l⟩
 ·subst ey;obtain⟨z,hd,vs,rel,dd⟩:=atw I.hok e;refine wpAny_notIn_of (akq ry) hd dd.mapOf ?_;rw[<-(rel.val k).isSome_eq,<-l];exact h _ (I.tok _)
 ·subst ey
  cases (show u=Value.ref b from ry)
  obtain⟨z,hd,xs,rel,dd⟩:=aty I.hok e;refine wpAny_notIn_heap (tupleKind_room_in1 hu) (ah4 I.hok eb) hd dd ?_;have q:=(rel.val k).isSome_eq;rw[Option.isSome_map]at q;rw[<-q,<-l];exact h _ (I.tok _)
theorem acv{h':Heap}{t':Nat}{ob:HO}(I:Inv X aA σ H s)(mu:Mut (H a))(hs:Heap.SameBut a s.heap h')(he:∃q,h'.get? a=some q)(new:ObjOk X.prog X.w (upd H a ob) h' a ob) :
  Inv X aA σ (upd H a ob) {s with heap:=h',toks:=t' } :=
 I.write (x:=a) (e:=a) mu (.inl rfl) (λb q hb z=>(hs.2 b hb).trans z) he new
theorem an1{P:Program}{w:World}{H':Hp}{h':Heap}{kvs:List (Key×V)}{vs:List (Key×Value)}(z:kvs.length<=sizeLine)(hd:(a == sysModules)=false)(rel:KV kvs vs)(dd:h'.DictOf (v4 P w) a vs) :
  ObjOk P w H' h' a (.dK kvs):=⟨z,hd,vs,rel,dd⟩
theorem ah5{H':Hp}{Q:Unit->Shared->Prop}(hu:A.units+1<cLine)(I:Inv X aA σ H s)(g:ayq H a y v H')(ry:RelV y u)(rv:RelV v r)(h:∀s',Inv X aA σ H' s'->Q () s') :
  wpAny (model X.prog X.w) A (setItem (.ref a) u r) Q E s:=by
 rcases g with⟨kvs,k,e,ey,l,eH⟩|⟨kvs,k,b,e,ey,eb,l,eH⟩
 ·subst ey eH;obtain⟨z,hd,vs,rel,dd⟩:=atx I.hok e;have hz:vs.length<=sizeLine:=by rw[<-rel.length];exact z
  have hl:(putK kvs k v).length<=sizeLine:=by have:=a4v kvs k v;omega
  refine wpAny_setItem_pairs (hsz:=hz) (akq ry) dd λh' dd' hs=>h _ ?_;have he:∃q,h'.get? a=some q:=let ⟨q,_,_,hq,_⟩:=dd'; ⟨q,hq⟩;exact acv I (by rw[e];exact True.intro) hs he (an1 hl hd (rel.put k rv) dd')
 ·subst ey eH
  cases (show u=Value.ref b from ry)
  obtain⟨z,hd,xs,rel,dd⟩:=ayp I.hok e;have hz:xs.length<=sizeLine:=by rw[<-gA rel];exact z
  have hl:(putK kvs k v).length<=sizeLine:=by have:=a4v kvs k v;omega
  refine wpAny_setItem_heap (hsz:=hz) (tupleKind_room_in1 hu) (ah4 I.hok eb) dd λh' dd' hs=>h _ ?_;obtain⟨q,es,ep,hq,h2,h3,h4,_,h5⟩:=dd';refine acv I (by rw[e];exact True.intro) hs ⟨q,hq⟩ ⟨hl,hd,_,(rel.put k eb rv).keeps λc ys ec=>?_,q,es,ep,hq,h2,h3,h4,h5⟩
  rw[jg (axv ec e (λz=>nomatch z))];exact ec
end
def ayr(td ty tv:TE):TS:=λD σ H=>tv σ H λv H1=>td σ H1 λx H2=>ty σ H2 λy H3=>∃a H4,x=.ref a/\ayq H3 a y v H4/\D.nx σ H4
section
variable{X:Cx}{o i e value:Expr}{pos pos' tpos:Pos}{td ty tv:TE}
theorem ap4(hu:X.A.units+1<cLine)(ho:PE X o td)(hi:PE X i ty)(hv:PE X value tv)(hs:swapsWith value (some (.Subscript o i pos')) pos.line X.env=pure false) :
  PS X (.Assign [.Subscript o i pos'] value pos) (ayr td ty tv):=by
 intro aA s σ H D I h
 refine wpAny_Assign_Subscript (thn (hv aA s σ H _ I h) λr s1 ⟨v,H1,I1,rv,q1⟩=>thn (ho aA s1 σ H1 _ I1 q1) λu s2 ⟨x,H2,I2,rx,q2⟩=>thn (hi aA s2 σ H2 _ I2 q2) λiv s3 ⟨y,H3,I3,ry,a,H4,ex,g,q3⟩=>?_) hs;subst ex;obtain rfl:u=Value.ref a:=rx;exact ah5 hu I3 g ry rv λs4 I4=>⟨σ,H4,I4,q3⟩
end
theorem akr{P:Program}{w:World}{H:Hp}(h:Heap)(hb:sysModules<h.objs.size):ObjOk P w H (h.push {cls:=.type "dict",data:=.dict #[]}) h.objs.size (.dK []) :=
 ⟨aW _,cn.mpr (dG (bN hb)),[],.nil,Heap.DictOf.new h⟩
def ah6:List (TE×TE)->St->Hp->(List (V×V)->Hp->Prop)->Prop
 |[],_,H,Q=>Q [] H
 |(tk,tv)::r,σ,H,Q=>tk σ H λx H1=>tv σ H1 λy H2=>ah6 r σ H2 λps H3=>Q ((x,y)::ps) H3
abbrev VV:List (V×V)->List (Value×Value)->Prop:=Paired λp q=>RelV p.1 q.1/\RelV p.2 q.2
def PPs(X:Cx)(pos:Pos)(keys:List (Option Expr))(values:List Expr)(trs:List (TE×TE)):Prop :=
 ∀(aA:List (Addr×Obj)) (s:Shared) (σ:St) (H:Hp) (Q:List (V×V)->Hp->Prop),Inv X aA σ H s->ah6 trs σ H Q->
  wpAny (model X.prog X.w) X.A (evalPairs (pairTrees keys values X.env pos)) (λvs s'=>∃ps H',Inv X aA σ H' s'/\VV ps vs/\Q ps H') X.xe s
theorem ap5{X:Cx}{pos:Pos}:PPs X pos [] [] []:=λaA s σ H Q I h=>pairTrees_nil_walk ⟨[],H,I,.nil,h⟩
theorem aks{X:Cx}{pos:Pos}{k v:Expr}{ks:List (Option Expr)}{vs:List Expr}{tk tv:TE}{trs:List (TE×TE)}(hk:PE X k tk)(hv:PE X v tv)(hr:PPs X pos ks vs trs) :
  PPs X pos (some k::ks) (v::vs) ((tk,tv)::trs):=λaA s σ H Q I h =>
 pairTrees_cons_walk (thn (hk aA s σ H _ I h) λu s1 ⟨x,H1,I1,rx,q1⟩=>thn (hv aA s1 σ H1 _ I1 q1) λw2 s2 ⟨y,H2,I2,ry,q2⟩ =>
  thn (hr aA s2 σ H2 _ I2 q2) λws s3 ⟨ps,H3,I3,rel,q3⟩=>⟨(x,y)::ps,H3,I3,.cons ⟨rx,ry⟩ rel,q3⟩)
def abd(kvs more:List (Key×V)):List (Key×V):=more.foldl (λacc kv=>putK acc kv.1 kv.2) kvs
theorem KV.merge:∀{more:List (Key×V)} {rs:List (Key×Value)} {kvs:List (Key×V)} {vs:List (Key×Value)},KV more rs->KV kvs vs->KV (abd kvs more) (merged vs rs):=by
 intro more rs kvs vs r
 unfold KV at r
 induction r generalizing kvs vs with
 |nil=>intro q;exact q
 |@cons p q ps qs h t ih =>
  intro r0
  have e:KV (putK kvs p.1 p.2) (stored vs q.1 q.2):=by
   have:=r0.put p.1 h.2
   rw[<-h.1];exact this
  exact ih e
theorem a5d:∀(more kvs:List (Key×V)),(abd kvs more).length<=kvs.length+more.length
 |[],kvs=>by show kvs.length<=kvs.length+0;omega
 |p::r,kvs=>by
  have h1:=a5d r (putK kvs p.1 p.2);have h2:=a4v kvs p.1 p.2;show(abd (putK kvs p.1 p.2) r).length<=_;rw[aY];omega
theorem a8y{P:Program}{w:World}:∀{kvs:List (Key×V)} {ws:List (Value×Value)},VV (kvs.map λkv=>(kV kv.1,kv.2)) ws->∃rs,Carries (v4 P w) ws rs/\KV kvs rs
 |[],_,r=>by rw[dQ]at r;cases r;exact⟨[],True.intro,.nil⟩
 |p::kvs,_,r=>by
  rw[br]at r
  cases r with
  |@cons a b as bs h t =>
   obtain⟨rs,c,q⟩:=a8y (P:=P) (w:=w) t;obtain⟨b1,b2⟩:=b;exact⟨(p.1,b2)::rs,⟨akq h.1,rfl,c⟩,.cons ⟨rfl,h.2⟩ q⟩
def ays(trs:List (TE×TE)):TE:=λσ H Q=>∀p,H p=none->ah6 trs σ (upd H p (.dK [])) λps H2=>H2 p=some (.dK [])/\∃kvs:List (Key×V),ps=kvs.map (λkv=>(kV kv.1,kv.2))/\kvs.length<=15/\Q (.ref p) (upd H2 p (.dK (abd [] kvs)))
theorem ap6{X:Cx}{pos:Pos}{keys:List (Option Expr)}{values:List Expr}{trs:List (TE×TE)}(h:PPs X pos keys values trs)(hall:keys.all (·.isSome)=true)(hl:keys.length=values.length)(h0:keys≠[])
  (h15:keys.length<=15):PE X (.Dict keys values pos) (ays trs):=by
 intro aA s σ H Q I q
 have hn:=I.hok.fresh (aJ s.heap.objs.size);have I1:=I.laid (a:=s.heap.objs.size) (o:=.dK []) (h':=s.heap.push {cls:=.type "dict",data:=.dict #[]}) (t':=s.toks) (λ_ _ q=>av _ q) (aJ _) (akr s.heap I.big);refine wpAny_Dict_walk (knd:=v4 X.prog X.w) hall hl h0 h15 (thn (h aA _ σ _ _ I1 (q _ hn)) λws s2 ⟨ps,H2,I2,rel,e,kvs,ep,lk,q2⟩=>?_);subst ep;obtain⟨rs,c,rk⟩:=a8y (P:=X.prog) (w:=X.w) rel;obtain⟨z,hd,vs0,r0,dd⟩:=atx I2.hok e;cases r0
 refine⟨rs,c,dd,λh' dd' hs=>⟨.ref s.heap.objs.size,_,?_,rfl,q2⟩⟩;have hz:(abd [] kvs).length<=sizeLine:=by
  have h1:=a5d kvs [];rw[eQ]at h1;rw[e7];omega
 have he:∃q,h'.get? s.heap.objs.size=some q:=let ⟨q,_,_,hq,_⟩:=dd'; ⟨q,hq⟩;exact acv I2 (by rw[e];exact True.intro) hs he (an1 hz hd (rk.merge .nil) dd')
section
variable{X:Cx}
theorem a7g:OpR X (compareOp .Is) (λx y H Q=>∃i j,x=.bl i/\y=.bl j/\Q (.bl (i == j)) H):=by
 intro aA s σ H x y v u Q I rx ry h
 obtain⟨i,j,rfl,rfl,q⟩:=h;cases rx
 cases ry
 exact is_bool (a74 I q rfl)
theorem a4w:OpR X (compareOp .IsNot) (λx y H Q=>∃i j,x=.bl i/\y=.bl j/\Q (.bl (i != j)) H):=by
 intro aA s σ H x y v u Q I rx ry h
 obtain⟨i,j,rfl,rfl,q⟩:=h;cases rx
 cases ry
 exact isnot_bool (a74 I q rfl)
theorem ah7:OpR X (compareOp .LtE) (λx y H Q=>∃i j,x=.str i/\y=.str j/\Q (.bl (!decide (j.cps.toList<i.cps.toList))) H):=by
 intro aA s σ H x y v u Q I rx ry h
 obtain⟨i,j,rfl,rfl,q⟩:=h;obtain⟨t,rfl⟩:=rx;obtain⟨t',rfl⟩:=ry;exact PySem.P.le_str (a74 I q rfl)
def a8n{α:Type}(xs:List α)(lo hi:Option Int):List α:=(xs.drop (HT.sIx xs.length 0 lo)).take (HT.sIx xs.length xs.length hi-HT.sIx xs.length 0 lo)
def ayt:V->Option Int->Option Int->Hp->VK->Prop:=λx lo hi H Q=>∃z,x=.str z/\z.length<=sizeLine/\Q (.str ⟨(a8n z.cps.toList lo hi).toArray⟩) H
theorem atz(lo hi:Option Int)(n:Nat):Builtin.Str.strSliceIndices lo hi 1 n=(List.range (HT.sIx n n hi-HT.sIx n 0 lo)).map λk=>HT.sIx n 0 lo+k:=by
 have e1:Builtin.Str.strSliceIndices lo hi 1 n=sliceRange ((HT.sIx n 0 lo:Nat):Int) ((HT.sIx n n hi:Nat):Int) 1:=by
  unfold Builtin.Str.strSliceIndices;dsimp only
  congr 1
  ·cases lo with
   |none=>simp[HT.sIx]
   |some i=>simp only[HT.sIx,show(1:Int) > 0 by decide,de];split<;>omega
  ·cases hi with
   |none=>simp[HT.sIx]
   |some i=>simp only[HT.sIx,show(1:Int) > 0 by decide,de];split<;>omega
 rw[e1];exact sliceRange_one _ _
theorem au0{α:Type}(xs:List α)(a:Nat):∀k,a+k<=xs.length->((List.range k).map λj=>a+j).filterMap (xs[·]?)=(xs.drop a).take k
 |0,_=>by simp
 |k+1,h=>by
  rw[fR,bB,List.filterMap_append,au0 xs a k (by omega)]
  have hk:a+k<xs.length:=by omega
  rw[List.take_succ]
  congr 1
  simp[List.getElem?_drop,hk]
theorem au1:SlR X ayt:=by
 intro aA s σ H x v vl vu lo hi sl Q I rx hs pl pu h
 obtain⟨z,rfl,hz,q⟩:=h;obtain⟨t,rfl⟩:=rx;refine⟨"str",_,PyProof.Rows.slot_str_getitem.lookup,gP s z t,?_⟩;have hl:z.cps.toList.length=z.length:=by simp[Str.length]
 have fin:∀(l u:Option (Int×Tok)),vl=partValue l->vu=partValue u->l.map (·.1)=lo->u.map (·.1)=hi->wpAny (model X.prog X.w) X.A (getItem (.str z t) (.ref sl)) (EP X aA σ Q) X.xe s:=by
  intro l u e1 e2 e3 e4
  subst e1 e2;refine wpAny_getItem_str_slice (l:=l) (u:=u) (st:=none) hs rfl ?_;have hp:slicePicked z l u none=(List.range (HT.sIx z.length z.length hi-HT.sIx z.length 0 lo)).map λk=>HT.sIx z.length 0 lo+k:=by
   unfold slicePicked;rw[e3,e4];exact atz lo hi z.length
  have hb1:HT.sIx z.length z.length hi<=z.length:=HT.agw _ _ (aJ _) _;have hb2:HT.sIx z.length 0 lo<=z.length:=HT.agw _ _ (aW _) _;unfold sliceMade
  split
  ·rename_i c;simp only[cH,fg]at c;obtain⟨_,c⟩:=c;rw[hp,ay,aZ]at c;have e:(⟨(a8n z.cps.toList lo hi).toArray⟩:Str)=z:=by
    unfold a8n;rw[hl];have z1:HT.sIx z.length 0 lo=0:=by omega
    have z2:HT.sIx z.length z.length hi=z.length:=by omega
    rw[z1,z2,List.drop_zero,Nat.sub_zero,cy (by omega)]
   rw[e]at q;exact⟨.str z,H,I,⟨_,rfl⟩,q⟩
  ·have e:(⟨(a8n z.cps.toList lo hi).toArray⟩:Str)=⟨((slicePicked z l u none).filterMap (z.cps[·]?)).toArray⟩:=by
    rw[hp];unfold a8n;rw[hl]
    by_cases hc:HT.sIx z.length 0 lo<=HT.sIx z.length z.length hi
    ·rw[<-au0 z.cps.toList _ _ (by omega)]
     simp only[Array.getElem?_toList]
    ·rw[show HT.sIx z.length z.length hi-HT.sIx z.length 0 lo=0 by omega]
     simp
   rw[e]at q;refine⟨?_,.str _,H,I.tok _,⟨_,rfl⟩,q⟩;rw[<-e];show(a8n z.cps.toList lo hi).toArray.size<=sizeLine;rw[aK];unfold a8n;rw[bV,bK,hl];omega
 cases pl with
 |none=>cases pu with
  |none=>exact fin none none rfl rfl rfl rfl
  |int j t'=>exact fin none (some (j,t')) rfl rfl rfl rfl
 |int i t'=>cases pu with
  |none=>exact fin (some (i,t')) none rfl rfl rfl rfl
  |int j t''=>exact fin (some (i,t')) (some (j,t'')) rfl rfl rfl rfl
theorem xm:CallR X (.builtin "isinstance") (λxs H Q=>∃x T t b,xs=[x,.ty T]/\TyOf X.K H x t/\PySem.W.kitOne X.K t (.type T)=some b/\Q (.bl b) H):=by
 intro aA s σ H xs us Q I r h
 obtain⟨x,T,t,b,rfl,ty,e,q⟩:=h;obtain⟨u,w',rfl,rx,rt⟩:=vals2 r;cases rt
 exact agr I rx ty e λtk=>⟨.bl b,H,I.tok tk,rfl,q⟩
theorem abe(bs:List Bool):((List.range bs.length).all λi=>(bs[i]?).getD true)=bs.all id:=by
 have e:(List.range bs.length).map (λi=>(bs[i]?).getD true)=bs:=by
  apply List.ext_getElem (by simp)
  intro i h1 h2
  simp[h2]
 have f:((List.range bs.length).map λi=>(bs[i]?).getD true).all id=bs.all id:=by rw[e]
 rw[<-f,List.all_map];rfl
theorem acw(hc:X.calm=true):CallR X (.builtin "all") (λxs H Q=>∃(p:Addr) (bs:List Bool),xs=[.ref p]/\SqL X.K H p (bs.map V.bl)/\Q (.bl (bs.all id)) H):=by
 intro aA s σ H xs us Q I r h
 obtain⟨p,bs,rfl,hq,q⟩:=h;obtain⟨u,rfl,rx⟩:=vals1 r;cases rx
 obtain⟨its,r',pl,hz⟩:=I.list hq;have hl:=r'.length;rw[ay]at hl;have hlt:p<s.heap.objs.size:=by obtain⟨_,e,_⟩:=pl.isList;exact aX e
 refine call_all_walk (eZ pl.isList ?_);refine⟨s.heap.objs.size,[s.heap.objs.size,p],[s.heap.objs.size],its.toArray.size,_,_,λi=>(bs[i]?).getD true,rfl,Walks.list (A:=X.A.in1) (I.ok.hd hc) _ p (bN hlt) its.toArray,
  ⟨⟨_,bb _ rfl,rfl,rfl⟩,pl.isList.push _⟩,λi v s' Q' E' hP hQ=>?_,λh' tk hk=>?_⟩
 ·have hP':its[i]? = some v:=by simpa using hP
  have hi:i<bs.length:=by
   have:=(ag.mp hP').1
   omega
  obtain⟨u,e,ru⟩:=r'.get (i:=i) (x:=.bl bs[i]) (by simp[hi])
  rw[hP']at e;cases e
  cases ru
  simp only[af hi,cQ]at hQ;exact eB hQ
 ·have e:((List.range its.toArray.size).all λi=>(bs[i]?).getD true)=bs.all id:=by
   rw[aK,<-hl];exact abe bs
  rw[e];exact⟨.bl _,H,I.kept λb x e=>hk b x (λhm=>by rw[ar.mp hm]at e;exact cJ _ (aX e)) (av _ e),rfl,q⟩
def a3d(x:Str):List V:=x.cps.toList.map λc=>V.str ⟨#[c]⟩
theorem afe(h:ItemsOf (SignAt x) acc x.cps.size):Vals (a3d x) acc.toList:=by
 obtain⟨hs,ha⟩:=h;have key:∀(cs:List Nat) (us:List Value),us.length=cs.length->(∀(j:Nat) (v:Value),us[j]? = some v->∃c u,cs[j]? = some c/\v=.str ⟨#[c]⟩ u)->Vals (cs.map λc=>V.str ⟨#[c]⟩) us:=by
  intro cs
  induction cs with
  |nil=>intro us hl _;cases us with|nil=>exact .nil|cons _ _=>simp at hl
  |cons c cs ih =>
   intro us hl hp
   cases us with
   |nil=>simp at hl
   |cons u us =>
    refine .cons ?_ (ih us (by simpa using hl) λj v e=>hp (j+1) v (by simpa using e))
    obtain⟨c',t,e1,e2⟩:=hp 0 u rfl;simp at e1;subst e1;exact⟨t,e2⟩
 refine key _ _ (by simp[hs]) λj v e=>?_
 obtain⟨c,u,e1,e2⟩:=ha j v (by simpa using e)
 exact⟨c,u,by simpa using e1,e2⟩
theorem a0b(hc:X.calm=true):CallR X (.type "tuple") (λxs H Q=>∃z,xs=[.str z]/\z.length<=sizeLine/\∀l,H l=none->Q (.ref l) (upd H l (.tup (a3d z)))):=by
 intro aA s σ H xs us Q I r h
 obtain⟨z,rfl,hz,q⟩:=h;obtain⟨u,rfl,t,rfl⟩:=vals1 r;refine PySem.call_tuple_str (I.ok.hd hc) z t (λh' tk acc kp hi=>?_) (by simpa[Str.length] using hz)
 have I1:Inv X aA σ H {s with heap:=h',toks:=tk}:=I.kept kp
 have I2:Inv X aA σ (upd H h'.objs.size (.tup (a3d z))) {s with heap:=h'.push {cls:=.type "tuple",data:=.seq acc},toks:=tk} :=
  I1.laid (t':=tk) (λb o e=>av _ e) (aJ _) (show ObjOk X.prog X.w _ _ _ (.tup (a3d z)) from ⟨by simpa[a3d,Str.length] using hz,acc.toList,afe hi,by simpa using IsTup.new h' acc⟩)
 exact⟨.ref h'.objs.size,_,I2,rfl,q _ (I1.hok.fresh (aJ _))⟩
end
def Its(x:Str):It:=⟨λi _=>i<x.cps.size,λi H v H'=>H'=H/\∃c,x.cps.toList[i]? = some c/\v=.str ⟨#[c]⟩,λi _=>i=x.cps.size⟩
theorem adw{P:Program}{w:World}{K:Fg}{tg:Expr}(it:Addr)(x:Str)(t:Tok)(ty:String)
  (hty:["enumerate","zip","dict_itemiterator","dict_reverseitemiterator","odict_iterator","itertools.zip_longest","itertools.pairwise"].contains ty=false)
  (W:∀A':Around,A'.handled=none->Walks P w A' it [it] [it] x.cps.size (SignAt x) (λi h=>h.IsStrIter it ty x t i))
  (slf:∀(A:Around) (i:Nat) (s:Shared) (Q:Value->Shared->Prop) (E:Value->Shared->Prop),s.heap.IsStrIter it ty x t i->Q (.ref it) s->wpAny (model P w) A (pyIter (.ref it)) Q E s) :
  Turn P w K tg (Its x) [it] it (λi h=>h.IsStrIter it ty x t i) where
 mem:=by simp
 obj:=λi h st b hb=>by
  have e:b=it:=by simpa using hb
  subst e;obtain⟨o,e,c,d⟩:=st;exact⟨o,e,λv z=>by rw[d]at z;cases z⟩
 keep:=λi h h' st k=>by
  obtain⟨o,e,c,d⟩:=st;exact⟨o,k it (by simp) o e,c,d⟩
 item:=by
  intro X hP hw hK hc i aA s σ H E I hf st hg
  subst hP hw hK;obtain⟨f0,f1,f2,f3,f4,f5⟩:=hf it (by simp)
  refine(W X.A (I.ok.hd hc)).item i s _ _ hg st λv h' tk hv st' kk=>?_;obtain⟨c,u,hx,rfl⟩:=hv;have I1:Inv X aA σ H {s with heap:=h',toks:=tk}:=I.turned (λb o hb e=>kk b o (by simpa using hb) e) f0 f1 f3 f4 f5
  obtain⟨o,e,oc,d⟩:=id st';exact⟨_,rfl,akc (s:={s with heap:=h',toks:=tk}) e oc d hty ⟨.str ⟨#[c]⟩,H,I1,⟨_,rfl⟩,⟨rfl,c,by simpa using hx,rfl⟩,st',λb hb=>(hf b hb).1⟩⟩
 done:=by
  intro X hP hw hK hc i aA s σ H E I hf st hg
  subst hP hw hK;obtain⟨f0,f1,f2,f3,f4,f5⟩:=hf it (by simp)
  have hg':i=x.cps.size:=hg;subst hg';exact(W X.A (I.ok.hd hc)).done s _ _ st λh' tk eb=>⟨rfl,I.turned (λb o hb e=>eb b o (by simpa using hb) e) f0 f1 f3 f4 f5⟩
 self:=slf
section
variable{X:Cx}{tg:Expr}
def b1j(tl:TE):TI:=λσ H R=>tl σ H λx H1=>∃z,x=.str z/\R (Its z) H1
theorem an2{l:Expr}{tl:TE}(hl:PE X l tl):PI X tg l (b1j tl):=by
 intro aA s σ H R I h
 refine thn (hl aA s σ H _ I h) ?_
 rintro v s1 ⟨x,H1,I1,r1,q1⟩
 obtain⟨z,e,q⟩:=q1;subst e;obtain⟨t,rfl⟩:=r1;have fp:∀b∈[s1.heap.objs.size],aaz X aA H1 b:=λb hb=>by
  have e:b=s1.heap.objs.size:=by simpa using hb
  subst e;exact I1.fpOk (aJ _) (I1.hok.fresh (aJ _))
 cases ha:z.cps.all (· < 128)
 ·exact wpAny_pyIter_wide ha ⟨s1.heap.objs.size,[s1.heap.objs.size],_,_,H1,rfl,I1.kept (t':=s1.toks) λb o e=>av _ e,
   adw _ z t "str_iterator" (by decide) (λA' hA=>Walks.strWide hA _ z t) (λ_ _ _ _ _ st h=>wpAny_pyIter_striter_wide st h),⟨_,bb _ rfl,rfl,rfl⟩,fp,q⟩
 ·exact wpAny_pyIter_ascii ha ⟨s1.heap.objs.size,[s1.heap.objs.size],_,_,H1,rfl,I1.kept (t':=s1.toks) λb o e=>av _ e,
   adw _ z t "str_ascii_iterator" (by decide) (λA' hA=>Walks.strAscii hA _ z t) (λ_ _ _ _ _ st h=>wpAny_pyIter_striter_ascii st h),⟨_,bb _ rfl,rfl,rfl⟩,fp,q⟩
end
def cxC(X:Cx)(N:List Str)(aB:Scope)(cl:List (Str×Addr))(C:Addr)(fp:List Addr)(s:Shared)(H:Hp):Cx where
 prog:=X.prog
 w:=X.w
 K:=X.K
 mg:=X.mg
 base:=X.base
 A:=X.A
 N:=N
 s₀:=s
 H₀:=H
 env:=compEnvC aB cl C X.env
 outer:=X.stack
 stack:=X.stack
 ex:=fp
 fn:=λ_=>false
 calm:=X.calm
 pn:=[]
 xe:=λ_ _=>False
structure CSc (X:Cx) (aB:Scope) (cl:List (Str×Addr)) (ts fr:List Str) (ix:List Nat):Prop where
 clos:closureFor aB X.env=pure cl
 kind:aB.kind=.function
 nocell:∀y∈aB.names,y.2≠.cell
 names:∀y∈aB.names,y.2=.local->aB.names.lookup y.1=some .local
 sub:∀y c,cl.lookup y=some c->X.env.cells.lookup y=some c
 has:∀y,((relabel aB X.env).names.lookup y=some .cell\/(relabel aB X.env).names.lookup y=some .free)->∃c,cl.lookup y=some c
 nofn:∀y∈ts,(relabel aB X.env).names.lookup y=some .local
 len:ix.length=fr.length
 vis:∀(j:Nat) (y:Str),fr[j]? = some y->∃i:Nat,ix[j]? = some i/\X.N[i]? = some y/\(X.env.kindOf y=some .cell\/X.env.kindOf y=some .free)/\((relabel aB X.env).names.lookup y=some .cell\/(relabel aB X.env).names.lookup y=some .free)
def Ext(a b:St):Prop:=b.length=a.length/\∀(i:Nat) v,a[i]? = some (some v)->b[i]? = some (some v)
def a3n(nt:Nat)(ix:List Nat)(σ:St):St:=List.replicate nt none++ix.map λi=>(σ[i]?).join
def ap7(J:It)(s0:St)(g:TG)(te:TE)(Q:VK)(H1:Hp):Prop:=∃W:Nat->Nat->List V->Hp->Prop,(∃m,W 0 m [] H1)/\∀i m ys H,W i m ys H->
 (J.stop i H/\∀p,H p=none->Q (.ref p) (upd H p (.lst ys))) \/
 (J.go i H/\ys.length<sizeLine/\∀x H',J.yld i H x H'->g x s0 H' λσ2 H2=>Ext s0 σ2/\te σ2 H2 λy H3=>∃m',m'<m/\W (i+1) m' (ys++[y]) H3)
def ah8(wi:TI)(s0:St->St)(g:TG)(te:TE):TE:=λσ H Q=>wi σ H λJ H1=>ap7 J (s0 σ) g te Q H1
def ah9(J:It)(s0:St)(g:TG)(tc:TT)(te:TE)(Q:VK)(H1:Hp):Prop:=∃W:Nat->Nat->List V->Hp->Prop,(∃m,W 0 m [] H1)/\∀i m ys H,W i m ys H->
 (J.stop i H/\∀p,H p=none->Q (.ref p) (upd H p (.lst ys))) \/
 (J.go i H/\ys.length<sizeLine/\∀x H',J.yld i H x H'->g x s0 H' λσ2 H2=>Ext s0 σ2/\tc σ2 H2 λok H2'=>if ok=true then te σ2 H2' (λy H3=>∃m',m'<m/\W (i+1) m' (ys++[y]) H3) else ∃m',m'<m/\W (i+1) m' ys H2')
def aha(wi:TI)(s0:St->St)(g:TG)(tc:TT)(te:TE):TE:=λσ H Q=>wi σ H λJ H1=>ah9 J (s0 σ) g tc te Q H1
theorem a7y(aD target aF cnd:Expr)(aB:Scope)(pos:Pos)(it acc:Value)(env:Env) :
  compTurn (.ListComp aD [⟨target,aF,[cnd],0⟩] aB pos) 0 it acc env=(standAt aF.pos>>=λ_=>pyNext it>>=λr=>match r with
   |none=>pure (.done .next)
   |some v=>letOwnedTupleGo target it v>>=λ_=>assign target env v>>=λ_=>isTrue cnd env (eval cnd env)>>=λok =>
    (if ok=true then (eval aD env>>=λx=>call (.builtin "list.append") [acc,x]>>=λ_=>pure ()) else pure ())>>=λ_ =>
     again (.compLoop (.ListComp aD [⟨target,aF,[cnd],0⟩] aB pos) 0 it acc env)):=by
 first
  |rfl
  |(unfold compTurn;simp only[eR];rfl)
  | (show(standAt aF.pos>>=λ_=>pyNext it>>=λr=>_)=_
     congr 1;funext _;congr 1;funext r
     cases r with
     |none=>rfl
     |some v =>
      show(letOwnedTupleGo target it v>>=λ_=>assign target env v>>=λ_=>_)=(letOwnedTupleGo target it v>>=λ_=>assign target env v>>=λ_=>_)
      congr 1;funext _;congr 1;funext _
      simp
      congr 1;funext ok
      cases ok with
      |false=>rw[bA bI,bA bI,pure_bind]
      |true =>
       rw[aT rfl,aT rfl,bind_assoc]
       congr 1;funext x
       rw[map_eq_pure_bind,bind_assoc]
       congr 1)
def runC(cnd:Option Expr)(env:Env):Sem Bool:=match cnd with
 |none=>pure true
 |some c=>isTrue c env (eval c env)
def PTO(X:Cx)(cnd:Option Expr)(t:TT):Prop :=
 ∀(aA:List (Addr×Obj)) (s:Shared) (σ:St) (H:Hp) (Q:Bool->Hp->Prop),Inv X aA σ H s->t σ H Q->wpAny (model X.prog X.w) X.A (runC cnd X.env) (TP X aA σ Q) X.xe s
theorem a8o(aD target aF:Expr)(cnd:Option Expr)(aB:Scope)(pos:Pos)(it acc:Value)(env:Env) :
  compTurn (.ListComp aD [⟨target,aF,cnd.toList,0⟩] aB pos) 0 it acc env=(standAt aF.pos>>=λ_=>pyNext it>>=λr=>match r with
   |none=>pure (.done .next)
   |some v=>letOwnedTupleGo target it v>>=λ_=>assign target env v>>=λ_=>runC cnd env>>=λok =>
    (if ok=true then (eval aD env>>=λx=>call (.builtin "list.append") [acc,x]>>=λ_=>pure ()) else pure ())>>=λ_ =>
     again (.compLoop (.ListComp aD [⟨target,aF,cnd.toList,0⟩] aB pos) 0 it acc env)):=by
 cases cnd with
 |some c=>exact a7y ..
 |none =>
  rw[show(none:Option Expr).toList=[] from rfl,compTurn_list1]
  congr 1
theorem ahb{cnd:Option Expr}{E:Value->Shared->Prop}(no:∀v s,E v s->False)(J:Nat->Shared->Prop)
  (step:∀m z,J m z->wpAny (model prog w) A (pyNext it) (λgot z1=>match got with
   |none=>R (.ok .next) z1
   |some v=>wpAny (model prog w) A (letOwnedTupleGo target it v) (λ_ z2=>wpAny (model prog w) A (assign target env v) (λ_ z3=>wpAny (model prog w) A (runC cnd env) (λok z3'=>if ok=true then wpAny (model prog w) A (eval aD env) (λx z4 =>
     wpAny (model prog w) A (call (.builtin "list.append") [acc,x]) (λ_ z5=>∃m',m'<m/\J m' z5) E z4)
     E z3' else ∃m',m'<m/\J m' z3') E z3) E z2) E z1) E z)
  (m:Nat) (j0:J m s):codeAny (model prog w) A (.compLoop (.ListComp aD [⟨target,aF,cnd.toList,0⟩] aB pos) 0 it acc env) R s:=by
 refine codeAny_loop rfl J (λm z hj=>(wpAny_noted ?_:wpAny _ _ ((compTurn (.ListComp aD [⟨target,aF,cnd.toList,0⟩] aB pos) 0 it acc env).onRaise _) _ _ z)) m j0;rw[a8o];refine aE (gB (aE (dH (step m z hj) (λgot z1 h1=>?_) λ_ _ e=>(no _ _ e).elim)))
 match got,h1 with
 |none,h1=>exact bp h1
 |some v,h1 =>
  refine aE (dH h1 (λ_ z2 h2=>aE (dH h2 (λ_ z3 h3=>aE (dH h3 (λok z3' h3'=>?_) λ_ _ e=>(no _ _ e).elim)) λ_ _ e=>(no _ _ e).elim)) λ_ _ e=>(no _ _ e).elim)
  match ok,h3' with
  |true,h3' =>
   rw[aT rfl]at h3';refine aE (aE (dH h3' (λx z4 h4=>?_) λ_ _ e=>(no _ _ e).elim));exact aE (dH h4 (λ_ z5 h5=>bp (bp ⟨rfl,h5⟩)) λ_ _ e=>(no _ _ e).elim)
  |false,h3' =>
   rw[bA bI]at h3';exact aE (bp (bp ⟨rfl,h3'⟩))
section
variable{X:Cx}
theorem ahc(S:CSc X aB cl ts fr ix)(I:Inv X aA σ H s)
  (hf:∀b∈fp,aaz X aA H b) (hb:∀b∈fp,b<s.heap.objs.size) (hC:s.heap.objs.size<=C):(cxC X (ts++fr) aB cl C fp s H).Ok where
 mod:=I.ok.mod
 kind:=S.kind
 glob:=I.ok.glob
 blt:=I.ok.blt
 above:=hC
 inj:=λx y c h1 h2=>I.ok.inj x y c (S.sub x c h1) (S.sub y c h2)
 has:=S.has
 cab:=λ_ _ z=>nomatch z
 hd:=I.ok.hd
 frames:=I.ok.frames
 stk:=.inl rfl
 exf:=λb hb'=>⟨bN (bq (hb b hb') hC),λx c e=>(hf b hb').2.2.2.2.1 x c (S.sub x c e)⟩
 bs:=λb o e=>I.bs b o e
 bsz:=cA I.ok.bsz I.sz
 noex:=λb o e hb'=>by
  rcases(hf b hb').2.2.2.1 with z|z
  ·exact I.ok.noex b o e z
  ·exact absurd (bq (aX e) (cA I.ok.bsz z)) (cJ _)
 exfs:=λb hb' z=>by
  rcases aR.mp (I.stkSub b z) with e|e
  ·exact(hf b hb').2.1 e
  ·exact(hf b hb').2.2.1 e
 funs:=I.stack
 frf:=λb hb'=>I.stkFree b hb'
theorem afg:(a3n nt ix σ).length=nt+ix.length:=by
 unfold a3n;rw[ai,e9,ay]
theorem ap8{s4:Shared}(S:CSc X aB cl ts fr ix)(I:Inv X aA σ H s)
  (hf:∀b∈fp,aaz X aA H b) (hb:∀b∈fp,b<s.heap.objs.size) (hC:s.heap.objs.size<=C)
  (k:∀b o,s.heap.get? b=some o->s4.heap.get? b=some o) (hn:s4.heap.Ns C m) (ho:s4.os=s.os) (hg:s4.gens=s.gens) :
  Inv (cxC X (ts++fr) aB cl C fp s H) [] (a3n ts.length ix σ) H s4 where
 ok:=ahc S I hf hb hC
 os:=ho
 bare:=by rw[hg];exact I.bare
 base:=Un.kept k
 loc:=by
  refine⟨m,hn,λi x v e1 e2 e3=>?_⟩;have e1:(ts++fr)[i]? = some x:=e1
  by_cases hi:i<ts.length
  ·unfold a3n at e2;rw[aM (by simpa using hi),dS,aT hi]at e2
   cases e2
  ·rw[aN (by omega)]at e1
   unfold a3n at e2;rw[aN (by simpa using hi),e9,aO]at e2
   obtain⟨j,h1,h2,h3,h4⟩:=S.vis _ x e1;rw[h1]at e2;have e2':(σ[j]?).join=some v:=bQ e2;have e5:σ[j]? = some (some v):=by
    cases q:σ[j]? with
    |none=>rw[q]at e2';cases e2'
    |some o=>rw[q]at e2';simp at e2';rw[e2']
   obtain⟨m0,_,hl⟩:=I.loc;have vis:Vis X.env.scope x:=h3.elim (λz=>.inr (.inl z)) λz=>.inr (.inr z);obtain⟨u,ru,l⟩:=hl j x v h2 e5 vis;refine⟨u,ru,?_⟩
   rcases l with⟨z,_⟩|⟨_,c,hc,hcell⟩
   ·rcases h3 with h3|h3<;>rw[h3]at z<;>cases z
   ·obtain⟨c',hc'⟩:=S.has x h4;have e6:c'=c:=bQ ((S.sub x c' hc').symm.trans hc);subst e6;obtain⟨o,ho,hd⟩:=hcell;exact .inr ⟨h4,c',hc',o,k _ _ ho,hd⟩
 cell:=λx c e=>by
  obtain⟨v,o,ho,hd⟩:=I.cell x c (S.sub x c e);exact⟨v,o,k _ _ ho,hd⟩
 free:=I.hok.fresh hC
 freeC:=λx c e=>I.freeC x c (S.sub x c e)
 pin:=λp hp=>absurd (show p∈([]:List (Addr×Obj)) from hp) (by simp)
 hok:=I.hok.kept k
 len:=by
  rw[afg];show _=(ts++fr).length;rw[ai,S.len]
theorem Inv.unpinned'(I:Inv X aA σ H s):Inv X [] σ H s:=I.pins_of λ_ hp=>nomatch hp
theorem comp_back{its:List Value}(I:Inv X aA σ H s)
  (hf:∀b∈fp,aaz X aA H b) (hC:s.heap.objs.size<=C) (hacc:s.heap.objs.size<=acc) (hCa:C≠acc)
  (J:Inv (cxC X N aB cl C fp s H) [] σ' H' s') (hn:H' acc=none) (ha:s'.heap.get? acc=some {cls:=.type "list",data:=.seq its.toArray n}) (rv:Vals ys its) (hz:ys.length<=sizeLine) (sb:Heap.SameBut C s'.heap h') :
  Inv X aA σ (upd H' acc (.lst ys)) {s' with heap:=h' }:=by
 have k:∀b o,b≠C->s'.heap.get? b=some o->h'.get? b=some o:=λb o hb e=>sb.extBut b o hb e;have old:∀b o,s.heap.get? b=some o->b≠C/\b≠acc:=λb o e=>⟨bN (bq (aX e) hC),bN (bq (aX e) hacc)⟩;have u0:Un (frs X.stack) fp H H' s.heap s'.heap:=J.base;have fC:H' C=none:=J.free;have u:Un (frs X.stack) fp H (upd H' acc (.lst ys)) s.heap h':=by
  refine⟨λb o e n' hb hx=>k b o (old b o e).1 (u0.keep b o e n' hb hx),λb o e n' hb hx=>?_,λb o e n' hx=>?_,λb o e hx=>?_,λb xs e=>?_,λb o v e=>?_,λb ps e=>?_⟩
  ·obtain⟨sl,e1⟩:=u0.slot b o e n' hb hx;exact⟨sl,k b _ (old b o e).1 e1⟩
  ·rw[jg (old b o e).2];exact u0.free b o e n' hx
  ·obtain⟨o',e1⟩:=u0.there b o e hx;exact⟨o',k b _ (old b o e).1 e1⟩
  ·rw[jg (jr (u0.tups b xs e) hn)];exact u0.tups b xs e
  ·rw[jg (jr (u0.frzs b o v e) hn)];exact u0.frzs b o v e
  ·obtain⟨more,e1⟩:=u0.tbls b ps e;exact⟨more,by rw[jg (jr e1 hn)];exact e1⟩
 have hok:HOk X.prog X.w (upd H' acc (.lst ys)) h':=λb o e=>by
  by_cases hb:b=acc
  ·subst hb;rw[ph]at e;cases e
   exact⟨hz,its,n,rv,k _ _ (dG hCa) ha⟩
  ·rw[jg hb]at e;refine(J.hok b o e).stay (λc v hc q=>k c v ?_ q) (λc q=>by rw[jg (jr q hn)];exact q) λc xs q=>by rw[jg (jr q hn)];exact q
   rcases hc with z|z
   ·rw[z];exact jr e fC
   ·exact jr z fC
 have J':=I.call (g':=s'.gens) (t':=s'.toks) (d':=s'.drawn) (ch:=fp) u hok J.bare λb hb=>⟨(hf b hb).2.2.2.1,(hf b hb).2.1,(hf b hb).2.2.2.2.1,(hf b hb).2.2.2.2.2⟩;have eo:s'.os=s.os:=J.os;obtain⟨hp,g,d,t,o⟩:=s';have eo':o=s.os:=eo;subst eo';exact J'
def a9n(X:Cx)(aA:List (Addr×Obj))(σ:St)(use:Option (Value->Sem Unit))(Q:VK)(Qf:Value->Shared->Prop):Prop :=
 ∀(acc C:Addr) (s6:Shared) (H6:Hp) (m6:Str->Option Value),s6.heap.Ns C m6->aaz X aA H6 C->(∀h',Heap.SameBut C s6.heap h'->Inv X aA σ H6 {s6 with heap:=h' })->Q (.ref acc) H6->
  compPost (model X.prog X.w) X.A X.xe use Qf (.ref acc) C (.ok .next) s6
theorem akt:a9n X aA σ none Q (EP X aA σ Q):=λacc C s6 H6 m6 hn _ k q=>⟨m6,hn,λh' sb=>⟨.ref acc,H6,k h' sb,rfl,q⟩⟩
theorem aku{D:Ends}(hN:X.N.Nodup)(hi:X.N[i]? = some x)(hx:Loc X.env.scope x)(hf:X.fn x=true\/X.env.scope.names.lookup x=some .local) :
  a9n X aA σ (some (assign (.Name x pos') X.env)) (λv H1=>af4 i v σ H1 D.nx) (λ_ s'=>SP X aA D .next s'):=by
 intro acc C s6 H6 m6 hn fp k q
 obtain⟨f1,f2,f3,f4,f5,f6⟩:=fp;have I6:Inv X aA σ H6 s6:=k s6.heap (Heap.SameBut.refl _ _);refine wpAny_assign_Name (aay (v:=.ref acc) I6 hN hi hx rfl (λs' I' ⟨a,sb,ha⟩=>⟨m6,hn.sameBut sb ?_,λh' sb'=>⟨_,H6,I'.turned (t':=s'.toks) (it:=C) (λb o hb e=>sb'.extBut b o hb e) f1 f2 f4 f5 f6,q⟩⟩) hf)
 rcases ha with ha|ha
 ·rw[ha];exact f2
 ·exact λz=>f5 x a ha z.symm
theorem ahd{Y:Cx}{cnd:Option Expr}{N it:Addr}{fp:List Addr}{tn:Nat->Heap->Prop}{J:It}{σ0:St}{H2:Hp}{s4:Shared}{W:Nat->Nat->List V->Hp->Prop}{Q:VK}(hc:Y.calm=true)(no:∀v s,Y.xe v s->False)(hp0:Y.pn=[])(T:Turn Y.prog Y.w Y.K tg J fp it tn)
  (stat:∀{H':Hp},(∀b∈fp,H' b=none)->∀b∈fp,aaz Y [] H' b) (statA:∀{H':Hp},H' N=none->aaz Y [] H' N) (accF:N∉fp) (hg:PG Y tg g) (he:PE Y aD te) (ht:PTO Y cnd tc)
  (turn:∀i m ys H,W i m ys H->(J.stop i H/\∀p,H p=none->Q (.ref p) (upd H p (.lst ys)))\/(J.go i H/\ys.length<sizeLine/\∀x H',J.yld i H x H'->g x σ0 H' λσ2 H2=>Ext σ0 σ2/\tc σ2 H2 λok H2'=>if ok=true then te σ2 H2' (λy H3=>∃m',m'<m/\W (i+1) m' (ys++[y]) H3) else ∃m',m'<m/\W (i+1) m' ys H2'))
  (w0:W 0 m0 [] H2) (K0:Inv Y [] σ0 H2 s4) (st4:tn 0 s4.heap) (f0:∀b∈fp,H2 b=none) (fa:H2 N=none) (hacc:s4.heap.get? N=some {cls:=.type "list",data:=.seq ([]:List Value).toArray 0})
  (fin:∀s6 H6 ys its k,Inv Y [(N,{cls:=.type "list",data:=.seq its.toArray k})] σ0 H6 s6->H6 N=none->Vals ys its->ys.length<=sizeLine->(∀p,H6 p=none->Q (.ref p) (upd H6 p (.lst ys)))->R (.ok .next) s6) :
  codeAny (model Y.prog Y.w) Y.A (.compLoop (.ListComp aD [⟨tg,aF,cnd.toList,0⟩] aB pos) 0 (.ref it) (.ref N) Y.env) R s4:=by
 refine ahb no (λn s'=>∃i σ' H' ys its k,Inv Y [] σ' H' s'/\Ext σ0 σ'/\tn i s'.heap/\(∀b∈fp,H' b=none)/\H' N=none /\
  s'.heap.get? N=some {cls:=.type "list",data:=.seq its.toArray k}/\Vals ys its/\ys.length<=sizeLine/\W i n ys H') ?_ m0
  ⟨0,_,H2,[],[],0,K0,⟨rfl,λ_ _ z=>z⟩,st4,f0,fa,hacc,.nil,aW _,w0⟩
 rintro n s5 ⟨i,σ5,H5,ys,its,k5,I5,x5,st5,fr5,fa5,ac5,rv5,hz5,w5⟩
 have I5':Inv Y [] σ0 H5 s5:=I5.weak x5.1.symm x5.2;obtain⟨ob,hob⟩:∃ob:Obj,ob={cls:=.type "list",data:=.seq its.toArray k5}:=⟨_,rfl⟩;rw[<-hob]at ac5;have IP:Inv Y [(N,ob)] σ0 H5 s5:=I5'.pins_of λp hp=>by
  rw[ar.mp hp];obtain⟨a0,a1,a2,_⟩:=statA fa5;exact⟨ac5,a0,a1,a2,λv z=>by rw[hob]at z;cases z⟩
 have FB:∀b∈fp,aaz Y [(N,ob)] H5 b:=λb hb=>by
  obtain⟨b0,b1,b2,b3,b4,b5⟩:=stat fr5 b hb;refine⟨b0,b1,b2,b3,b4,λp hp=>?_⟩;rw[hp0]at hp;rw[ar.mp hp];exact λz=>accF (by have z':N=b:=z;rw[z'];exact hb)
 rcases turn i n ys H5 w5 with⟨stop,qn⟩|⟨go,hlt,step⟩
 ·refine thn (T.done Y rfl rfl rfl hc i [(N,ob)] s5 _ H5 _ IP FB st5 stop) ?_
  rintro r s6 ⟨hr,I6⟩
  subst hr;rw[hob]at I6;exact fin s6 H5 ys its k5 I6 fa5 rv5 hz5 qn
 ·refine thn (T.item Y rfl rfl rfl hc i [(N,ob)] s5 _ H5 _ IP FB st5 go) ?_
  rintro r s6 ⟨u,hr,h6⟩
  subst hr;refine thn h6 ?_
  rintro _ s7 ⟨x,H7,I7,r7,y7,st7,fr7⟩
  obtain⟨ac7,fa7,_⟩:=I7.pin (N,ob) (by simp)
  have I7':Inv Y (a7o (N::fp) s7.heap) σ0 H7 s7:=by
   show Inv Y ([]++a7o (N::fp) s7.heap) _ _ _;refine Inv.pinned I7.unpinned' (λb hb=>?_) λb hb=>?_
   ·rcases aR.mp hb with e|e
    ·subst e;exact statA fa7
    ·exact stat fr7 b e
   ·rcases aR.mp hb with e|e
    ·subst e;exact⟨_,ac7,λv z=>by rw[hob]at z;cases z⟩
    ·exact T.obj _ _ st7 b e
  have keep:∀{σ':St} {H9:Hp} {s9:Shared} {ps:List (Addr×Obj)},Inv Y (a7o (N::fp) s7.heap) σ' H9 s9->(s9.heap.get? N=some ob/\H9 N=none)/\∀b∈fp,(∀o,s7.heap.get? b=some o->s9.heap.get? b=some o)/\H9 b=none:=λI9=>by
   refine⟨?_,λb hb=>?_⟩
   ·obtain⟨z1,z2,_⟩:=I9.pin (N,ob) (bW _ (a3z bt ac7));exact⟨z1,z2⟩
   ·obtain⟨o,e,_⟩:=T.obj _ _ st7 b hb;obtain⟨z1,z2,_⟩:=I9.pin (b,o) (bW _ (a3z (ba _ hb) e));exact⟨λo' e'=>by rw[e]at e';cases e';exact z1,z2⟩
  refine thn (hg _ s7 _ H7 x u _ I7' r7 (step x H7 y7)) ?_
  rintro _ s8 ⟨σ8,H8,I8,x8,q8⟩
  refine thn (ht _ s8 _ H8 _ I8 q8) ?_
  rintro ok s8' ⟨H8',I8',q8'⟩
  cases ok with
  |false =>
   rw[bA bI]at q8' ⊢;obtain⟨m',hm',w9⟩:=q8';obtain⟨⟨ac9,fa9⟩,k9⟩:=keep (ps:=[]) I8';exact⟨m',hm',i+1,σ8,H8',ys,its,k5,I8'.unpinned',x8,T.keep _ _ _ st7 λb hb o e=>(k9 b hb).1 o e,λb hb=>(k9 b hb).2,fa9,by rw[ac9,hob],rv5,hz5,w9⟩
  |true =>
   rw[aT rfl]at q8' ⊢;refine thn (he _ s8' _ H8' _ I8' q8') ?_
   rintro yv s9 ⟨y,H9,I9,r9,m',hm',w9⟩
   obtain⟨⟨ac9,fa9⟩,k9⟩:=keep (ps:=[]) I9;rw[hob]at ac9;have hl:=rv5.length;refine cO F.slot_list_append ⟨_,ac9,rfl⟩ F.entry_list_append (F.args_list_append_2 _ _) (PySem.list_append N its.toArray k5 yv (by rw[aK];omega)) ⟨ac9,?_⟩
   have q:=PySem.IsL.update ac9 (λa=>a.push yv);have qo:∀b o,b≠N->s9.heap.get? b=some o->(s9.heap.update N (Obj.mapSeq (λa=>a.push yv))).get? b=some o:=λb o hb e=>(eY s9.heap _ (dG hb)).trans e;have q':∃k,(s9.heap.update N (Obj.mapSeq (λa=>a.push yv))).get? N=some {cls:=.type "list",data:=.seq (its++[yv]).toArray k}:=⟨_,by rw[q];simp;rfl⟩
   obtain⟨k9',q9⟩:=q';obtain⟨a0,a1,a2,a3,a4,a5⟩:=statA fa9;refine⟨m',hm',i+1,σ8,H9,ys++[y],its++[yv],k9',(I9.unpinned').turned qo a0 a1 a3 a4 a5,x8,T.keep _ _ _ st7 λb hb o e=>qo b o (λz=>accF (z ▸ hb)) ((k9 b hb).1 o e),λb hb=>(k9 b hb).2,fa9,q9,rv5.append (.cons r9 .nil),?_,w9⟩;rw[ai,aI];omega
theorem afh{cnd:Option Expr}(hc:X.calm=true)(S:CSc X aB cl ts fr ix)(hi:PI X tg aF wi)
  (hg:∀C fp s H,PG (cxC X (ts++fr) aB cl C fp s H) tg g) (he:∀C fp s H,PE (cxC X (ts++fr) aB cl C fp s H) aD te) (ht:∀C fp s H,PTO (cxC X (ts++fr) aB cl C fp s H) cnd tc) (hs:∀x,foldedSetIterable aF X.env x=pure x)
  (use:Option (Value->Sem Unit)) (I:Inv X aA σ H s) (h:aha wi (a3n ts.length ix) g tc te σ H Q) (fin:a9n X aA σ use Q Qf) :
  wpAny (model X.prog X.w) X.A (comprehension (.ListComp aD [⟨tg,aF,cnd.toList,0⟩] aB pos) aB X.env ppos (newList []) false (eval aF X.env) use) Qf X.xe s:=by
 refine wpAny_comprehension_free (use:=use) rfl hs S.clos S.kind S.names (thn (hi aA s σ H _ I h) λv s1 h1=>thn h1 λitv s2 h2=>?_);obtain⟨it,fp,tn,J,H2,e,I2,T,st2,f2,W,⟨m0,w0⟩,turn⟩:=h2;subst e;have hob:∀b∈fp,b<s2.heap.objs.size:=λb hb=>let ⟨o,e,_⟩:=T.obj _ _ st2 b hb;aX e;refine cZ (wpAny_newFunctionEnv S.nocell (by intro y hy;simp at hy) (λh4 hns4 hsb4=>?_) S.kind)
 dsimp only at hns4 hsb4 ⊢
 generalize hH2:s2.heap.push {cls:=.type "list",dict:=none,data:=.seq ([]:List Value).toArray}=G at hns4 hsb4 ⊢
 have hCs:G.objs.size=s2.heap.objs.size+1:=by rw[<-hH2,cM]
 have hCle:s2.heap.objs.size<=G.objs.size:=by omega
 have hne:G.objs.size≠s2.heap.objs.size:=by omega
 have old:∀b o,s2.heap.get? b=some o->h4.get? b=some o:=λb o e=>by
  have hlt:=aX e;exact hsb4.extBut b o (bN (bq hlt hCle)) (av _ (hH2 ▸ av _ e))
 have hacc:h4.get? s2.heap.objs.size=some {cls:=.type "list",data:=.seq ([]:List Value).toArray 0} :=
  hsb4.extBut _ _ (dG hne) (av _ (hH2 ▸ bb _ rfl))
 have K0:Inv (cxC X (ts++fr) aB cl G.objs.size fp s2 H2) [] (a3n ts.length ix σ) H2 {s2 with heap:=h4,toks:=s2.toks+([]:List (Str×Value)).length} :=
  ap8 S I2 f2 hob hCle old hns4 rfl rfl
 have st4:tn 0 h4:=T.keep _ _ _ st2 λb _ o e=>old b o e;have accF:s2.heap.objs.size∉fp:=λz=>cJ _ (hob _ z);have stat:∀{H':Hp},(∀b∈fp,H' b=none)->∀b∈fp,aaz (cxC X (ts++fr) aB cl G.objs.size fp s2 H2) [] H' b:=λhn b hb =>
  ⟨hn b hb,λz=>by have h1:=hob b hb;have z':b=G.objs.size:=z;exact bN (bq h1 hCle) z',λz=>(ahc S I2 f2 hob hCle).exfs b hb z,.inl hb,λx c e=>(f2 b hb).2.2.2.2.1 x c (S.sub x c e),λp hp=>absurd (show p∈([]:List (Addr×Obj)) from hp) (by simp)⟩
 have statA:∀{H':Hp},H' s2.heap.objs.size=none->aaz (cxC X (ts++fr) aB cl G.objs.size fp s2 H2) [] H' s2.heap.objs.size:=λhn =>
  ⟨hn,λz=>hne (show G.objs.size=s2.heap.objs.size from z.symm),λz=>by
   obtain⟨_,o,ho,_⟩:=(ahc S I2 f2 hob hCle).funs.mem z;exact cJ _ (aX ho),.inr (aJ _),λx c e z=>by
   obtain⟨v,o,ho,_⟩:=I2.cell x c (S.sub x c e);rw[z]at ho;exact cJ _ (aX ho),λp hp=>absurd (show p∈([]:List (Addr×Obj)) from hp) (by simp)⟩
 have loop:codeAny (model X.prog X.w) X.A (.compLoop (.ListComp aD [⟨tg,aF,cnd.toList,0⟩] aB pos) 0 (.ref it) (.ref s2.heap.objs.size) (compEnvC aB cl G.objs.size X.env))
   (compPost (model X.prog X.w) X.A X.xe use Qf (.ref s2.heap.objs.size) G.objs.size) {s2 with heap:=h4,toks:=s2.toks+([]:List (Str×Value)).length} :=
  ahd (Y:=cxC X (ts++fr) aB cl G.objs.size fp s2 H2) hc (λ_ _ h=>h) rfl T stat statA accF (hg _ _ _ _) (he _ _ _ _) (ht _ _ _ _) turn w0 K0 st4 (λb hb=>(f2 b hb).1) (I2.hok.fresh (aJ _)) hacc λs6 H6 ys its k I6 fa rv hz qn=>by
   have e6:=(I6.pin (s2.heap.objs.size,{cls:=.type "list",data:=.seq its.toArray k}) (by show _∈[]++[_];simp)).1
   obtain⟨m6,hn6,_⟩:=I6.loc;exact fin _ _ s6 _ m6 hn6 (I2.fpOk hCle (by rw[jg hne];exact I6.free)) (λh' sb=>comp_back I2 f2 hCle (aJ _) hne I6.unpinned' fa e6 rv hz sb) (qn _ fa)
 exact codeAny_compStart_list loop (T.self _ 0 _ _ _ st4 loop)
theorem abf(hc:X.calm=true)(S:CSc X aB cl ts fr ix)(hi:PI X tg aF wi)
  (hg:∀C fp s H,PG (cxC X (ts++fr) aB cl C fp s H) tg g) (he:∀C fp s H,PE (cxC X (ts++fr) aB cl C fp s H) aD te) (hs:∀x,foldedSetIterable aF X.env x=pure x)
  (use:Option (Value->Sem Unit)) (I:Inv X aA σ H s) (h:ah8 wi (a3n ts.length ix) g te σ H Q) (fin:a9n X aA σ use Q Qf) :
  wpAny (model X.prog X.w) X.A (comprehension (.ListComp aD [⟨tg,aF,[],0⟩] aB pos) aB X.env ppos (newList []) false (eval aF X.env) use) Qf X.xe s:=by
 refine afh (cnd:=none) (tc:=λσ H Q=>Q true H) hc S hi hg he (λ_ _ _ _ aA s σ H Q I h=>bp ⟨H,I,h⟩) hs use I ?_ fin;unfold aha ah9;unfold ah8 ap7 at h;simpa only[de] using h
theorem akv(hc:X.calm=true)(S:CSc X aB cl ts fr ix)(hi:PI X tg aF wi)
  (hg:∀C fp s H,PG (cxC X (ts++fr) aB cl C fp s H) tg g) (he:∀C fp s H,PE (cxC X (ts++fr) aB cl C fp s H) aD te)
  (hs:∀x,foldedSetIterable aF X.env x=pure x:=by intro _;rfl) :
  PE X (.ListComp aD [⟨tg,aF,[],0⟩] aB pos) (ah8 wi (a3n ts.length ix) g te):=by
 intro aA s σ H Q I h
 rw[eval_ListComp];exact abf hc S hi hg he hs none I h akt
theorem adx{spos:Pos}(hN:X.N.Nodup)(hi':X.N[i]? = some x)(hx:Loc X.env.scope x)(hc:X.calm=true)(S:CSc X aB cl ts fr ix)(hi:PI X tg aF wi)
  (hg:∀C fp s H,PG (cxC X (ts++fr) aB cl C fp s H) tg g) (he:∀C fp s H,PE (cxC X (ts++fr) aB cl C fp s H) aD te)
  (hs:∀x,foldedSetIterable aF X.env x=pure x:=by intro _;rfl) (hsw:swapsWith (.ListComp aD [⟨tg,aF,[],0⟩] aB pos) (some (.Name x pos')) spos.line X.env=pure true:=by rfl) (hf:Hf X x:=by first|exact .inl rfl|exact .inr rfl|assumption) :
  PS X (.Assign [.Name x pos'] (.ListComp aD [⟨tg,aF,[],0⟩] aB pos) spos) (ay4 (ah8 wi (a3n ts.length ix) g te) (af4 i)):=by
 intro aA s σ H D I h
 rw[exec_Assign_Name_used _ _ _ _ hsw];refine aE (gB (aE ?_));refine aE (dH (abf hc S hi hg he hs (some (assign (.Name x pos') X.env)) I h (aku hN hi' hx hf)) (λ_ s' hq=>bp (bp hq)) λ_ _ e=>e)
end
end L2
namespace L2
theorem au2:bootBuiltins "len" = some (.builtin "len"):=PySem.boot_len
theorem um:bootBuiltins "isinstance" = some (.builtin "isinstance"):=by first|exact PySem.boot_isinstance|exact PyProof.Rows.boot_isinstance
theorem ahe:bootBuiltins "str" = some (.type "str"):=by first|exact PySem.boot_str|exact PyProof.Rows.boot_str
theorem au3:bootBuiltins "all" = some (.builtin "all"):=by first|exact PySem.boot_all|exact PyProof.Rows.boot_all
theorem au4:bootBuiltins "abs" = some (.builtin "abs"):=by first|exact PySem.boot_abs|exact PyProof.Rows.boot_abs
theorem an3:bootBuiltins "int" = some (.type "int"):=by first|exact PySem.boot_int|exact PyProof.Rows.boot_int
theorem ap9:bootBuiltins "list" = some (.type "list"):=by first|exact PySem.boot_list|exact PyProof.Rows.boot_list
theorem a4a:bootBuiltins "tuple" = some (.type "tuple"):=by first|exact PySem.boot_tuple|exact PyProof.Rows.boot_tuple
structure Dn (P:Program) (w:World) (K:Fg) (mg:Str->Option Value) (base:Heap) (k:Nat) (x:Str) (ps:List Str) (sp:Sp) (f:Addr) (fd:FuncData):Prop where
 ok:FnOk P w K mg base CX0 k f fd ps sp
 m:mg x=some (.ref f)
 kp:PySem.W.keepIn K (.ref f)=true
 b:Binds K fd ps []
theorem apa:sizeLine=16777216:=e7
theorem apb(h:n<=16777216):n<=sizeLine:=by rw[e7];exact h
theorem CSc.noFree{aB:Scope}(kind:aB.kind=.function)(h:∀y∈aB.names,y.2≠.cell/\y.2≠.free)(names:∀y∈aB.names,y.2=.local->aB.names.lookup y.1=some .local)
  (ht:∀y∈ts,aB.names.lookup y=some .local):CSc X aB [] ts [] []:=by
 have e:(relabel aB X.env).names=aB.names:=by
  show aB.names.map _=_;refine map_eq_self λy hy=>?_;obtain⟨n,k⟩:=y;have:(k == NameKind.free)=false:=by simpa using (h _ hy).2
  simp[this]
 refine⟨closureFor_none λy hy=>(h y hy).2,kind,λy hy=>(h y hy).1,names,(λ_ _ z=>nomatch z),λy z=>?_,λy hy=>by rw[e];exact ht y hy,rfl,(λ_ _ z=>by simp at z)⟩
 rw[e]at z
 rcases z with z|z
 ·exact absurd rfl (h _ (cC z)).1
 ·exact absurd rfl (h _ (cC z)).2
theorem ayu(x y:Str):(x++y).cps.toList=x.cps.toList++y.cps.toList:=by
 show(x.cps++y.cps).toList=_;simp
theorem ahf{α:Type}(xs:List α)(k:Nat):a8n xs none (some (k:Int))=xs.take k:=by
 unfold a8n;rw[HT.adt,HT.agv,List.drop_zero,Nat.sub_zero]
 by_cases h:k<=xs.length
 ·rw[Nat.min_eq_left h]
 ·rw[Nat.min_eq_right (by omega),cy (aJ _),cy (by omega)]
theorem a7z{α:Type}(xs:List α)(k:Nat):a8n xs (some (k:Int)) none=xs.drop k:=by
 unfold a8n;rw[HT.adt,HT.agv]
 by_cases h:k<=xs.length
 ·rw[Nat.min_eq_left h,cy (by rw[bK];omega)]
 ·rw[Nat.min_eq_right (by omega),bU (aJ _),bU (by omega),List.take_nil]
end L2
namespace L2
open PyProof.Rows
section
variable{X:Cx}
def a5e(T:Str)(c:Nat):Int:=Txt.find T ⟨#[c]⟩
theorem acx(s sub:Str)(hi limit:Nat):∀(l:List Nat) (st:Array Nat×Nat) (k:Nat),k∈(forIn l st (StrLaws.occBody s sub hi limit)).run.fst.toList->k∈st.fst.toList\/(k+sub.length<=hi/\Builtin.Str.subAt s sub k=true)
 |[],st,k,h=>.inl h
 |a::l,st,k,h=>by
  rw[List.forIn_cons]at h;unfold StrLaws.occBody at h
  split at h
  ·rename_i c
   rcases acx s sub hi limit l _ k h with z|z
   ·simp at z
    rcases z with z|z
    ·exact .inl (by simpa using z)
    ·subst z;exact .inr ⟨c.1.2,c.2⟩
   ·exact .inr z
  ·rcases acx s sub hi limit l _ k h with z|z
   ·exact .inl z
   ·exact .inr z
theorem ady{T:Str}(h:c∈T.cps.toList):∃i:Nat,a5e T c=(i:Int)/\T.cps.toList[i]? = some c/\∃aG,Builtin.Str.occurrences T ⟨#[c]⟩ 0 T.length 1=i::aG:=by
 have h1:=gz T c;rw[cW h]at h1
 cases ho:Builtin.Str.occurrences T ⟨#[c]⟩ 0 T.length 1 with
 |nil=>rw[ho]at h1;cases h1
 |cons i aG =>
  refine⟨i,by simp[a5e,Txt.find,ho],?_,aG,rfl⟩
  rw[StrLaws.occ_eq]at ho;have hm:=acx T ⟨#[c]⟩ T.length 1 (List.range' 0 (T.length+1-0)) (#[],0) i (by rw[ho];exact bt)
  rcases hm with z|z
  ·simp at z
  ·exact(StrLaws.subAt_one T c i).mp z
theorem apc:OpR X (compareOp .In) (λx y H Q=>∃c T,x=.str ⟨#[c]⟩/\y=.str T/\Q (.bl (decide (c∈T.cps.toList))) H):=by
 intro aA s σ H x y v u Q I rx ry h
 obtain⟨c,T,rfl,rfl,q⟩:=h;exact agl aA s σ H _ _ v u Q I rx ry ⟨_,_,rfl,rfl,by rw[gz];exact q⟩
theorem afi:OpR X (compareOp .NotIn) (λx y H Q=>∃c T,x=.str ⟨#[c]⟩/\y=.str T/\Q (.bl (!decide (c∈T.cps.toList))) H):=by
 intro aA s σ H x y v u Q I rx ry h
 obtain⟨c,T,rfl,rfl,q⟩:=h;exact ab0 aA s σ H _ _ v u Q I rx ry ⟨_,_,rfl,rfl,by rw[gz];exact q⟩
theorem ahg:MtR X "str.find" (λx xs H Q=>∃T c,x=.str T/\xs=[.str ⟨#[c]⟩]/\Q (.int (a5e T c)) H):=by
 intro aA s σ H x xs v us Q I rx rs h
 obtain⟨T,c,rfl,rfl,q⟩:=h;obtain⟨t,rfl⟩:=rx;obtain⟨u,rfl,t',rfl⟩:=vals1 rs;exact cO F.slot_str_find (gP _ _ _) F.entry_str_find (F.args_str_find_2 _ _) (gives_str_find _ _ _ _).meets ⟨.int (a5e T c),H,I.tok _,⟨_,rfl⟩,q⟩
theorem akx:MtR X "str.index" (λx xs H Q=>∃T c,x=.str T/\xs=[.str ⟨#[c]⟩]/\c∈T.cps.toList/\Q (.int (a5e T c)) H):=by
 intro aA s σ H x xs v us Q I rx rs h
 obtain⟨T,c,rfl,rfl,hc,q⟩:=h;obtain⟨t,rfl⟩:=rx;obtain⟨u,rfl,t',rfl⟩:=vals1 rs;obtain⟨i,e1,e2,aG,ho⟩:=ady hc;refine cO F.slot_str_index (gP _ _ _) F.entry_str_index (F.args_str_index_2 _ _) (gives_str_index _ _ _ _ i aG ho).meets ⟨.int (a5e T c),H,I.tok _,⟨_,by rw[e1]⟩,q⟩
theorem apd{zs:List Str}:∀{us:List Value},Vals (zs.map V.str) us->StrsAre us zs:=by
 induction zs with
 |nil=>intro us r;rw[dQ]at r;cases r;exact .nil
 |cons z zs ih =>
  intro us r
  rw[br]at r
  cases r with
  |cons r1 r2 =>
   obtain⟨t,e⟩:=r1;subst e;exact .cons z t (ih r2)
theorem acy:MtR X "str.join" (λx xs H Q=>∃sep p zs,x=.str sep/\xs=[.ref p]/\SqL X.K H p (zs.map V.str)/\(zs.map (·.length)).sum+zs.length*sep.length<=16777216/\Q (.str (Txt.join sep zs)) H):=by
 intro aA s σ H x xs v us Q I rx rs h
 obtain⟨sep,p,zs,rfl,rfl,hp,hz,q⟩:=h;obtain⟨t,rfl⟩:=rx;obtain⟨u,rfl,ru⟩:=vals1 rs;cases ru
 obtain⟨its,r,pl,_⟩:=I.list hp;exact join_list pl.isList (by simpa using apd r) hz λt' k=>⟨.str _,H,I.tok _,⟨_,rfl⟩,q⟩
end
theorem CSc.of{X:Cx}{ts fr:List Str}{ix:List Nat}(clos:closureFor aB X.env=pure cl)(kind:aB.kind=.function)
  (nocell:(aB.names.all λp=>p.2 != .cell)=true) (names:(aB.names.all λp=>p.2 != .local || aB.names.lookup p.1 == some .local)=true) (sub:∀p∈cl,X.env.cells.lookup p.1=some p.2)
  (has:((relabel aB X.env).names.all λp => !(p.2 == .cell || p.2 == .free) || (cl.lookup p.1).isSome)=true) (nofn:(ts.all λy=>(relabel aB X.env).names.lookup y == some .local)=true)
  (len:ix.length=fr.length) (vis:((fr.zip ix).all λp=>X.N[p.2]? == some p.1 && (X.env.kindOf p.1 == some .cell || X.env.kindOf p.1 == some .free) && ((relabel aB X.env).names.lookup p.1 == some .cell || (relabel aB X.env).names.lookup p.1 == some .free))=true) :
  CSc X aB cl ts fr ix:=by
 refine⟨clos,kind,λy hy=>?_,λy hy e=>?_,λy c e=>sub _ (cC e),λy z=>?_,λy hy=>?_,len,λj y e=>?_⟩
 ·have:=cp.mp nocell y hy
  simpa using this
 ·have:=cp.mp names y hy
  rw[e]at this;simpa using this
 ·have key:∀k,(relabel aB X.env).names.lookup y=some k->(k == .cell || k == .free)=true->∃c,cl.lookup y=some c:=λk e hk=>by
   have:=cp.mp has _ (cC e)
   rw[hk]at this;exact gv.mp (by simpa using this)
  rcases z with z|z
  ·exact key _ z rfl
  ·exact key _ z rfl
 ·have:=cp.mp nofn y hy
  simpa using this
 ·obtain⟨hj,_⟩:=ag.mp e;have hj2:j<ix.length:=by omega
  have hm:(y,ix[j])∈fr.zip ix:=by
   rw[List.mem_iff_getElem?];exact⟨j,by rw[eE];exact⟨e,af hj2⟩⟩
  have:=cp.mp vis _ hm
  simp only[cH,eS,fg]at this;exact⟨ix[j],af hj2,this.1.1,this.1.2,this.2⟩
def tSM(r:V->List V->Hp->VK->Prop)(to:TE)(t:TA):TE:=λσ H Q=>to σ H λx H1=>(∃z,x=.str z)/\t σ H1 λxs H2=>r x xs H2 Q
theorem ayv{X:Cx}{o e:Expr}{es:List Expr}{to:TE}{t:TA}{name:Str}{apos cpos:Pos}{id:String}{r:V->List V->Hp->VK->Prop}(slot:Slot "str" name id)(hty:typeOf (.builtin id)=pure (.type "method_descriptor"))(hm:MtR X id r)(ho:PE X o to)(ha:PA X (e::es) t)
  (hbase:attributeBase o name X.env (eval o X.env)=eval o X.env:=by rfl)
  (hfew:((backTo cpos (starEach (e::es) X.env)).all (λx => !x.1) && (backToKw cpos (keywordEach [] X.env)).all (λx=>x.1.isSome)
   && decide ((e::es).length+([]:List Keyword).length+(if ([]:List Keyword).isEmpty then 0 else 1)<30))=true:=by rfl)
  (hline:(apos.endLine == cpos.line)=true:=by rfl) (hs:starEach (e::es) X.env=(false,eval e X.env)::starEach es X.env:=by rfl) (hplain:(backTo cpos (starEach es X.env)).any (·.1)=false:=by rfl) :
  PE X (.Call (.Attribute o name apos) (e::es) [] cpos) (tSM r to t):=by
 intro aA s σ H Q I h
 refine wpAny_Call_method_late hbase hfew hline rfl (thn (ho aA s σ H _ I h) λv s1 ⟨x,H1,I1,r1,⟨z,hz⟩,q1⟩=>?_);subst hz;obtain⟨h1,h2⟩:=amz (T := "str") I1 r1 rfl;refine⟨"str",id,PySem.F.plainAttrs_str,slot,hty,h1,h2,?_⟩;have hA:=ha cpos aA s1 σ H1 _ I1 q1;rw[hs]at hA ⊢;refine Calls.callWith_builtin (by show(false || (backTo cpos (starEach es X.env)).any (·.1))=false;rw[hplain]<;>rfl) (Calls.evalArgs_plain ?_)
 exact thn hA λus s2 ⟨vs,H2,I2,r2,q2⟩=>hm aA s2 σ H2 _ vs v us Q I2 r1 r2 q2
section
variable{X:Cx}
theorem afj(hc:X.calm=true):CallR X (.builtin "sum") (λxs H Q=>∃(p:Addr) (ns:List Int),xs=[.ref p]/\SqL X.K H p (ns.map V.int)/\Q (.int ns.sum) H):=by
 intro aA s σ H xs us Q I r h
 obtain⟨p,ns,rfl,hq,q⟩:=h;obtain⟨u,rfl,rx⟩:=vals1 r;cases rx
 obtain⟨its,r',pl,hz⟩:=I.list hq;have hInts:IntsAre its ns:=intsAre_of r';obtain⟨prs,ep⟩:=hInts.allInts.items;refine sum_intListG (xs:=prs) (I.ok.hd hc) (ep ▸ pl.isList) λh' tk t' hk=>⟨.int ns.sum,H,I.kept hk,⟨t',?_⟩,q⟩;have nums:prs.toList.map (·.1)=ns:=by
  rw[<-nums_intItems,<-ep];exact hInts.numsOf
 have tot:preSum (numAt prs) prs.size=ns.sum:=by
  rw[preSum_eq,<-nums]
  congr 1
  exact cy (by simp)
 rw[tot]
end
open PySem.AutoSeq1 in
theorem a80(l b:Addr)(xs ys:Array Value)(n m:Nat)(dd:Option Addr)(sl:Array (Option Value))(long:¬(!xs.isEmpty && Builtin.List.listTooLong (xs.size+ys.size))=true)(fit1:xs.size<=sizeLine)(fit2:xs.size+ys.size<=sizeLine+1) :
  Meets (Builtin.«list.extend» ⟨[.ref l,.ref b],[]⟩) (λ_ R s=>(s.heap.get? l=some {cls:=.type "list",dict:=none,data:=.seq xs n,slots := #[]}/\s.heap.get? b=some {cls:=.type "tuple",dict:=dd,data:=.seq ys m,slots:=sl})/\R (.ok (.ret Value.none)) {s with heap:=s.heap.update l (Obj.mapSeq (·++ys))}) :=
 .of_wp λprog w A R ⟨hp,gn,dr,tk,os⟩ ⟨⟨hl,hb⟩,q⟩=>by
  have a1:=idx_int;have a2:=AutoSeq1.sub_tuple_tuple;have a3:=AutoSeq1.sub_list_list;have a4:=AutoSeq1.sub_tuple_list;have a5:=AutoSeq1.sub_list_tuple;have both:(xs++ys).size<=sizeLine+1:=by simpa using fit2
  wp_walk using wpAny_updateSeq hl rfl (hz:=fit1) (_hz':=both),wpAny_loadPart' hl,wpAny_loadPart' hb
  exact⟨_,rfl,q⟩
section
variable{X:Cx}
def adz(K:Fg):V->List V->Hp->VK->Prop:=λx vs H Q=>∃l b xs zs,x=.ref l/\vs=[.ref b]/\H l=some (.lst xs)/\SqT K H b zs/\xs.length+zs.length<=sizeLine/\Q .non (upd H l (.lst (xs++zs)))
theorem afk:MtM X "list.extend" (adz X.K):=by
 intro aA s σ H x vs v us Q I rx rv h
 obtain⟨l,b,xs,zs,rfl,rfl,hH,hB,hz,q⟩:=h;cases rx
 obtain⟨u,rfl,ru⟩:=rv.one;cases ru
 obtain⟨z,its,n,r,hl,e⟩:=I.lstM hH;obtain⟨its2,r2,p2,_⟩:=I.tuple hB;have hl2:=r2.length;obtain⟨⟨cls,dd,data,sl⟩,e2,hc,hrest⟩:=id p2;have hsz:its.toArray.size+its2.toArray.size<=sizeLine:=by rw[aK,aK];omega
 have hlong:¬ (!its.toArray.isEmpty && Builtin.List.listTooLong (its.toArray.size+its2.toArray.size))=true:=by
  rw[a7f hsz,gQ];exact bI
 obtain⟨n2,hd⟩:=(show ∃n2,data=.seq its2.toArray n2 from by first|exact hrest|exact⟨_,hrest.2⟩|(obtain⟨_,n,hd⟩:=hrest;exact⟨n,hd⟩))
 have hc':cls=.type "tuple":=hc;subst hc' hd;refine cO F.slot_list_extend ⟨_,e,rfl⟩ F.entry_list_extend (F.args_list_extend_2 _ _)
  (a80 l b its.toArray its2.toArray n n2 dd sl hlong (by rw[aK];omega) (by omega)) ⟨⟨e,e2⟩,?_⟩
 refine⟨.non,_,I.lset (its':=its++its2) hH e (by simp) (r.append r2) ?_,rfl,q⟩
 rw[ai];omega
end
end L2
namespace MI
open L2
inductive D where
 |non|bl (b:Bool)|int (i:Int)|str (x:Str)|ty (n:String)|tup (xs:List D)|rol (xs:List D)|ref (i:Nat)|scr (xs:List D)|rod (ks:List Key) (xs:List D)|rdT (ks:List (List Key)) (xs:List D)|exc (c:Str)|ins (c:Str) (ks:List Str) (xs:List D)
inductive O where
 |lst (xs:List D)|dK (kvs:List (Key×D))|dT (kvs:List (List Key×D))|ins (c:Str) (fs:List (Str×D))
abbrev Hd:=List O
abbrev Sd:=List (Option D)
inductive R (α:Type) where
 |ok (a:α) (h:Hd)|ex (c:Str) (h:Hd)|no
def R.bind{α β:Type}:R α->(α->Hd->R β)->R β
 |.ok a h,k=>k a h
 |.ex c h,_=>.ex c h
 |.no,_=>.no
inductive Fl where
 |nx (σ:Sd) (h:Hd)|rt (d:D) (h:Hd)|bk (σ:Sd) (h:Hd)|ct (σ:Sd) (h:Hd)|ex (c:Str) (h:Hd)|no
def R.fl{α:Type}:R α->(α->Hd->Fl)->Fl
 |.ok a h,k=>k a h
 |.ex c h,_=>.ex c h
 |.no,_=>.no
abbrev SE:=Sd->Hd->R D
abbrev ST:=Sd->Hd->R Bool
abbrev SA:=Sd->Hd->R (List D)
abbrev SS:=Sd->Hd->Fl
def SqF(K:Fg)(H:Hp)(a:Addr)(vs:List V):Prop:=(∃o,H a=some (.frz o (.lst vs)))\/SqL K (λ_=>none) a vs
theorem SqF.l(h:SqF K H a vs):SqL K H a vs:=by
 rcases h with⟨o,h⟩|h
 ·exact .inl (.inr ⟨o,h⟩)
 ·rcases h with(h|⟨o,h⟩)|h
  ·cases h
  ·cases h
  ·exact .inr h
def SqZ(H:Hp)(a:Addr)(vs:List V):Prop:=∃o,H a=some (.frz o (.lst vs))
theorem SqZ.l(h:SqZ H a vs):SqL K H a vs:=let ⟨o,e⟩:=h; .inl (.inr ⟨o,e⟩)
def exO(a:Addr):HO:=.ext λh=>∃o,h.get? a=some o
mutual
inductive Rep (K:Fg) (ι:List Addr) (H:Hp):V->D->Prop
 |non:Rep K ι H .non .non
 |bl (b:Bool):Rep K ι H (.bl b) (.bl b)
 |int (i:Int):Rep K ι H (.int i) (.int i)
 |str (x:Str):Rep K ι H (.str x) (.str x)
 |ty (n:String):Rep K ι H (.ty n) (.ty n)
 |tup {a:Addr} {vs:List V} {xs:List D} (h:H a=some (.tup vs)) (r:Reps K ι H vs xs):Rep K ι H (.ref a) (.tup xs)
 |rol {a:Addr} {vs:List V} {xs:List D} (h:SqZ H a vs) (r:Reps K ι H vs xs):Rep K ι H (.ref a) (.rol xs)
 |scr {a:Addr} {vs:List V} {xs:List D} (h:SqF K H a vs) (r:Reps K ι H vs xs):Rep K ι H (.ref a) (.scr xs)
 |ref {a:Addr} {i:Nat} (h:ι[i]? = some a):Rep K ι H (.ref a) (.ref i)
 |rod {a:Addr} {o:Obj} {us:List (Key×V)} {ks:List Key} {xs:List D} (h:H a=some (.frz o (.dK us))) (e:us.map (·.1)=ks) (r:Reps K ι H (us.map (·.2)) xs):Rep K ι H (.ref a) (.rod ks xs)
 |rdT {a:Addr} {o:Obj} {us:List (List Key×V)} {ks:List (List Key)} {xs:List D} (h:H a=some (.frz o (.dT us))) (e:us.map (·.1)=ks) (r:Reps K ι H (us.map (·.2)) xs):Rep K ι H (.ref a) (.rdT ks xs)
 |exc {a C:Addr} {o:Obj} {c:Str} (h:H a=some (.frz o (exO a))) (hc:o.cls=.ref C) (hn:PySem.W.nsIn K mainGlobals c=some (some (.ref C))):Rep K ι H (.ref a) (.exc c)
 |ins {a C dx:Addr} {o:Obj} {c:Str} {us:List (Str×V)} {ks:List Str} {xs:List D} (h:H a=some (.frz o (.ins C dx us))) (hn:PySem.W.nsIn K mainGlobals c=some (some (.ref C))) (e:us.map (·.1)=ks) (r:Reps K ι H (us.map (·.2)) xs):Rep K ι H (.ref a) (.ins c ks xs)
inductive Reps (K:Fg) (ι:List Addr) (H:Hp):List V->List D->Prop
 |nil:Reps K ι H [] []
 |cons {v:V} {d:D} {vs:List V} {ds:List D} (r:Rep K ι H v d) (rs:Reps K ι H vs ds):Reps K ι H (v::vs) (d::ds)
end
structure Gw (ι:List Addr) (H:Hp) (ι':List Addr) (H':Hp):Prop where
 pre:∃m,ι'=ι++m
 tup:∀a vs,H a=some (.tup vs)->H' a=some (.tup vs)
 frz:∀a o u,H a=some (.frz o u)->H' a=some (.frz o u)
structure Gr (ι:List Addr) (H:Hp) (ι':List Addr) (H':Hp):Prop where
 pre:∃m,ι'=ι++m/\∀a∈m,H a=none
 tup:∀a vs,H a=some (.tup vs)->H' a=some (.tup vs)
 frz:∀a o u,H a=some (.frz o u)->H' a=some (.frz o u)
 oth:∀a u,H a=some u->a∉ι->H' a=some u
 kp:∀a u,H a=some u->∃u',H' a=some u'
theorem Gr.w(g:Gr ι H ι' H'):Gw ι H ι' H':=⟨let ⟨m,e,_⟩:=g.pre; ⟨m,e⟩,g.tup,g.frz⟩
theorem Gr.refl(ι:List Addr)(H:Hp):Gr ι H ι H:=⟨⟨[],by simp,by simp⟩,λ_ _ h=>h,λ_ _ _ h=>h,λ_ _ h _=>h,λ_ u h=>⟨u,h⟩⟩
theorem Gr.trans(a:Gr ι H ι1 H1)(b:Gr ι1 H1 ι2 H2):Gr ι H ι2 H2:=by
 obtain⟨m,rfl,hm⟩:=a.pre;obtain⟨n,rfl,hn⟩:=b.pre;refine⟨⟨m++n,by simp,λx hx=>?_⟩,λx vs h=>b.tup x vs (a.tup x vs h),λx o u h=>b.frz x o u (a.frz x o u h),λx u h hx=>?_,λx u h=>?_⟩
 ·rcases aS.mp hx with hx|hx
  ·exact hm x hx
  ·cases e:H x with
   |none=>rfl
   |some u =>
    obtain⟨u',e'⟩:=a.kp x u e;rw[hn x hx]at e';cases e'
 ·refine b.oth x u (a.oth x u h hx) λz=>?_
  rcases aS.mp z with z|z
  ·exact hx z
  ·rw[hm x z]at h;cases h
 ·obtain⟨u',e⟩:=a.kp x u h;exact b.kp x u' e
theorem Gw.at(g:Gw ι H ι' H'){i:Nat}(h:ι[i]? = some a):ι'[i]? = some a:=by
 obtain⟨m,rfl⟩:=g.pre;rw[aM (ag.mp h).1];exact h
theorem Gr.at(g:Gr ι H ι' H'){i:Nat}(h:ι[i]? = some a):ι'[i]? = some a:=g.w.at h
theorem SqF.monoW(g:Gw ι H ι' H')(h:SqF K H a vs):SqF K H' a vs:=by
 rcases h with⟨o,h⟩|h
 ·exact .inl ⟨o,g.frz _ _ _ h⟩
 ·exact .inr h
theorem SqZ.monoW(g:Gw ι H ι' H')(h:SqZ H a vs):SqZ H' a vs:=let ⟨o,e⟩:=h; ⟨o,g.frz _ _ _ e⟩
theorem SqZ.mono(g:Gr ι H ι' H')(h:SqZ H a vs):SqZ H' a vs:=h.monoW g.w
mutual
theorem Rep.monoW(g:Gw ι H ι' H'):∀{v:V} {d:D},Rep K ι H v d->Rep K ι' H' v d
 |_,_,.non=>.non
 |_,_,.bl b=>.bl b
 |_,_,.int i=>.int i
 |_,_,.str x=>.str x
 |_,_,.ty n=>.ty n
 |_,_,.tup h r=>.tup (g.tup _ _ h) (Reps.monoW g r)
 |_,_,.rol h r=>.rol (h.monoW g) (Reps.monoW g r)
 |_,_,.scr h r=>.scr (h.monoW g) (Reps.monoW g r)
 |_,_,.ref h=>.ref (g.at h)
 |_,_,.rod h e r=>.rod (g.frz _ _ _ h) e (Reps.monoW g r)
 |_,_,.rdT h e r=>.rdT (g.frz _ _ _ h) e (Reps.monoW g r)
 |_,_,.exc h hc hn=>.exc (g.frz _ _ _ h) hc hn
 |_,_,.ins h hn e r=>.ins (g.frz _ _ _ h) hn e (Reps.monoW g r)
theorem Reps.monoW(g:Gw ι H ι' H'):∀{vs:List V} {ds:List D},Reps K ι H vs ds->Reps K ι' H' vs ds
 |_,_,.nil=>.nil
 |_,_,.cons r rs=>.cons (Rep.monoW g r) (Reps.monoW g rs)
end
theorem Rep.mono(g:Gr ι H ι' H')(r:Rep K ι H v d):Rep K ι' H' v d:=r.monoW g.w
theorem Reps.mono(g:Gr ι H ι' H')(r:Reps K ι H vs ds):Reps K ι' H' vs ds:=r.monoW g.w
section
variable{K:Fg}{ι:List Addr}{H:Hp}
theorem Reps.len:Reps K ι H vs ds->vs.length=ds.length
 |.nil=>rfl
 |.cons _ rs=>by rw[aY,aY,rs.len]
theorem Reps.get:∀{vs:List V} {ds:List D} {i:Nat} {d:D},Reps K ι H vs ds->ds[i]? = some d->∃v,vs[i]? = some v/\Rep K ι H v d
 |_,_,_,_,.nil,e=>by simp at e
 |_,_,0,_,.cons r _,e=>by simp at e;subst e;exact⟨_,rfl,r⟩
 |_,_,i+1,d,.cons _ rs,e=>by
  obtain⟨u,h1,h2⟩:=Reps.get (i:=i) (d:=d) rs (by simpa using e)
  exact⟨u,by simpa using h1,h2⟩
theorem Reps.app:∀{vs us:List V} {ds es:List D},Reps K ι H vs ds->Reps K ι H us es->Reps K ι H (vs++us) (ds++es)
 |_,_,_,_,.nil,s=>s
 |_,_,_,_,.cons r rs,s=>.cons r (Reps.app rs s)
theorem Reps.set(q:Rep K ι H v d):∀{vs:List V} {ds:List D} (i:Nat),Reps K ι H vs ds->Reps K ι H (vs.set i v) (ds.set i d)
 |_,_,_,.nil=>.nil
 |_,_,0,.cons _ rs=>.cons q rs
 |_,_,i+1,.cons r rs=>.cons r (Reps.set q i rs)
theorem Reps.take:∀{vs:List V} {ds:List D} (n:Nat),Reps K ι H vs ds->Reps K ι H (vs.take n) (ds.take n)
 |_,_,0,_=>.nil
 |_,_,_+1,.nil=>.nil
 |_,_,n+1,.cons r rs=>.cons r (Reps.take n rs)
theorem Reps.drop:∀{vs:List V} {ds:List D} (n:Nat),Reps K ι H vs ds->Reps K ι H (vs.drop n) (ds.drop n)
 |_,_,0,r=>r
 |_,_,_+1,.nil=>.nil
 |_,_,n+1,.cons _ rs=>Reps.drop n rs
theorem Reps.snoc(r:Reps K ι H vs ds)(q:Rep K ι H v d):Reps K ι H (vs++[v]) (ds++[d]):=r.app (.cons q .nil)
theorem Reps.flat:∀{vs:List V} {ds:List D} (k:Nat),Reps K ι H vs ds->Reps K ι H (List.replicate k vs).flatten (List.replicate k ds).flatten
 |_,_,0,_=>.nil
 |vs,ds,k+1,r=>by
  rw[cD,cD,dM,dM];exact r.app (Reps.flat k r)
end
def KRep{κ:Type}(K:Fg)(ι:List Addr)(H:Hp)(us:List (κ×V))(kvs:List (κ×D)):Prop:=us.map (·.1)=kvs.map (·.1)/\Reps K ι H (us.map (·.2)) (kvs.map (·.2))
def ORep(K:Fg)(ι:List Addr)(H:Hp)(a:Addr):O->Prop
 |.lst xs=>∃vs,H a=some (.lst vs)/\Reps K ι H vs xs
 |.dK kvs=>∃us,H a=some (.dK us)/\KRep K ι H us kvs
 |.dT kvs=>∃us,H a=some (.dT us)/\KRep K ι H us kvs
 |.ins c fs=>∃C dx us,H a=some (.ins C dx us)/\PySem.W.nsIn K mainGlobals c=some (some (.ref C))/\KRep K ι H us fs
structure HRep (K:Fg) (ι:List Addr) (H:Hp) (h:Hd):Prop where
 nd:ι.Nodup
 len:ι.length=h.length
 obj:∀(i:Nat) (a:Addr) (o:O),ι[i]? = some a->h[i]? = some o->ORep K ι H a o
section
variable{K:Fg}{ι:List Addr}{H:Hp}{h:Hd}
theorem ORep.some(r:ORep K ι H a o):∃u,H a=some u/\(∀vs,u≠.tup vs)/\(∀o' u',u≠.frz o' u'):=by
 cases o with
 |lst xs=>obtain⟨vs,e,_⟩:=r;exact⟨_,e,λ_ z=>(by cases z),λ_ _ z=>(by cases z)⟩
 |dK kvs=>obtain⟨us,e,_⟩:=r;exact⟨_,e,λ_ z=>(by cases z),λ_ _ z=>(by cases z)⟩
 |dT kvs=>obtain⟨us,e,_⟩:=r;exact⟨_,e,λ_ z=>(by cases z),λ_ _ z=>(by cases z)⟩
 |ins c fs=>obtain⟨C,dx,us,e,_⟩:=r;exact⟨_,e,λ_ z=>(by cases z),λ_ _ z=>(by cases z)⟩
theorem HRep.at(r:HRep K ι H h){i:Nat}(e:ι[i]? = some a):∃o,h[i]? = some o/\ORep K ι H a o:=by
 have hi:i<h.length:=by rw[<-r.len];exact(ag.mp e).1
 exact⟨h[i],af hi,r.obj i a _ e (af hi)⟩
theorem HRep.addr(r:HRep K ι H h){i:Nat}(e:h[i]? = some o):∃a,ι[i]? = some a/\ORep K ι H a o:=by
 have hi:i<ι.length:=by rw[r.len];exact(ag.mp e).1
 exact⟨ι[i],af hi,r.obj i _ o (af hi) e⟩
theorem HRep.notin(r:HRep K ι H h)(e:H p=none):p∉ι:=λz=>by
 obtain⟨i,hi⟩:=bY z;obtain⟨o,_,q⟩:=r.at hi;obtain⟨u,q,_⟩:=q.some;rw[e]at q;cases q
theorem ORep.monoW(g:Gw ι H ι' H')(e:H' a=H a)(r:ORep K ι H a o):ORep K ι' H' a o:=by
 cases o with
 |lst xs=>obtain⟨vs,h1,h2⟩:=r;exact⟨vs,by rw[e];exact h1,h2.monoW g⟩
 |dK kvs=>obtain⟨us,h1,h2,h3⟩:=r;exact⟨us,by rw[e];exact h1,h2,h3.monoW g⟩
 |dT kvs=>obtain⟨us,h1,h2,h3⟩:=r;exact⟨us,by rw[e];exact h1,h2,h3.monoW g⟩
 |ins c fs=>obtain⟨C,dx,us,h1,hn,h2,h3⟩:=r;exact⟨C,dx,us,by rw[e];exact h1,hn,h2,h3.monoW g⟩
theorem ORep.mono(g:Gr ι H ι' H')(e:H' a=H a)(r:ORep K ι H a o):ORep K ι' H' a o:=r.monoW g.w e
theorem a3e(e:H p=none)(o:HO):Gr ι H ι (upd H p o) :=
 ⟨⟨[],by simp,by simp⟩,λa vs h=>by rw[jg (jr h e)];exact h,λa o u h=>by rw[jg (jr h e)];exact h,λa u h _=>by rw[jg (jr h e)];exact h,λa u h=>⟨u,by rw[jg (jr h e)];exact h⟩⟩
theorem HRep.aside(r:HRep K ι H h)(e:H p=none)(o:HO):HRep K ι (upd H p o) h:=by
 refine⟨r.nd,r.len,λi a o' e1 e2=>?_⟩;have q:=r.obj i a o' e1 e2;obtain⟨u,hu,_⟩:=q.some;exact q.mono (a3e e o) (jg (jr hu e))
theorem ae0(e:H p=none)(o:HO):Gr ι H (ι++[p]) (upd H p o) :=
 ⟨⟨[p],rfl,by simpa using e⟩,(a3e (ι:=ι) e o).tup,(a3e (ι:=ι) e o).frz,(a3e (ι:=ι) e o).oth,(a3e (ι:=ι) e o).kp⟩
theorem HRep.add(r:HRep K ι H h)(e:H p=none)(q:ORep K (ι++[p]) (upd H p o) p ob):HRep K (ι++[p]) (upd H p o) (h++[ob]):=by
 refine⟨?_,by simp[r.len],λi a o' e1 e2=>?_⟩
 ·rw[bM];exact⟨r.nd,by simp,λa ha b hb z=>r.notin e (by rw[ar.mp hb]at z;rw[<-z];exact ha)⟩
 ·by_cases hi:i<ι.length
  ·rw[aM hi]at e1;rw[aM (by rw[<-r.len];exact hi)]at e2
   have q:=r.obj i a o' e1 e2;obtain⟨u,hu,_⟩:=q.some;exact q.mono (ae0 e o) (jg (jr hu e))
  ·have hi2:i<(ι++[p]).length:=(ag.mp e1).1;have:i=ι.length:=by simp at hi2;omega
   subst this;rw[aN (aJ _)]at e1;rw[r.len,aN (aJ _)]at e2;simp at e1 e2;subst e1 e2;exact q
theorem a2e{i:Nat}(r:HRep K ι H h)(e:ι[i]? = some a)(o:HO):Gr ι H ι (upd H a o):=by
 obtain⟨_,_,q⟩:=r.at e;obtain⟨u,hu,n1,n2⟩:=q.some;refine⟨⟨[],by simp,by simp⟩,λb vs hb=>?_,λb o' u' hb=>?_,λb u' hb hn=>?_,λb u' hb=>?_⟩
 ·rw[jg (λz=>by subst z;rw[hu]at hb;exact n1 _ (bQ hb))];exact hb
 ·rw[jg (λz=>by subst z;rw[hu]at hb;exact n2 _ _ (bQ hb))];exact hb
 ·rw[jg (λz=>hn (by subst z;exact aQ e))];exact hb
 ·by_cases z:b=a
  ·subst z;exact⟨o,ph⟩
  ·exact⟨u',by rw[jg z];exact hb⟩
theorem HRep.put(r:HRep K ι H h){i:Nat}(e:ι[i]? = some a)(q:ORep K ι (upd H a o) a ob):HRep K ι (upd H a o) (h.set i ob):=by
 refine⟨r.nd,by rw[cG];exact r.len,λj b o' e1 e2=>?_⟩
 by_cases hj:i=j
 ·subst hj;rw[e]at e1;cases e1
  have hi:i<h.length:=by rw[<-r.len];exact(ag.mp e).1
  rw[bE hi]at e2;cases e2
  exact q
 ·rw[cw hj]at e2;have hne:b≠a:=λz=>by
   subst z;obtain⟨h1,g1⟩:=ag.mp e;obtain⟨h2,g2⟩:=ag.mp e1;have np:=bS.mp r.nd
   rcases Nat.lt_or_gt_of_ne hj with l|l
   ·exact np i j h1 h2 l (g1.trans g2.symm)
   ·exact np j i h2 h1 l (g2.trans g1.symm)
  exact(r.obj j b o' e1 e2).mono (a2e r e o) (jg hne)
end
structure SRep (K:Fg) (ι:List Addr) (H:Hp) (σ:St) (τ:Sd):Prop where
 len:σ.length=τ.length
 val:∀(i:Nat) (d:D),τ[i]? = some (some d)->∃v,σ[i]? = some (some v)/\Rep K ι H v d
theorem SRep.mono(g:Gr ι H ι' H')(s:SRep K ι H σ τ):SRep K ι' H' σ τ :=
 ⟨s.len,λi d e=>let ⟨v,h1,h2⟩:=s.val i d e; ⟨v,h1,h2.mono g⟩⟩
theorem SRep.set(s:SRep K ι H σ τ)(r:Rep K ι H v d)(i:Nat):SRep K ι H (σ.set i (some v)) (τ.set i (some d)):=by
 refine⟨by simp[s.len],λj d' e=>?_⟩
 by_cases hj:i=j
 ·subst hj;have hi:i<τ.length:=by
   have:=(ag.mp e).1
   simpa using this
  rw[bE hi]at e;cases e
  exact⟨v,by rw[bE (by rw[s.len];exact hi)],r⟩
 ·rw[cw hj]at e ⊢;exact s.val j d' e
abbrev XD:=Str->List Addr->Hp->Hd->Prop
def out{α β:Type}(K:Fg)(E:XD)(Rp:List Addr->Hp->β->α->Prop)(ι:List Addr)(H:Hp)(r:R α)(Q:β->Hp->Prop):Prop :=
 match r with
 |.ok a h=>∀ι' H' b,Gr ι H ι' H'->Rp ι' H' b a->HRep K ι' H' h->Q b H'
 |.ex c h=>∀ι' H',Gr ι H ι' H'->HRep K ι' H' h->E c ι' H' h
 |.no=>False
theorem a7h{α β:Type}{K:Fg}{E:XD}{Rp:List Addr->Hp->β->α->Prop}{ι ι1:List Addr}{H H1:Hp}{r:R α}{Q:β->Hp->Prop}(o:out K E Rp ι H r Q)(g:Gr ι H ι1 H1):out K E Rp ι1 H1 r Q:=by
 cases r with
 |ok a h=>exact λι' H' b g'=>o ι' H' b (g.trans g')
 |ex c h=>exact λι' H' g'=>o ι' H' (g.trans g')
 |no=>exact o
theorem gq{α β γ δ:Type}{K:Fg}{E:XD}{Rp:List Addr->Hp->β->α->Prop}{Sp:List Addr->Hp->δ->γ->Prop}{ι:List Addr}{H:Hp}{r:R α}{k:α->Hd->R γ}{Q:δ->Hp->Prop}{P:β->Hp->Prop}
  (o:out K E Sp ι H (r.bind k) Q) (hP:∀a h ι1 H1 b,Gr ι H ι1 H1->Rp ι1 H1 b a->HRep K ι1 H1 h->out K E Sp ι1 H1 (k a h) Q->P b H1):out K E Rp ι H r P:=by
 cases r with
 |ok a h=>exact λι' H' b g r' hr=>hP a h ι' H' b g r' hr (a7h o g)
 |ex c h=>exact o
 |no=>exact o
abbrev a3j(K:Fg):List Addr->Hp->V->D->Prop:=λι H v d=>Rep K ι H v d
abbrev ayw(K:Fg):List Addr->Hp->List V->List D->Prop:=λι H v d=>Reps K ι H v d
abbrev axj:List Addr->Hp->Bool->Bool->Prop:=λ_ _ a b=>a=b
abbrev b1k:List Addr->Hp->Option Int->Option Int->Prop:=λ_ _ a b=>a=b
def ak0(K:Fg)(E:XD)(ι:List Addr)(H:Hp)(r:Fl)(N:Ends):Prop :=
 match r with
 |.nx τ h=>∀ι' H' σ,Gr ι H ι' H'->SRep K ι' H' σ τ->HRep K ι' H' h->N.nx σ H'
 |.bk τ h=>∀ι' H' σ,Gr ι H ι' H'->SRep K ι' H' σ τ->HRep K ι' H' h->N.bk σ H'
 |.ct τ h=>∀ι' H' σ,Gr ι H ι' H'->SRep K ι' H' σ τ->HRep K ι' H' h->N.ct σ H'
 |.rt d h=>∀ι' H' v,Gr ι H ι' H'->Rep K ι' H' v d->HRep K ι' H' h->N.rt v H'
 |.ex c h=>∀ι' H',Gr ι H ι' H'->HRep K ι' H' h->E c ι' H' h
 |.no=>False
theorem yg(o:ak0 K E ι H r N)(g:Gr ι H ι1 H1):ak0 K E ι1 H1 r N:=by
 cases r with
 |nx τ h=>exact λι' H' b g'=>o ι' H' b (g.trans g')
 |bk τ h=>exact λι' H' b g'=>o ι' H' b (g.trans g')
 |ct τ h=>exact λι' H' b g'=>o ι' H' b (g.trans g')
 |rt d h=>exact λι' H' b g'=>o ι' H' b (g.trans g')
 |ex c h=>exact λι' H' g'=>o ι' H' (g.trans g')
 |no=>exact o
theorem sy{α β:Type}{K:Fg}{E:XD}{Rp:List Addr->Hp->β->α->Prop}{ι:List Addr}{H:Hp}{r:R α}{k:α->Hd->Fl}{N:Ends}{P:β->Hp->Prop}
  (o:ak0 K E ι H (r.fl k) N) (hP:∀a h ι1 H1 b,Gr ι H ι1 H1->Rp ι1 H1 b a->HRep K ι1 H1 h->ak0 K E ι1 H1 (k a h) N->P b H1):out K E Rp ι H r P:=by
 cases r with
 |ok a h=>exact λι' H' b g r' hr=>hP a h ι' H' b g r' hr (yg o g)
 |ex c h=>exact o
 |no=>exact o
def lift{α β:Type}(K:Fg)(E:XD)(Rp:List Addr->Hp->β->α->Prop)(f:Sd->Hd->R α):St->Hp->(β->Hp->Prop)->Prop:=λσ H Q =>
 ∃ι τ h,SRep K ι H σ τ/\HRep K ι H h/\out K E Rp ι H (f τ h) Q
def a9o(K:Fg)(E:XD)(f:SS):TS:=λN σ H=>∃ι τ h,SRep K ι H σ τ/\HRep K ι H h/\ak0 K E ι H (f τ h) N
abbrev ME(X:Cx)(E:XD)(e:Expr)(f:SE):Prop:=PE X e (lift X.K E (a3j X.K) f)
abbrev MT(X:Cx)(E:XD)(e:Expr)(f:ST):Prop:=PT X e (lift X.K E axj f)
abbrev MW(X:Cx)(E:XD)(e:Expr)(f:ST):Prop:=PW X e (lift X.K E axj f)
abbrev MA(X:Cx)(E:XD)(es:List Expr)(f:SA):Prop:=PA X es (lift X.K E (ayw X.K) f)
abbrev MS(X:Cx)(E:XD)(st:Stmt)(f:SS):Prop:=PS X st (a9o X.K E f)
abbrev MSs(X:Cx)(E:XD)(st:List Stmt)(f:SS):Prop:=PSs X st (a9o X.K E f)
theorem PE.weak(h:PE X e t)(i:∀σ H Q,t' σ H Q->t σ H Q):PE X e t':=λaA s σ H Q I q=>h aA s σ H Q I (i _ _ _ q)
theorem PT.weak(h:PT X e t)(i:∀σ H Q,t' σ H Q->t σ H Q):PT X e t':=λaA s σ H Q I q=>h aA s σ H Q I (i _ _ _ q)
theorem PW.weak(h:PW X e t)(i:∀σ H Q,t' σ H Q->t σ H Q):PW X e t':=λwh aA s σ H Q I q=>h wh aA s σ H Q I (i _ _ _ q)
theorem PA.weak(h:PA X e t)(i:∀σ H Q,t' σ H Q->t σ H Q):PA X e t':=λpos aA s σ H Q I q=>h pos aA s σ H Q I (i _ _ _ q)
theorem PS.weak(h:PS X e t)(i:∀N σ H,t' N σ H->t N σ H):PS X e t':=λaA s σ H N I q=>h aA s σ H N I (i _ _ _ q)
theorem PSs.weak(h:PSs X e t)(i:∀N σ H,t' N σ H->t N σ H):PSs X e t':=λaA s σ H N I q=>h aA s σ H N I (i _ _ _ q)
abbrev LINE:Nat:=16777216
theorem ll{n:Nat}(h:n<=LINE):n<=sizeLine:=apb h
def sV(i:Nat):SE:=λτ h=>match τ[i]? with|some (some d)=>.ok d h|_=>.no
def sC(d:D):SE:=λ_ h=>.ok d h
abbrev sI(i:Int):SE:=sC (.int i)
section
variable{X:Cx}{E:XD}{a b c e:Expr}{fa fb fc:SE}{pos:Pos}
theorem bh(i:Nat)(hN:X.N[i]? = some x:=by rfl)(hv:Vis X.env.scope x:=by first|exact Or.inl rfl|exact Or.inr (Or.inl rfl)|exact Or.inr (Or.inr rfl))(hd:(x == ("__debug__" : Str))=false:=by decide)
  (hcd:(x == ("__classdict__" : Str))=false:=by decide):ME X E (.Name x pos) (sV i):=by
 refine PE.weak (asm hN hv hd hcd) ?_
 rintro σ H Q ⟨ι,τ,h,S,Rh,o⟩
 unfold sV at o
 split at o
 ·rename_i d e;obtain⟨v,h1,h2⟩:=S.val i d e;exact⟨v,h1,o ι H v (.refl _ _) h2 Rh⟩
 ·exact o.elim
theorem au5(h:PE X e (tC v))(r:∀ι H,Rep X.K ι H v d):ME X E e (sC d) :=
 PE.weak h λσ H Q ⟨ι,τ,h,S,Rh,o⟩=>o ι H v (.refl _ _) (r ι H) Rh
theorem bc{i j pos}:ME X E (.Constant (.int i) j pos) (sC (.int i)):=au5 asn λ_ _=>.int i
theorem a6n{i j pos}:ME X E (.Constant (.bool i) j pos) (sC (.bl i)):=au5 axw λ_ _=>.bl i
theorem qz{i j pos}:ME X E (.Constant (.str i) j pos) (sC (.str i)):=au5 asp λ_ _=>.str i
theorem a1d{j pos}:ME X E (.Constant .none j pos) (sC .non):=au5 aso λ_ _=>.non
theorem acz(hg:Gl X x)(hm:X.mg x=none)(hv:bootBuiltins x=some (.type n))(hn:x ≠ "__name__":=by decide)(hd:(x == ("__debug__" : Str))=false:=by decide):ME X E (.Name x pos) (sC (.ty n)) :=
 au5 (aob (v:=.ty n) hg hm hv rfl hn hd) λ_ _=>.ty n
def s2(g:D->D->Hd->R D)(fa fb:SE):SE:=λτ h=>(fa τ h).bind λx h1=>(fb τ h1).bind λy h2=>g x y h2
def s1(g:D->Hd->R D)(fa:SE):SE:=λτ h=>(fa τ h).bind g
def a3o(K:Fg)(g:D->D->Hd->R D)(r:R2):Prop:=∀(E:XD) ι H h x y dx dy Q,Rep K ι H x dx->Rep K ι H y dy->HRep K ι H h->out K E (a3j K) ι H (g dx dy h) Q->r x y H Q
def b1l(K:Fg)(g:D->Hd->R D)(r:V->Hp->VK->Prop):Prop:=∀(E:XD) ι H h x dx Q,Rep K ι H x dx->HRep K ι H h->out K E (a3j K) ι H (g dx h) Q->r x H Q
def ag9(K:Fg)(g:List D->Hd->R D)(r:List V->Hp->VK->Prop):Prop:=∀(E:XD) ι H h xs ds Q,Reps K ι H xs ds->HRep K ι H h->out K E (a3j K) ι H (g ds h) Q->r xs H Q
theorem axk(hs:a3o K g r)(q:lift K E (a3j K) (s2 g fa fb) σ H Q):tOp r (lift K E (a3j K) fa) (lift K E (a3j K) fb) σ H Q:=by
 obtain⟨ι,τ,h,S,Rh,o⟩:=q;refine⟨ι,τ,h,S,Rh,gq o λd h1 ι1 H1 v g1 r1 hr1 o1=>?_⟩;refine⟨ι1,τ,h1,S.mono g1,hr1,gq o1 λd2 h2 ι2 H2 u g2 r2 hr2 o2=>?_⟩;exact hs E ι2 H2 h2 v u d d2 Q (r1.mono g2) r2 hr2 o2
theorem ad0(ho:OpR X (binaryOp op) r)(hs:a3o X.K g r)(ha:ME X E a fa)(hb:ME X E b fb):ME X E (.BinOp a op b pos) (s2 g fa fb) :=
 PE.weak (aya ho ha hb) λσ H Q q=>axk hs q
theorem a81(ho:OpR X (compareOp op) r)(hs:a3o X.K g r)(ha:ME X E a fa)(hb:ME X E b fb)(hm:behindInMarks op b=false):ME X E (.Compare a [op] [b] pos) (s2 g fa fb) :=
 PE.weak (aol ho ha hb hm) λσ H Q q=>axk hs q
theorem ayx(ho:UnR X (unaryOp op) r)(hs:b1l X.K g r)(ha:ME X E a fa):ME X E (.UnaryOp op a pos) (s1 g fa):=by
 refine PE.weak (ayb ho ha) ?_
 rintro σ H Q ⟨ι,τ,h,S,Rh,o⟩
 exact⟨ι,τ,h,S,Rh,gq o λd h1 ι1 H1 v g1 r1 hr1 o1=>hs E ι1 H1 h1 v d Q r1 hr1 o1⟩
theorem ayy(ho:IxR X r)(hs:a3o X.K g r)(ha:ME X E a fa)(hb:ME X E b fb)(hp:a9j b):ME X E (.Subscript a b pos) (s2 g fa fb) :=
 PE.weak (aym ho ha hb hp) λσ H Q q=>axk hs q
def asB(d:D)(h:Hd):R Bool:=match d with|.bl b=>.ok b h|_=>.no
def sT(f:SE):ST:=λτ h=>(f τ h).bind asB
theorem ape(hi:∀σ H Q,lift K E (a3j K) f σ H Q->t σ H Q)(q:lift K E axj (sT f) σ H Q):ath t σ H Q:=by
 refine hi σ H _ ?_;obtain⟨ι,τ,h,S,Rh,o⟩:=q;refine⟨ι,τ,h,S,Rh,gq o λd h1 ι1 H1 v g1 r1 hr1 o1=>?_⟩
 cases r1 with
 |bl b=>exact⟨b,rfl,o1 ι1 H1 b (.refl _ _) rfl hr1⟩
 |_=>exact o1.elim
theorem a9p(ho:OpR X (compareOp op) r)(hs:a3o X.K g r)(ha:ME X E a fa)(hb:ME X E b fb)(hm:behindInMarks op b=false):MT X E (.Compare a [op] [b] pos) (sT (s2 g fa fb)) :=
 PT.weak (aom ho ha hb hm) λσ H Q q=>ape (λ_ _ _=>axk hs) q
def sCh(g g':D->D->Hd->R D)(fa fb fc:SE):SE:=λτ h=>(fa τ h).bind λx h1=>(fb τ h1).bind λy h2=>(g x y h2).bind λz h3=>match z with
 |.bl true=>(fc τ h3).bind λw h4=>g' y w h4
 |.bl false=>.ok (.bl false) h3
 |_=>.no
def tru(d:D)(h:Hd):R Bool:=match d with
 |.non=>.ok false h
 |.bl b=>.ok b h
 |.int i=>.ok (i != 0) h
 |.str x=>if x.length<=LINE then .ok ((x.length:Int) != 0) h else .no
 |.tup xs=>.ok (!xs.isEmpty) h
 |.rol xs=>.ok (!xs.isEmpty) h
 |.ref i=>match h[i]? with
  |some (.lst xs)=>.ok (!xs.isEmpty) h
  |some (.dK kvs)=>.ok (!kvs.isEmpty) h
  |_=>.no
 |_=>.no
theorem Reps.emp{K:Fg}{ι:List Addr}{H:Hp}{vs:List V}{ds:List D}(r:Reps K ι H vs ds):vs.isEmpty=ds.isEmpty:=by cases r<;>rfl
theorem KRep.emp{κ:Type}{K:Fg}{ι:List Addr}{H:Hp}{us:List (κ×V)}{kvs:List (κ×D)}(r:KRep K ι H us kvs):us.isEmpty=kvs.isEmpty:=by
 have:=aP List.length r.1
 cases us<;>cases kvs<;>simp at this ⊢
theorem apf{K:Fg}{ι:List Addr}{H:Hp}{h:Hd}{x:V}{d:D}{Q:Bool->Hp->Prop}(r:Rep K ι H x d)(hr:HRep K ι H h)(o:out K E axj ι H (tru d h) Q):∃k,ayf K x H k/\Q k H:=by
 cases r with
 |non=>exact⟨false,rfl,o ι H _ (.refl _ _) rfl hr⟩
 |bl b=>exact⟨b,rfl,o ι H _ (.refl _ _) rfl hr⟩
 |int i=>exact⟨_,rfl,o ι H _ (.refl _ _) rfl hr⟩
 |str x =>
  by_cases hl:x.length<=LINE
  ·simp only[tru,aT hl]at o;exact⟨_,⟨ll hl,rfl⟩,o ι H _ (.refl _ _) rfl hr⟩
  ·simp only[tru,bA hl]at o;exact o.elim
 |ty n=>exact o.elim
 |rod _ _ _=>exact o.elim
 |scr _ _=>exact o.elim
 |rdT _ _ _=>exact o.elim
 |exc _ _ _=>exact o.elim
 |ins _ _ _ _=>exact o.elim
 |tup e rs=>exact⟨_,.inr (.inl ⟨_,SqT.of e,rfl⟩),by rw[rs.emp];exact o ι H _ (.refl _ _) rfl hr⟩
 |rol e rs=>exact⟨_,.inl ⟨_,e.l,rfl⟩,by rw[rs.emp];exact o ι H _ (.refl _ _) rfl hr⟩
 |@ref a i e =>
  obtain⟨ob,h1,h2⟩:=hr.at e;simp only[tru,h1]at o
  cases ob with
  |lst xs =>
   obtain⟨vs,h3,h4⟩:=h2;exact⟨_,.inl ⟨_,SqL.of h3,rfl⟩,by rw[h4.emp];exact o ι H _ (.refl _ _) rfl hr⟩
  |dK kvs =>
   obtain⟨us,h3,h4⟩:=h2;exact⟨_,.inr (.inr ⟨_,h3,rfl⟩),by rw[h4.emp];exact o ι H _ (.refl _ _) rfl hr⟩
  |dT kvs=>exact o.elim
  |ins _ _=>exact o.elim
def a4f(f:SE):ST:=λτ h=>(f τ h).bind tru
theorem yh(ha:ME X E a fa)(he:∀whole,isTrue a X.env whole=(do let v <-whole;standAt a.pos;holding [v] (truthy v)):=by intro _;rfl):MT X E a (a4f fa):=by
 refine PT.weak (akf ha he) ?_
 rintro σ H Q ⟨ι,τ,h,S,Rh,o⟩
 exact⟨ι,τ,h,S,Rh,gq o λd h1 ι1 H1 v g1 r1 hr1 o1=>apf r1 hr1 o1⟩
def a6j(f g:ST):ST:=λτ h=>(f τ h).bind λb h1=>if b=true then g τ h1 else .ok false h1
def sOr(f g:ST):ST:=λτ h=>(f τ h).bind λb h1=>if b=true then .ok true h1 else g τ h1
def a6o(f:ST):ST:=λτ h=>(f τ h).bind λb h1=>.ok (!b) h1
variable{ga gb:ST}
theorem a2n(ha:MT X E a ga):MW X E (.BoolOp .And [a] pos) ga:=aoc ha
theorem a5f(ha:MT X E a ga):MW X E (.BoolOp .Or [a] pos) ga:=asq ha
theorem a5g{aG:List Expr}(ha:MT X E a ga)(hb:MW X E (.BoolOp .And (b::aG) pos) gb):MW X E (.BoolOp .And (a::b::aG) pos) (a6j ga gb):=by
 refine PW.weak (asr ha hb) ?_
 rintro σ H Q ⟨ι,τ,h,S,Rh,o⟩
 refine⟨ι,τ,h,S,Rh,gq o λd h1 ι1 H1 v g1 r1 hr1 o1=>?_⟩;cases r1
 cases d with
 |true=>exact⟨ι1,τ,h1,S.mono g1,hr1,o1⟩
 |false=>exact o1 ι1 H1 false (.refl _ _) rfl hr1
theorem a9q{aG:List Expr}(ha:MT X E a ga)(hb:MW X E (.BoolOp .Or (b::aG) pos) gb):MW X E (.BoolOp .Or (a::b::aG) pos) (sOr ga gb):=by
 refine PW.weak (axx ha hb) ?_
 rintro σ H Q ⟨ι,τ,h,S,Rh,o⟩
 refine⟨ι,τ,h,S,Rh,gq o λd h1 ι1 H1 v g1 r1 hr1 o1=>?_⟩;cases r1
 cases d with
 |true=>exact o1 ι1 H1 true (.refl _ _) rfl hr1
 |false=>exact⟨ι1,τ,h1,S.mono g1,hr1,o1⟩
theorem a1e(ha:MT X E a ga):MT X E (.UnaryOp .Not a pos) (a6o ga):=by
 refine PT.weak (ass ha) ?_
 rintro σ H Q ⟨ι,τ,h,S,Rh,o⟩
 refine⟨ι,τ,h,S,Rh,gq o λd h1 ι1 H1 v g1 r1 hr1 o1=>?_⟩;cases r1
 exact o1 ι1 H1 _ (.refl _ _) rfl hr1
def a6p(f g:SE):SE:=λτ h=>(f τ h).bind λd h1=>match d with|.bl true=>g τ h1|.bl false=>.ok (.bl false) h1|_=>.no
def axl(f g:SE):SE:=λτ h=>(f τ h).bind λd h1=>match d with|.bl true=>.ok (.bl true) h1|.bl false=>g τ h1|_=>.no
def a9r(f:SE):SE:=λτ h=>(f τ h).bind λd h1=>match d with|.bl b=>.ok (.bl (!b)) h1|_=>.no
theorem an4{op}(ha:ME X E a fa):ME X E (.BoolOp op [a] pos) fa:=asu ha
theorem an5{aG:List Expr}(ha:ME X E a fa)(hb:ME X E (.BoolOp .And (b::aG) pos) fb):ME X E (.BoolOp .And (a::b::aG) pos) (a6p fa fb):=by
 refine PE.weak (asv ha hb) ?_
 rintro σ H Q ⟨ι,τ,h,S,Rh,o⟩
 refine⟨ι,τ,h,S,Rh,gq o λd h1 ι1 H1 v g1 r1 hr1 o1=>?_⟩
 cases r1 with
 |bl k =>
  refine⟨k,rfl,?_⟩
  cases k with
  |true=>exact⟨ι1,τ,h1,S.mono g1,hr1,o1⟩
  |false=>exact o1 ι1 H1 _ (.refl _ _) (.bl _) hr1
 |_=>exact o1.elim
theorem au6(ha:ME X E a fa):ME X E (.UnaryOp .Not a pos) (a9r fa):=by
 refine PE.weak (asw ha) ?_
 rintro σ H Q ⟨ι,τ,h,S,Rh,o⟩
 refine⟨ι,τ,h,S,Rh,gq o λd h1 ι1 H1 v g1 r1 hr1 o1=>?_⟩
 cases r1 with
 |bl k=>exact⟨k,rfl,o1 ι1 H1 _ (.refl _ _) (.bl _) hr1⟩
 |_=>exact o1.elim
def aat(c:ST)(f g:SE):SE:=λτ h=>(c τ h).bind λb h1=>if b=true then f τ h1 else g τ h1
theorem a8z(hc:MT X E c ga)(ha:ME X E a fa)(hb:ME X E b fb):ME X E (.IfExp c a b pos) (aat ga fa fb):=by
 refine PE.weak (ak8 hc ha hb) ?_
 rintro σ H Q ⟨ι,τ,h,S,Rh,o⟩
 refine⟨ι,τ,h,S,Rh,gq o λd h1 ι1 H1 v g1 r1 hr1 o1=>?_⟩;cases r1
 cases d with
 |true=>exact⟨ι1,τ,h1,S.mono g1,hr1,o1⟩
 |false=>exact⟨ι1,τ,h1,S.mono g1,hr1,o1⟩
def bw:SA:=λ_ h=>.ok [] h
def ak(f:SE)(g:SA):SA:=λτ h=>(f τ h).bind λd h1=>(g τ h1).bind λds h2=>.ok (d::ds) h2
variable{es:List Expr}{ka:SA}
theorem au:MA X E [] bw:=PA.weak amw λσ H Q ⟨ι,τ,h,S,Rh,o⟩=>o ι H [] (.refl _ _) .nil Rh
theorem aj(ha:ME X E e fa)(hr:MA X E es ka)(hs:starEach (e::es) X.env=(false,eval e X.env)::starEach es X.env:=by rfl):MA X E (e::es) (ak fa ka):=by
 refine PA.weak (acr ha hr hs) ?_
 rintro σ H Q ⟨ι,τ,h,S,Rh,o⟩
 refine⟨ι,τ,h,S,Rh,gq o λd h1 ι1 H1 v g1 r1 hr1 o1=>?_⟩;refine⟨ι1,τ,h1,S.mono g1,hr1,gq o1 λd2 h2 ι2 H2 u g2 r2 hr2 o2=>?_⟩;exact o2 ι2 H2 _ (.refl _ _) (.cons (r1.mono g2) r2) hr2
def a1c(ds:List D)(h:Hd):R D:=if ds.length<=LINE then .ok (.tup ds) h else .no
def a3f(ds:List D)(h:Hd):R D:=if ds.length<=LINE then .ok (.ref h.length) (h++[.lst ds]) else .no
def sA(g:List D->Hd->R D)(k:SA):SE:=λτ h=>(k τ h).bind g
theorem a3p(r:Reps K ι H vs ds)(hr:HRep K ι H h)(o:out K E (a3j K) ι H (.ok (.tup ds) h) Q):∀p,H p=none->Q (.ref p) (upd H p (.tup vs)):=λp hp =>
 o ι _ _ (a3e hp _) (.tup ph (r.mono (a3e hp _))) (hr.aside hp _)
theorem a2o(r:Reps K ι H vs ds)(hr:HRep K ι H h)(o:out K E (a3j K) ι H (.ok (.ref h.length) (h++[.lst ds])) Q):∀p,H p=none->Q (.ref p) (upd H p (.lst vs)):=λp hp =>
 o (ι++[p]) _ _ (ae0 hp _) (.ref (by rw[aN (by rw[hr.len];exact aJ _),hr.len];simp)) (hr.add hp ⟨_,ph,r.mono (ae0 hp _)⟩)
theorem ad1{K:Fg}{ι:List Addr}{H:Hp}{h:Hd}{i:Nat}{a:Addr}{vs:List V}{ds:List D}{d:D}{v:V}{Q:VK}(r:Reps K ι H vs ds)(hr:HRep K ι H h)(hi:ι[i]? = some a)(rd:Rep K ι H v d)(o:out K E (a3j K) ι H (.ok d (h.set i (.lst ds))) Q):Q v (upd H a (.lst vs)) :=
 o ι _ _ (a2e hr hi _) (rd.mono (a2e hr hi _)) (hr.put hi ⟨_,ph,r.mono (a2e hr hi _)⟩)
theorem yj{x1}(h:MA X E es ka):ME X E (.Tuple es x1 pos) (sA a1c ka):=by
 refine PE.weak (atk h) ?_
 rintro σ H Q ⟨ι,τ,h,S,Rh,o⟩
 refine⟨ι,τ,h,S,Rh,gq o λd h1 ι1 H1 v g1 r1 hr1 o1=>?_⟩;unfold a1c at o1
 split at o1
 ·rename_i hl;exact⟨ll (by rw[r1.len];exact hl),a3p r1 hr1 o1⟩
 ·exact o1.elim
theorem zf(h:MA X E es ka):ME X E (.List es pos) (sA a3f ka):=by
 refine PE.weak (atl h) ?_
 rintro σ H Q ⟨ι,τ,h,S,Rh,o⟩
 refine⟨ι,τ,h,S,Rh,gq o λd h1 ι1 H1 v g1 r1 hr1 o1=>?_⟩;unfold a3f at o1
 split at o1
 ·rename_i hl;exact⟨ll (by rw[r1.len];exact hl),a2o r1 hr1 o1⟩
 ·exact o1.elim
theorem a6q{x:Str}{p:Pos}{id:String}{r:List V->Hp->VK->Prop}{g:List D->Hd->R D}(hc:CallR X (.builtin id) r)(hs:ag9 X.K g r)(hg:Gl X x)(hm:X.mg x=none)(hv:bootBuiltins x=some (.builtin id))(ha:MA X E (e::es) ka)(hn:x ≠ "__name__":=by decide)(hdb:(x == ("__debug__" : Str))=false:=by decide)
  (he:starEach (e::es) X.env=(false,eval e X.env)::starEach es X.env:=by rfl) (hpl:(backTo pos (starEach es X.env)).any (·.1)=false:=by rfl):ME X E (.Call (.Name x p) (e::es) [] pos) (sA g ka):=by
 refine PE.weak (akm hc hg hm hv ha hn hdb he hpl) ?_
 rintro σ H Q ⟨ι,τ,h,S,Rh,o⟩
 exact⟨ι,τ,h,S,Rh,gq o λd h1 ι1 H1 v g1 r1 hr1 o1=>hs E ι1 H1 h1 v d Q r1 hr1 o1⟩
theorem a6r{x:Str}{p:Pos}{id:String}{r:List V->Hp->VK->Prop}{g:List D->Hd->R D}(hc:CallR X (.type id) r)(hs:ag9 X.K g r)(hg:Gl X x)(hm:X.mg x=none)(hv:bootBuiltins x=some (.type id))(ha:MA X E (e::es) ka)(hn:x ≠ "__name__":=by decide)(hdb:(x == ("__debug__" : Str))=false:=by decide)
  (he:starEach (e::es) X.env=(false,eval e X.env)::starEach es X.env:=by rfl) (hpl:(backTo pos (starEach es X.env)).any (·.1)=false:=by rfl):ME X E (.Call (.Name x p) (e::es) [] pos) (sA g ka):=by
 refine PE.weak (agu hc hg hm hv ha hn hdb he hpl) ?_
 rintro σ H Q ⟨ι,τ,h,S,Rh,o⟩
 exact⟨ι,τ,h,S,Rh,gq o λd h1 ι1 H1 v g1 r1 hr1 o1=>hs E ι1 H1 h1 v d Q r1 hr1 o1⟩
end
def dw(f g:SS):SS:=λτ h=>match f τ h with|.nx τ1 h1=>g τ1 h1|r=>r
def sNx:SS:=λτ h=>.nx τ h
def uo(f:SE):SS:=λτ h=>(f τ h).fl λd h1=>.rt d h1
def ue(f:SE):SS:=λτ h=>(f τ h).fl λ_ h1=>.nx τ h1
def sIf(c:ST)(f g:SS):SS:=λτ h=>(c τ h).fl λb h1=>if b=true then f τ h1 else g τ h1
def m7(i:Nat)(f:SE):SS:=λτ h=>(f τ h).fl λd h1=>.nx (τ.set i (some d)) h1
def afl(i:Nat)(g:D->D->Hd->R D)(f:SE):SS:=λτ h=>match τ[i]? with
 |some (some x)=>(f τ h).fl λy h1=>(g x y h1).fl λz h2=>.nx (τ.set i (some z)) h2
 |_=>.no
section
variable{X:Cx}{E:XD}{e o:Expr}{es:List Expr}{fa fb fc:SE}{ga:ST}{st:Stmt}{sts a b:List Stmt}{f g:SS}{pos:Pos}
theorem jd:MSs X E [] sNx:=PSs.weak aod λN σ H ⟨ι,τ,h,S,Rh,o⟩=>o ι H σ (.refl _ _) S Rh
theorem au7(q:a9o K E (dw f g) N σ H):a9o K E f {N with nx:=a9o K E g N} σ H:=by
 obtain⟨ι,τ,h,S,Rh,o⟩:=q;refine⟨ι,τ,h,S,Rh,?_⟩;unfold dw at o
 cases hf:f τ h with
 |nx τ1 h1 =>
  rw[hf]at o;exact λι1 H1 σ1 g1 S1 R1=>⟨ι1,τ1,h1,S1,R1,yg o g1⟩
 |_=>rw[hf]at o;exact o
theorem ao(h1:MS X E st f)(h2:MSs X E sts g):MSs X E (st::sts) (dw f g):=PSs.weak (ak9 h1 h2) λN σ H q=>au7 q
theorem bu(h1:MS X E st f):MSs X E [st] f:=aoe h1
theorem jk(he:ME X E e fa):MS X E (.Return (some e) pos) (uo fa):=by
 refine PS.weak (asx he) ?_
 rintro N σ H ⟨ι,τ,h,S,Rh,o⟩
 exact⟨ι,τ,h,S,Rh,sy o λd h1 ι1 H1 v g1 r1 hr1 o1=>o1 ι1 H1 v (.refl _ _) r1 hr1⟩
theorem qu(he:ME X E e fa)(hs:swapsWith e none pos.line X.env=pure false:=by rfl):MS X E (.Expr e pos) (ue fa):=by
 refine PS.weak (aog he hs) ?_
 rintro N σ H ⟨ι,τ,h,S,Rh,o⟩
 exact⟨ι,τ,h,S,Rh,sy o λd h1 ι1 H1 v g1 r1 hr1 o1=>o1 ι1 H1 σ (.refl _ _) (S.mono g1) hr1⟩
theorem qw(hc:MT X E c ga)(ha:MSs X E a f)(hb:MSs X E b g):MS X E (.If c a b pos) (sIf ga f g):=by
 refine PS.weak (ay2 hc ha hb) ?_
 rintro N σ H ⟨ι,τ,h,S,Rh,o⟩
 refine⟨ι,τ,h,S,Rh,sy o λd h1 ι1 H1 v g1 r1 hr1 o1=>?_⟩;cases r1
 cases d with
 |true=>exact⟨ι1,τ,h1,S.mono g1,hr1,o1⟩
 |false=>exact⟨ι1,τ,h1,S.mono g1,hr1,o1⟩
theorem au8(hN:X.N.Nodup)(hi:X.N[i]? = some x)(hx:Loc X.env.scope x)(he:ME X E e fa)(hs:swapsWith e (some (.Name x pos')) pos.line X.env=pure false:=by rfl)(hf:Hf X x:=by first|exact .inl rfl|exact .inr rfl|assumption) :
  MS X E (.Assign [.Name x pos'] e pos) (m7 i fa):=by
 refine PS.weak (at7 hN hi hx he hs hf) ?_
 rintro N σ H ⟨ι,τ,h,S,Rh,o⟩
 exact⟨ι,τ,h,S,Rh,sy o λd h1 ι1 H1 v g1 r1 hr1 o1=>o1 ι1 H1 _ (.refl _ _) ((S.mono g1).set r1 i) hr1⟩
theorem ae1(hN:X.N.Nodup)(hi:X.N[i]? = some x)(hx:Loc X.env.scope x)(ho:OpR X (inplaceOp op) r)(hs:a3o X.K gg r)(he:ME X E e fa)(hf:Hf X x:=by first|exact .inl rfl|exact .inr rfl|assumption) :
  MS X E (.AugAssign (.Name x pos') op e pos) (afl i gg fa):=by
 refine PS.weak (at8 hN hi hx he ho hf) ?_
 rintro N σ H ⟨ι,τ,h,S,Rh,o⟩
 unfold afl at o
 split at o
 ·rename_i d ed;obtain⟨v,h1,h2⟩:=S.val i d ed;refine⟨v,h1,ι,τ,h,S,Rh,sy o λd2 h3 ι1 H1 u g1 r1 hr1 o1=>?_⟩;refine hs E ι1 H1 h3 v u d d2 _ (h2.mono g1) r1 hr1 (sy o1 λd3 h4 ι2 H2 z g2 r2 hr2 o2=>?_);exact o2 ι2 H2 _ (.refl _ _) (((S.mono g1).mono g2).set r2 i) hr2
 ·exact o.elim
def put(o k v:D)(h:Hd):Option Hd:=match o,k with
 |.ref i,.int j=>match h[i]? with
  |some (.lst xs)=>match ixN xs.length j with
   |some m=>some (h.set i (.lst (xs.set m v)))
   |none=>none
  |_=>none
 |_,_=>none
theorem ahh{K:Fg}{ι:List Addr}{H:Hp}{h h':Hd}{o k v:V}{od kd vd:D}{Q:Hp->Prop}(r1:Rep K ι H o od)(r2:Rep K ι H k kd)(r3:Rep K ι H v vd)(hr:HRep K ι H h)(e:put od kd vd h=some h')
  (q:∀H',Gr ι H ι H'->HRep K ι H' h'->Q H'):atq o k v H Q:=by
 cases r1 with
 |@ref a i ha =>
  cases r2 with
  |int j =>
   obtain⟨ob,h1,h2⟩:=hr.at ha
   cases ob with
   |lst xs =>
    obtain⟨vs,h3,h4⟩:=h2;simp only[put,h1]at e
    cases hm:ixN xs.length j with
    |none=>rw[hm]at e;cases e
    |some m =>
     rw[hm]at e;cases e
     exact⟨a,vs,j,m,rfl,rfl,h3,by rw[h4.len];exact hm,q _ (a2e hr ha _) (hr.put ha ⟨_,ph,(h4.set r3 m).mono (a2e hr ha _)⟩)⟩
   |dK _=>simp only[put,h1]at e;cases e
   |dT _=>simp only[put,h1]at e;cases e
   |ins _ _=>simp only[put,h1]at e;cases e
  |_=>cases e
 |_=>cases e
def a6s(fe fo fi:SE):SS:=λτ h=>(fe τ h).fl λv h1=>(fo τ h1).fl λo h2=>(fi τ h2).fl λk h3=>match put o k v h3 with|some h4=>.nx τ h4|none=>.no
theorem a4m(he:ME X E e fa)(ho:ME X E o fb)(hi:ME X E i fc)
  (hs:swapsWithSole [.Subscript o i pos'] e pos.line X.env=pure false:=by rfl) (hw:swappedStores [.Subscript o i pos'] e X.env=pure none:=by rfl)
  (h1:(assignEach [.Subscript o i pos'] X.env).map (·.2)=[assign (.Subscript o i pos') X.env]:=by rfl)
  (ha:∀v,assign (.Subscript o i pos') X.env v=(do
   let ov <-holding [v] (eval o X.env)
   let iv <-holding [v,ov] (eval i X.env)
   standAt pos'
   holding [v,ov,iv] (setItem ov iv v)
   release [v,ov,iv] []):=by intro _;rfl):MS X E (.Assign [.Subscript o i pos'] e pos) (a6s fa fb fc):=by
 refine PS.weak (amu he (at6 ho hi set_list ha) hs hw h1) ?_
 rintro N σ H ⟨ι,τ,h,S,Rh,oo⟩
 refine⟨ι,τ,h,S,Rh,sy oo λd h1 ι1 H1 v g1 r1 hr1 o1=>?_⟩;refine⟨ι1,τ,h1,S.mono g1,hr1,sy o1 λd2 h2 ι2 H2 u g2 r2 hr2 o2=>?_⟩;refine⟨ι2,τ,h2,(S.mono g1).mono g2,hr2,sy o2 λd3 h3 ι3 H3 w g3 r3 hr3 o3=>?_⟩
 cases hp:put d2 d3 d h3 with
 |none=>rw[hp]at o3;exact o3.elim
 |some h4 =>
  rw[hp]at o3;exact ahh (r2.mono g3) r3 ((r1.mono g2).mono g3) hr3 hp λH' g4 hr4=>o3 ι3 H' σ g4 ((((S.mono g1).mono g2).mono g3).mono g4) hr4
def sWh(c:ST)(f:SS):Nat->SS
 |0,_,_=>.no
 |n+1,τ,h=>(c τ h).fl λb h1=>if b=true then (match f τ h1 with|.nx τ2 h2=>sWh c f n τ2 h2|.ct τ2 h2=>sWh c f n τ2 h2|.bk τ2 h2=>.nx τ2 h2|r=>r) else .nx τ h1
theorem a5h(n:Nat)(hp:PassesOwn (model X.prog X.w) X.A X.env X.xe)(hc:MT X E c ga)(hb:MSs X E a f):MS X E (.While c a [] pos) (sWh ga f n):=by
 refine PS.weak (akb hp hc hb) λN σ H q=>?_;refine⟨λm σ H=>a9o X.K E (sWh ga f m) N σ H,⟨n,q⟩,?_⟩
 rintro m σ1 H1 ⟨ι,τ,h,S,Rh,o⟩
 cases m with
 |zero=>exact o.elim
 |succ m =>
  refine⟨ι,τ,h,S,Rh,sy o λd h1 ι1 H1 v g1 r1 hr1 o1=>?_⟩;cases r1
  cases d with
  |false=>exact o1 ι1 H1 _ (.refl _ _) (S.mono g1) hr1
  |true =>
   refine⟨λσ' H'=>a9o X.K E (sWh ga f m) N σ' H',λσ' H' q=>⟨m,fE m,q⟩,ι1,τ,h1,S.mono g1,hr1,?_⟩;rw[aT rfl]at o1
   cases hf:f τ h1 with
   |nx τ2 h2=>rw[hf]at o1;exact λι2 H2 σ2 g2 S2 R2=>⟨ι2,τ2,h2,S2,R2,yg o1 g2⟩
   |ct τ2 h2=>rw[hf]at o1;exact λι2 H2 σ2 g2 S2 R2=>⟨ι2,τ2,h2,S2,R2,yg o1 g2⟩
   |bk τ2 h2=>rw[hf]at o1;exact o1
   |rt d h2=>rw[hf]at o1;exact o1
   |ex c h2=>rw[hf]at o1;exact o1
   |no=>rw[hf]at o1;exact o1.elim
end
abbrev SG:=D->Sd->Hd->Fl
def apg(K:Fg)(E:XD)(g:SG):TG:=λv σ H Q=>∃ι τ h d,Rep K ι H v d/\SRep K ι H σ τ/\HRep K ι H h/\ak0 K E ι H (g d τ h) {nx:=Q,rt:=λ_ _=>False}
abbrev MG(X:Cx)(E:XD)(tg:Expr)(g:SG):Prop:=PG X tg (apg X.K E g)
abbrev SGs:=List D->Sd->Hd->Fl
def ahi(K:Fg)(E:XD)(g:SGs):TGs:=λvs σ H Q=>∃ι τ h ds,Reps K ι H vs ds/\SRep K ι H σ τ/\HRep K ι H h/\ak0 K E ι H (g ds τ h) {nx:=Q,rt:=λ_ _=>False}
abbrev MGs(X:Cx)(E:XD)(tg:List Expr)(g:SGs):Prop:=PGs X tg (ahi X.K E g)
theorem PG.weak(h:PG X e t)(i:∀v σ H Q,t' v σ H Q->t v σ H Q):PG X e t':=λaA s σ H v u Q I r q=>h aA s σ H v u Q I r (i _ _ _ _ q)
theorem PGs.weak(h:PGs X e t)(i:∀v σ H Q,t' v σ H Q->t v σ H Q):PGs X e t':=λaA s σ H v u Q I r q=>h aA s σ H v u Q I r (i _ _ _ _ q)
def kN(i:Nat):SG:=λd τ h=>.nx (τ.set i (some d)) h
def a4x:SGs:=λds τ h=>match ds with|[]=>.nx τ h|_=>.no
def iy(g:SG)(k:SGs):SGs:=λds τ h=>match ds with|d::r=>(match g d τ h with|.nx τ1 h1=>k r τ1 h1|_=>.no)|[]=>.no
def a4g(n:Nat)(k:SGs):SG:=λd τ h=>match d with|.tup ds=>if ds.length=n then k ds τ h else .no|_=>.no
section
variable{X:Cx}{E:XD}{e:Expr}{es:List Expr}{fa:SE}{pos:Pos}{g:SG}{ks:SGs}
theorem dz(hN:X.N.Nodup)(hi:X.N[i]? = some x)(hx:Loc X.env.scope x)(hf:Hf X x:=by first|exact .inl rfl|exact .inr rfl|assumption):MG X E (.Name x pos) (kN i) :=
 PG.weak (agf hN hi hx hf) λv σ H Q ⟨ι,τ,h,d,r,S,Rh,o⟩=>o ι H _ (.refl _ _) (S.set r i) Rh
theorem xn:MGs X E [] a4x:=by
 refine PGs.weak aoh ?_
 rintro vs σ H Q ⟨ι,τ,h,ds,r,S,Rh,o⟩
 cases r with
 |nil=>exact⟨rfl,o ι H σ (.refl _ _) S Rh⟩
 |cons _ _=>exact o.elim
theorem aky(q:ahi K E (iy g ks) vs σ H Q):asz (apg K E g) (ahi K E ks) vs σ H Q:=by
 obtain⟨ι,τ,h,ds,r,S,Rh,o⟩:=q
 cases r with
 |nil=>exact o.elim
 |@cons v d vs ds r rs =>
  refine⟨v,vs,rfl,ι,τ,h,d,r,S,Rh,?_⟩;simp only[iy]at o
  cases hg:g d τ h with
  |nx τ1 h1 =>
   rw[hg]at o;exact λι1 H1 σ1 g1 S1 R1=>⟨ι1,τ1,h1,ds,rs.mono g1,S1,R1,yg o g1⟩
  |_=>rw[hg]at o;exact o.elim
theorem a0o(hc:X.calm=true)(h:MGs X E es ks)(hn:(assignEach es X.env).length=n:=by rfl)(hst:(assignEach es X.env).findIdx? (·.1)=none:=by rfl):MG X E (.Tuple es k pos) (a4g n ks):=by
 refine PG.weak (at5 hc h hn hst) ?_
 rintro v σ H Q ⟨ι,τ,h,d,r,S,Rh,o⟩
 cases r with
 |@tup a vs xs e rs =>
  simp only[a4g]at o
  by_cases hl:xs.length=n
  ·rw[aT hl]at o;exact⟨a,vs,rfl,SqT.of e,by rw[rs.len];exact hl,ι,τ,h,xs,rs,S,Rh,o⟩
  ·rw[bA hl]at o;exact o.elim
 |_=>exact o.elim
def a77(f:SE)(g:SG):SS:=λτ h=>(f τ h).fl λd h1=>match g d τ h1 with|.nx τ2 h2=>.nx τ2 h2|_=>.no
theorem a2f(he:ME X E e fa)(hg:MG X E tg g)(hs:swapsWithSole [tg] e pos.line X.env=pure false:=by rfl)(hw:swappedStores [tg] e X.env=pure none:=by rfl)
  (h1:(assignEach [tg] X.env).map (·.2)=[assign tg X.env]:=by rfl):MS X E (.Assign [tg] e pos) (a77 fa g):=by
 refine PS.weak (amu he hg hs hw h1) ?_
 rintro N σ H ⟨ι,τ,h,S,Rh,o⟩
 refine⟨ι,τ,h,S,Rh,sy o λd h1 ι1 H1 v g1 r1 hr1 o1=>⟨ι1,τ,h1,d,r1,S.mono g1,hr1,?_⟩⟩
 cases hg:g d τ h1 with
 |nx τ1 h1=>rw[hg]at o1;exact o1
 |_=>rw[hg]at o1;exact o1.elim
end
structure Itm where
 xs:List D
 ck:Hd->Prop
def au9(K:Fg)(ι0:List Addr)(H0:Hp)(J:It)(it:Itm):Prop:=∀ι H h,Gr ι0 H0 ι H->HRep K ι H h->it.ck h->
 (∀(i:Nat) (d:D),it.xs[i]? = some d->J.go i H/\∀x H',J.yld i H x H'->Gr ι H ι H'/\Rep K ι H' x d/\HRep K ι H' h)/\J.stop it.xs.length H
abbrev b01(K:Fg):List Addr->Hp->It->Itm->Prop:=λι H J it=>au9 K ι H J it
abbrev SI:=Sd->Hd->R Itm
abbrev MI(X:Cx)(E:XD)(tg aF:Expr)(f:SI):Prop:=PI X tg aF (lift X.K E (b01 X.K) f)
def a0p(x:Str):List D:=x.cps.toList.map λc=>D.str ⟨#[c]⟩
def ahj(d:D)(h:Hd):R Itm:=match d with
 |.tup xs=>.ok ⟨xs,λ_=>True⟩ h
 |.rol xs=>.ok ⟨xs,λ_=>True⟩ h
 |.str x=>.ok ⟨a0p x,λ_=>True⟩ h
 |.ref i=>match h[i]? with
  |some (.lst xs)=>.ok ⟨xs,λh=>h[i]? = some (.lst xs)⟩ h
  |_=>.no
 |_=>.no
def sIt(f:SE):SI:=λτ h=>(f τ h).bind ahj
theorem an6(hl:∀ι H h,Gr ι0 H0 ι H->HRep K ι H h->ck h->∃vs,SqL K H a vs/\Reps K ι H vs xs):au9 K ι0 H0 (Itl K a) ⟨xs,ck⟩:=by
 intro ι H h g hr c
 obtain⟨vs,h1,h2⟩:=hl ι H h g hr c;refine⟨λi d e=>?_,⟨vs,h1,by rw[h2.len];exact aJ _⟩⟩
 obtain⟨v,e1,r⟩:=h2.get e;refine⟨⟨vs,v,h1,e1⟩,λx H' y=>?_⟩;obtain⟨rfl,y⟩:=y;have:=y vs h1;rw[e1]at this;cases this
 exact⟨.refl _ _,r,hr⟩
theorem wk(hl:ME X E l f):MI X E tg l (sIt f):=by
 rintro aA s σ H Rr I ⟨ι,τ,h,S,Rh,o⟩
 unfold sIt at o
 cases hf:f τ h with
 |no=>rw[hf]at o;exact o.elim
 |ex c h1 =>
  rw[hf]at o;exact an2 hl aA s σ H Rr I ⟨ι,τ,h,S,Rh,by rw[hf];exact o⟩
 |ok d h1 =>
  rw[hf]at o
  cases d with
  |tup xs =>
   refine ata hl aA s σ H Rr I ⟨ι,τ,h,S,Rh,?_⟩;rw[hf]
   intro ι1 H1 v g1 r1 hr1
   cases r1 with
   |@tup a vs _ e rs =>
    refine⟨a,rfl,⟨vs,SqT.of e⟩,o ι1 H1 _ g1 ?_ hr1⟩
    intro ι2 H2 h2 g2 hr2 _
    have e2:=g2.tup _ _ e;have rs2:=rs.mono g2;refine⟨λi d ed=>?_,⟨vs,SqT.of e2,by rw[rs2.len];exact aJ _⟩⟩
    obtain⟨v,e1,r⟩:=rs2.get ed;refine⟨⟨vs,v,SqT.of e2,e1⟩,λx H' y=>?_⟩;obtain⟨rfl,y⟩:=y;have:=y vs (SqT.of e2);rw[e1]at this;cases this
    exact⟨.refl _ _,r,hr2⟩
  |rol xs =>
   refine agh hl aA s σ H Rr I ⟨ι,τ,h,S,Rh,?_⟩;rw[hf]
   intro ι1 H1 v g1 r1 hr1
   cases r1 with
   |@rol a vs _ e rs =>
    refine⟨a,rfl,⟨vs,e.l⟩,o ι1 H1 _ g1 ?_ hr1⟩;exact an6 (λι2 H2 h2 g2 hr2 _=>⟨vs,(e.mono g2).l,rs.mono g2⟩)
  |str x =>
   refine an2 hl aA s σ H Rr I ⟨ι,τ,h,S,Rh,?_⟩;rw[hf]
   intro ι1 H1 v g1 r1 hr1
   cases r1
   refine⟨x,rfl,o ι1 H1 _ g1 ?_ hr1⟩
   intro ι2 H2 h2 g2 hr2 _
   refine⟨λi d ed=>?_,by show(a0p x).length=_;simp[a0p]⟩
   simp only[a0p,aO,aV]at ed;obtain⟨c,ec,rfl⟩:=ed;refine⟨by show i<x.cps.size;have:=(ag.mp ec).1;simpa using this,λy H' q=>?_⟩
   obtain⟨rfl,c',ec',rfl⟩:=q;rw[ec]at ec';cases ec'
   exact⟨.refl _ _,.str _,hr2⟩
  |ref i =>
   simp only[R.bind,ahj]at o
   cases ho:h1[i]? with
   |none=>rw[ho]at o;exact o.elim
   |some ob =>
    rw[ho]at o
    cases ob with
    |dK _=>exact o.elim
    |dT _=>exact o.elim
    |ins _ _=>exact o.elim
    |lst xs =>
     refine agh hl aA s σ H Rr I ⟨ι,τ,h,S,Rh,?_⟩;rw[hf]
     intro ι1 H1 v g1 r1 hr1
     cases r1 with
     |@ref a _ e =>
      obtain⟨vs,e1,rs⟩:=hr1.obj i a _ e ho;refine⟨a,rfl,⟨vs,SqL.of e1⟩,o ι1 H1 _ g1 ?_ hr1⟩;refine an6 (λι2 H2 h2 g2 hr2 c=>?_);obtain⟨us,e3,rs3⟩:=hr2.obj i a _ (g2.at e) c;exact⟨us,SqL.of e3,rs3⟩
  |_=>exact o.elim
def rng(lo:Int)(n:Nat):List D:=(List.range n).map λi=>D.int (lo+(i:Nat))
def B62(j:Int):Prop := -(2^62)<=j/\j<2^62
instance (j:Int):Decidable (B62 j):=by unfold B62;exact inferInstance
def vq(ds:List D)(h:Hd):R Itm:=match ds with
 |[.int j]=>if B62 j then .ok ⟨rng 0 j.toNat,λ_=>True⟩ h else .no
 |_=>.no
def a8p(ds:List D)(h:Hd):R Itm:=match ds with
 |[.int i,.int j]=>if B62 i/\B62 j then .ok ⟨rng i (j-i).toNat,λ_=>True⟩ h else .no
 |_=>.no
def sRg(g:List D->Hd->R Itm)(k:SA):SI:=λτ h=>(k τ h).bind g
theorem an7(lo:Int)(n:Nat):au9 K ι0 H0 (Itr lo n) ⟨rng lo n,λ_=>True⟩:=by
 intro ι H h g hr _
 refine⟨λi d ed=>?_,by show n<=(rng lo n).length;simp[rng]⟩
 simp only[rng,aO,aV]at ed;obtain⟨j,ej,rfl⟩:=ed;obtain⟨hj,e⟩:=ag.mp ej;simp at e hj;subst e;refine⟨hj,λy H' q=>?_⟩;obtain⟨rfl,rfl⟩:=q;exact⟨.refl _ _,.int _,hr⟩
theorem zq(hg:Gl X "range")(hm:X.mg "range" = none)(ha:MA X E [a] k)(hs:starEach [a] X.env=[(false,eval a X.env)]:=by rfl):MI X E tg (.Call (.Name "range" p) [a] [] pos) (sRg vq k):=by
 rintro aA s σ H Rr I ⟨ι,τ,h,S,Rh,o⟩
 refine agi hg hm ha hs aA s σ H Rr I ⟨ι,τ,h,S,Rh,gq o λds h1 ι1 H1 vs g1 r1 hr1 o1=>?_⟩;unfold vq at o1
 split at o1
 ·rename_i j
  cases r1 with
  |cons r rs =>
   cases r;cases rs
   by_cases hb:B62 j
   ·rw[aT hb]at o1;exact⟨j,rfl,hb.1,hb.2,o1 ι1 H1 _ (.refl _ _) (an7 0 j.toNat) hr1⟩
   ·rw[bA hb]at o1;exact o1.elim
 ·exact o1.elim
theorem ahk(hg:Gl X "range")(hm:X.mg "range" = none)(ha:MA X E [a,b] k)(hs:starEach [a,b] X.env=[(false,eval a X.env),(false,eval b X.env)]:=by rfl)(hs2:starEach [b] X.env=[(false,eval b X.env)]:=by rfl):MI X E tg (.Call (.Name "range" p) [a,b] [] pos) (sRg a8p k):=by
 rintro aA s σ H Rr I ⟨ι,τ,h,S,Rh,o⟩
 refine agj hg hm ha hs hs2 aA s σ H Rr I ⟨ι,τ,h,S,Rh,gq o λds h1 ι1 H1 vs g1 r1 hr1 o1=>?_⟩;unfold a8p at o1
 split at o1
 ·rename_i i j
  cases r1 with
  |cons r rs =>
   cases r
   cases rs with
   |cons r rs =>
   cases r;cases rs
   by_cases hb:B62 i/\B62 j
   ·rw[aT hb]at o1;exact⟨i,j,rfl,⟨hb.1.1,hb.1.2,hb.2.1,hb.2.2⟩,o1 ι1 H1 _ (.refl _ _) (an7 i _) hr1⟩
   ·rw[bA hb]at o1;exact o1.elim
 ·exact o1.elim
open Classical in
noncomputable def forL(ck:Hd->Prop)(g:SG)(b:SS):List D->Sd->Hd->Fl
 |[],τ,h=>if ck h then .nx τ h else .no
 | x::xs,τ,h=>if ck h then (match g x τ h with
   |.nx τ1 h1=>(match b τ1 h1 with
    |.nx τ2 h2=>forL ck g b xs τ2 h2
    |.ct τ2 h2=>forL ck g b xs τ2 h2
    |.bk τ2 h2=>.nx τ2 h2
    |r=>r)
   |_=>.no) else .no
noncomputable def a3k(f:SI)(g:SG)(b:SS):SS:=λτ h=>(f τ h).fl λit h1=>forL it.ck g b it.xs τ h1
theorem aph(ir:au9 K ι0 H0 J it)(S:SRep K ι0 H0 σ0 τ0)(Rh:HRep K ι0 H0 h0)(o:ak0 K E ι0 H0 (forL it.ck g b it.xs τ0 h0) N) :
  ∃W:Nat->Nat->St->Hp->Prop,(∃m,W 0 m σ0 H0)/\∀i m σ H,W i m σ H->
   (J.stop i H/\N.nx σ H)\/(J.go i H/\∃M:St->Hp->Prop,(∀σ' H',M σ' H'->∃m',m'<m/\W (i+1) m' σ' H')/\∀x H',J.yld i H x H'->apg K E g x σ H' λσ2 H2=>a9o K E b {N with nx:=M,ct:=M,bk:=N.nx} σ2 H2):=by
 refine⟨λi m σ H=>m=it.xs.length-i/\i<=it.xs.length/\∃ι τ h,Gr ι0 H0 ι H/\SRep K ι H σ τ/\HRep K ι H h/\ak0 K E ι H (forL it.ck g b (it.xs.drop i) τ h) N,⟨_,rfl,aW _,ι0,τ0,h0,.refl _ _,S,Rh,o⟩,?_⟩
 rintro i m σ H ⟨rfl,hi,ι,τ,h,g0,S,Rh,o⟩
 by_cases hlt:i<it.xs.length
 ·rw[dF hlt,forL]at o
  by_cases hc:it.ck h
  ·rw[aT hc]at o;obtain⟨go,yl⟩:=(ir ι H h g0 Rh hc).1 i _ (af hlt);refine .inr ⟨go,λσ' H'=>it.xs.length-(i+1)<it.xs.length-i/\∃ι τ h,Gr ι0 H0 ι H'/\SRep K ι H' σ' τ/\HRep K ι H' h/\ak0 K E ι H' (forL it.ck g b (it.xs.drop (i+1)) τ h) N,λσ' H' q=>⟨_,q.1,rfl,hlt,q.2⟩,λx H' y=>?_⟩;obtain⟨g1,r1,hr1⟩:=yl x H' y;refine⟨ι,τ,h,_,r1,S.mono g1,hr1,?_⟩;have o':=yg o g1
   cases hg:g it.xs[i] τ h with
   |nx τ1 h1 =>
    rw[hg]at o';dsimp only at o'
    intro ι2 H2 σ2 g2 S2 R2
    refine⟨ι2,τ1,h1,S2,R2,?_⟩;have o2:=yg o' g2;have gg:=(g0.trans g1).trans g2
    cases hb:b τ1 h1 with
    |nx τ2 h2=>rw[hb]at o2;exact λι3 H3 σ3 g3 S3 R3=>⟨by omega,ι3,τ2,h2,gg.trans g3,S3,R3,yg o2 g3⟩
    |ct τ2 h2=>rw[hb]at o2;exact λι3 H3 σ3 g3 S3 R3=>⟨by omega,ι3,τ2,h2,gg.trans g3,S3,R3,yg o2 g3⟩
    |bk τ2 h2=>rw[hb]at o2;exact o2
    |rt d h2=>rw[hb]at o2;exact o2
    |ex c h2=>rw[hb]at o2;exact o2
    |no=>rw[hb]at o2;exact o2.elim
   |_=>rw[hg]at o';exact o'.elim
  ·rw[bA hc]at o;exact o.elim
 ·have e:i=it.xs.length:=by omega
  subst e;rw[bU (aJ _),forL]at o
  by_cases hc:it.ck h
  ·rw[aT hc]at o;exact .inl ⟨(ir ι H h g0 Rh hc).2,o ι H σ (.refl _ _) S Rh⟩
  ·rw[bA hc]at o;exact o.elim
theorem ym{X:Cx}(hp:PassesOwn (model X.prog X.w) X.A X.env X.xe)(hc:X.calm=true)(hi:MI X E tg aF f)(hg:MG X E tg g)(hb:MSs X E body b)(hs:∀x,foldedSetIterable aF X.env x=pure x:=by intro _;rfl):MS X E (.For tg aF body [] pos) (a3k f g b):=by
 refine PS.weak (atb hp hc hi hg hb hs) ?_
 rintro N σ H ⟨ι,τ,h,S,Rh,o⟩
 exact⟨ι,τ,h,S,Rh,sy o λit h1 ι1 H1 J g1 r1 hr1 o1=>aph r1 (S.mono g1) hr1 o1⟩
end MI
namespace MI
open L2
open Classical in
noncomputable def mapR(ck:Hd->Prop)(f:D->Hd->R D):List D->Hd->R (List D)
 |[],h=>if ck h then .ok [] h else .no
 |x::xs,h=>if ck h then (f x h).bind λy h1=>(mapR ck f xs h1).bind λys h2=>.ok (y::ys) h2 else .no
def frs'(ix:List Nat)(τ:Sd):Sd:=ix.map λi=>(τ[i]?).join
def t1(d:D):Option Sd:=some [some d]
def a82(t:D->Option Sd)(fe:SE)(aG:Sd)(x:D)(h:Hd):R D:=match t x with|some ts=>fe (ts++aG) h|none=>.no
def api(yd zs:List D)(h:Hd):R D:=.ok (.ref h.length) (h++[.lst (yd++zs)])
theorem aua(r:R D)(m:Hd->R (List D))(yd:List D):(r.bind λy h1=>(m h1).bind λys h2=>.ok (y::ys) h2).bind (api yd)=r.bind λy h1=>(m h1).bind (api (yd++[y])):=by
 cases r with
 |ok y h1 =>
  show((m h1).bind _).bind _=(m h1).bind _
  cases m h1 with
  |ok ys h2=>simp[R.bind,api]
  |_=>rfl
 |_=>rfl
noncomputable def mq(fi:SI)(t:D->Option Sd)(fe:SE)(ix:List Nat):SE:=λτ h=>(fi τ h).bind λit h1=>if it.xs.length<=LINE then (mapR it.ck (a82 t fe (frs' ix τ)) it.xs h1).bind (api []) else .no
def as3(K:Fg)(n:Nat)(g:TG)(t:D->Option Sd):Prop:=∀ι H v d ts (r:St) (Q:St->Hp->Prop),Rep K ι H v d->t d=some ts->(∀us:St,us.length=n->SRep K ι H us ts->Q (us++r) H)->g v (List.replicate n none++r) H Q
theorem ae2:SRep K ι H [] []:=⟨rfl,λi d e=>by simp at e⟩
theorem abg(r:Rep K ι H v d)(s:SRep K ι H σ τ):SRep K ι H (some v::σ) (some d::τ):=by
 refine⟨by simp[s.len],λi d' e=>?_⟩
 cases i with
 |zero=>simp at e;subst e;exact⟨v,rfl,r⟩
 |succ i=>simpa using s.val i d' (by simpa using e)
theorem ae3(s:SRep K ι H σ τ)(s':SRep K ι H σ' τ'):SRep K ι H (σ++σ') (τ++τ'):=by
 refine⟨by simp[s.len,s'.len],λi d e=>?_⟩
 by_cases hi:i<τ.length
 ·rw[aM hi]at e;rw[aM (by rw[s.len];exact hi)]
  exact s.val i d e
 ·rw[aN (by omega)]at e
  rw[aN (by rw[s.len];omega),s.len]
  exact s'.val _ d e
theorem ae4(s:SRep K ι H σ τ)(ix:List Nat):SRep K ι H (ix.map λi=>(σ[i]?).join) (frs' ix τ):=by
 refine⟨by simp[frs'],λj d e=>?_⟩
 simp only[frs',aO,aV]at e;obtain⟨i,hi,e⟩:=e;have:τ[i]? = some (some d):=by
  cases q:τ[i]? with
  |none=>rw[q]at e;cases e
  |some o=>rw[q]at e;simp at e;rw[e]
 obtain⟨v,h1,h2⟩:=s.val i d this;exact⟨v,by simp[hi,h1],h2⟩
theorem yo:as3 K 1 (af4 0) t1:=λι H v d ts r Q hr e q=>by
 cases e
 exact q [some v] rfl (abg hr ae2)
theorem apj{us:St}(h:us.length=n):L2.Ext (List.replicate n none++r) (us++r):=by
 refine⟨by simp[h],λi v e=>?_⟩
 by_cases hi:i<n
 ·rw[aM (by simpa using hi),dS,aT hi]at e
  cases e
 ·rw[aN (by simpa using hi),e9]at e
  rw[aN (by omega),h]
  exact e
theorem ae5(ir:au9 K ι0 H0 J it)(tg:as3 K n g t)(S:SRep K ι0 H0 r rd)(Rh:HRep K ι0 H0 h0)(hl:it.xs.length<=LINE)
  (o:out K E (a3j K) ι0 H0 ((mapR it.ck (a82 t fe rd) it.xs h0).bind (api [])) Q):ap7 J (List.replicate n none++r) g (lift K E (a3j K) fe) Q H0:=by
 refine⟨λi m ys H=>m=it.xs.length-i/\i<=it.xs.length/\ys.length<=i/\∃ι h yd,Gr ι0 H0 ι H/\HRep K ι H h/\Reps K ι H ys yd/\out K E (a3j K) ι H ((mapR it.ck (a82 t fe rd) (it.xs.drop i) h).bind (api yd)) Q,
  ⟨_,rfl,aW _,aW _,ι0,h0,[],.refl _ _,Rh,.nil,o⟩,?_⟩
 rintro i m ys H ⟨rfl,hi,hy,ι,h,yd,g0,Rh,ry,o⟩
 by_cases hlt:i<it.xs.length
 ·rw[dF hlt,mapR]at o
  by_cases hc:it.ck h
  ·rw[aT hc,aua]at o;obtain⟨go,yl⟩:=(ir ι H h g0 Rh hc).1 i _ (af hlt);refine .inr ⟨go,Nat.lt_of_le_of_lt hy (bq hlt (ll hl)),λx H' y=>?_⟩;obtain⟨g1,r1,hr1⟩:=yl x H' y;have o':=a7h o g1
   cases ht:t it.xs[i] with
   |none=>simp only[a82,ht]at o';exact o'.elim
   |some ts =>
    simp only[a82,ht]at o';refine tg ι H' x _ ts r _ r1 ht λus hus su=>⟨apj hus,ι,ts++rd,h,ae3 su (S.mono (g0.trans g1)),hr1,gq o' λd2 h2 ι2 H2 u g2 r2 hr2 o2=>?_⟩;refine⟨it.xs.length-(i+1),by omega,rfl,hlt,by simp;omega,ι2,h2,yd++[d2],(g0.trans g1).trans g2,hr2,((ry.mono g1).mono g2).snoc r2,o2⟩
  ·rw[bA hc]at o;exact o.elim
 ·have e:i=it.xs.length:=by omega
  subst e;rw[bU (aJ _),mapR]at o
  by_cases hc:it.ck h
  ·rw[aT hc]at o;refine .inl ⟨(ir ι H h g0 Rh hc).2,a2o (E:=E) ry Rh ?_⟩;simpa[R.bind,api] using o
  ·rw[bA hc]at o;exact o.elim
section
variable{X:Cx}{E:XD}{aD tg aF cnd:Expr}{aB:Scope}{pos:Pos}{cl:List (Str×Addr)}{ts fr:List Str}{ix:List Nat}{fi:SI}{g:TG}{t:D->Option Sd}{fe:SE}{fc:ST}
theorem zr(hc:X.calm=true)(S:CSc X aB cl ts fr ix)(hi:MI X E tg aF fi)(hg:∀C fp s H,PG (cxC X (ts++fr) aB cl C fp s H) tg g)(ht:as3 X.K ts.length g t)(he:∀C fp s H,ME (cxC X (ts++fr) aB cl C fp s H) E aD fe)
  (hs:∀x,foldedSetIterable aF X.env x=pure x:=by intro _;rfl):ME X E (.ListComp aD [⟨tg,aF,[],0⟩] aB pos) (mq fi t fe ix):=by
 refine PE.weak (akv (te:=lift X.K E (a3j X.K) fe) hc S hi hg he hs) ?_
 rintro σ H Q ⟨ι,τ,h,Sr,Rh,o⟩
 refine⟨ι,τ,h,Sr,Rh,gq o λit h1 ι1 H1 J g1 r1 hr1 o1=>?_⟩
 by_cases hl:it.xs.length<=LINE
 ·rw[aT hl]at o1;exact ae5 r1 ht (ae4 (Sr.mono g1) ix) hr1 hl o1
 ·rw[bA hl]at o1;exact o1.elim
end
mutual
def clo(n:Nat):D->Prop
 |.tup xs=>clos n xs
 |.rol xs=>clos n xs
 |.rod _ xs=>clos n xs
 |.scr xs=>clos n xs
 |.rdT _ xs=>clos n xs
 |.ins _ _ xs=>clos n xs
 |.ref i=>i<n
 |_=>True
def clos(n:Nat):List D->Prop
 |[]=>True
 |x::xs=>clo n x/\clos n xs
end
mutual
theorem Rep.clo:∀{v:V} {d:D},Rep K ι H v d->clo ι.length d
 |_,_,.non=>by simp[MI.clo]
 |_,_,.bl b=>by simp[MI.clo]
 |_,_,.int i=>by simp[MI.clo]
 |_,_,.str x=>by simp[MI.clo]
 |_,_,.ty n=>by simp[MI.clo]
 |_,_,.tup h r=>by simp only[MI.clo];exact Reps.clo r
 |_,_,.rol h r=>by simp only[MI.clo];exact Reps.clo r
 |_,_,.ref h=>by simp only[MI.clo];exact(ag.mp h).1
 |_,_,.rod h e r=>by simp only[MI.clo];exact Reps.clo r
 |_,_,.scr h r=>by simp only[MI.clo];exact Reps.clo r
 |_,_,.rdT h e r=>by simp only[MI.clo];exact Reps.clo r
 |_,_,.exc h hc hn=>by simp[MI.clo]
 |_,_,.ins h hn e r=>by simp only[MI.clo];exact Reps.clo r
theorem Reps.clo:∀{vs:List V} {ds:List D},Reps K ι H vs ds->clos ι.length ds
 |_,_,.nil=>by simp[MI.clos]
 |_,_,.cons r rs=>by simp only[MI.clos];exact⟨Rep.clo r,Reps.clo rs⟩
end
mutual
theorem Rep.cut:∀{v:V} {d:D},Rep K ι H v d->clo n d->Rep K (ι.take n) H v d
 |_,_,.non,_=>.non
 |_,_,.bl b,_=>.bl b
 |_,_,.int i,_=>.int i
 |_,_,.str x,_=>.str x
 |_,_,.ty n,_=>.ty n
 |_,_,.tup h r,c=>.tup h (Reps.cut r (by simpa only[MI.clo] using c))
 |_,_,.rol h r,c=>.rol h (Reps.cut r (by simpa only[MI.clo] using c))
 |_,_,.ref h,c=>.ref (by simp only[MI.clo]at c;rw[eU,aT c];exact h)
 |_,_,.rod h e r,c=>.rod h e (Reps.cut r (by simpa only[MI.clo] using c))
 |_,_,.scr h r,c=>.scr h (Reps.cut r (by simpa only[MI.clo] using c))
 |_,_,.rdT h e r,c=>.rdT h e (Reps.cut r (by simpa only[MI.clo] using c))
 |_,_,.exc h hc hn,_=>.exc h hc hn
 |_,_,.ins h hn e r,c=>.ins h hn e (Reps.cut r (by simpa only[MI.clo] using c))
theorem Reps.cut:∀{vs:List V} {ds:List D},Reps K ι H vs ds->clos n ds->Reps K (ι.take n) H vs ds
 |_,_,.nil,_=>.nil
 |_,_,.cons r rs,c=>by simp only[MI.clos]at c;exact .cons (Rep.cut r c.1) (Reps.cut rs c.2)
end
def vy(n:Nat):O->Prop
 |.lst xs=>clos n xs
 |.dK kvs=>clos n (kvs.map (·.2))
 |.dT kvs=>clos n (kvs.map (·.2))
 |.ins _ fs=>clos n (fs.map (·.2))
def aub(n:Nat)(h:Hd):Prop:=∀o∈h,vy n o
theorem ORep.clo(r:ORep K ι H a o):vy ι.length o:=by
 cases o with
 |lst xs=>obtain⟨vs,_,r⟩:=r;exact r.clo
 |dK kvs=>obtain⟨us,_,_,r⟩:=r;exact r.clo
 |dT kvs=>obtain⟨us,_,_,r⟩:=r;exact r.clo
 |ins _ _=>obtain⟨_,_,us,_,_,_,r⟩:=r;exact r.clo
theorem ORep.cut(r:ORep K ι H a o)(c:vy n o):ORep K (ι.take n) H a o:=by
 cases o with
 |lst xs=>obtain⟨vs,h,r⟩:=r;exact⟨vs,h,r.cut c⟩
 |dK kvs=>obtain⟨us,h,e,r⟩:=r;exact⟨us,h,e,r.cut c⟩
 |dT kvs=>obtain⟨us,h,e,r⟩:=r;exact⟨us,h,e,r.cut c⟩
 |ins _ _=>obtain⟨C,dx,us,h,hn,e,r⟩:=r;exact⟨C,dx,us,h,hn,e,r.cut c⟩
theorem HRep.clo(r:HRep K ι H h):aub h.length h:=λo ho=>by
 obtain⟨i,hi⟩:=bY ho;obtain⟨a,_,q⟩:=r.addr hi;rw[<-r.len];exact q.clo
theorem HRep.cut(r:HRep K ι H (h++g))(c:aub h.length h):HRep K (ι.take h.length) H h:=by
 refine⟨r.nd.sublist (List.take_sublist _ _),?_,λi a o e1 e2=>?_⟩
 ·have:=r.len
  rw[ai]at this;rw[bV];omega
 ·have hi:i<h.length:=(ag.mp e2).1;rw[eU,aT hi]at e1;exact(r.obj i a o e1 (by rw[aM hi];exact e2)).cut (c o (aQ e2))
def X0:XD:=λ_ _ _ _=>False
abbrev SF:=List D->Hd->R D
def a0i(K:Fg)(n:Nat)(F:SF):Sp:=λvs H Q _=>vs.length=n/\∃ι ds h,Reps K ι H vs ds/\HRep K ι H h/\out K X0 (a3j K) ι H (F ds h) Q
def a83(n:Nat)(ds:List D):Sd:=ds.map some++List.replicate (n-ds.length) none
def m8(b:SS)(n:Nat)(ds:List D)(h:Hd):R D:=match b (a83 n ds) h with
 |.rt d h1=>.ok d h1
 |.nx _ h1=>.ok .non h1
 |.ex c h1=>.ex c h1
 |_=>.no
def Rf(n:Nat)(r' r:R D):Prop:=match r with
 |.no=>True
 |.ok d h1=>∃g,r'=.ok d (h1++g)/\(g=[]\/(n<=h1.length/\clo h1.length d/\aub h1.length h1))
 |.ex c h1=>∃g,r'=.ex c (h1++g)/\(g=[]\/(n<=h1.length/\aub h1.length h1))
theorem Rf.same(h:r'=r):Rf n r' r:=by
 subst h
 cases r' with
 |ok d h1=>exact⟨[],by simp,.inl rfl⟩
 |ex c h1=>exact⟨[],by simp,.inl rfl⟩
 |no=>exact True.intro
theorem afm(r:Reps K ι H vs ds):SRep K ι H (start N vs) (a83 N.length ds):=by
 refine ae3 ?_ ?_
 ·clear N
  induction r using Reps.rec (motive_1:=λ_ _ _=>True) with
  |nil=>exact ae2
  |cons r rs _ ih=>exact abg r ih
  |_=>trivial
 ·rw[r.len];exact⟨by simp,λi d e=>by rw[dS]at e;split at e<;>cases e⟩
theorem an8(g:Gr ι H ι' H')(hn:ι.length<=n):Gr ι H (ι'.take n) H':=by
 obtain⟨m,rfl,hm⟩:=g.pre;exact⟨⟨m.take (n-ι.length),by rw[List.take_append,cy hn],λa ha=>hm a (cT ha)⟩,g.tup,g.frz,g.oth,g.kp⟩
section
variable{P:Program}{w:World}{K:Fg}{mg:Str->Option Value}{base:Heap}
theorem auc(Fu:Fun K x qual st f fd)(S:FnScope N ps (az st))
  (hb:∀(cdv:Value) (A:Around) (outer:List Env) (s:Shared) (H:Hp) (E:XK),Room k (A.deeper (PyProof.Rows.envOfC qual (az st) s.heap.objs.size f cdv))->MSs (a5b CX0 P w K mg base N qual (az st) f cdv A outer s H E).nox X0 (jz st) b)
  (hF:∀ds h,ds.length=ps.length->clos h.length ds->aub h.length h->Rf h.length (m8 b N.length ds h) (F ds h)):FnOk P w K mg base CX0 (k+1) f fd ps (a0i K ps.length F):=by
 refine Fu.ok S (λvs H Q E h=>h.1) λcdv A outer s H vs Q E hr h=>⟨_,hb cdv A outer s H E hr,?_⟩;obtain⟨hl,ι,ds,h,r,hr',o⟩:=h;refine⟨ι,a83 N.length ds,h,afm r,hr',?_⟩;have q:=hF ds h (by rw[<-r.len];exact hl) (by rw[<-hr'.len];exact r.clo) hr'.clo
 unfold m8 at q
 cases hFd:F ds h with
 |no=>rw[hFd]at o;exact o.elim
 |ex c h1 =>
  rw[hFd]at q o;obtain⟨g,e,cl⟩:=q;have fin:∀ι' H',Gr ι H ι' H'->HRep K ι' H' (h1++g)->X0 c ι' H' (h1++g):=λι' H' g1 hr1=>by
   rcases cl with rfl|⟨hn,c2⟩
   ·rw[bT]at hr1;exact o ι' H' g1 hr1
   ·exact o (ι'.take h1.length) H' (an8 g1 (by rw[hr'.len];exact hn)) (hr1.cut c2)
  cases hbd:b (a83 N.length ds) h with
  |ex c' h' =>
   rw[hbd]at e
   injection e with e1 e2
   subst e1 e2;exact fin
  |_=>rw[hbd]at e;cases e
 |ok d h1 =>
  rw[hFd]at q o;obtain⟨g,e,cl⟩:=q;have fin:∀ι' H' v,Gr ι H ι' H'->Rep K ι' H' v d->HRep K ι' H' (h1++g)->Q v H':=λι' H' v g1 r1 hr1=>by
   rcases cl with rfl|⟨hn,c1,c2⟩
   ·rw[bT]at hr1;exact o ι' H' v g1 r1 hr1
   ·exact o (ι'.take h1.length) H' v (an8 g1 (by rw[hr'.len];exact hn)) (r1.cut c1) (hr1.cut c2)
  cases hbd:b (a83 N.length ds) h with
  |rt d' h' =>
   rw[hbd]at e
   injection e with e1 e2
   subst e1 e2;exact fin
  |nx τ' h' =>
   rw[hbd]at e
   injection e with e1 e2
   subst e1 e2;exact λι' H' σ' g1 S1 hr1=>fin ι' H' .non g1 .non hr1
  |_=>rw[hbd]at e;cases e
def sN(n:Nat)(F:SF):SF:=λds h=>if ds.length=n then F ds h else .no
theorem aud(r:Reps K ι H vs ds)(hr:HRep K ι H h)(o:out K X0 (a3j K) ι H (sN n F ds h) Q)(E:XK):a0i K n F vs H Q E:=by
 unfold sN at o
 split at o
 ·rename_i hl;exact⟨by rw[r.len];exact hl,ι,ds,h,r,hr,o⟩
 ·exact o.elim
end
theorem apk{X:Cx}(G:Dn X.prog X.w X.K X.mg X.base k x ps (a0i X.K n F) f fd)(hr:Room k X.A)(hg:Gl X x)(ha:MA X X0 (e::es) ka)
  (hdb:(x == ("__debug__" : Str))=false:=by decide) (he:starEach (e::es) X.env=(false,eval e X.env)::starEach es X.env:=by rfl) (hpl:(backTo pos (starEach es X.env)).any (·.1)=false:=by rfl):ME X X0 (.Call (.Name x p) (e::es) [] pos) (sA (sN n F) ka):=by
 refine PE.weak (ags G.ok hr hg G.m G.kp G.b .nil acu ha hdb he hpl) ?_
 rintro σ H Q ⟨ι,τ,h,S,Rh,o⟩
 refine⟨ι,τ,h,S,Rh,gq o λds h1 ι1 H1 vs g1 r1 hr1 o1=>?_⟩;rw[bT];exact aud r1 hr1 o1 _
section
variable{K:Fg}{E:XD}{ι:List Addr}{H:Hp}{h:Hd}{Q:VK}
theorem ans(o:out K E (a3j K) ι H (.ok d h) Q)(r:Rep K ι H v d)(hr:HRep K ι H h):Q v H:=o ι H v (.refl _ _) r hr
theorem HRep.lst(hr:HRep K ι H h){i:Nat}{a:Addr}{xs:List D}(e:ι[i]? = some a)(hi:h[i]? = some (.lst xs)):∃vs,H a=some (.lst vs)/\Reps K ι H vs xs:=hr.obj i a _ e hi
end
def b1m:D->D->Hd->R D
 |.int i,.int j,h=>.ok (.int (i+j)) h
 |.str x,.str y,h=>if x.length+y.length<=LINE then .ok (.str (x++y)) h else .no
 |.tup xs,.tup ys,h=>if xs≠[]/\xs.length+ys.length<=LINE then .ok (.tup (xs++ys)) h else .no
 |.ref i,.ref j,h=>match h[i]?,h[j]? with
  |some (.lst xs),some (.lst ys)=>if xs.length+ys.length<=LINE then .ok (.ref h.length) (h++[.lst (xs++ys)]) else .no
  |_,_=>.no
 |_,_,_=>.no
def ack:D->D->Hd->R D
 |.int i,.int j,h=>.ok (.int (i-j)) h
 |_,_,_=>.no
open Classical in
noncomputable def aue:D->D->Hd->R D
 |.int i,.int j,h=>if CMul i j then .ok (.int (i*j)) h else .no
 |.ref i,.int k,h=>match h[i]? with
  |some (.lst xs)=>if (-(2^63)<=k/\k<2^63)/\xs.length*k.toNat<=LINE then .ok (.ref h.length) (h++[.lst (List.replicate k.toNat xs).flatten]) else .no
  |_=>.no
 |_,_,_=>.no
def a78:D->D->Hd->R D
 |.int i,.int j,h=>if 0<j then .ok (.int (i%j)) h else .no
 |_,_,_=>.no
def aau:D->D->Hd->R D
 |.int i,.int j,h=>if 0<j/\j<1073741824 then .ok (.int (i / j)) h else .no
 |_,_,_=>.no
def a90:D->D->Hd->R D
 |.int i,.int j,h=>if 0<=j/\j<=1000000/\i.natAbs<2^64 then .ok (.int (i^j.toNat)) h else .no
 |_,_,_=>.no
section
variable{X:Cx}{K:Fg}
theorem apl:a3o K ack (rI0 λi j=>.int (i-j)):=by
 intro E ι H h x y dx dy Q rx ry hr o
 cases rx with
 |int i =>
  cases ry with
  |int j=>exact⟨i,j,rfl,rfl,ans o (.int _) hr⟩
  |_=>exact o.elim
 |_=>exact o.elim
theorem apm:a3o K a78 (rI (λ_ j=>0<j) λi j=>.int (i%j)):=by
 intro E ι H h x y dx dy Q rx ry hr o
 cases rx with
 |int i =>
  cases ry with
  |int j =>
   by_cases hc:0<j
   ·simp only[a78,aT hc]at o;exact⟨i,j,rfl,rfl,hc,ans o (.int _) hr⟩
   ·simp only[a78,bA hc]at o;exact o.elim
  |_=>exact o.elim
 |_=>exact o.elim
theorem ahl:a3o K aau (rI ayd λi j=>.int (i / j)):=by
 intro E ι H h x y dx dy Q rx ry hr o
 cases rx with
 |int i =>
  cases ry with
  |int j =>
   by_cases hc:0<j/\j<1073741824
   ·simp only[aau,aT hc]at o;exact⟨i,j,rfl,rfl,hc,ans o (.int _) hr⟩
   ·simp only[aau,bA hc]at o;exact o.elim
  |_=>exact o.elim
 |_=>exact o.elim
theorem apn:a3o K a90 (rI azy λi j=>.int (i^j.toNat)):=by
 intro E ι H h x y dx dy Q rx ry hr o
 cases rx with
 |int i =>
  cases ry with
  |int j =>
   by_cases hc:0<=j/\j<=1000000/\i.natAbs<2^64
   ·simp only[a90,aT hc]at o;exact⟨i,j,rfl,rfl,hc,ans o (.int _) hr⟩
   ·simp only[a90,bA hc]at o;exact o.elim
  |_=>exact o.elim
 |_=>exact o.elim
theorem ahm:a3o K aue (λx y H Q=>rI CMul (λi j=>.int (i*j)) x y H Q\/atr x y H Q):=by
 intro E ι H h x y dx dy Q rx ry hr o
 cases rx with
 |int i =>
  cases ry with
  |int j =>
   by_cases hc:CMul i j
   ·simp only[aue,aT hc]at o;exact .inl ⟨i,j,rfl,rfl,hc,ans o (.int _) hr⟩
   ·simp only[aue,bA hc]at o;exact o.elim
  |_=>exact o.elim
 |@ref a i ha =>
  cases ry with
  |int k =>
   simp only[aue]at o
   split at o
   ·rename_i xs hx;obtain⟨vs,h3,h4⟩:=hr.lst ha hx
    split at o
    ·rename_i hc;exact .inr ⟨a,k,vs,rfl,rfl,h3,hc.1.1,hc.1.2,ll (by rw[h4.len];exact hc.2),a2o (h4.flat _) hr o⟩
    ·exact o.elim
   ·exact o.elim
  |_=>exact o.elim
 |_=>exact o.elim
variable{E:XD}{a b e:Expr}{es:List Expr}{fa fb:SE}{ka:SA}{pos:Pos}
theorem ahn(ha:ME X E a fa)(hb:ME X E b fb):ME X E (.BinOp a .Sub b pos) (s2 ack fa fb):=ad0 atd apl ha hb
theorem a91(ha:ME X E a fa)(hb:ME X E b fb):ME X E (.BinOp a .Mod b pos) (s2 a78 fa fb):=ad0 ate apm ha hb
theorem an9(ha:ME X E a fa)(hb:ME X E b fb):ME X E (.BinOp a .FloorDiv b pos) (s2 aau fa fb):=ad0 aoj ahl ha hb
theorem aho(ha:ME X E a fa)(hb:ME X E b fb):ME X E (.BinOp a .Pow b pos) (s2 a90 fa fb):=ad0 atf apn ha hb
def a8l:D->Hd->R D
 |.int i,h=>.ok (.int (-i)) h
 |_,_=>.no
theorem a3q(ha:ME X E a fa):ME X E (.UnaryOp .USub a pos) (s1 a8l fa):=ayx atg (λE ι H h x dx Q rx hr o=>by
 cases rx with
 |int i=>exact⟨i,rfl,ans o (.int _) hr⟩
 |_=>exact o.elim) ha
def gLt:D->D->Hd->R D
 |.int i,.int j,h=>.ok (.bl (decide (i<j))) h
 |.str i,.str j,h=>.ok (.bl (decide (i.cps.toList<j.cps.toList))) h
 |_,_,_=>.no
def gLe:D->D->Hd->R D
 |.int i,.int j,h=>.ok (.bl (decide (i<=j))) h
 |.str i,.str j,h=>.ok (.bl (!decide (j.cps.toList<i.cps.toList))) h
 |_,_,_=>.no
def gGt:D->D->Hd->R D
 |.int i,.int j,h=>.ok (.bl (decide (j<i))) h
 |_,_,_=>.no
def gGe:D->D->Hd->R D
 |.int i,.int j,h=>.ok (.bl (decide (j<=i))) h
 |_,_,_=>.no
theorem a4n:a3o K gLt (λx y H Q=>rI0 (λi j=>.bl (decide (i<j))) x y H Q\/∃i j,x=.str i/\y=.str j/\Q (.bl (decide (i.cps.toList<j.cps.toList))) H):=by
 intro E ι H h x y dx dy Q rx ry hr o
 cases rx with
 |int i =>
  cases ry with
  |int j=>exact .inl ⟨i,j,rfl,rfl,ans o (.bl _) hr⟩
  |_=>exact o.elim
 |str i =>
  cases ry with
  |str j=>exact .inr ⟨i,j,rfl,rfl,ans o (.bl _) hr⟩
  |_=>exact o.elim
 |_=>exact o.elim
theorem auf:a3o K gLe (λx y H Q=>rI0 (λi j=>.bl (decide (i<=j))) x y H Q\/∃i j,x=.str i/\y=.str j/\Q (.bl (!decide (j.cps.toList<i.cps.toList))) H):=by
 intro E ι H h x y dx dy Q rx ry hr o
 cases rx with
 |int i =>
  cases ry with
  |int j=>exact .inl ⟨i,j,rfl,rfl,ans o (.bl _) hr⟩
  |_=>exact o.elim
 |str i =>
  cases ry with
  |str j=>exact .inr ⟨i,j,rfl,rfl,ans o (.bl _) hr⟩
  |_=>exact o.elim
 |_=>exact o.elim
theorem ahp:a3o K gGt (rI0 λi j=>.bl (decide (j<i))):=by
 intro E ι H h x y dx dy Q rx ry hr o
 cases rx with
 |int i =>
  cases ry with
  |int j=>exact⟨i,j,rfl,rfl,ans o (.bl _) hr⟩
  |_=>exact o.elim
 |_=>exact o.elim
theorem ae6:a3o K gGe (rI0 λi j=>.bl (decide (j<=i))):=by
 intro E ι H h x y dx dy Q rx ry hr o
 cases rx with
 |int i =>
  cases ry with
  |int j=>exact⟨i,j,rfl,rfl,ans o (.bl _) hr⟩
  |_=>exact o.elim
 |_=>exact o.elim
def a5i:D->Bool
 |.non=>true
 |_=>false
theorem ahq(r:Rep K ι H x .non):x=.non:=by cases r;rfl
theorem ae7{b:Bool}(r:Rep K ι H x (.bl b)):x=.bl b:=by cases r;rfl
theorem ahr{i:Int}(r:Rep K ι H x (.int i)):x=.int i:=by cases r;rfl
theorem ae8(r:Rep K ι H x d):decide (x=.non)=a5i d:=by cases r<;>simp[a5i]
def gIs(x y:D)(h:Hd):R D:=match y with
 |.non=>.ok (.bl (a5i x)) h
 |.bl j=>(match x with|.bl i=>.ok (.bl (i == j)) h|_=>.no)
 |_=>.no
def a79(x y:D)(h:Hd):R D:=match y with
 |.non=>.ok (.bl (!a5i x)) h
 |.bl j=>(match x with|.bl i=>.ok (.bl (i != j)) h|_=>.no)
 |_=>.no
theorem ae9:a3o K gIs (λx y H Q=>(y=.non/\Q (.bl (decide (x=.non))) H)\/∃i j,x=.bl i/\y=.bl j/\Q (.bl (i == j)) H):=by
 intro E ι H h x y dx dy Q rx ry hr o
 cases dy with
 |non=>exact .inl ⟨ahq ry,by rw[ae8 rx];exact ans o (.bl _) hr⟩
 |bl j =>
  cases dx with
  |bl i=>exact .inr ⟨i,j,ae7 rx,ae7 ry,ans o (.bl _) hr⟩
  |_=>exact o.elim
 |_=>exact o.elim
theorem a84:a3o K a79 (λx y H Q=>(y=.non/\Q (.bl (!decide (x=.non))) H)\/∃i j,x=.bl i/\y=.bl j/\Q (.bl (i != j)) H):=by
 intro E ι H h x y dx dy Q rx ry hr o
 cases dy with
 |non=>exact .inl ⟨ahq ry,by rw[ae8 rx];exact ans o (.bl _) hr⟩
 |bl j =>
  cases dx with
  |bl i=>exact .inr ⟨i,j,ae7 rx,ae7 ry,ans o (.bl _) hr⟩
  |_=>exact o.elim
 |_=>exact o.elim
def a2g:D->Bool
 |.non=>true|.bl _=>true|.int _=>true|.str _=>true
 |_=>false
def fvD:D->Option V
 |.non=>some .non|.bl b=>some (.bl b)|.int i=>some (.int i)|.str x=>some (.str x)
 |_=>none
theorem akz{d:D}(r:Rep K ι H x d)(f:a2g d=true):fvD d=some x:=by
 cases r<;>first|rfl|(cases f;done)
theorem fvs{d e:D}{P:D->V->D->V->Prop}(h:∀d x e y,fvD d=some x->fvD e=some y->P d x e y)(r:Rep K ι H x d)(q:Rep K ι H y e)(f:a2g d=true)(g:a2g e=true):P d x e y:=h d x e y (akz r f) (akz q g)
def eqF:D->D->Bool
 |.non,.non=>true
 |.bl i,.bl j=>i == j
 |.int i,.int j=>i == j
 |.str i,.str j=>i == j
 |.int i,.bl j=>i == (if j then 1 else 0)
 |.bl i,.int j=>(if i then 1 else 0) == j
 |_,_=>false
end
section
variable{X:Cx}{K:Fg}{E:XD}{a b e o:Expr}{es:List Expr}{fa fb:SE}{ka:SA}{pos:Pos}
def a2p(d:D)(h:Hd):Option (List D):=match d with
 |.tup xs=>some xs
 |.rol xs=>some xs
 |.ref i=>match h[i]? with|some (.lst xs)=>some xs|_=>none
 |_=>none
def gIx(x y:D)(h:Hd):R D:=match y with
 |.int i=>(match x with
  |.str z=>if z.length<=LINE then (match atI z.cps.toList i with|some c=>.ok (.str ⟨#[c]⟩) h|none=>.no) else .no
  |x=>match a2p x h with
   |some xs=>(match atI xs i with|some d=>.ok d h|none=>.no)
   |none=>.no)
 |_=>.no
theorem aea(r:Reps K ι H vs xs)(e:atI xs i=some d):∃v,atI vs i=some v/\Rep K ι H v d:=by
 unfold atI at e ⊢;rw[r.len]
 cases hx:ixN xs.length i with
 |none=>rw[hx]at e;cases e
 |some j=>rw[hx]at e;exact r.get e
theorem auh:a3o K gIx (rIx K):=by
 intro E ι H h x y dx dy Q rx ry hr o
 cases ry with
 |int i =>
  have go:∀{p:Addr} {vs:List V} {xs:List D},Reps K ι H vs xs->out K E (a3j K) ι H (match atI xs i with|some d=>.ok d h|none=>.no) Q->∃v,atI vs i=some v/\Q v H:=λ{p vs xs} r o=>by
   cases he:atI xs i with
   |none=>rw[he]at o;exact o.elim
   |some d =>
    rw[he]at o;obtain⟨v,h1,h2⟩:=aea r he;exact⟨v,h1,ans o h2 hr⟩
  cases rx with
  |str z =>
   by_cases hc:z.length<=LINE
   ·simp only[gIx,aT hc]at o
    cases he:atI z.cps.toList i with
    |none=>rw[he]at o;exact o.elim
    |some c=>rw[he]at o;exact .inr (.inr ⟨z,i,c,rfl,rfl,ll hc,he,ans o (.str _) hr⟩)
   ·simp only[gIx,bA hc]at o;exact o.elim
  |@tup p vs xs hp r =>
   simp only[gIx,a2p]at o;obtain⟨v,h1,h2⟩:=go (p:=p) r o;exact .inr (.inl ⟨p,vs,i,v,rfl,rfl,SqT.of hp,h1,h2⟩)
  |@rol p vs xs hp r =>
   simp only[gIx,a2p]at o;obtain⟨v,h1,h2⟩:=go (p:=p) r o;exact .inl ⟨p,vs,i,v,rfl,rfl,hp.l,h1,h2⟩
  |@ref p j hp =>
   obtain⟨ob,e1,e2⟩:=hr.at hp
   cases ob with
   |lst xs =>
    simp only[gIx,a2p,e1]at o;obtain⟨vs,h3,h4⟩:=e2;obtain⟨v,h1,h2⟩:=go (p:=p) h4 o;exact .inl ⟨p,vs,i,v,rfl,rfl,SqL.of h3,h1,h2⟩
   |dK _=>simp only[gIx,a2p,e1]at o;exact o.elim
   |dT _=>simp only[gIx,a2p,e1]at o;exact o.elim
   |ins _ _=>simp only[gIx,a2p,e1]at o;exact o.elim
  |_=>exact o.elim
 |_=>exact o.elim
theorem apo(ha:ME X E a fa)(hb:ME X E b fb)(hp:a9j b):ME X E (.Subscript a b pos) (s2 gIx fa fb):=ayy atp auh ha hb hp
abbrev SO:=Sd->Hd->R (Option Int)
abbrev MO(X:Cx)(E:XD)(e:Option Expr)(f:SO):Prop:=PO X e (lift X.K E b1k f)
def oN:SO:=λ_ h=>.ok none h
def oS(f:SE):SO:=λτ h=>(f τ h).bind λd h1=>match d with|.int i=>.ok (some i) h1|_=>.no
theorem PO.weak{e:Option Expr}{t t':St->Hp->(Option Int->Hp->Prop)->Prop}(h:PO X e t)(i:∀σ H Q,t' σ H Q->t σ H Q):PO X e t':=λaA s σ H Q I q=>h aA s σ H Q I (i _ _ _ q)
theorem zu:MO X E none oN:=PO.weak aox λσ H Q ⟨ι,τ,h,S,Rh,o⟩=>o ι H none (.refl _ _) rfl Rh
theorem zx(he:ME X E e fa):MO X E (some e) (oS fa):=by
 refine PO.weak (aoy he) ?_
 rintro σ H Q ⟨ι,τ,h,S,Rh,o⟩
 refine⟨ι,τ,h,S,Rh,gq o λd h1 ι1 H1 v g1 r1 hr1 o1=>?_⟩
 cases r1 with
 |int i=>exact⟨i,rfl,o1 ι1 H1 _ (.refl _ _) rfl hr1⟩
 |_=>exact o1.elim
def whole(n:Nat)(lo hi:Option Int):Prop:=HT.sIx n 0 lo=0/\HT.sIx n n hi=n
instance (n:Nat) (lo hi:Option Int):Decidable (whole n lo hi):=by unfold whole;exact inferInstance
def gSl(d:D)(lo hi:Option Int)(h:Hd):R D:=match d with
 |.str z=>if z.length<=LINE then .ok (.str ⟨(a8n z.cps.toList lo hi).toArray⟩) h else .no
 |.tup xs=>if ¬ whole xs.length lo hi then .ok (.tup (a8n xs lo hi)) h else .no
 |.rol xs=>.ok (.ref h.length) (h++[.lst (a8n xs lo hi)])
 |.scr xs=>.ok (.ref h.length) (h++[.lst (a8n xs lo hi)])
 |.ref i=>match h[i]? with|some (.lst xs)=>.ok (.ref h.length) (h++[.lst (a8n xs lo hi)])|_=>.no
 |_=>.no
theorem a5j(r:Reps K ι H vs xs)(lo hi:Option Int):Reps K ι H (amx vs lo hi) (a8n xs lo hi):=by
 unfold amx a8n;rw[r.len];exact(r.drop _).take _
theorem aeb(rx:Rep K ι H x d)(hr:HRep K ι H h)(o:out K E (a3j K) ι H (gSl d lo hi h) Q):ayt x lo hi H Q\/ayl K x lo hi H Q\/ayn K x lo hi H Q:=by
 cases rx with
 |str z =>
  by_cases hc:z.length<=LINE
  ·simp only[gSl,aT hc]at o;exact .inl ⟨z,rfl,ll hc,ans o (.str _) hr⟩
  ·simp only[gSl,bA hc]at o;exact o.elim
 |@tup p vs xs hp r =>
  by_cases hc:¬ whole xs.length lo hi
  ·simp only[gSl,aT hc]at o;exact .inr (.inl ⟨p,vs,rfl,SqT.of hp,by rw[r.len];exact hc,a3p (a5j r lo hi) hr o⟩)
  ·simp only[gSl,bA hc]at o;exact o.elim
 |@rol p vs xs hp r=>exact .inr (.inr ⟨p,vs,rfl,hp.l,a2o (a5j r lo hi) hr o⟩)
 |@scr p vs xs hp r=>exact .inr (.inr ⟨p,vs,rfl,hp.l,a2o (a5j r lo hi) hr o⟩)
 |@ref p j hp =>
  obtain⟨ob,e1,e2⟩:=hr.at hp
  cases ob with
  |lst xs =>
   simp only[gSl,e1]at o;obtain⟨vs,h3,h4⟩:=e2;exact .inr (.inr ⟨p,vs,rfl,SqL.of h3,a2o (a5j h4 lo hi) hr o⟩)
  |dK _=>simp only[gSl,e1]at o;exact o.elim
  |dT _=>simp only[gSl,e1]at o;exact o.elim
  |ins _ _=>simp only[gSl,e1]at o;exact o.elim
 |_=>exact o.elim
theorem ahs(r:Rep K ι H x d)(f:a2g d=true):a4u x=true:=by cases r<;>first|rfl|cases f
theorem aui(r:Rep K ι H x d)(q:Rep K ι H y c):a2g d=true->a2g c=true->eqV x y=eqF d c:=λf g=>by
 refine fvs (P:=λd x c y=>eqV x y=eqF d c) (λd x e y h h'=>?_) r q f g
 cases d<;>first|(cases h;done)|(cases h;cases e<;>first|(cases h';done)|(cases h';rfl))
def inD(x:D)(xs:List D):Bool:=xs.any λy=>eqF y x
theorem al0(r:Reps K ι H vs xs)(f:xs.all a2g=true):vs.all a4u=true:=by
 induction r using Reps.rec (motive_1:=λ_ _ _=>True) with
 |nil=>rfl
 |cons r rs _ ih =>
  rw[fK,cH]at f ⊢;exact⟨ahs r f.1,ih f.2⟩
 |_=>trivial
theorem auj(rx:Rep K ι H x d)(fx:a2g d=true)(r:Reps K ι H vs xs)(f:xs.all a2g=true):inV x vs=inD d xs:=by
 unfold inV inD
 induction r using Reps.rec (motive_1:=λ_ _ _=>True) with
 |nil=>rfl
 |cons r rs _ ih =>
  rw[fK,cH]at f;rw[eC,eC,ih f.2,aui r rx f.1 fx]
 |_=>trivial
def gIn(neg:Bool)(x y:D)(h:Hd):R D:=match y with
 |.str T=>(match x with
  |.str z=>(match z.cps.toList with|[c]=>.ok (.bl (if neg then !decide (c∈T.cps.toList) else decide (c∈T.cps.toList))) h|_=>.no)
  |_=>.no)
 |y=>match a2p y h with
  |some xs=>if a2g x=true/\xs.all a2g=true then .ok (.bl (if neg then !inD x xs else inD x xs)) h else .no
  |none=>.no
theorem one_sign{z:Str}(h:z.cps.toList=[c]):z=⟨#[c]⟩:=by
 obtain⟨cps⟩:=z
 congr
 exact Array.ext' (by simpa using h)
theorem ana(neg:Bool){r1:R2}(h1:∀c T H (Q:VK),Q (.bl (if neg then !decide (c∈T.cps.toList) else decide (c∈T.cps.toList))) H->r1 (.str ⟨#[c]⟩) (.str T) H Q):a3o K (gIn neg) (λx y H Q=>r1 x y H Q\/rIn K neg x y H Q):=by
 intro E ι H h x y dx dy Q rx ry hr o
 have go:∀{p:Addr} {vs:List V} {xs:List D},(SqL K H p vs\/SqT K H p vs)->Reps K ι H vs xs->out K E (a3j K) ι H (if a2g dx=true/\xs.all a2g=true then .ok (.bl (if neg then !inD dx xs else inD dx xs)) h else .no) Q->rIn K neg x (.ref p) H Q:=λ{p vs xs} sq r o=>by
  split at o
  ·rename_i hc;exact⟨p,vs,rfl,sq,ahs rx hc.1,al0 r hc.2,by rw[auj rx hc.1 r hc.2];exact ans o (.bl _) hr⟩
  ·exact o.elim
 cases ry with
 |str T =>
  cases rx with
  |str z =>
   simp only[gIn]at o
   split at o
   ·rename_i c hz;rw[one_sign hz];exact .inl (h1 c T H Q (ans o (.bl _) hr))
   ·exact o.elim
  |_=>exact o.elim
 |@tup p vs xs hp r=>simp only[gIn,a2p]at o;exact .inr (go (.inr (SqT.of hp)) r o)
 |@rol p vs xs hp r=>simp only[gIn,a2p]at o;exact .inr (go (.inl hp.l) r o)
 |@ref p j hp =>
  obtain⟨ob,e1,e2⟩:=hr.at hp
  cases ob with
  |lst xs =>
   simp only[gIn,a2p,e1]at o;obtain⟨vs,h3,h4⟩:=e2;exact .inr (go (.inl (SqL.of h3)) h4 o)
  |dK _=>simp only[gIn,a2p,e1]at o;exact o.elim
  |dT _=>simp only[gIn,a2p,e1]at o;exact o.elim
  |ins _ _=>simp only[gIn,a2p,e1]at o;exact o.elim
 |_=>exact o.elim
theorem apq:a3o K (gIn false) (λx y H Q=>(∃c T,x=.str ⟨#[c]⟩/\y=.str T/\Q (.bl (decide (c∈T.cps.toList))) H)\/rIn K false x y H Q):=ana false λc T H Q q=>⟨c,T,rfl,rfl,q⟩
theorem apr:a3o K (gIn true) (λx y H Q=>(∃c T,x=.str ⟨#[c]⟩/\y=.str T/\Q (.bl (!decide (c∈T.cps.toList))) H)\/rIn K true x y H Q):=ana true λc T H Q q=>⟨c,T,rfl,rfl,q⟩
def uf:List D->Hd->R D
 |[.str z],h=>if z.length<=LINE then .ok (.int z.length) h else .no
 |[x],h=>(match a2p x h with|some xs=>.ok (.int xs.length) h|none=>.no)
 |_,_=>.no
theorem aps:ag9 K uf (λxs H Q=>(∃p ys,xs=[.ref p]/\(SqL K H p ys\/SqT K H p ys)/\Q (.int ys.length) H)\/∃z,xs=[.str z]/\z.length<=sizeLine/\Q (.int z.length) H):=by
 intro E ι H h xs ds Q r hr o
 cases r with
 |nil=>exact o.elim
 |cons r rs =>
  cases rs with
  |cons _ _=>exact(show False by cases r<;>exact o).elim
  |nil =>
   cases r with
   |str z =>
    by_cases hc:z.length<=LINE
    ·simp only[uf,aT hc]at o;exact .inr ⟨z,rfl,ll hc,ans o (.int _) hr⟩
    ·simp only[uf,bA hc]at o;exact o.elim
   |@tup p vs xs hp r=>simp only[uf,a2p]at o;exact .inl ⟨p,vs,rfl,.inr (SqT.of hp),by rw[r.len];exact ans o (.int _) hr⟩
   |@rol p vs xs hp r=>simp only[uf,a2p]at o;exact .inl ⟨p,vs,rfl,.inl hp.l,by rw[r.len];exact ans o (.int _) hr⟩
   |@ref p j hp =>
    obtain⟨ob,e1,e2⟩:=hr.at hp
    cases ob with
    |lst xs =>
     simp only[uf,a2p,e1]at o;obtain⟨vs,h3,h4⟩:=e2;exact .inl ⟨p,vs,rfl,.inl (SqL.of h3),by rw[h4.len];exact ans o (.int _) hr⟩
    |dK _=>simp only[uf,a2p,e1]at o;exact o.elim
    |dT _=>simp only[uf,a2p,e1]at o;exact o.elim
    |ins _ _=>simp only[uf,a2p,e1]at o;exact o.elim
   |_=>exact o.elim
def axm:List D->Hd->R D
 |[.int i],h=>.ok (.int (if i<0 then -i else i)) h
 |_,_=>.no
theorem apt:ag9 K axm (λxs H Q=>∃i,xs=[.int i]/\Q (.int (if i<0 then -i else i)) H):=by
 intro E ι H h xs ds Q r hr o
 unfold axm at o
 split at o
 ·cases r with|cons r rs=>cases r;cases rs;exact⟨_,rfl,ans o (.int _) hr⟩
 ·exact o.elim
def al1:List D->Hd->R D
 |[.int i,.int j],h=>.ok (.int (if j > i then j else i)) h
 |_,_=>.no
def ad2:List D->Hd->R D
 |[.int i,.int j],h=>.ok (.int (if j<i then j else i)) h
 |_,_=>.no
theorem al3:ag9 K ad2 (λxs H Q=>∃i j,xs=[.int i,.int j]/\Q (.int (if j<i then j else i)) H):=by
 intro E ι H h xs ds Q r hr o
 unfold ad2 at o
 split at o
 ·cases r with|cons r rs=>cases rs with|cons q rs=>cases r;cases q;cases rs;exact⟨_,_,rfl,ans o (.int _) hr⟩
 ·exact o.elim
def apu:List D->Hd->R D
 |[.int i],h=>.ok (.int i) h
 |[.bl k],h=>.ok (.int (if k then 1 else 0)) h
 |_,_=>.no
theorem apv:ag9 K apu (λxs H Q=>(∃i,xs=[.int i]/\Q (.int i) H)\/∃k,xs=[.bl k]/\Q (.int (if k then 1 else 0)) H):=by
 intro E ι H h xs ds Q r hr o
 unfold apu at o
 split at o
 ·cases r with|cons r rs=>cases r;cases rs;exact .inl ⟨_,rfl,ans o (.int _) hr⟩
 ·cases r with|cons r rs=>cases r;cases rs;exact .inr ⟨_,rfl,ans o (.int _) hr⟩
 ·exact o.elim
def tyD(d:D)(h:Hd):Option String:=match d with
 |.non=>some "NoneType" |.bl _=>some "bool" |.int _=>some "int" |.str _=>some "str" |.tup _=>some "tuple" |.rol _=>some "list"
 |.ref i=>(match h[i]? with|some (.lst _)=>some "list" |some (.dK _)=>some "dict" |_=>none)
 |_=>none
def aht(t T:String):Option Bool :=
 if t∈["NoneType","bool","int","str","tuple","list","dict"]/\T∈["bool","int","str","tuple","list","dict"] then some (t == T || (t == "bool" && T == "int")) else none
theorem ahu{t T:String}{b:Bool}(e:aht t T=some b):PySem.W.kitOne K (.type t) (.type T)=some b:=by
 unfold aht at e
 split at e
 ·rename_i h;obtain⟨h1,h2⟩:=h;simp only[aR,bo,cF]at h1 h2
  rcases h1 with rfl|rfl|rfl|rfl|rfl|rfl|rfl<;>rcases h2 with rfl|rfl|rfl|rfl|rfl|rfl<;>(cases e;rfl)
 ·cases e
def al4:List D->Hd->R D
 |[x,.ty T],h=>(match tyD x h with|some t=>(match aht t T with|some b=>.ok (.bl b) h|none=>.no)|none=>.no)
 |_,_=>.no
theorem auk(r:Rep K ι H x d)(hr:HRep K ι H h)(e:tyD d h=some t):TyOf K H x (.type t):=by
 cases r with
 |non=>cases e;exact .non
 |bl b=>cases e;exact .bl b
 |int b=>cases e;exact .int b
 |str b=>cases e;exact .str b
 |ty _=>cases e
 |tup hp r=>cases e;exact .tup hp
 |rol hp r=>cases e;obtain⟨o,hp⟩:=hp;exact .frz hp
 |scr _ _=>cases e
 |rod _ _ _=>cases e
 |rdT _ _ _=>cases e
 |exc _ _ _=>cases e
 |ins _ _ _ _=>cases e
 |ref hp =>
  obtain⟨ob,e1,e2⟩:=hr.at hp
  cases ob with
  |lst xs=>simp only[tyD,e1]at e;cases e;obtain⟨vs,h3,h4⟩:=e2;exact .lst h3
  |dK _=>simp only[tyD,e1]at e;cases e;obtain⟨vs,h3,h4⟩:=e2;exact .dK h3
  |dT _=>simp only[tyD,e1]at e;cases e
  |ins _ _=>simp only[tyD,e1]at e;cases e
theorem apw:ag9 K al4 (λxs H Q=>∃x T t b,xs=[x,.ty T]/\TyOf K H x t/\PySem.W.kitOne K t (.type T)=some b/\Q (.bl b) H):=by
 intro E ι H h xs ds Q r hr o
 unfold al4 at o
 split at o
 ·rename_i d T
  cases r with
  |cons r rs =>
   cases rs with
   |cons q rs =>
    cases q;cases rs
    cases ht:tyD d h with
    |none=>rw[ht]at o;exact o.elim
    |some t =>
     rw[ht]at o
     cases hb:aht t T with
     |none=>simp only[hb]at o;exact o.elim
     |some b =>
      simp only[hb]at o;exact⟨_,T,.type t,b,rfl,auk r hr ht,ahu hb,ans o (.bl _) hr⟩
 ·exact o.elim
end
section
variable{X:Cx}{K:Fg}{E:XD}{a b e o:Expr}{es:List Expr}{fa fb fo:SE}{ka:SA}{pos apos cpos:Pos}{name:Str}{idn:String}
def anb(K:Fg)(g:D->List D->Hd->R D)(r:V->List V->Hp->VK->Prop):Prop:=∀(E:XD) ι H h x dx xs ds Q,Rep K ι H x dx->Reps K ι H xs ds->HRep K ι H h->out K E (a3j K) ι H (g dx ds h) Q->r x xs H Q
def isL(d:D)(h:Hd):Bool:=match d with|.ref i=>(match h[i]? with|some (.lst _)=>true|_=>false)|.rol _=>true|_=>false
def sML(g:D->List D->Hd->R D)(f:SE)(k:SA):SE:=λτ h=>(f τ h).bind λd h1=>if isL d h1=true then (k τ h1).bind λds h2=>g d ds h2 else .no
theorem aul(r:Rep K ι H x d)(hr:HRep K ι H h)(e:isL d h=true):tyV K "list" x H:=by
 cases r with
 |rol hp _=>exact .inl ⟨rfl,_,hp.l⟩
 |ref hp =>
  obtain⟨ob,e1,e2⟩:=hr.at hp
  cases ob with
  |lst xs=>obtain⟨vs,h3,_⟩:=e2;exact .inl ⟨rfl,_,SqL.of h3⟩
  |dK _=>simp[isL,e1]at e
  |dT _=>simp[isL,e1]at e
  |ins _ _=>simp[isL,e1]at e
 |_=>cases e
theorem a4y(slot:Slot "list" name idn)(hty:typeOf (.builtin idn)=pure (.type "method_descriptor"))(hm:MtR X idn r)(hs:anb X.K g r)(ho:ME X E o fo)(ha:MA X E (e::es) ka)
  (hbase:attributeBase o name X.env (eval o X.env)=eval o X.env:=by rfl)
  (hfew:((backTo cpos (starEach (e::es) X.env)).all (λx => !x.1) && (backToKw cpos (keywordEach [] X.env)).all (λx=>x.1.isSome)
   && decide ((e::es).length+([]:List Keyword).length+(if ([]:List Keyword).isEmpty then 0 else 1)<30))=true:=by rfl)
  (hline:(apos.endLine == cpos.line)=true:=by rfl) (hst:starEach (e::es) X.env=(false,eval e X.env)::starEach es X.env:=by rfl) (hplain:(backTo cpos (starEach es X.env)).any (·.1)=false:=by rfl) :
  ME X E (.Call (.Attribute o name apos) (e::es) [] cpos) (sML g fo ka):=by
 refine PE.weak (ayo PySem.F.plainAttrs_list slot hty hm ho ha hbase hfew hline hst hplain) ?_
 rintro σ H Q ⟨ι,τ,h,S,Rh,o⟩
 refine⟨ι,τ,h,S,Rh,gq o λd h1 ι1 H1 v g1 r1 hr1 o1=>?_⟩
 by_cases hc:isL d h1=true
 ·rw[aT hc]at o1;refine⟨aul r1 hr1 hc,ι1,τ,h1,S.mono g1,hr1,gq o1 λds h2 ι2 H2 vs g2 r2 hr2 o2=>?_⟩;exact hs E ι2 H2 h2 v d vs ds Q (r1.mono g2) r2 hr2 o2
 ·rw[bA hc]at o1;exact o1.elim
def a5k:D->List D->Hd->R D
 |.ref i,[y],h=>(match h[i]? with|some (.lst xs)=>if xs.length<LINE then .ok .non (h.set i (.lst (xs++[y]))) else .no|_=>.no)
 |_,_,_=>.no
theorem zy:anb K a5k ah1:=by
 intro E ι H h x dx xs ds Q rx r hr o
 unfold a5k at o
 split at o
 ·rename_i i y
  cases rx with
  |@ref p _ hp =>
   cases r with
   |cons r1 rs =>
    cases rs
    split at o
    ·rename_i xs hx;obtain⟨vs,h3,h4⟩:=hr.lst hp hx
     split at o
     ·rename_i hc;exact⟨p,vs,_,rfl,rfl,h3,by rw[h4.len,apa];exact hc,ad1 (h4.snoc r1) hr hp .non o⟩
     ·exact o.elim
    ·exact o.elim
 ·exact o.elim
def sMS(g:D->List D->Hd->R D)(f:SE)(k:SA):SE:=λτ h=>(f τ h).bind λd h1=>match d with|.str z=>(k τ h1).bind λds h2=>g (.str z) ds h2|_=>.no
theorem afn(slot:Slot "str" name idn)(hty:typeOf (.builtin idn)=pure (.type "method_descriptor"))(hm:MtR X idn r)(hs:anb X.K g r)(ho:ME X E o fo)(ha:MA X E (e::es) ka)
  (hbase:attributeBase o name X.env (eval o X.env)=eval o X.env:=by rfl)
  (hfew:((backTo cpos (starEach (e::es) X.env)).all (λx => !x.1) && (backToKw cpos (keywordEach [] X.env)).all (λx=>x.1.isSome)
   && decide ((e::es).length+([]:List Keyword).length+(if ([]:List Keyword).isEmpty then 0 else 1)<30))=true:=by rfl)
  (hline:(apos.endLine == cpos.line)=true:=by rfl) (hst:starEach (e::es) X.env=(false,eval e X.env)::starEach es X.env:=by rfl) (hplain:(backTo cpos (starEach es X.env)).any (·.1)=false:=by rfl) :
  ME X E (.Call (.Attribute o name apos) (e::es) [] cpos) (sMS g fo ka):=by
 refine PE.weak (ayv slot hty hm ho ha hbase hfew hline hst hplain) ?_
 rintro σ H Q ⟨ι,τ,h,S,Rh,o⟩
 refine⟨ι,τ,h,S,Rh,gq o λd h1 ι1 H1 v g1 r1 hr1 o1=>?_⟩
 cases r1 with
 |str z=>exact⟨⟨z,rfl⟩,ι1,τ,h1,S.mono g1,hr1,gq o1 λds h2 ι2 H2 vs g2 r2 hr2 o2=>hs E ι2 H2 h2 _ _ vs ds Q (.str z) r2 hr2 o2⟩
 |_=>exact o1.elim
def ad3:D->List D->Hd->R D
 |.str T,[.str z],h=>(match z.cps.toList with|[c]=>.ok (.int (a5e T c)) h|_=>.no)
 |_,_,_=>.no
theorem aec:anb K ad3 (λx xs H Q=>∃T c,x=.str T/\xs=[.str ⟨#[c]⟩]/\Q (.int (a5e T c)) H):=by
 intro E ι H h x dx xs ds Q rx r hr o
 unfold ad3 at o
 split at o
 ·cases rx
  cases r with
  |cons r1 rs =>
   cases r1;cases rs
   split at o
   ·rename_i c hz;exact⟨_,c,rfl,by rw[one_sign hz],ans o (.int _) hr⟩
   ·exact o.elim
 ·exact o.elim
def abh:D->List D->Hd->R D
 |.str T,[.str z],h=>(match z.cps.toList with|[c]=>if c∈T.cps.toList then .ok (.int (a5e T c)) h else .no|_=>.no)
 |_,_,_=>.no
theorem ahv:anb K abh (λx xs H Q=>∃T c,x=.str T/\xs=[.str ⟨#[c]⟩]/\c∈T.cps.toList/\Q (.int (a5e T c)) H):=by
 intro E ι H h x dx xs ds Q rx r hr o
 unfold abh at o
 split at o
 ·cases rx
  cases r with
  |cons r1 rs =>
   cases r1;cases rs
   split at o
   ·rename_i c hz
    split at o
    ·rename_i hc;exact⟨_,c,rfl,by rw[one_sign hz],hc,ans o (.int _) hr⟩
    ·exact o.elim
   ·exact o.elim
 ·exact o.elim
def ad4:List D->Option (List Str)
 |[]=>some []
 |.str z::r=>(ad4 r).map (z::·)
 |_::_=>none
theorem a9s:∀{vs:List V} {xs:List D} {zs:List Str},Reps K ι H vs xs->ad4 xs=some zs->vs=zs.map V.str
 |_,_,_,.nil,e=>by cases e;rfl
 |_,_,zs,.cons (d:=d) r rs,e=>by
  cases r with
  |str z =>
   simp only[ad4,aV]at e;obtain⟨ws,h1,rfl⟩:=e;rw[a9s rs h1];rfl
  |_=>cases e
def a9t:D->List D->Hd->R D
 |.str sep,[.ref i],h=>(match h[i]? with|some (.lst xs)=>(match ad4 xs with|some zs=>if (zs.map (·.length)).sum+zs.length*sep.length<=16777216 then .ok (.str (Txt.join sep zs)) h else .no|none=>.no)|_=>.no)
 |.str sep,[.rol xs],h=>(match ad4 xs with|some zs=>if (zs.map (·.length)).sum+zs.length*sep.length<=16777216 then .ok (.str (Txt.join sep zs)) h else .no|none=>.no)
 |_,_,_=>.no
theorem a9u:anb K a9t (λx xs H Q=>∃sep p zs,x=.str sep/\xs=[.ref p]/\SqL K H p (zs.map V.str)/\(zs.map (·.length)).sum+zs.length*sep.length<=16777216/\Q (.str (Txt.join sep zs)) H):=by
 intro E ι H h x dx xs ds Q rx r hr o
 unfold a9t at o
 split at o
 ·rename_i sep i;cases rx
  cases r with
  |cons r1 rs =>
   cases rs
   cases r1 with
   |@ref p _ hp =>
    split at o
    ·rename_i xs hx;obtain⟨vs,h3,h4⟩:=hr.lst hp hx
     split at o
     ·rename_i zs hz
      split at o
      ·rename_i hc;exact⟨sep,p,zs,rfl,rfl,SqL.of (by rw[h3,a9s h4 hz]),hc,ans o (.str _) hr⟩
      ·exact o.elim
     ·exact o.elim
    ·exact o.elim
 ·rename_i sep xs;cases rx
  cases r with
  |cons r1 rs =>
   cases rs
   cases r1 with
   |@rol p vs xs hp r =>
    split at o
    ·rename_i zs hz
     split at o
     ·rename_i hc;exact⟨sep,p,zs,rfl,rfl,by rw[<-a9s r hz];exact hp.l,hc,ans o (.str _) hr⟩
     ·exact o.elim
    ·exact o.elim
 ·exact o.elim
theorem a92(z:Str):Reps K ι H (a3d z) (a0p z):=by
 unfold a3d a0p
 induction z.cps.toList with
 |nil=>exact .nil
 |cons c cs ih=>exact .cons (.str _) ih
def xq:List D->Hd->R D
 |[.str z],h=>if z.length<=LINE then .ok (.tup (a0p z)) h else .no
 |[x],h=>(match a2p x h with|some xs=>.ok (.tup xs) h|none=>.no)
 |_,_=>.no
theorem a3r:ag9 K xq (λxs H Q=>(∃p ys,xs=[.ref p]/\((SqL K H p ys/\∀l,H l=none->Q (.ref l) (upd H l (.tup ys)))\/(SqT K H p ys/\Q (.ref p) H)))\/∃z,xs=[.str z]/\z.length<=sizeLine/\∀l,H l=none->Q (.ref l) (upd H l (.tup (a3d z)))):=by
 intro E ι H h xs ds Q r hr o
 cases r with
 |nil=>exact o.elim
 |cons r rs =>
  cases rs with
  |cons _ _=>exact(show False by cases r<;>exact o).elim
  |nil =>
   cases r with
   |str z =>
    by_cases hc:z.length<=LINE
    ·simp only[xq,aT hc]at o;exact .inr ⟨z,rfl,ll hc,a3p (a92 z) hr o⟩
    ·simp only[xq,bA hc]at o;exact o.elim
   |@tup p vs xs hp r=>simp only[xq,a2p]at o;exact .inl ⟨p,vs,rfl,.inr ⟨SqT.of hp,ans o (.tup hp r) hr⟩⟩
   |@rol p vs xs hp r=>simp only[xq,a2p]at o;exact .inl ⟨p,vs,rfl,.inl ⟨hp.l,a3p r hr o⟩⟩
   |@ref p j hp =>
    obtain⟨ob,e1,e2⟩:=hr.at hp
    cases ob with
    |lst xs =>
     simp only[xq,a2p,e1]at o;obtain⟨vs,h3,h4⟩:=e2;exact .inl ⟨p,vs,rfl,.inl ⟨SqL.of h3,a3p h4 hr o⟩⟩
    |dK _=>simp only[xq,a2p,e1]at o;exact o.elim
    |dT _=>simp only[xq,a2p,e1]at o;exact o.elim
    |ins _ _=>simp only[xq,a2p,e1]at o;exact o.elim
   |_=>exact o.elim
def apx:List D->Option (List Bool)
 |[]=>some []
 |.bl z::r=>(apx r).map (z::·)
 |_::_=>none
def a9v:List D->Option (List Int)
 |[]=>some []
 |.int z::r=>(a9v r).map (z::·)
 |_::_=>none
theorem ad5:∀{vs:List V} {xs:List D} {zs:List Bool},Reps K ι H vs xs->apx xs=some zs->vs=zs.map V.bl
 |_,_,_,.nil,e=>by cases e;rfl
 |_,_,zs,.cons (d:=d) r rs,e=>by
  cases r with
  |bl z =>
   simp only[apx,aV]at e;obtain⟨ws,h1,rfl⟩:=e;rw[ad5 rs h1];rfl
  |_=>cases e
theorem a5l:∀{vs:List V} {xs:List D} {zs:List Int},Reps K ι H vs xs->a9v xs=some zs->vs=zs.map V.int
 |_,_,_,.nil,e=>by cases e;rfl
 |_,_,zs,.cons (d:=d) r rs,e=>by
  cases r with
  |int z =>
   simp only[a9v,aV]at e;obtain⟨ws,h1,rfl⟩:=e;rw[a5l rs h1];rfl
  |_=>cases e
theorem al5(bs:List Bool):apx (bs.map D.bl)=some bs:=by
 induction bs with
 |nil=>rfl
 |cons b bs ih=>simp[apx,ih]
def anc:List D->Hd->R D
 |[.ref i],h=>(match h[i]? with|some (.lst xs)=>(match apx xs with|some bs=>.ok (.bl (bs.all id)) h|none=>.no)|_=>.no)
 |[.rol xs],h=>(match apx xs with|some bs=>.ok (.bl (bs.all id)) h|none=>.no)
 |_,_=>.no
theorem apy:ag9 K anc (λxs H Q=>∃(p:Addr) (bs:List Bool),xs=[.ref p]/\SqL K H p (bs.map V.bl)/\Q (.bl (bs.all id)) H):=by
 intro E ι H h xs ds Q r hr o
 unfold anc at o
 split at o
 ·cases r with
  |cons r rs =>
   cases rs
   cases r with
   |@ref p _ hp =>
    split at o
    ·rename_i xs hx;obtain⟨vs,h3,h4⟩:=hr.lst hp hx
     split at o
     ·rename_i bs hb;exact⟨p,bs,rfl,SqL.of (by rw[h3,ad5 h4 hb]),ans o (.bl _) hr⟩
     ·exact o.elim
    ·exact o.elim
 ·cases r with
  |cons r rs =>
   cases rs
   cases r with
   |@rol p vs xs hp r =>
    split at o
    ·rename_i bs hb;exact⟨p,bs,rfl,by rw[<-ad5 r hb];exact hp.l,ans o (.bl _) hr⟩
    ·exact o.elim
 ·exact o.elim
def aum:List D->Hd->R D
 |[.ref i],h=>(match h[i]? with|some (.lst xs)=>(match a9v xs with|some bs=>.ok (.int bs.sum) h|none=>.no)|_=>.no)
 |[.rol xs],h=>(match a9v xs with|some bs=>.ok (.int bs.sum) h|none=>.no)
 |_,_=>.no
theorem apz:ag9 K aum (λxs H Q=>∃(p:Addr) (ns:List Int),xs=[.ref p]/\SqL K H p (ns.map V.int)/\Q (.int ns.sum) H):=by
 intro E ι H h xs ds Q r hr o
 unfold aum at o
 split at o
 ·cases r with
  |cons r rs =>
   cases rs
   cases r with
   |@ref p _ hp =>
    split at o
    ·rename_i xs hx;obtain⟨vs,h3,h4⟩:=hr.lst hp hx
     split at o
     ·rename_i bs hb;exact⟨p,bs,rfl,SqL.of (by rw[h3,a5l h4 hb]),ans o (.int _) hr⟩
     ·exact o.elim
    ·exact o.elim
 ·cases r with
  |cons r rs =>
   cases rs
   cases r with
   |@rol p vs xs hp r =>
    split at o
    ·rename_i bs hb;exact⟨p,bs,rfl,by rw[<-a5l r hb];exact hp.l,ans o (.int _) hr⟩
    ·exact o.elim
 ·exact o.elim
end
end MI
theorem L2.Room.u(r:L2.Room k A):A.units+64<PySem.cLine:=r.units
namespace MI
open L2
mutual
def eqD:D->D->Bool
 |.non,.non=>true
 |.bl a,.bl b=>a == b
 |.bl a,.int b=>(if a then 1 else 0) == b
 |.int a,.bl b=>a == (if b then 1 else 0)
 |.int a,.int b=>a == b
 |.str a,.str b=>a == b
 |.tup xs,.tup ys=>abi xs ys
 |_,_=>false
def abi:List D->List D->Bool
 |[],[]=>true
 |x::xs,y::ys=>eqD x y && abi xs ys
 |_,_=>false
end
def pur:Nat->D->Bool
 |_,.non=>true
 |_,.bl _=>true
 |_,.int _=>true
 |_,.str _=>true
 |n+1,.tup xs=>xs.all (pur n)
 |_,_=>false
def pairE(xs ys:List D)(j:Nat):Bool:=match xs[j]?,ys[j]? with|some x,some y=>eqD x y|_,_=>false
theorem a5m:∀xs ys:List D,((List.range (min xs.length ys.length)).all (pairE xs ys) && xs.length == ys.length)=abi xs ys
 |[],[]=>by simp[abi]
 |[],_::_=>by simp[abi]
 |_::_,[]=>by simp[abi]
 |x::xs,y::ys=>by
  have ih:=a5m xs ys;rw[show min (x::xs).length (y::ys).length=min xs.length ys.length+1 by simp only[aY];omega,List.range_succ_eq_map]
  rw[fK,List.all_map];have e:(pairE (x::xs) (y::ys) ∘ Nat.succ)=pairE xs ys:=by funext j;simp[pairE]
  rw[e];simp only[abi];rw[<-ih];have e2:((x::xs).length == (y::ys).length)=(xs.length == ys.length):=by simp
  rw[e2,Bool.and_assoc];rfl
section
variable{K:Fg}{ι:List Addr}{H:Hp}
theorem a9w{xs:List D}(r:Rep K ι H v (.tup xs)):∃a vs,v=.ref a/\H a=some (.tup vs)/\Reps K ι H vs xs:=by cases r with|@tup a vs _ h rs=>exact⟨a,vs,rfl,h,rs⟩
theorem ane(r:Rep K ι H v d)(q:Rep K ι H v e)(f:a2g d=true)(g:a2g e=true):eqD d e=true:=by
 have h:=akz r f;have h':=akz q g
 cases d<;>first|(cases h;done)|(cases h;cases e<;>first|(cases h';done)|(cases h';simp[eqD]))
theorem a2h(r:Rep K ι H v d)(p:pur n d=true):(∃xs,d=.tup xs)\/(a4u v=true/\a2g d=true):=by
 cases r<;>first|exact .inr ⟨rfl,rfl⟩|exact .inl ⟨_,rfl⟩|(cases n<;>cases p)
theorem a9x(r:Rep K ι H x d)(q:Rep K ι H y e)(f:a2g d=true)(g:a2g e=true):eqV x y=eqD d e:=by
 refine fvs (P:=λd x c y=>eqV x y=eqD d c) (λd x e y h h'=>?_) r q f g
 cases d<;>first|(cases h;done)|(cases h;cases e<;>first|(cases h';done)|(cases h';first|rfl|(simp[eqV,eqD];done)))
theorem al6:∀(n:Nat) {v:V} {d e:D},Rep K ι H v d->Rep K ι H v e->pur n d=true->pur n e=true->eqD d e=true:=by
 intro n
 induction n with
 |zero =>
  intro v d e r q p1 p2
  rcases a2h r p1 with⟨xs,rfl⟩|⟨f1,g1⟩
  ·cases p1
  rcases a2h q p2 with⟨xs,rfl⟩|⟨f2,g2⟩
  ·cases p2
  exact ane r q g1 g2
 |succ n ih =>
  intro v d e r q p1 p2
  rcases a2h r p1 with⟨xs,rfl⟩|⟨f1,g1⟩
  ·rcases a2h q p2 with⟨ys,rfl⟩|⟨f2,g2⟩
   ·obtain⟨a,vs,rfl,h,rs⟩:=a9w r;obtain⟨b,us,z,h',qs⟩:=a9w q;cases z
    rw[h]at h';cases h'
    simp only[eqD];simp only[pur,cp]at p1 p2
    clear h r q
    induction rs using Reps.rec (motive_1:=λ_ _ _=>True) generalizing ys with
    |nil=>cases qs;rfl
    |cons r rs _ ih2 =>
     cases qs with
     |cons q qs =>
      simp only[abi,cH];exact⟨ih r q (p1 _ (bt ..)) (p2 _ (bt ..)),ih2 _ qs (λx hx=>p1 x (ba _ hx)) (λx hx=>p2 x (ba _ hx))⟩
    |_=>trivial
   ·obtain⟨a,vs,rfl,h,rs⟩:=a9w r;cases f2
  ·rcases a2h q p2 with⟨ys,rfl⟩|⟨f2,g2⟩
   ·obtain⟨a,vs,rfl,h,rs⟩:=a9w q;cases f1
   ·exact ane r q g1 g2
open SeqAt in
theorem anf{s:Shared}(hok:HOk P w H s.heap):∀(n:Nat) (A:Around) {x y:V} {u v:Value} {d e:D},Rep K ι H x d->Rep K ι H y e->RelV x u->RelV y v->pur n d=true->pur n e=true->A.units+n<cLine->EqAt A s u v (eqD d e):=by
 intro n
 induction n with
 |zero =>
  intro A x y u v d e r q rx ry p1 p2 hu
  rcases a2h r p1 with⟨xs,rfl⟩|⟨f1,f2⟩
  ·cases p1
  ·rcases a2h q p2 with⟨xs,rfl⟩|⟨g1,g2⟩
   ·cases p2
   ·rw[<-a9x r q f2 g2];exact agz rx ry f1 g1
 |succ n ih =>
  intro A x y u v d e r q rx ry p1 p2 hu
  rcases a2h r p1 with⟨xs,rfl⟩|⟨f1,f2⟩
  ·cases r with
   |@tup a vs _ ha rs =>
    cases rx
    obtain⟨_,its,r1,t1⟩:=(Rd.of ha).ok hok
    rcases a2h q p2 with⟨ys,rfl⟩|⟨g1,g2⟩
    ·cases q with
     |@tup b us _ hb qs =>
      cases ry
      obtain⟨_,its2,r2,t2⟩:=(Rd.of hb).ok hok
      by_cases hab:a=b
      ·subst hab;rw[al6 (n+1) (.tup ha rs) (.tup hb qs) p1 p2];exact EqAt.same _
      ·have l1:its.toArray.size=xs.length:=by rw[aK,<-r1.length,rs.len]
       have l2:its2.toArray.size=ys.length:=by rw[aK,<-r2.length,qs.len]
       have:=RcAt.tuples (A:=A) (s:=s) (e:=pairE xs ys) t1 t2 (by omega) (λj h1 h2=>by
        have j1:j<xs.length:=by omega
        have j2:j<ys.length:=by omega
        obtain⟨v1,e1,q1⟩:=rs.get (af j1);obtain⟨v2,e2,q2⟩:=qs.get (af j2);obtain⟨u1,e3,q3⟩:=r1.get e1;obtain⟨u2,e4,q4⟩:=r2.get e2;have f1:its.toArray[j]=u1:=by simpa using (ag.mp e3).2
        have f2:its2.toArray[j]=u2:=by simpa using (ag.mp e4).2
        have pe:pairE xs ys j=eqD xs[j] ys[j]:=by simp[pairE,af j1,af j2]
        rw[f1,f2,pe];simp only[pur,cp]at p1 p2;exact ih A.in1 q1 q2 q3 q4 (p1 _ (bF j1)) (p2 _ (bF j2)) (by rw[gH];omega))
       rw[l1,l2,a5m]at this;exact EqAt.of_refs hab this
    ·have e0:eqD (.tup xs) e=false:=by cases e<;>first|rfl|(cases g2;done)
     rw[e0]
     cases y with
     |non=>cases ry;exact EqAt.tuple_none t1 (by omega)
     |bl b=>cases ry;exact EqAt.tuple_bool b t1 (by omega)
     |int b=>obtain⟨t,rfl⟩:=ry;exact EqAt.tuple_int b t t1 (by omega)
     |str b=>obtain⟨t,rfl⟩:=ry;exact EqAt.tuple_str b t t1 (by omega)
     |_=>cases g1
  ·rcases a2h q p2 with⟨ys,rfl⟩|⟨g1,g2⟩
   ·cases q with
    |@tup b us _ hb qs =>
     cases ry
     obtain⟨_,its2,r2,t2⟩:=(Rd.of hb).ok hok;have e0:eqD d (.tup ys)=false:=by cases d<;>first|rfl|(cases f2;done)
     rw[e0]
     cases x with
     |non=>cases rx;exact EqAt.none_tuple t2 (by omega)
     |bl b=>cases rx;exact EqAt.bool_tuple b t2 (by omega)
     |int b=>obtain⟨t,rfl⟩:=rx;exact EqAt.int_tuple b t t2 (by omega)
     |str b=>obtain⟨t,rfl⟩:=rx;exact EqAt.str_tuple b t t2 (by omega)
     |_=>cases f1
   ·rw[<-a9x r q f2 g2];exact agz rx ry f1 g1
open SeqAt in
theorem aun(ry:RelV y u)(rx:RelV x v)(fy:a4u y=true)(fx:a4u x=true):RcAt A s u v (eqV y x):=by
 cases y with
 |non =>
  cases ry
  cases x with
  |non=>cases rx;exact RcAt.none_none
  |bl b=>cases rx;exact RcAt.none_bool b
  |int b=>obtain⟨t,rfl⟩:=rx;exact RcAt.none_int b t
  |str b=>obtain⟨t,rfl⟩:=rx;exact RcAt.none_str b t
  |_=>cases fx
 |bl a =>
  cases ry
  cases x with
  |non=>cases rx;exact RcAt.bool_none a
  |bl b=>cases rx;exact RcAt.bool_bool a b
  |int b=>obtain⟨t,rfl⟩:=rx;exact RcAt.bool_int a b t
  |str b=>obtain⟨t,rfl⟩:=rx;exact RcAt.bool_str a b t
  |_=>cases fx
 |int a =>
  obtain⟨t',rfl⟩:=ry
  cases x with
  |non=>cases rx;exact RcAt.int_none a t'
  |bl b=>cases rx;exact RcAt.int_bool a t' b
  |int b=>obtain⟨t,rfl⟩:=rx;exact RcAt.int_int a t' b t
  |str b=>obtain⟨t,rfl⟩:=rx;exact RcAt.int_str a t' b t
  |_=>cases fx
 |str a =>
  obtain⟨t',rfl⟩:=ry
  cases x with
  |non=>cases rx;exact RcAt.str_none a t'
  |bl b=>cases rx;exact RcAt.str_bool a t' b
  |int b=>obtain⟨t,rfl⟩:=rx;exact RcAt.str_int a t' b t
  |str b=>obtain⟨t,rfl⟩:=rx;exact RcAt.str_str a t' b t
  |_=>cases fx
 |_=>cases fy
open SeqAt in
theorem al7(ry:RelV y u)(rx:RelV x v)(fy:a4u y=true)(fx:a4u x=true):RcNeAt A s u v (!eqV y x):=by
 cases y with
 |non =>
  cases ry
  cases x with
  |non=>cases rx;exact RcNeAt.none_none
  |bl b=>cases rx;exact RcNeAt.none_bool b
  |int b=>obtain⟨t,rfl⟩:=rx;exact RcNeAt.none_int b t
  |str b=>obtain⟨t,rfl⟩:=rx;exact RcNeAt.none_str b t
  |_=>cases fx
 |bl a =>
  cases ry
  cases x with
  |non=>cases rx;exact RcNeAt.bool_none a
  |bl b=>cases rx;exact RcNeAt.bool_bool a b
  |int b=>obtain⟨t,rfl⟩:=rx;exact RcNeAt.bool_int a b t
  |str b=>obtain⟨t,rfl⟩:=rx;exact RcNeAt.bool_str a b t
  |_=>cases fx
 |int a =>
  obtain⟨t',rfl⟩:=ry
  cases x with
  |non=>cases rx;exact RcNeAt.int_none a t'
  |bl b=>cases rx;exact RcNeAt.int_bool a t' b
  |int b=>obtain⟨t,rfl⟩:=rx;exact RcNeAt.int_int a t' b t
  |str b=>obtain⟨t,rfl⟩:=rx;exact RcNeAt.int_str a t' b t
  |_=>cases fx
 |str a =>
  obtain⟨t',rfl⟩:=ry
  cases x with
  |non=>cases rx;exact RcNeAt.str_none a t'
  |bl b=>cases rx;exact RcNeAt.str_bool a t' b
  |int b=>obtain⟨t,rfl⟩:=rx;exact RcNeAt.str_int a t' b t
  |str b=>obtain⟨t,rfl⟩:=rx;exact RcNeAt.str_str a t' b t
  |_=>cases fx
 |_=>cases fy
open SeqAt in
theorem tops{s:Shared}{A:Around}(hok:HOk P w H s.heap)(r:Rep K ι H x d)(q:Rep K ι H y e)(rx:RelV x u)(ry:RelV y v)(p1:pur 60 d=true)(p2:pur 60 e=true)(hu:A.units+64<cLine) :
  RcAt A s u v (eqD d e)/\RcNeAt A s u v (!eqD d e):=by
 rcases a2h r p1 with⟨xs,rfl⟩|⟨f1,f2⟩
 ·cases r with
  |@tup a vs _ ha rs =>
   cases rx
   obtain⟨_,its,r1,t1⟩:=(Rd.of ha).ok hok
   rcases a2h q p2 with⟨ys,rfl⟩|⟨g1,g2⟩
   ·cases q with
    |@tup b us _ hb qs =>
     cases ry
     obtain⟨_,its2,r2,t2⟩:=(Rd.of hb).ok hok;have l1:its.toArray.size=xs.length:=by rw[aK,<-r1.length,rs.len]
     have l2:its2.toArray.size=ys.length:=by rw[aK,<-r2.length,qs.len]
     have step:∀j (h1:j<its.toArray.size) (h2:j<its2.toArray.size),EqAt A.in1 s its.toArray[j] its2.toArray[j] (pairE xs ys j):=λj h1 h2=>by
      have j1:j<xs.length:=by omega
      have j2:j<ys.length:=by omega
      obtain⟨v1,e1,q1⟩:=rs.get (af j1);obtain⟨v2,e2,q2⟩:=qs.get (af j2);obtain⟨u1,e3,q3⟩:=r1.get e1;obtain⟨u2,e4,q4⟩:=r2.get e2;have f1:its.toArray[j]=u1:=by simpa using (ag.mp e3).2
      have f2:its2.toArray[j]=u2:=by simpa using (ag.mp e4).2
      have pe:pairE xs ys j=eqD xs[j] ys[j]:=by simp[pairE,af j1,af j2]
      rw[f1,f2,pe];simp only[pur,cp]at p1 p2;exact anf hok 59 A.in1 q1 q2 q3 q4 (p1 _ (bF j1)) (p2 _ (bF j2)) (by rw[gH];omega)
     have c1:=RcAt.tuples (A:=A) (s:=s) (e:=pairE xs ys) t1 t2 (by omega) step
     have c2:=RcNeAt.tuples (A:=A) (s:=s) (e:=pairE xs ys) t1 t2 (by omega) step
     rw[l1,l2,a5m]at c1 c2;exact⟨c1,c2⟩
   ·have e0:eqD (.tup xs) e=false:=by cases e<;>first|rfl|(cases g2;done)
    rw[e0]
    cases y with
    |non=>cases ry;exact⟨RcAt.tuple_none t1 (by omega),RcNeAt.tuple_none t1 (by omega)⟩
    |bl b=>cases ry;exact⟨RcAt.tuple_bool b t1 (by omega),RcNeAt.tuple_bool b t1 (by omega)⟩
    |int b=>obtain⟨t,rfl⟩:=ry;exact⟨RcAt.tuple_int b t t1 (by omega),RcNeAt.tuple_int b t t1 (by omega)⟩
    |str b=>obtain⟨t,rfl⟩:=ry;exact⟨RcAt.tuple_str b t t1 (by omega),RcNeAt.tuple_str b t t1 (by omega)⟩
    |_=>cases g1
 ·rcases a2h q p2 with⟨ys,rfl⟩|⟨g1,g2⟩
  ·cases q with
   |@tup b us _ hb qs =>
    cases ry
    obtain⟨_,its2,r2,t2⟩:=(Rd.of hb).ok hok;have e0:eqD d (.tup ys)=false:=by cases d<;>first|rfl|(cases f2;done)
    rw[e0]
    cases x with
    |non=>cases rx;exact⟨RcAt.none_tuple t2 (by omega),RcNeAt.none_tuple t2 (by omega)⟩
    |bl b=>cases rx;exact⟨RcAt.bool_tuple b t2 (by omega),RcNeAt.bool_tuple b t2 (by omega)⟩
    |int b=>obtain⟨t,rfl⟩:=rx;exact⟨RcAt.int_tuple b t t2 (by omega),RcNeAt.int_tuple b t t2 (by omega)⟩
    |str b=>obtain⟨t,rfl⟩:=rx;exact⟨RcAt.str_tuple b t t2 (by omega),RcNeAt.str_tuple b t t2 (by omega)⟩
    |_=>cases f1
  ·rw[<-a9x r q f2 g2];exact⟨aun rx ry f1 g1,al7 rx ry f1 g1⟩
def b04(K:Fg):R2:=λx y H Q=>∃ι d e,Rep K ι H x d/\Rep K ι H y e/\pur 60 d=true/\pur 60 e=true/\Q (.bl (eqD d e)) H
def b05(K:Fg):R2:=λx y H Q=>∃ι d e,Rep K ι H x d/\Rep K ι H y e/\pur 60 d=true/\pur 60 e=true/\Q (.bl (!eqD d e)) H
theorem ang{X:Cx}(hu:X.A.units+64<cLine):OpR X (compareOp .Eq) (b04 X.K):=by
 intro aA s σ H x y v u Q I rx ry h
 obtain⟨ι,d,e,r,q,p1,p2,hq⟩:=h;exact(tops (A:=X.A) I.hok r q rx ry p1 p2 hu).1 X.prog X.w X.xe _ ⟨.bl _,H,I,rfl,hq⟩
theorem a5n{X:Cx}(hu:X.A.units+64<cLine):OpR X (compareOp .NotEq) (b05 X.K):=by
 intro aA s σ H x y v u Q I rx ry h
 obtain⟨ι,d,e,r,q,p1,p2,hq⟩:=h;exact(tops (A:=X.A) I.hok r q rx ry p1 p2 hu).2 X.prog X.w X.xe _ ⟨.bl _,H,I,rfl,hq⟩
def hEq(x y:D)(h:Hd):R D:=if pur 60 x=true/\pur 60 y=true then .ok (.bl (eqD x y)) h else .no
def hNe(x y:D)(h:Hd):R D:=if pur 60 x=true/\pur 60 y=true then .ok (.bl (!eqD x y)) h else .no
theorem ahw:a3o K hEq (b04 K):=by
 intro E ι H h x y dx dy Q rx ry hr o
 unfold hEq at o
 split at o
 ·rename_i hc;exact⟨ι,dx,dy,rx,ry,hc.1,hc.2,ans o (.bl _) hr⟩
 ·exact o.elim
theorem a2q:a3o K hNe (b05 K):=by
 intro E ι H h x y dx dy Q rx ry hr o
 unfold hNe at o
 split at o
 ·rename_i hc;exact⟨ι,dx,dy,rx,ry,hc.1,hc.2,ans o (.bl _) hr⟩
 ·exact o.elim
end
section
variable{X:Cx}{E:XD}{K:Fg}
def a1r:D->D->Hd->R D
 |.int i,.int j,h=>.ok (.int (i+j)) h
 |.str x,.str y,h=>if x.length+y.length<=LINE then .ok (.str (x++y)) h else .no
 |_,_,_=>.no
theorem a0j:a3o K a1r (λx y H Q=>rI0 (λi j=>.int (i+j)) x y H Q\/∃i j,x=.str i/\y=.str j/\i.length+j.length<=sizeLine/\Q (.str (i++j)) H):=by
 intro E ι H h x y dx dy Q rx ry hr o
 cases rx with
 |int i =>
  cases ry with
  |int j=>exact .inl ⟨i,j,rfl,rfl,ans o (.int _) hr⟩
  |_=>exact o.elim
 |str i =>
  cases ry with
  |str j =>
   by_cases hc:i.length+j.length<=LINE
   ·simp only[a1r,aT hc]at o;exact .inr ⟨i,j,rfl,rfl,ll hc,ans o (.str _) hr⟩
   ·simp only[a1r,bA hc]at o;exact o.elim
  |_=>exact o.elim
 |_=>exact o.elim
theorem auo:bootBuiltins "min" = some (.builtin "min"):=by first|exact PySem.boot_min|exact PyProof.Rows.boot_min
theorem aq0:bootBuiltins "bool" = some (.type "bool"):=by first|exact PySem.boot_bool|exact PyProof.Rows.boot_bool
theorem aup:bootBuiltins "sum" = some (.builtin "sum"):=by first|exact PySem.boot_sum|exact PyProof.Rows.boot_sum
theorem du(h1:MG X E e g)(h2:MGs X E es ks)(hs:(assignEach (e::es) X.env).map (·.2)=assign e X.env::(assignEach es X.env).map (·.2):=by rfl):MGs X E (e::es) (iy g ks) :=
 PGs.weak (aka h1 h2 hs) λvs σ H Q q=>aky q
end
end MI
namespace ZP
open PySem.Builtin PySem.Builtin.SmallTypes
section
variable{prog:Program}{w:World}{A:Around}{E:Value->Shared->Prop}{s:Shared}
theorem ad6{α:Type}{Q:α->Shared->Prop}(hh:A.handled=none)(q:∀h' e,(∀b o,s.heap.get? b=some o->h'.get? b=some o)->(∃o,h'.get? e=some o/\o.cls=.type "StopIteration")->E (.ref e) {s with heap:=h' }) :
  wpAny (model prog w) A (stopIteration:Sem α) Q E s:=by
 have none_first:firstArgMember (.type "StopIteration") []=pure Value.none:=by first|rfl|(simp only[firstArgMember];rfl)
 rw[stopIteration]
 apply aE
 rw[newExc,newTuple]
 apply aE
 apply cZ _ (by size_fits)
 rw[none_first,pure_bind]
 apply cZ _ (by size_fits)
 apply wpAny_raiseNew_none hh
 exact q _ _ (λb o z=>av _ (av _ z)) ⟨_,bb _ rfl,rfl⟩
theorem al8(hi:s.heap.IsTupleIter it t i)(ht:s.heap.IsTuple t aC)(hx:aC[i]? = some x)
  (q:∀h',h'.IsTupleIter it t (i+1)->Heap.SameBut it s.heap h'->Q x {s with heap:=h' }):wpAny (model prog w) A (nextOf (.ref it)) Q E s:=by
 have ty:=hi.typeIs;obtain⟨o,e1,e2,e3⟩:=id hi;obtain⟨p,f1,f2,n,f3⟩:=ht;rw[nextOf]
 apply aE
 apply cL (name:=Str.ofString "__next__") ty dA
 apply dW dA ty fS _ (fL _)
 change wpAny (model prog w) A.in1 (field (.ref it) 0>>=_) _ _ _
 apply aE;apply dD e1 e3 (x:=.ref t) rfl
 change wpAny (model prog w) A.in1 (field (.ref it) 1>>=_) _ _ _
 apply aE;apply dD e1 e3 (x:=.int i 0) rfl
 change wpAny (model prog w) A.in1 (seqItems? (.ref t)>>=_) _ _ _
 apply aE;apply eF f1 f3
 dsimp only;rw[dJ,hx]
 apply aE
 obtain⟨c,dd,dt,sl⟩:=o;simp only at e2 e3;subst e2 e3
 apply wpAny_setField e1 rfl (fE 1)
 apply bp
 exact⟨x,rfl,bp (q _ ⟨_,Heap.get?_update_self _ e1 rfl,rfl,rfl⟩ (Heap.SameBut.update ..))⟩
theorem aq1{it t:Addr}{i:Nat}{aC:Array Value}{Q:Value->Shared->Prop}(hh:A.handled=none)(hi:s.heap.IsTupleIter it t i)(ht:s.heap.IsTuple t aC)(hx:aC[i]? = none)
  (q:∀h' e,Heap.ExtBut it s.heap h'->(∃o,h'.get? e=some o/\o.cls=.type "StopIteration")->E (.ref e) {s with heap:=h' }):wpAny (model prog w) A (nextOf (.ref it)) Q E s:=by
 have ty:=hi.typeIs;obtain⟨o,e1,e2,e3⟩:=id hi;obtain⟨p,f1,f2,n,f3⟩:=ht;rw[nextOf]
 apply aE
 apply cL (name:=Str.ofString "__next__") ty dA
 apply dW dA ty fS _ (fL _)
 change wpAny (model prog w) A.in1 (field (.ref it) 0>>=_) _ _ _
 apply aE;apply dD e1 e3 (x:=.ref t) rfl
 change wpAny (model prog w) A.in1 (field (.ref it) 1>>=_) _ _ _
 apply aE;apply dD e1 e3 (x:=.int i 0) rfl
 change wpAny (model prog w) A.in1 (seqItems? (.ref t)>>=_) _ _ _
 apply aE;apply eF f1 f3
 dsimp only;rw[dJ,hx];dsimp only;obtain⟨c,dd,dt,sl⟩:=o;simp only at e2 e3;subst e2 e3
 apply aE;apply wpAny_rule
 apply aE;apply wpAny_setField e1 rfl (fz 1)
 apply ad6 (show A.in1.handled=none from hh)
 exact λh' e k z=>q h' e (λb o nb eb=>k b o ((Heap.SameBut.update ..).extBut b o nb eb)) z
theorem ahx{A:Around}(hh:A.handled=none)(it t:Addr)(ne:t≠it)(aC:Array Value):Draws prog w A it [it,t] aC.size (λi v=>aC[i]? = some v) (λi h=>h.IsTupleIter it t i/\h.IsTuple t aC) where
 live:=λ_ _ st=>let ⟨o,e,_⟩:=st.1; ⟨o,e⟩
 frame:=λ_ _ _ st k=>⟨let ⟨o,e,r⟩:=st.1; ⟨o,k it (by simp) o e,r⟩,let ⟨o,e,r⟩:=st.2; ⟨o,k t (by simp) o e,r⟩⟩
 item:=λi s Q E hi st q=>al8 st.1 st.2 (gc hi) λh' a b=>q _ h' s.toks (gc hi) ⟨a,st.2.extBut b.extBut ne⟩ b
 done:=λs Q E st q=>aq1 hh st.1 st.2 (by simp) q
end
structure Ap (z TI TO i1 i2:Addr) (p q:List Addr):Prop where
 m1:i1∈p
 m2:i2∈q
 z1:z∉p
 z2:z∉q
 o1:TO∉p
 o2:TO∉q
 oz:TO≠z
 x1:i1∉q
 x2:i2∉p
section
variable{prog:Program}{w:World}{A:Around}{E:Value->Shared->Prop}{s:Shared}{z TI TO i1 i2:Addr}{p q:List Addr}{n1 n2 k:Nat}{P1 P2:Nat->Value->Prop}{S1 S2:Nat->Heap->Prop}{a b:Value}
theorem far{D:Draws prog w A i1 p n1 P1 S1}(sb:Heap.SameBut c h h')(nc:c∉p)(st:S1 k h):S1 k h':=D.frame _ _ _ st λx hx o e=>sb.extBut x o (λy=>nc (y ▸ hx)) e
theorem ahy(hz:IsZip s.heap z TI TO .none)(hi:IsPair s.heap TI (.ref i1) (.ref i2))(ho:IsPair s.heap TO a b)(oz:TO≠z)
  (go:∀h1,IsZip h1 z TI TO .ellipsis->Heap.SameBut z s.heap h1->wpAny (model prog w) A (nextOf (.ref i1))
   (λx s2=>IsPair s2.heap TO a b/\∀h3,IsPair h3 TO x b->Heap.SameBut TO s2.heap h3->wpAny (model prog w) A (nextOf (.ref i2))
    (λy s4=>IsPair s4.heap TO x b/\∀h5,IsPair h5 TO x y->Heap.SameBut TO s4.heap h5->IsZip h5 z TI TO .ellipsis/\∀h8,IsZip h8 z TI TO (rawInt h5.objs.size)->IsPair h8 h5.objs.size x y->h8.objs.size=h5.objs.size+1->
     (∀c o,c≠z->h5.get? c=some o->h8.get? c=some o)->Q (.done (.ret (.ref h5.objs.size))) {s4 with heap:=h8})
    (λe s4=>wpAny (model prog w) A (setField (.ref z) 0 .none) (λ_ s5=>E e s5) E s4) {s2 with heap:=h3})
   (λe s2=>wpAny (model prog w) A (setField (.ref z) 0 .none) (λ_ s3=>E e s3) E s2) {s with heap:=h1}) :
  wpAny (model prog w) A (Builtin.«zip.__next__» ⟨[.ref z],[]⟩) Q E s:=by
 change wpAny (model prog w) A (field (.ref z) 2>>=_) _ _ _
 apply aE;apply dD hz rfl (x:=.bool false) rfl
 change wpAny (model prog w) A (field (.ref z) 3>>=_) _ _ _
 apply aE;apply dD hz rfl (x:=.ref TI) rfl
 apply aE;apply eF hi rfl
 change wpAny (model prog w) A (ownedTupleIsFree (.ref z)>>=_) _ _ _
 apply aE
 rw[ownedTupleIsFree]
 apply aE;apply dD hz rfl (x:=.none) rfl
 apply bp
 rw[aT rfl]
 apply aE;apply wpAny_rule
 apply aE;apply dD hz rfl (x:=.ref TO) rfl
 apply aE;apply dZ hz (fz _)
 intro h1 z1 b1
 apply aE
 simp only[List.zipIdx_cons,List.zipIdx_nil,List.forIn_cons,List.forIn_nil]
 apply aE;apply aE;apply wpAny_onRaise
 change wpAny (model prog w) A (nextOf (.ref i1)>>=_) _ _ _
 apply aE
 apply dH (go h1 z1 b1) _ λ_ _ r=>r
 rintro x s2 ⟨o2,g2⟩
 apply bp
 apply aE;apply eF o2 rfl
 apply aE;apply wpAny_updateSeq_pair o2
 intro h3 o3 b3
 apply aE;apply wpAny_letGo;apply bp
 apply aE;apply aE;apply wpAny_onRaise
 change wpAny (model prog w) A (nextOf (.ref i2)>>=_) _ _ _
 apply aE
 apply dH (g2 h3 o3 b3) _ λ_ _ r=>r
 rintro y s4 ⟨o4,g4⟩
 apply bp
 apply aE;apply eF o4 rfl
 apply aE;apply wpAny_updateSeq_pair o4
 intro h5 o5 b5
 obtain⟨z5,g5⟩:=g4 h5 o5 b5
 apply aE;apply wpAny_letGo;apply bp;apply bp
 apply aE;apply eF o5 rfl
 apply aE;refine wpAny_newTuple ?_ (by show 2<=sizeLine;decide)
 change wpAny (model prog w) A (ownedTupleHandOut (.ref z) (.ref h5.objs.size)>>=_) _ _ _
 apply aE
 rw[ownedTupleHandOut];have z6:IsZip (h5.push {cls:=.type "tuple",data:=.seq #[x,y]}) z TI TO .ellipsis:=av _ z5;have lt:z<h5.objs.size:=aX z5
 apply aE;apply dZ z6 (fz _)
 intro h7 z7 b7
 apply dZ z7 (by show 1<5;decide)
 intro h8 z8 b8
 apply bp
 refine g5 h8 z8 (b8.extBut _ _ (Nat.ne_of_gt lt) (b7.extBut _ _ (Nat.ne_of_gt lt) (bb _ rfl))) ?_ λc o nc e=>b8.extBut _ _ nc (b7.extBut _ _ nc (av _ e));rw[b8.1,b7.1,cM]
theorem al9{Q:Value->Shared->Prop}(D1:Draws prog w A i1 p n1 P1 S1)(D2:Draws prog w A i2 q n2 P2 S2)(ap:Ap z TI TO i1 i2 p q)(hz:IsZip s.heap z TI TO .none)(hi:IsPair s.heap TI (.ref i1) (.ref i2))(ho:IsPair s.heap TO a b)
  (s1:S1 k s.heap) (s2:S2 k s.heap) (k1:k<n1) (k2:k<n2)
  (hQ:∀x y h' tk,P1 k x->P2 k y->IsZip h' z TI TO (rawInt s.heap.objs.size)->IsPair h' TO x y->S1 (k+1) h'->S2 (k+1) h'->IsPair h' s.heap.objs.size x y->h'.objs.size=s.heap.objs.size+1->
   (∀c o,c≠z->c≠TO->c≠i1->c≠i2->s.heap.get? c=some o->h'.get? c=some o)->Q (.ref s.heap.objs.size) {s with heap:=h',toks:=tk}) :
  wpAny (model prog w) A (Builtin.«zip.__next__» ⟨[.ref z],[]⟩) (λfin s'=>∃v,fin=.done (.ret v)/\Q v s') E s:=by
 have ni1:i1≠z:=λe=>ap.z1 (e ▸ ap.m1);have ni2:i2≠z:=λe=>ap.z2 (e ▸ ap.m2);have no1:TO≠i1:=λe=>ap.o1 (e ▸ ap.m1);have no2:TO≠i2:=λe=>ap.o2 (e ▸ ap.m2);refine ahy hz hi ho ap.oz λh1 z1 b1=>?_;refine D1.item k _ _ _ k1 (far (D:=D1) b1 ap.z1 s1) λx h2 t2 px st2 b2=>?_;refine⟨b2.extBut _ _ no1 (b1.extBut _ _ ap.oz ho),λh3 o3 b3=>?_⟩;refine D2.item k _ _ _ k2 (far (D:=D2) b3 ap.o2 (far (D:=D2) b2 ap.x1 (far (D:=D2) b1 ap.z2 s2))) λy h4 t4 py st4 b4=>?_;refine⟨b4.extBut _ _ no2 o3,λh5 o5 b5=>⟨b5.extBut _ _ ap.oz.symm (b4.extBut _ _ ni2.symm (b3.extBut _ _ ap.oz.symm (b2.extBut _ _ ni1.symm z1))),λh8 z8 t8 l8 k8=>⟨_,rfl,?_⟩⟩⟩
 have sz:h5.objs.size=s.heap.objs.size:=by rw[b5.1,b4.1,b3.1,b2.1,b1.1]
 have g1:S1 (k+1) h8:=D1.frame _ _ _ (far (D:=D1) b5 ap.o1 (far (D:=D1) b4 ap.x2 (far (D:=D1) b3 ap.o1 st2))) λc hc o e=>k8 c o (λy=>ap.z1 (y ▸ hc)) e;have g2:S2 (k+1) h8:=D2.frame _ _ _ (far (D:=D2) b5 ap.o2 st4) λc hc o e=>k8 c o (λy=>ap.z2 (y ▸ hc)) e;rw[sz]at z8 t8 l8 ⊢;exact hQ x y h8 t4 px py z8 (k8 _ _ ap.oz o5) g1 g2 t8 l8 λc o c1 c2 c3 c4 e=>k8 c o c1 (b5.extBut _ _ c2 (b4.extBut _ _ c4 (b3.extBut _ _ c2 (b2.extBut _ _ c3 (b1.extBut _ _ c1 e)))))
theorem aq2(D1:Draws prog w A i1 p n1 P1 S1)(D2:Draws prog w A i2 q n2 P2 S2)(ap:Ap z TI TO i1 i2 p q)(hz:IsZip s.heap z TI TO .none)(hi:IsPair s.heap TI (.ref i1) (.ref i2))(ho:IsPair s.heap TO a b)
  (s1:S1 k s.heap) (s2:S2 k s.heap) (kk:k=n1\/(k<n1/\k=n2))
  (hE:∀h' tk e,(∀c o,c≠z->c≠TO->c≠i1->c≠i2->s.heap.get? c=some o->h'.get? c=some o)->(∃o,h'.get? e=some o/\o.cls=.type "StopIteration")->E (.ref e) {s with heap:=h',toks:=tk}) :
  wpAny (model prog w) A (Builtin.«zip.__next__» ⟨[.ref z],[]⟩) Q E s:=by
 have ni1:i1≠z:=λe=>ap.z1 (e ▸ ap.m1);have ni2:i2≠z:=λe=>ap.z2 (e ▸ ap.m2);have no1:TO≠i1:=λe=>ap.o1 (e ▸ ap.m1);have stop:∀{h:Heap} {e:Addr},(∃o,h.get? e=some o/\o.cls=.type "StopIteration")->IsZip h z TI TO .ellipsis->e≠z:=λ{h e} ⟨o,eo,ec⟩ zz y=>by
  subst y;rw[zz]at eo;cases eo;simp at ec
 refine ahy hz hi ho ap.oz λh1 z1 b1=>?_
 rcases kk with rfl|⟨k1,rfl⟩
 ·refine D1.done _ _ _ (far (D:=D1) b1 ap.z1 s1) λh2 e x2 st=>?_;have z2:IsZip h2 z TI TO .ellipsis:=x2 _ _ ni1.symm z1;have ne:=stop st z2;obtain⟨oe,f1,f2⟩:=st;refine dZ z2 (fz _) λh3 _ b3=>?_;exact hE h3 _ e (λc o c1 _ c3 _ y=>b3.extBut _ _ c1 (x2 _ _ c3 (b1.extBut _ _ c1 y))) ⟨oe,b3.extBut _ _ ne f1,f2⟩
 ·refine D1.item k _ _ _ k1 (far (D:=D1) b1 ap.z1 s1) λx h2 t2 px st2 b2=>?_;refine⟨b2.extBut _ _ no1 (b1.extBut _ _ ap.oz ho),λh3 o3 b3=>?_⟩;refine D2.done _ _ _ (far (D:=D2) b3 ap.o2 (far (D:=D2) b2 ap.x1 (far (D:=D2) b1 ap.z2 s2))) λh4 e x4 st=>?_;have z4:IsZip h4 z TI TO .ellipsis:=x4 _ _ ni2.symm (b3.extBut _ _ ap.oz.symm (b2.extBut _ _ ni1.symm z1));have ne:=stop st z4;obtain⟨oe,f1,f2⟩:=st;refine dZ z4 (fz _) λh5 _ b5=>?_;exact hE h5 _ e (λc o c1 c2 c3 c4 y=>b5.extBut _ _ c1 (x4 _ _ c4 (b3.extBut _ _ c2 (b2.extBut _ _ c3 (b1.extBut _ _ c1 y))))) ⟨oe,b5.extBut _ _ ne f1,f2⟩
theorem next_item{Q:Option Value->Shared->Prop}(D1:Draws prog w A.in1 i1 p n1 P1 S1)(D2:Draws prog w A.in1 i2 q n2 P2 S2)(ap:Ap z TI TO i1 i2 p q)(hz:IsZip s.heap z TI TO .none)(hi:IsPair s.heap TI (.ref i1) (.ref i2))(ho:IsPair s.heap TO a b)
  (s1:S1 k s.heap) (s2:S2 k s.heap) (k1:k<n1) (k2:k<n2)
  (hQ:∀x y h' tk,P1 k x->P2 k y->IsZip h' z TI TO (rawInt s.heap.objs.size)->IsPair h' TO x y->S1 (k+1) h'->S2 (k+1) h'->IsPair h' s.heap.objs.size x y->h'.objs.size=s.heap.objs.size+1->
   (∀c o,c≠z->c≠TO->c≠i1->c≠i2->s.heap.get? c=some o->h'.get? c=some o)->Q (some (.ref s.heap.objs.size)) {s with heap:=h',toks:=tk}):wpAny (model prog w) A (pyNext (.ref z)) Q E s:=by
 have ty:s.TypeIs (.ref z) "zip":=⟨_,hz,rfl⟩;rw[pyNext]
 apply aE;apply wpAny_attempt
 apply cL (name:=Str.ofString "__next__") ty fT
 apply dW fT ty F.entry_zip_next _ (F.args_zip_next_1 _)
 exact al9 D1 D2 ap hz hi ho s1 s2 k1 k2 λx y h' tk c1 c2 c3 c4 c5 c6 c7 c8 c9=>bp (hQ x y h' tk c1 c2 c3 c4 c5 c6 c7 c8 c9)
theorem next_end(D1:Draws prog w A.in1 i1 p n1 P1 S1)(D2:Draws prog w A.in1 i2 q n2 P2 S2)(ap:Ap z TI TO i1 i2 p q)(hz:IsZip s.heap z TI TO .none)(hi:IsPair s.heap TI (.ref i1) (.ref i2))(ho:IsPair s.heap TO a b)
  (s1:S1 k s.heap) (s2:S2 k s.heap) (kk:k=n1\/(k<n1/\k=n2))
  (hQ:∀h' tk,(∀c o,c≠z->c≠TO->c≠i1->c≠i2->s.heap.get? c=some o->h'.get? c=some o)->Q none {s with heap:=h',toks:=tk}):wpAny (model prog w) A (pyNext (.ref z)) Q E s:=by
 have ty:s.TypeIs (.ref z) "zip":=⟨_,hz,rfl⟩;rw[pyNext]
 apply aE;apply wpAny_attempt
 apply cL (name:=Str.ofString "__next__") ty fT
 apply dW fT ty F.entry_zip_next _ (F.args_zip_next_1 _)
 refine aq2 D1 D2 ap hz hi ho s1 s2 kk ?_
 rintro h' tk e kp ⟨o,f1,f2⟩
 refine aE (wpAny_isInstance (b:=true) (T := "StopIteration") ⟨o,f1,f2⟩ isSubtype_stop (bp (hQ h' tk kp)))
end
end ZP
namespace ZP
open PySem.Builtin PySem.Builtin.SmallTypes L2
inductive Srk where
 |tup (a:Addr)|lst (a:Addr)|str (x:Str)
def Srk.v:Srk->V
 |.tup a=>.ref a
 |.lst a=>.ref a
 |.str x=>.str x
def its(H:Hp):Srk->Option (List V)
 |.tup a=>match H a with|some (.tup vs)=>some vs|_=>none
 |.lst a=>match H a with|some (.lst vs)=>some vs|some (.frz _ (.lst vs))=>some vs|_=>none
 |.str x=>some (a3d x)
def own(it:Addr)(t:Tok):Srk->Nat->Heap->Prop
 |.tup a,i,h=>h.IsTupleIter it a i
 |.lst a,i,h=>h.IsListIter it a i
 |.str x,i,h=>h.IsStrIter it (strIterType x) x t i
def iob(t:Tok):Srk->Obj
 |.tup a=>{cls:=.type "tuple_iterator",data:=.fields #[.ref a,.int 0 0]}
 |.lst a=>{cls:=.type "list_iterator",data:=.fields #[.ref a,.int 0 0]}
 |.str x=>{cls:=.type (strIterType x),data:=.fields #[.str x t,.int 0 0]}
def val(t:Tok):Srk->Value
 |.tup a=>.ref a
 |.lst a=>.ref a
 |.str x=>.str x t
def cont(h:Heap):Srk->List Value->Prop
 |.tup a,us=>h.IsTuple a us.toArray
 |.lst a,us=>h.IsList a us.toArray
 |.str x,us=>True
theorem b06{h:Heap}(e:h.get? it=some (iob t k)):own it t k 0 h:=by
 cases k with
 |tup a=>exact⟨_,e,rfl,rfl⟩
 |lst a=>exact⟨_,e,rfl,rfl⟩
 |str x=>exact⟨_,e,rfl,rfl⟩
theorem a9y(o:own it t k i h):∃ob,h.get? it=some ob/\∀v,ob.data≠.cell v:=by
 cases k with
 |tup a=>obtain⟨ob,e,_,d⟩:=o;exact⟨ob,e,λv z=>by rw[d]at z;cases z⟩
 |lst a=>obtain⟨ob,e,_,d⟩:=o;exact⟨ob,e,λv z=>by rw[d]at z;cases z⟩
 |str x=>obtain⟨ob,e,_,d⟩:=o;exact⟨ob,e,λv z=>by rw[d]at z;cases z⟩
theorem a7i{h':Heap}(o:own it t k i h)(kk:∀ob,h.get? it=some ob->h'.get? it=some ob):own it t k i h':=by
 cases k with
 |tup a=>obtain⟨ob,e,r⟩:=o;exact⟨ob,kk _ e,r⟩
 |lst a=>obtain⟨ob,e,r⟩:=o;exact⟨ob,kk _ e,r⟩
 |str x=>obtain⟨ob,e,r⟩:=o;exact⟨ob,kk _ e,r⟩
section
variable{P:Program}{w:World}{H:Hp}{s:Shared}
theorem a9z(I:Inv X aA σ H s)(e:its H k=some xs):∃us,cont s.heap k us/\((∀x,k≠.str x)->Vals xs us):=by
 cases k with
 |tup a =>
  cases q:H a with
  |none=>simp[its,q]at e
  |some o =>
   cases o with
   |tup vs =>
    simp[its,q]at e;subst e
    obtain⟨us,r,t,_⟩:=I.tuple (SqT.of q);exact⟨us,t,λ_=>r⟩
   |_=>simp[its,q]at e
 |lst a =>
  cases q:H a with
  |none=>simp[its,q]at e
  |some o =>
   cases o with
   |lst vs =>
    simp[its,q]at e;subst e
    obtain⟨us,r,t,_⟩:=I.list (SqL.of q);exact⟨us,t.isList,λ_=>r⟩
   |frz ob u =>
    cases u with
    |lst vs =>
     simp[its,q]at e;subst e
     obtain⟨us,r,t,_⟩:=I.list (.inl (.inr ⟨_,q⟩));exact⟨us,t.isList,λ_=>r⟩
    |_=>simp[its,q]at e
   |_=>simp[its,q]at e
 |str x=>exact⟨[],True.intro,λn=>absurd rfl (n x)⟩
theorem aa0(I:Inv X aA σ H s)(e:its H k=some xs)(hn:H it=none) :
  ∃(cs:List Addr) (P1:Nat->Value->Prop) (S1:Nat->Heap->Prop),(∀A:Around,A.handled=none->Draws X.prog X.w A it (it::cs) xs.length P1 S1)/\(∀i,own it t k i s.heap->S1 i s.heap)/\(∀i h,S1 i h->own it t k i h)/\(∀c∈cs,H c≠none) /\
   ∀i v,P1 i v->∃x,xs[i]? = some x/\RelV x v:=by
 cases k with
 |tup a =>
  obtain⟨us,c,r⟩:=a9z I e;have r:=r (by intro x z;cases z)
  have ha:H a≠none:=λz=>by simp[its,z]at e
  have l:us.toArray.size=xs.length:=by rw[aK,r.length]
  refine⟨[a],λi v=>us.toArray[i]? = some v,λi h=>h.IsTupleIter it a i/\h.IsTuple a us.toArray,λA hA=>?_,λi o=>⟨o,c⟩,λi h z=>z.1,λc hc=>by rw[ar.mp hc];exact ha,λi v z=>?_⟩
  ·have:=ahx (prog:=X.prog) (w:=X.w) hA it a (λy=>ha (y ▸ hn)) us.toArray
   rw[l]at this;exact this
  ·have z':us[i]? = some v:=by simpa using z
   have hi:i<xs.length:=by rw[r.length];exact(ag.mp z').1
   obtain⟨u,e1,e2⟩:=r.get (af hi);rw[z']at e1;cases e1
   exact⟨_,af hi,e2⟩
 |lst a =>
  obtain⟨us,c,r⟩:=a9z I e;have r:=r (by intro x z;cases z)
  have ha:H a≠none:=λz=>by simp[its,z]at e
  have l:us.toArray.size=xs.length:=by rw[aK,r.length]
  refine⟨[a],λi v=>us.toArray[i]? = some v,λi h=>h.IsListIter it a i/\h.IsList a us.toArray,λA hA=>?_,λi o=>⟨o,c⟩,λi h z=>z.1,λc hc=>by rw[ar.mp hc];exact ha,λi v z=>?_⟩
  ·have:=Draws.list (prog:=X.prog) (w:=X.w) hA it a (λy=>ha (y ▸ hn)) us.toArray
   rw[l]at this;exact this
  ·have z':us[i]? = some v:=by simpa using z
   have hi:i<xs.length:=by rw[r.length];exact(ag.mp z').1
   obtain⟨u,e1,e2⟩:=r.get (af hi);rw[z']at e1;cases e1
   exact⟨_,af hi,e2⟩
 |str x =>
  cases e
  have l:(a3d x).length=x.cps.size:=by simp[a3d]
  refine⟨[],λi v=>∃c u,x.cps[i]? = some c/\v=.str ⟨#[c]⟩ u,λi h=>h.IsStrIter it (strIterType x) x t i,λA hA=>?_,λi o=>o,λi h z=>z,λc hc=>(by cases hc),λi v z=>?_⟩
  ·rw[l]
   cases ha:x.cps.all (· < 128)
   ·have:=Draws.strWide (prog:=X.prog) (w:=X.w) hA it x t
    simpa[strIterType,ha] using this
   ·have:=Draws.strAscii (prog:=X.prog) (w:=X.w) hA it x t
    simpa[strIterType,ha] using this
  ·obtain⟨c,u,e1,rfl⟩:=z;exact⟨.str ⟨#[c]⟩,by simp[a3d,e1],⟨_,rfl⟩⟩
end
def ItZ(k1 k2:Srk):It where
 go:=λi H=>∃xs ys x y,its H k1=some xs/\its H k2=some ys/\xs[i]? = some x/\ys[i]? = some y
 yld:=λi H v H'=>∃xs ys x y p,its H k1=some xs/\its H k2=some ys/\xs[i]? = some x/\ys[i]? = some y/\H p=none/\v=.ref p/\H'=upd H p (.tup [x,y])
 stop:=λi H=>∃xs ys,its H k1=some xs/\its H k2=some ys/\(i=xs.length\/(i<xs.length/\i=ys.length))
def tnZ(z TI TO i1 i2:Addr)(t1 t2:Tok)(k1 k2:Srk)(i:Nat)(h:Heap):Prop :=
 IsZip h z TI TO .none/\IsPair h TI (.ref i1) (.ref i2)/\(∃a b,IsPair h TO a b)/\own i1 t1 k1 i h/\own i2 t2 k2 i h
structure Far (z TI TO i1 i2:Addr):Prop where
 a:TI≠z
 b:TO≠z
 c:i1≠z
 d:i2≠z
 e:TI≠TO
 f:TI≠i1
 g:TI≠i2
 h:TO≠i1
 i:TO≠i2
 j:i1≠i2
theorem ahz{X:Cx}{aA:List (Addr×Obj)}{σ:St}{H:Hp}{s:Shared}{h':Heap}{t':Nat}{ch:List Addr}(I:Inv X aA σ H s)(hf:∀b∈ch,aaz X aA H b)(k:∀b o,b∉ch->s.heap.get? b=some o->h'.get? b=some o) :
  Inv X aA σ H {s with heap:=h',toks:=t' }:=by
 have nit:∀b u,H b=some u->b∉ch:=λb u e z=>by rw[(hf b z).1]at e;cases e
 refine I.step (g':=s.gens) (d':=s.drawn) (ch:=ch) (λb hb=>?_) (λb o _ _ hc e _=>k b o hc e) (λb o _ _ hc e _=>⟨o.slots,k b o hc e⟩) (λ_ _ _ _ n=>n) (λb o hc e=>⟨o,k b o hc e⟩) (λ_ _ e=>e) (λ_ _ _ e=>e)
  (λb ps e=>⟨#[],by rw[e];simp⟩) (λm hm=>?_) (λb u e=>?_) I.bare
 ·obtain⟨_,f1,_,f3,f4,f5⟩:=hf b hb;exact⟨f3,f1,f4,f5⟩
 ·obtain⟨o,es,ep,ho,r⟩:=hm;exact⟨o,es,ep,k _ o (λz=>(hf _ z).2.1 rfl) ho,r⟩
 ·refine(I.hok b u e).stay (λc v hc q=>k c v ?_ q) (λ_ q=>q) λ_ _ q=>q
  rcases hc with z|z
  ·rw[z];exact nit b u e
  ·exact nit c _ z
theorem ala{P:Program}{w:World}{K:Fg}{elts:List Expr}{x1:Nat}{pos:Pos}{z TI TO i1 i2:Addr}{t1 t2:Tok}{k1 k2:Srk}(f:Far z TI TO i1 i2):Turn P w K (.Tuple elts x1 pos) (ItZ k1 k2) [z,TI,TO,i1,i2] z (tnZ z TI TO i1 i2 t1 t2 k1 k2) where
 mem:=by simp
 obj:=λi h st b hb=>by
  obtain⟨h1,h2,⟨a,b',h3⟩,h4,h5⟩:=st;simp only[aR,bo,cF]at hb
  rcases hb with rfl|rfl|rfl|rfl|rfl
  ·exact⟨_,h1,λv z=>(by cases z)⟩
  ·exact⟨_,h2,λv z=>(by cases z)⟩
  ·exact⟨_,h3,λv z=>(by cases z)⟩
  ·exact a9y h4
  ·exact a9y h5
 keep:=λi h h' st k=>by
  obtain⟨h1,h2,⟨a,b',h3⟩,h4,h5⟩:=st;exact⟨k z (by simp) _ h1,k TI (by simp) _ h2,⟨a,b',k TO (by simp) _ h3⟩,a7i h4 λob e=>k i1 (by simp) ob e,a7i h5 λob e=>k i2 (by simp) ob e⟩
 item:=by
  intro X hP hw hK hc i aA s σ H E I hf st hg
  subst hP hw hK;obtain⟨xs,ys,x,y,e1,e2,g1,g2⟩:=hg;obtain⟨h1,h2,⟨a,b,h3⟩,h4,h5⟩:=st;have n:∀c∈[z,TI,TO,i1,i2],H c=none:=λc hc=>(hf c hc).1;obtain⟨cs,P1,S1,D1,a1,b1,c1,d1⟩:=aa0 I (t:=t1) e1 (n i1 (by simp))
  obtain⟨ds,P2,S2,D2,a2,b2,c2,d2⟩:=aa0 I (t:=t2) e2 (n i2 (by simp))
  have hd:=I.ok.hd hc;have out1:∀c,H c=none->c∉cs:=λc e z=>c1 c z e;have out2:∀c,H c=none->c∉ds:=λc e z=>c2 c z e;have ap:Ap z TI TO i1 i2 (i1::cs) (i2::ds):=⟨by simp,by simp,by simp[f.c.symm,out1 z (n z (by simp))],by simp[f.d.symm,out2 z (n z (by simp))],by simp[f.h,out1 TO (n TO (by simp))],by simp[f.i,out2 TO (n TO (by simp))],f.b,by simp[f.j,out2 i1 (n i1 (by simp))],by simp[f.j.symm,out1 i2 (n i2 (by simp))]⟩
  refine next_item (D1 X.A.in1 hd) (D2 X.A.in1 hd) ap h1 h2 h3 (a1 i h4) (a2 i h5) (ag.mp g1).1 (ag.mp g2).1 λu v h' tk pu pv z' to' s1' s2' pr sz kp=>?_;obtain⟨x',q1,r1⟩:=d1 i u pu;obtain⟨y',q2,r2⟩:=d2 i v pv;rw[g1]at q1;cases q1
  rw[g2]at q2;cases q2
  refine⟨_,rfl,wpAny_letOwnedTupleGo_zip z' λh2' z2' sb=>?_⟩;have hp:H s.heap.objs.size=none:=I.hok.fresh (aJ _);have lt:∀c∈[z,TI,TO,i1,i2],c<s.heap.objs.size:=λc hc=>by
   simp only[aR,bo,cF]at hc
   rcases hc with rfl|rfl|rfl|rfl|rfl
   ·exact aX h1
   ·exact aX h2
   ·exact aX h3
   ·obtain⟨_,e,_⟩:=a9y h4;exact aX e
   ·obtain⟨_,e,_⟩:=a9y h5;exact aX e
  have all:∀c o,c∉[z,TI,TO,i1,i2]->s.heap.get? c=some o->h2'.get? c=some o:=λc o nc e=>by
   simp only[aR,bo,cF,not_or]at nc;exact(sb.2 c nc.1).trans (kp c o nc.1 nc.2.2.1 nc.2.2.2.1 nc.2.2.2.2 e)
  have nT:∀c∈[z,TI,TO,i1,i2],c≠s.heap.objs.size:=λc hc=>bN (lt c hc);have I0:Inv X aA σ (upd H s.heap.objs.size (.tup [x,y])) {s with heap:=s.heap.push {cls:=.type "tuple",data:=.seq #[u,v]} } :=
   I.laid (t':=s.toks) (o:=.tup [x,y]) (λb o e=>av _ e) (aJ _) ⟨by show 2<=sizeLine;decide,[u,v],.cons r1 (.cons r2 .nil),⟨_,bb _ rfl,rfl,_,rfl⟩⟩
  have I1:Inv X aA σ (upd H s.heap.objs.size (.tup [x,y])) {s with heap:=h2',toks:=tk}:=by
   refine ahz (s:={s with heap:=s.heap.push {cls:=.type "tuple",data:=.seq #[u,v]} }) (ch:=[z,TI,TO,i1,i2]) I0 (λb hb=>?_) λc o nc e=>?_
   ·obtain⟨f0,f1⟩:=hf b hb;exact⟨by rw[jg (nT b hb)];exact f0,f1⟩
   ·rcases Heap.get?_push_cases e with⟨rfl,rfl⟩|e
    ·exact(sb.2 _ (nT z (by simp)).symm).trans pr
    ·exact all c o nc e
  refine⟨.ref s.heap.objs.size,_,I1,rfl,⟨xs,ys,x,y,_,e1,e2,g1,g2,hp,rfl,rfl⟩,⟨z2',?_,⟨u,v,(sb.2 _ f.b).trans to'⟩,a7i (b1 _ _ s1') λob e=>(sb.2 _ f.c).trans e,a7i (b2 _ _ s2') λob e=>(sb.2 _ f.d).trans e⟩,λb hb=>?_⟩
  ·exact(sb.2 _ f.a).trans (kp TI _ f.a f.e f.f f.g h2)
  ·rw[jg (nT b hb)];exact n b hb
 done:=by
  intro X hP hw hK hc i aA s σ H E I hf st hg
  subst hP hw hK;obtain⟨xs,ys,e1,e2,g⟩:=hg;obtain⟨h1,h2,⟨a,b,h3⟩,h4,h5⟩:=st;have n:∀c∈[z,TI,TO,i1,i2],H c=none:=λc hc=>(hf c hc).1;obtain⟨cs,P1,S1,D1,a1,b1,c1,d1⟩:=aa0 I (t:=t1) e1 (n i1 (by simp))
  obtain⟨ds,P2,S2,D2,a2,b2,c2,d2⟩:=aa0 I (t:=t2) e2 (n i2 (by simp))
  have hd:=I.ok.hd hc;have out1:∀c,H c=none->c∉cs:=λc e z=>c1 c z e;have out2:∀c,H c=none->c∉ds:=λc e z=>c2 c z e;have ap:Ap z TI TO i1 i2 (i1::cs) (i2::ds):=⟨by simp,by simp,by simp[f.c.symm,out1 z (n z (by simp))],by simp[f.d.symm,out2 z (n z (by simp))],by simp[f.h,out1 TO (n TO (by simp))],by simp[f.i,out2 TO (n TO (by simp))],f.b,by simp[f.j,out2 i1 (n i1 (by simp))],by simp[f.j.symm,out1 i2 (n i2 (by simp))]⟩
  refine next_end (D1 X.A.in1 hd) (D2 X.A.in1 hd) ap h1 h2 h3 (a1 i h4) (a2 i h5) g λh' tk kp=>⟨rfl,ahz I hf λc o nc e=>?_⟩;simp only[aR,bo,cF,not_or]at nc;exact kp c o nc.1 nc.2.2.1 nc.2.2.2.1 nc.2.2.2.2 e
 self:=λ_ _ _ _ _ st h=>wpAny_pyIter_zip st.1 h
theorem ai0(c:cont h k us)(o:Obj):cont (h.push o) k us:=by
 cases k with
 |tup a=>obtain⟨ob,e,r⟩:=c;exact⟨ob,av _ e,r⟩
 |lst a=>obtain⟨ob,e,r⟩:=c;exact⟨ob,av _ e,r⟩
 |str x=>trivial
theorem aed{s:Shared}(c:cont s.heap k us)(q:Q (.ref s.heap.objs.size) {s with heap:=s.heap.push (iob t k)}) :
  wpAny (model prog w) A (pyIter (val t k)) Q E s:=by
 cases k with
 |tup a=>exact wpAny_pyIter_tuple c q
 |lst a=>exact eZ c q
 |str x=>exact wpAny_pyIter_strU q
def mk2(h:Heap)(t1 t2:Tok)(k1 k2:Srk):Heap:=(h.push (iob t1 k1)).push (iob t2 k2)
def mk5(h:Heap)(t1 t2:Tok)(k1 k2:Srk):Heap :=
 (((mk2 h t1 t2 k1 k2).push {cls:=.type "tuple",data:=.seq #[.ref h.objs.size,.ref (h.objs.size+1)]}).push {cls:=.type "tuple",data:=.seq #[.none,.none]}).push
  {cls:=.type "zip",data:=.fields #[.none,.bool false,.bool false,.ref (h.objs.size+2),.ref (h.objs.size+3)]}
theorem alb(t1 t2:Tok)(k1 k2:Srk)(us1 us2:List Value):Meets (Builtin.«zip.__new__» ⟨[.type "zip",val t1 k1,val t2 k2],[]⟩)
  (λ_ R s=>cont s.heap k1 us1/\cont s.heap k2 us2/\R (.ok (.ret (.ref (s.heap.objs.size+4)))) {s with heap:=mk5 s.heap t1 t2 k1 k2}) :=
 .of_wp λprog w A R s h=>by
  obtain⟨hp,g,d,tk,os⟩:=s;obtain⟨c1,c2,h⟩:=h;have sub:=sub_zip;have c1':cont (Shared.heap ⟨hp,g,d,tk,os⟩) k1 us1:=c1;have c2':cont (Shared.heap ⟨hp.push (iob t1 k1),g,d,tk,os⟩) k2 us2:=ai0 c2 _
  wp_walk using aed (t:=t1) c1',aed (t:=t2) c2'
  refine⟨_,rfl,?_⟩;simpa[mk5,mk2,cM,ownedTupleFields,Nat.add_assoc] using h
theorem ayz(n:Nat):Far (n+4) (n+2) (n+3) n (n+1):=by
 refine⟨?_,?_,?_,?_,?_,?_,?_,?_,?_,?_⟩<;>(intro z;have z:(_:Nat)=_:=z;omega)
theorem b1p(n b:Nat)(h:b∈[n+4,n+2,n+3,n,n+1]):n<=b:=by
 simp only[aR,bo,cF]at h;omega
section
variable{X:Cx}{elts:List Expr}{x1:Nat}{tpos:Pos}
def b1q(ta:TA):TI:=λσ H R=>ta σ H λvs H1=>∃k1 k2 xs ys,vs=[Srk.v k1,Srk.v k2]/\its H1 k1=some xs/\its H1 k2=some ys/\R (ItZ k1 k2) H1
theorem anh{k:Srk}(r:RelV k.v u):∃t,u=val t k:=by
 cases k with
 |tup a=>cases r;exact⟨0,rfl⟩
 |lst a=>cases r;exact⟨0,rfl⟩
 |str x=>obtain⟨t,rfl⟩:=r;exact⟨t,rfl⟩
theorem auq(hg:Gl X "zip")(hm:X.mg "zip" = none)(hb:bootBuiltins "zip" = some (.type "zip"))(ha:PA X [e1,e2] ta)
  (h1:starEach [e1,e2] X.env=[(false,eval e1 X.env),(false,eval e2 X.env)]:=by rfl) (h2:starEach [e2] X.env=[(false,eval e2 X.env)]:=by rfl):PI X (.Tuple elts x1 tpos) (.Call (.Name "zip" p) [e1,e2] [] pos) (b1q ta):=by
 intro aA s σ H R I h
 refine dB (a8t I hg hm hb ?_ (by decide) (by decide))
 refine d0 (thn (ha pos aA s σ H _ I h) λus s1 ⟨vs,H1,I1,r1,q1⟩=>?_) (by rw[h1,h2]) (by rw[h2];rfl)
 obtain⟨k1,k2,xs,ys,rfl,e1,e2,q⟩:=q1;obtain⟨v1,v2,rfl,rv1,rv2⟩:=vals2 r1;obtain⟨t1,rfl⟩:=anh rv1;obtain⟨t2,rfl⟩:=anh rv2;obtain⟨us1,c1,_⟩:=a9z I1 e1;obtain⟨us2,c2,_⟩:=a9z I1 e2;refine callType_new F.called_zip (by decide) (F.typeCall_zip_2 _ _) (F.newCall_zip_2 _ _) (λobj=>F.args_object_init_3 obj _ _) F.entry_zip_new (alb t1 t2 k1 k2 us1 us2) ⟨c1,c2,?_⟩
 have z2:(mk2 s1.heap t1 t2 k1 k2).objs.size=s1.heap.objs.size+2:=by simp[mk2,cM]
 have at0:(mk5 s1.heap t1 t2 k1 k2).get? s1.heap.objs.size=some (iob t1 k1):=by
  unfold mk5 mk2;exact av _ (av _ (av _ (av _ (bb _ (by cases k1<;>rfl)))))
 have at1:(mk5 s1.heap t1 t2 k1 k2).get? (s1.heap.objs.size+1)=some (iob t2 k2):=by
  unfold mk5 mk2;have:=bb (o:=iob t2 k2) (s1.heap.push (iob t1 k1)) (by cases k2<;>rfl)
  rw[cM]at this;exact av _ (av _ (av _ this))
 have at2:IsPair (mk5 s1.heap t1 t2 k1 k2) (s1.heap.objs.size+2) (.ref s1.heap.objs.size) (.ref (s1.heap.objs.size+1)):=by
  unfold mk5;rw[<-z2];exact av _ (av _ (bb _ rfl))
 have at3:IsPair (mk5 s1.heap t1 t2 k1 k2) (s1.heap.objs.size+3) .none .none:=by
  unfold mk5;have:=bb (o:={cls:=.type "tuple",data:=.seq #[.none,.none]}) ((mk2 s1.heap t1 t2 k1 k2).push {cls:=.type "tuple",data:=.seq #[.ref s1.heap.objs.size,.ref (s1.heap.objs.size+1)]}) rfl;rw[cM,z2]at this;exact av _ this
 have at4:IsZip (mk5 s1.heap t1 t2 k1 k2) (s1.heap.objs.size+4) (s1.heap.objs.size+2) (s1.heap.objs.size+3) .none:=by
  unfold mk5;have:=bb (o:={cls:=.type "zip",data:=.fields #[.none,.bool false,.bool false,.ref (s1.heap.objs.size+2),.ref (s1.heap.objs.size+3)]}) (((mk2 s1.heap t1 t2 k1 k2).push {cls:=.type "tuple",data:=.seq #[.ref s1.heap.objs.size,.ref (s1.heap.objs.size+1)]}).push {cls:=.type "tuple",data:=.seq #[.none,.none]}) rfl;rw[cM,cM,z2]at this;exact this
 have keepA:∀b o,s1.heap.get? b=some o->(mk5 s1.heap t1 t2 k1 k2).get? b=some o:=λb o e=>by
  unfold mk5 mk2;exact av _ (av _ (av _ (av _ (av _ e))))
 have I2:Inv X aA σ H1 {s1 with heap:=mk5 s1.heap t1 t2 k1 k2}:=I1.kept (t':=s1.toks) keepA
 refine⟨⟨_,at4,rfl⟩,?_⟩;refine wpAny_pyIter_zip (s:={s1 with heap:=mk5 s1.heap t1 t2 k1 k2}) at4 ?_
 refine⟨s1.heap.objs.size+4,[s1.heap.objs.size+4,s1.heap.objs.size+2,s1.heap.objs.size+3,s1.heap.objs.size,s1.heap.objs.size+1],tnZ _ _ _ _ _ t1 t2 k1 k2,ItZ k1 k2,H1,rfl,I2,ala (ayz s1.heap.objs.size),
  ⟨at4,at2,⟨_,_,at3⟩,b06 at0,b06 at1⟩,λb hb=>?_,q⟩
 have:s1.heap.objs.size<=b:=b1p _ b hb
 exact I1.fpOk this (I1.hok.fresh this)
end
end ZP
namespace MI
open L2 ZP
def srcOf(d:D)(h:Hd):Option (List D×(Hd->Prop)):=match d with
 |.tup xs=>some (xs,λ_=>True)
 |.rol xs=>some (xs,λ_=>True)
 |.str x=>some (a0p x,λ_=>True)
 |.ref i=>(match h[i]? with|some (.lst xs)=>some (xs,λh=>h[i]? = some (.lst xs))|_=>none)
 |_=>none
def aur(x y:D)(h:Hd):R Itm:=match srcOf x h,srcOf y h with
 |some (xs,c1),some (ys,c2)=>.ok ⟨(xs.zip ys).map λp=>.tup [p.1,p.2],λh=>c1 h/\c2 h⟩ h
 |_,_=>.no
def ai1(f g:SE):SI:=λτ h=>(f τ h).bind λx h1=>(g τ h1).bind λy h2=>aur x y h2
theorem ani(r:Rep K ι H v d)(hr:HRep K ι H h)(e:srcOf d h=some (xs,ck)) :
  ∃k:Srk,v=k.v/\ck h/\∀ι' H' h',Gr ι H ι' H'->HRep K ι' H' h'->ck h'->∃vs,its H' k=some vs/\Reps K ι' H' vs xs:=by
 cases r with
 |@tup a vs ys ha rs =>
  cases e
  exact⟨.tup a,rfl,True.intro,λι' H' h' g _ _=>⟨vs,by simp[its,g.tup _ _ ha],rs.mono g⟩⟩
 |@rol a vs ys ha rs =>
  cases e
  refine⟨.lst a,rfl,True.intro,λι' H' h' g _ _=>⟨vs,?_,rs.mono g⟩⟩;obtain⟨o,q⟩:=ha.mono g;simp[its,q]
 |str x =>
  cases e
  exact⟨.str x,rfl,True.intro,λι' H' h' g _ _=>⟨_,rfl,a92 x⟩⟩
 |@ref a i ha =>
  obtain⟨ob,e1,e2⟩:=hr.at ha
  cases ob with
  |lst zs =>
   simp only[srcOf,e1]at e;cases e
   refine⟨.lst a,rfl,e1,λι' H' h' g hr' c=>?_⟩;obtain⟨us,q1,q2⟩:=hr'.obj i a _ (g.at ha) c;exact⟨us,by simp[its,q1],q2⟩
  |dK _=>simp only[srcOf,e1]at e;cases e
  |dT _=>simp only[srcOf,e1]at e;cases e
  |ins _ _=>simp only[srcOf,e1]at e;cases e
 |_=>cases e
theorem anj(hg:Gl X "zip")(hm:X.mg "zip" = none)(hb:bootBuiltins "zip" = some (.type "zip"))(ha:ME X E e1 f)(hb':ME X E e2 g)
  (h1:starEach [e1,e2] X.env=[(false,eval e1 X.env),(false,eval e2 X.env)]:=by rfl) (h2:starEach [e2] X.env=[(false,eval e2 X.env)]:=by rfl) :
  MI X E (.Tuple elts x1 tpos) (.Call (.Name "zip" p) [e1,e2] [] pos) (ai1 f g):=by
 rintro aA s σ H Rr I ⟨ι,τ,h,S,Rh,o⟩
 refine auq hg hm hb (acr ha (acr hb' amw (by rw[h2];rfl)) (by rw[h1,h2])) h1 h2 aA s σ H Rr I ?_
 refine⟨ι,τ,h,S,Rh,gq o λd h1 ι1 H1 v g1 r1 hr1 o1=>?_⟩;refine⟨ι1,τ,h1,S.mono g1,hr1,gq o1 λd2 h2 ι2 H2 u g2 r2 hr2 o2=>?_⟩;unfold aur at o2
 split at o2
 ·rename_i xs c1 ys c2 q1 q2;obtain⟨k1,rfl,k1c,k1f⟩:=ani (r1.mono g2) hr2 q1;obtain⟨k2,rfl,k2c,k2f⟩:=ani r2 hr2 q2;obtain⟨vs1,w1,w2⟩:=k1f ι2 H2 h2 (.refl _ _) hr2 k1c;obtain⟨vs2,w3,w4⟩:=k2f ι2 H2 h2 (.refl _ _) hr2 k2c;refine⟨k1,k2,vs1,vs2,rfl,w1,w3,o2 ι2 H2 _ (.refl _ _) ?_ hr2⟩
  intro ι3 H3 h3 g3 hr3 c
  obtain⟨us1,a1,a2⟩:=k1f ι3 H3 h3 g3 hr3 c.1;obtain⟨us2,a3,a4⟩:=k2f ι3 H3 h3 g3 hr3 c.2;refine⟨λi d ed=>?_,us1,us2,a1,a3,?_⟩
  ·simp only[aO,aV]at ed;obtain⟨⟨x,y⟩,ez,rfl⟩:=ed;obtain⟨ex,ey⟩:=eE.mp ez;obtain⟨v1,b1,b2⟩:=a2.get ex;obtain⟨v2,b3,b4⟩:=a4.get ey;refine⟨⟨us1,us2,v1,v2,a1,a3,b1,b3⟩,λx H' yl=>?_⟩;obtain⟨xs',ys',x',y',p,c1,c2,c3,c4,c5,rfl,rfl⟩:=yl;rw[a1]at c1;cases c1
   rw[a3]at c2;cases c2
   rw[b1]at c3;cases c3
   rw[b3]at c4;cases c4
   exact⟨a3e c5 _,.tup ph (.cons (b2.mono (a3e c5 _)) (.cons (b4.mono (a3e c5 _)) .nil)),hr3.aside c5 _⟩
  ·rw[ay,List.length_zip,a2.len,a4.len];omega
 ·exact o2.elim
theorem ank:bootBuiltins "zip" = some (.type "zip"):=by first|exact PySem.boot_zip|exact PyProof.Rows.boot_zip|rfl
end MI
namespace MI
open L2
def FrzOf(L:List Addr)(H H2:Hp):Prop:=∀a,(a∉L->H2 a=H a)/\(a∈L->∃o u,H a=some u/\H2 a=some (.frz o u))
def aee(H:Hp)(L:List Addr):Prop:=∀a∈L,(∃xs,H a=some (.lst xs))\/(∃kvs,H a=some (.dK kvs))\/(∃kvs,H a=some (.dT kvs))\/∃C dx fs,H a=some (.ins C dx fs)
def still:HO->Prop
 |.lst _=>False|.dK _=>False|.dT _=>False|.ins _ _ _=>False
 |_=>True
theorem FrzOf.still(f:FrzOf L H H2)(ab:aee H L)(e:H a=some u)(st:MI.still u):H2 a=some u:=by
 rw[(f a).1 λz=>?_]
 ·exact e
 ·rcases ab a z with⟨_,q⟩|⟨_,q⟩|⟨_,q⟩|⟨_,_,_,q⟩<;>(rw[e]at q;cases q;exact st)
theorem Inv.frz{X:Cx}{aA:List (Addr×Obj)}{σ:St}{H:Hp}{s:Shared}{L:List Addr}(I:Inv X aA σ H s)(ab:aee H L):∃H2,FrzOf L H H2/\Inv X aA σ H2 s:=by
 have obj:∀a∈L,∀u,H a=some u->∃o,s.heap.get? a=some o:=λa ha u e=>by
  rcases ab a ha with⟨_,q⟩|⟨_,q⟩|⟨_,q⟩|⟨_,_,_,q⟩
  ·obtain⟨_,_,_,_,z⟩:=I.hok a _ q;exact⟨_,z⟩
  ·obtain⟨_,_,_,_,z⟩:=I.hok a _ q;obtain⟨o,_,_,z,_⟩:=z;exact⟨o,z⟩
  ·obtain⟨_,_,_,_,o,_,_,z,_⟩:=I.hok a _ q;exact⟨o,z⟩
  ·obtain⟨_,_,_,z,_⟩:=I.hok a _ q;exact⟨_,z⟩
 let H2:Hp:=λa=>if a∈L then (match s.heap.get? a,H a with|some o,some u=>some (.frz o u)|_,w=>w) else H a
 have f:FrzOf L H H2:=λa=>⟨λh=>by simp[H2,h],λh=>by
  obtain⟨u,e⟩:∃u,H a=some u:=by
   rcases ab a h with⟨_,q⟩|⟨_,q⟩|⟨_,q⟩|⟨_,_,_,q⟩<;>exact⟨_,q⟩
  obtain⟨o,eo⟩:=obj a h u e;exact⟨o,u,e,by simp[H2,h,e,eo]⟩⟩
 refine⟨H2,f,?_⟩;have mv:∀a u,ObjOk X.prog X.w H s.heap a u->ObjOk X.prog X.w H2 s.heap a u:=λa u x=>x.stay (λb v _ q=>q) (λc q=>f.still ab q True.intro) λc xs q=>f.still ab q True.intro;have ok:HOk X.prog X.w H2 s.heap:=λa u e=>by
  by_cases hl:a∈L
  ·obtain⟨u0,e0⟩:∃u,H a=some u:=by
    rcases ab a hl with⟨_,q⟩|⟨_,q⟩|⟨_,q⟩|⟨_,_,_,q⟩<;>exact⟨_,q⟩
   obtain⟨o,eo⟩:=obj a hl u0 e0;have e':H2 a=some (.frz o u0):=by simp[H2,hl,e0,eo]
   rw[e']at e;cases e
   exact⟨eo,mv a u0 (I.hok a u0 e0)⟩
  ·rw[(f a).1 hl]at e;exact mv a u (I.hok a u e)
 have fn:∀b,H b=none->H2 b=none:=λb n=>by
  rw[(f b).1 λz=>?_]
  ·exact n
  ·rcases ab b z with⟨_,q⟩|⟨_,q⟩|⟨_,q⟩|⟨_,_,_,q⟩<;>(rw[n]at q;cases q)
 have un:Un X.fs [] H H2 s.heap s.heap:=⟨λb o q _ _ _=>q,λb o q _ _ _=>⟨o.slots,q⟩,λb o _ n _=>fn b n,λb o q _=>⟨o,q⟩,λb xs q=>f.still ab q True.intro,λb o u q=>f.still ab q True.intro,λb ps q=>⟨#[],by rw[f.still ab q True.intro];simp⟩⟩
 exact I.un (t':=s.toks) un ok
theorem a93(h:PE X e t):PE X e (λσ H Q=>t σ H λv H1=>∃L,aee H1 L/\∀H2,FrzOf L H1 H2->Q v H2):=λaA s σ H Q I q =>
 thn (h aA s σ H _ I q) λu s' ⟨v,H1,I1,r,L,ab,k⟩=>let ⟨H2,f,I2⟩:=Inv.frz I1 ab; ⟨v,H2,I2,r,k H2 f⟩
def a0m{α β:Type}(f:α->Option β):List α->Option (List β)
 |[]=>some []
 |x::xs=>match f x,a0m f xs with|some y,some ys=>some (y::ys)|_,_=>none
open Classical in
noncomputable def a4h(n:Nat)(h:Hd):Nat->D->Option D
 |0,_=>none
 |k+1,d=>if clo n d then some d else match d with
  |.tup xs=>(a0m (a4h n h k) xs).map .tup
  |.rol xs=>(a0m (a4h n h k) xs).map .rol
  |.scr xs=>(a0m (a4h n h k) xs).map .scr
  |.rod ks xs=>(a0m (a4h n h k) xs).map (.rod ks)
  |.rdT ks xs=>(a0m (a4h n h k) xs).map (.rdT ks)
  |.ins c ks xs=>(a0m (a4h n h k) xs).map (.ins c ks)
  |.ref i=>match h[i]? with
   |some (.lst xs)=>(a0m (a4h n h k) xs).map .rol
   |some (.dK kvs)=>(a0m (a4h n h k) (kvs.map (·.2))).map (.rod (kvs.map (·.1)))
   |some (.dT kvs)=>(a0m (a4h n h k) (kvs.map (·.2))).map (.rdT (kvs.map (·.1)))
   |some (.ins c kvs)=>(a0m (a4h n h k) (kvs.map (·.2))).map (.ins c (kvs.map (·.1)))
   |none=>none
  |_=>none
open Classical in
noncomputable def aus(n:Nat)(h:Hd)(k:Nat)(o:O):Option O:=if vy n o then some o else match o with
 |.lst xs=>(a0m (a4h n h k) xs).map .lst
 |.dK kvs=>(a0m (a4h n h k) (kvs.map (·.2))).map λys=>.dK ((kvs.map (·.1)).zip ys)
 |.dT kvs=>(a0m (a4h n h k) (kvs.map (·.2))).map λys=>.dT ((kvs.map (·.1)).zip ys)
 |.ins c kvs=>(a0m (a4h n h k) (kvs.map (·.2))).map λys=>.ins c ((kvs.map (·.1)).zip ys)
abbrev FU:Nat:=20
noncomputable def ad7(n:Nat):R D->R D
 |.ok d h1=>match a4h n h1 FU d,a0m (aus n h1 FU) (h1.take n) with|some d',some g=>.ok d' g|_,_=>.no
 |_=>.no
open Classical in
noncomputable def anl(n:Nat):R D->R D
 | .ok (.ref i) h1=>(match h1[i]? with
   |some o=>if n<=i/\vy n o/\∀u∈h1.take n,vy n u then .ok (.ref n) (h1.take n++[o]) else .no
   |none=>.no)
 |_=>.no
section
variable{K:Fg}{ι ι':List Addr}{H H' H2:Hp}{h1:Hd}{n:Nat}{L:List Addr}
theorem aef(f:FrzOf L H' H2)(ab:aee H' L)(κ:List Addr):Gw κ H' κ H2:=⟨⟨[],by simp⟩,λa vs e=>f.still ab e True.intro,λa o u e=>f.still ab e True.intro⟩
theorem qg(ih:∀{v d d'},Rep K ι H v d->f d=some d'->Rep K κ H2 v d'):∀{vs:List V} {ds ds':List D},Reps K ι H vs ds->a0m f ds=some ds'->Reps K κ H2 vs ds'
 |_,_,_,.nil,e=>by cases e;exact .nil
 |_,x::xs,_,.cons r rs,e=>by
  unfold a0m at e
  split at e
  ·rename_i y ys h1 h2;cases e
   exact .cons (ih r h1) (qg ih rs h2)
  ·cases e
theorem a85(hr:HRep K ι' H' h1)(hL:∀(i:Nat) a,ι'[i]? = some a->n<=i->a∈L)(f:FrzOf L H' H2)(ab:aee H' L):∀(k:Nat) {v:V} {d d':D},Rep K ι' H' v d->a4h n h1 k d=some d'->Rep K (ι'.take n) H2 v d':=by
 intro k
 induction k with
 |zero=>intro v d d' r e;cases e
 |succ k ih =>
  intro v d d' r e
  unfold a4h at e
  split at e
  ·rename_i c;cases e
   exact(r.cut c).monoW (aef f ab _)
  ·rename_i c
   cases r with
   |tup h rs =>
    simp only[aV]at e;obtain⟨ys,e1,rfl⟩:=e;exact .tup (f.still ab h True.intro) (qg (λr e=>ih r e) rs e1)
   |rol h rs =>
    simp only[aV]at e;obtain⟨ys,e1,rfl⟩:=e;exact .rol (h.monoW (aef f ab ι')) (qg (λr e=>ih r e) rs e1)
   |scr h rs =>
    simp only[aV]at e;obtain⟨ys,e1,rfl⟩:=e;exact .scr (h.monoW (aef f ab ι')) (qg (λr e=>ih r e) rs e1)
   |rod h ek rs =>
    simp only[aV]at e;obtain⟨ys,e1,rfl⟩:=e;exact .rod (f.still ab h True.intro) ek (qg (λr e=>ih r e) rs e1)
   |rdT h ek rs =>
    simp only[aV]at e;obtain⟨ys,e1,rfl⟩:=e;exact .rdT (f.still ab h True.intro) ek (qg (λr e=>ih r e) rs e1)
   |@ref a i ha =>
    have hi:n<=i:=by
     simp only[clo]at c;omega
    obtain⟨o,u,e1,e2⟩:=(f a).2 (hL i a ha hi);obtain⟨ob,h3,h4⟩:=hr.at ha;simp only[h3]at e
    cases ob with
    |lst xs =>
     simp only[aV]at e;obtain⟨ys,e3,rfl⟩:=e;obtain⟨vs,h5,h6⟩:=h4;rw[e1]at h5;cases h5
     exact .rol ⟨o,e2⟩ (qg (λr e=>ih r e) h6 e3)
    |dK kvs =>
     simp only[aV]at e;obtain⟨ys,e3,rfl⟩:=e;obtain⟨us,h5,h6,h7⟩:=h4;rw[e1]at h5;cases h5
     exact .rod e2 h6 (qg (λr e=>ih r e) h7 e3)
    |dT kvs =>
     simp only[aV]at e;obtain⟨ys,e3,rfl⟩:=e;obtain⟨us,h5,h6,h7⟩:=h4;rw[e1]at h5;cases h5
     exact .rdT e2 h6 (qg (λr e=>ih r e) h7 e3)
    |ins c kvs =>
     simp only[aV]at e;obtain⟨ys,e3,rfl⟩:=e;obtain⟨C,dx,us,h5,hn,h6,h7⟩:=h4;rw[e1]at h5;cases h5
     exact .ins e2 hn h6 (qg (λr e=>ih r e) h7 e3)
   |non=>simp only[clo,dN]at c
   |exc _ _ _=>simp only[clo,dN]at c
   |ins h hn ek rs =>
    simp only[aV]at e;obtain⟨ys,e1,rfl⟩:=e;exact .ins (f.still ab h True.intro) hn ek (qg (λr e=>ih r e) rs e1)
   |bl b=>simp only[clo,dN]at c
   |int b=>simp only[clo,dN]at c
   |str b=>simp only[clo,dN]at c
   |ty b=>simp only[clo,dN]at c
theorem a5o{κ:Type}{H:Hp}{us:List (κ×V)}{ks:List κ}{ys:List D}(e:us.map (·.1)=ks)(r:Reps K ι H (us.map (·.2)) ys):KRep K ι H us (ks.zip ys):=by
 have l:ks.length=ys.length:=by rw[<-e,ay,<-r.len,ay]
 refine⟨?_,?_⟩
 ·rw[List.map_fst_zip (by omega)];exact e
 ·rw[List.map_snd_zip (by omega)];exact r
theorem aq3(hr:HRep K ι' H' h1)(hL:∀(i:Nat) a,ι'[i]? = some a->n<=i->a∈L)(f:FrzOf L H' H2)(ab:aee H' L){k:Nat}(na:a∉L)(r:ORep K ι' H' a o)(e:aus n h1 k o=some o'):ORep K (ι'.take n) H2 a o':=by
 have same:H2 a=H' a:=(f a).1 na;unfold aus at e
 split at e
 ·rename_i c;cases e
  exact(r.cut c).monoW (aef f ab _) same
 ·cases o with
  |lst xs =>
   simp only[aV]at e;obtain⟨ys,e1,rfl⟩:=e;obtain⟨vs,h3,h4⟩:=r;exact⟨vs,by rw[same];exact h3,qg (λr e=>a85 hr hL f ab k r e) h4 e1⟩
  |dK kvs =>
   simp only[aV]at e;obtain⟨ys,e1,rfl⟩:=e;obtain⟨us,h3,h4,h5⟩:=r;exact⟨us,by rw[same];exact h3,a5o h4 (qg (λr e=>a85 hr hL f ab k r e) h5 e1)⟩
  |dT kvs =>
   simp only[aV]at e;obtain⟨ys,e1,rfl⟩:=e;obtain⟨us,h3,h4,h5⟩:=r;exact⟨us,by rw[same];exact h3,a5o h4 (qg (λr e=>a85 hr hL f ab k r e) h5 e1)⟩
  |ins c kvs =>
   simp only[aV]at e;obtain⟨ys,e1,rfl⟩:=e;obtain⟨C,dx,us,h3,hn,h4,h5⟩:=r;exact⟨C,dx,us,by rw[same];exact h3,hn,a5o h4 (qg (λr e=>a85 hr hL f ab k r e) h5 e1)⟩
theorem a4b{α β:Type}{f:α->Option β}:∀{xs:List α} {ys:List β},a0m f xs=some ys->xs.length=ys.length/\∀(i:Nat) y,ys[i]? = some y->∃x,xs[i]? = some x/\f x=some y
 |[],_,e=>by cases e;exact⟨rfl,λi y e=>by simp at e⟩
 |x::xs,ys,e=>by
  unfold a0m at e
  split at e
  ·rename_i y ys h1 h2;cases e
   obtain⟨l,g⟩:=a4b h2;refine⟨by simp[l],λi z e=>?_⟩
   cases i with
   |zero=>simp at e;subst e;exact⟨x,rfl,h1⟩
   |succ i=>simpa using g i z (by simpa using e)
  ·cases e
theorem ai2(hr:HRep K ι' H' h1)(M:List Addr)(hM:∀a∈M,a∈ι'):aee H' M:=λa ha=>by
 obtain⟨i,hi⟩:=bY (hM a ha);obtain⟨o,_,q⟩:=hr.at hi
 cases o with
 |lst xs=>obtain⟨vs,h,_⟩:=q;exact .inl ⟨_,h⟩
 |dK xs=>obtain⟨vs,h,_⟩:=q;exact .inr (.inl ⟨_,h⟩)
 |dT xs=>obtain⟨vs,h,_⟩:=q;exact .inr (.inr (.inl ⟨_,h⟩))
 |ins _ _=>obtain⟨C,dx,vs,h,_⟩:=q;exact .inr (.inr (.inr ⟨_,_,_,h⟩))
theorem a86{α:Type}{l:List α}(nd:l.Nodup){i j:Nat}{a:α}(h1:l[i]? = some a)(h2:l[j]? = some a):i=j:=by
 obtain⟨l1,e1⟩:=ag.mp h1;obtain⟨l2,e2⟩:=ag.mp h2
 rcases fk i j with l|l|l
 ·exact absurd (e1.trans e2.symm) (bS.mp nd i j l1 l2 l)
 ·exact l
 ·exact absurd (e2.trans e1.symm) (bS.mp nd j i l2 l1 l)
theorem aut(g:Gr ι H ι' H')(f:FrzOf L H' H2)(ab:aee H' L)(hL:∀a∈L,H a=none)(hm:∀a∈m,H a=none):Gr ι H (ι++m) H2:=by
 refine⟨⟨m,rfl,hm⟩,λa vs e=>f.still ab (g.tup a vs e) True.intro,λa o u e=>f.still ab (g.frz a o u e) True.intro,λa u e hn=>?_,λa u e=>?_⟩
 ·rw[(f a).1 λz=>by rw[hL a z]at e;cases e]
  exact g.oth a u e hn
 ·obtain⟨u',e'⟩:=g.kp a u e;rw[(f a).1 λz=>by rw[hL a z]at e;cases e]
  exact⟨u',e'⟩
theorem ai3{d d':D}{v:V}{g':Hd}(g:Gr ι H ι' H')(rb:Rep K ι' H' v d)(hr:HRep K ι' H' h1)(e:ad7 ι.length (.ok d h1)=.ok d' g') :
  ∃L,aee H' L/\∀H2,FrzOf L H' H2->Gr ι H ι H2/\Rep K ι H2 v d'/\HRep K ι H2 g':=by
 obtain⟨m,rfl,hm⟩:=g.pre;have tk:(ι++m).take ι.length=ι:=by simp
 have ab:aee H' m:=ai2 hr m λa ha=>bW _ ha;have hL:∀(i:Nat) a,(ι++m)[i]? = some a->ι.length<=i->a∈m:=λi a e hi=>by
  rw[aN hi]at e;exact aQ e
 refine⟨m,ab,λH2 f=>?_⟩;unfold ad7 at e;simp only at e
 split at e
 ·rename_i dd gg e1 e2;cases e
  refine⟨by simpa using aut g f ab hm (m:=[]) (by simp),by have:=a85 hr hL f ab FU rb e1;rwa[tk]at this,?_⟩
  obtain⟨l,gt⟩:=a4b e2;have hl:=hr.len;have ln:ι.length<=h1.length:=by rw[<-hl];simp
  refine⟨(bM.mp hr.nd).1,by rw[<-l,bV];omega,λi a o q1 q2=>?_⟩
  obtain⟨x,hx,fx⟩:=gt i o q2;have hi:i<ι.length:=(ag.mp q1).1;rw[eU,aT hi]at hx;have q3:(ι++m)[i]? = some a:=by rw[aM hi];exact q1
  have na:a∉m:=λz=>(bM.mp hr.nd).2.2 a (aQ q1) a z rfl;have:=aq3 hr hL f ab na (hr.obj i a x q3 hx) fx
  rwa[tk]at this
 ·cases e
theorem alc(g:Gr ι H ι' H')(rb:Rep K ι' H' v d)(hr:HRep K ι' H' h1)(e:anl ι.length (.ok d h1)=.ok d' g') :
  ∃b,H b=none/\Gr ι H (ι++[b]) H'/\Rep K (ι++[b]) H' v d'/\HRep K (ι++[b]) H' g':=by
 obtain⟨m,rfl,hm⟩:=g.pre;have tk:(ι++m).take ι.length=ι:=by simp
 have up:∀b,Gw ι H' (ι++[b]) H':=λb=>⟨⟨[b],rfl⟩,λ_ _ h=>h,λ_ _ _ h=>h⟩
 cases rb with
 |@ref b i hb =>
  unfold anl at e;simp only at e
  split at e
  ·rename_i ob ho
   split at e
   ·rename_i hc;obtain⟨hi,c1,c2⟩:=hc;cases e
    have hb':=hb;rw[aN hi]at hb';have bm:b∈m:=aQ hb';obtain⟨nd1,nd2,nd3⟩:=bM.mp hr.nd;have hl:=hr.len;have ln:ι.length<=h1.length:=by rw[<-hl];simp
    have lt:(h1.take ι.length).length=ι.length:=by rw[bV];omega
    refine⟨b,hm b bm,⟨⟨[b],rfl,by simpa using hm b bm⟩,g.tup,g.frz,g.oth,g.kp⟩,.ref (by simp),?_⟩
    refine⟨bM.mpr ⟨nd1,by simp,λa ha c hc z=>nd3 a ha c (by rw[ar.mp hc];exact bm) z⟩,by simp[lt],λj a o q1 q2=>?_⟩
    by_cases hj:j<ι.length
    ·rw[aM hj]at q1;rw[aM (by omega)]at q2
     have q2':=q2;rw[eU,aT hj]at q2';have:=(hr.obj j a o (by rw[aM hj];exact q1) q2').cut (c2 o (aQ q2))
     rw[tk]at this;exact this.monoW (up b) rfl
    ·have hj2:j<(ι++[b]).length:=(ag.mp q1).1;have:j=ι.length:=by simp at hj2;omega
     subst this;rw[aN (aJ _)]at q1;rw[aN (by omega),lt]at q2
     simp at q1 q2
     subst q1 q2;have:=(hr.obj i b ob hb ho).cut c1;rw[tk]at this;exact this.monoW (up b) rfl
   ·cases e
  ·cases e
 |_=>cases e
end
noncomputable def sZ(f:SE):SE:=λτ h=>ad7 h.length (f τ h)
abbrev b1r(Q:VK):VK:=λv H1=>∃L,aee H1 L/\∀H2,FrzOf L H1 H2->Q v H2
theorem b07(q:lift K E (a3j K) (sZ fa) σ H Q):lift K E (a3j K) fa σ H (b1r Q):=by
 obtain⟨ι,τ,h,S,Rh,o⟩:=q;refine⟨ι,τ,h,S,Rh,?_⟩;unfold sZ at o;rw[<-Rh.len]at o
 cases hf:fa τ h with
 |ok d h1 =>
  rw[hf]at o
  intro ι' H' v g r hr
  cases hz:ad7 ι.length (.ok d h1) with
  |ok d' g' =>
   rw[hz]at o;obtain⟨L,ab,k⟩:=ai3 g r hr hz;refine⟨L,ab,λH2 f=>?_⟩;obtain⟨k1,k2,k3⟩:=k H2 f;exact o ι H2 v k1 k2 k3
  |ex c hx=>unfold ad7 at hz;simp only at hz;split at hz<;>cases hz
  |no=>rw[hz]at o;exact o.elim
 |ex c h1=>rw[hf]at o;exact o.elim
 |no=>rw[hf]at o;exact o.elim
theorem aav(ha:ME X E e fa):ME X E e (sZ fa):=PE.weak (a93 ha) λσ H Q q=>b07 q
def refOf:D->Option Nat
 |.ref i=>some i
 |_=>none
def a2r(ds:List D):List Nat:=ds.filterMap refOf
def a1s:Nat->List D->List D
 |_,[]=>[]
 |k,d::ds=>match d with
  |.ref _=>.ref k::a1s (k+1) ds
  |d=>d::a1s k ds
def xr:Hd->List Nat->List O->Hd
 |h,i::is,o::os=>xr (h.set i o) is os
 |h,_,_=>h
def isRef(d:D):Prop:=∃i,d=.ref i
open Classical in
noncomputable def aq4(m:Bool)(F:SF)(ds:List D)(h:Hd):R D:=match a0m (λi=>h[i]?) (a2r ds) with
 |none=>.no
 | some os=>if (a2r ds).Nodup/\(∀d∈ds,clo 0 d\/isRef d)/\(∀o∈os,vy 0 o) then
   (match (if m then anl os.length (F (a1s 0 ds) os) else ad7 os.length (F (a1s 0 ds) os)) with
   | .ok d h1=>if ∀o∈h1,vy 0 o then
     (if m then .ok (.ref h.length) (xr h (a2r ds) h1++h1.drop os.length)
      else if clo 0 d then .ok d (xr h (a2r ds) h1) else .no) else .no
   |_=>.no)
  else .no
noncomputable def ik(m:Bool)(n:Nat)(F:SF):SF:=λds h=>if ds.length=n then aq4 m F ds h else .no
section
variable{K:Fg}{ι ι':List Addr}{H H' H2:Hp}{h h1:Hd}{n:Nat}
theorem anm(κ:List Addr):Gw [] H κ H:=⟨⟨κ,rfl⟩,λ_ _ h=>h,λ_ _ _ h=>h⟩
theorem Rep.any(r:Rep K ι H v d)(c:MI.clo 0 d)(κ:List Addr):Rep K κ H v d:=by
 have:=r.cut c
 rw[List.take_zero]at this;exact this.monoW (anm κ)
theorem ORep.any(r:ORep K ι H a o)(c:vy 0 o)(κ:List Addr):ORep K κ H a o:=by
 have:=r.cut c
 rw[List.take_zero]at this;exact this.monoW (anm κ) rfl
theorem abj{α:Type}(l:List α):∀{is:List Nat},(∀i∈is,i<l.length)->∃ys,a0m (λi=>l[i]?) is=some ys
 |[],_=>⟨[],rfl⟩
 |i::is,hi=>by
  obtain⟨ys,e⟩:=abj l (is:=is) λj hj=>hi j (ba _ hj);have:=hi i bt;exact⟨l[i]::ys,by unfold a0m;rw[e,af this]⟩
theorem a6t:∀{ds:List D} {vs:List V} {pre κ:List Addr},Reps K ι H vs ds->(∀d∈ds,clo 0 d\/isRef d)->a0m (λi=>ι[i]?) (a2r ds)=some κ->Reps K (pre++κ) H vs (a1s pre.length ds)
 |[],_,_,_,.nil,_,_=>.nil
 |d::ds,_,pre,κ,.cons r rs,hc,e=>by
  have hc':∀d∈ds,clo 0 d\/isRef d:=λx hx=>hc x (ba _ hx)
  by_cases hd:isRef d
  ·obtain⟨i,rfl⟩:=hd;have e':a0m (λi=>ι[i]?) (i::a2r ds)=some κ:=e;unfold a0m at e'
   split at e'
   ·rename_i a κ' h1 h2
    cases e'
    cases r with
    |ref ha =>
     rw[ha]at h1;cases h1
     have:=a6t (pre:=pre++[a]) rs hc' h2
     simp only[bO,fA,ai,aI]at this;refine .cons (.ref ?_) this;rw[aN (aJ _)];simp
   ·cases e'
  ·have c:=(hc d bt).resolve_right hd;have e1:a2r (d::ds)=a2r ds:=by
    unfold a2r
    cases d<;>first|rfl|exact absurd ⟨_,rfl⟩ hd
   have e2:a1s pre.length (d::ds)=d::a1s pre.length ds:=by
    cases d<;>first|rfl|exact absurd ⟨_,rfl⟩ hd
   rw[e1]at e;rw[e2];exact .cons (r.any c _) (a6t rs hc' e)
theorem a2i:∀{is:List Nat} {os:List O} {h:Hd},(xr h is os).length=h.length
 |[],_,_=>by simp[xr]
 |_::_,[],_=>by simp[xr]
 |i::is,o::os,h=>by rw[xr,a2i,cG]
theorem a6u:∀{is:List Nat} {os:List O} {h:Hd},i∉is->(xr h is os)[i]? = h[i]?
 |[],_,_,_=>by simp[xr]
 |_::_,[],_,_=>by simp[xr]
 |j::is,o::os,h,n=>by
  rw[xr,a6u λz=>n (ba _ z),cw λz=>n (by rw[z];exact bt)]
theorem abk:∀{is:List Nat} {os:List O} {h:Hd} {j:Nat},is.Nodup->is[j]? = some i->os[j]? = some o->i<h.length->(xr h is os)[i]? = some o
 |[],_,_,_,_,e,_,_=>by simp at e
 |_::_,[],_,_,_,_,e,_=>by simp at e
 |k::is,o'::os,h,j,nd,e1,e2,hl=>by
  cases j with
  |zero =>
   simp at e1 e2
   subst e1 e2;rw[xr,a6u (e8.mp nd).1,bE hl]
  |succ j =>
   rw[xr];exact abk (j:=j) (e8.mp nd).2 (by simpa using e1) (by simpa using e2) (by simpa using hl)
theorem abl{α:Type}{l:List α}(nl:l.Nodup){is:List Nat}{ys:List α}(e:a0m (λi=>l[i]?) is=some ys)(ni:is.Nodup):ys.Nodup:=by
 obtain⟨le,g⟩:=a4b e;refine bS.mpr λi j hi hj lt z=>?_;obtain⟨x,h1,h2⟩:=g i _ (af hi);obtain⟨y,h3,h4⟩:=g j _ (af hj);rw[<-z]at h4;have:=a86 nl h2 h4;subst this;have:=a86 ni h1 h3;omega
theorem aeg{is:List Nat}{κ m:List Addr}{g:Hd}(hr:HRep K ι H h)(e1:a0m (λi=>ι[i]?) is=some κ)(nd:is.Nodup)(gr:Gr κ H (κ++m) H2)(hg:HRep K (κ++m) H2 g)(cg:∀o∈g,vy 0 o)(hm:m.length<=1) :
  Gr ι H (ι++m) H2/\HRep K (ι++m) H2 (xr h is g++g.drop κ.length):=by
 obtain⟨l1,g1⟩:=a4b e1;have mn:∀a∈m,H a=none:=by
  obtain⟨m',e,hm'⟩:=gr.pre;rw[List.append_cancel_left e];exact hm'
 have sub:∀a∈κ,a∈ι:=λa ha=>by
  obtain⟨j,hj⟩:=bY ha;obtain⟨i,_,q⟩:=g1 j a hj;exact aQ q
 have some_of:∀a∈ι,∃u,H a=some u:=λa ha=>by
  obtain⟨i,hi⟩:=bY ha;obtain⟨o,_,q⟩:=hr.at hi;obtain⟨u,q,_⟩:=q.some;exact⟨u,q⟩
 have G:Gr ι H (ι++m) H2:=⟨⟨m,rfl,mn⟩,gr.tup,gr.frz,λa u e n=>gr.oth a u e λz=>n (sub a z),gr.kp⟩;have lg:=hg.len;rw[ai]at lg;refine⟨G,?_,?_,λj a o q1 q2=>?_⟩
 ·refine bM.mpr ⟨hr.nd,(bM.mp hg.nd).2.1,λa ha b hb z=>?_⟩;obtain⟨u,q⟩:=some_of a ha;rw[z,mn b hb]at q;cases q
 ·rw[ai,ai,a2i,bK,hr.len];omega
 ·by_cases hj:j<ι.length
  ·rw[aM hj]at q1;rw[aM (by rw[a2i,<-hr.len];exact hj)]at q2
   by_cases hp:j∈is
   ·obtain⟨k,hk⟩:=bY hp;have hkl:k<κ.length:=by rw[<-l1];exact(ag.mp hk).1
    obtain⟨i,h3,h4⟩:=g1 k _ (af hkl);rw[hk]at h3;cases h3
    rw[q1]at h4;have hkg:k<g.length:=by omega
    have e5:=abk (h:=h) nd hk (af hkg) (by rw[<-hr.len];exact hj)
    rw[e5]at q2;cases q2
    have ea:(κ++m)[k]? = some a:=by rw[aM hkl,af hkl];exact h4.symm
    exact(hg.obj k a _ ea (af hkg)).any (cg _ (bF hkg)) _
   ·rw[a6u hp]at q2;have r:=hr.obj j a o q1 q2;obtain⟨u,hu,_⟩:=r.some;have na:a∉κ:=λz=>by
     obtain⟨k,hk⟩:=bY z;obtain⟨i,h3,h4⟩:=g1 k a hk;have:=a86 hr.nd q1 h4;subst this;exact hp (aQ h3)
    exact r.mono G (by rw[hu];exact gr.oth a u hu na)
  ·have q1':=q1;rw[aN (by omega)]at q1
   rw[aN (by rw[a2i,<-hr.len];omega),a2i,<-hr.len,List.getElem?_drop]at q2
   have ea:(κ++m)[κ.length+(j-ι.length)]? = some a:=by rw[aN (by omega)];simpa using q1
   exact(hg.obj _ a o ea q2).any (cg o (aQ q2)) _
theorem aa1{m:Bool}{F:SF}{vs:List V}{ds:List D}{Q:VK}(r:Reps K ι H vs ds)(hr:HRep K ι H h)(o:out K X0 (a3j K) ι H (ik m n F ds h) Q)(E:XK) :
  a0i K n F vs H (λv H1=>∃L,aee H1 L/\∀H2,FrzOf L H1 H2->Q v H2) E:=by
 unfold ik at o
 split at o
 ·rename_i hl;refine⟨by rw[r.len];exact hl,?_⟩
  unfold aq4 at o
  split at o
  ·exact o.elim
  ·rename_i os hos
   split at o
   ·rename_i hc;obtain⟨nd,hd,hcl⟩:=hc;obtain⟨l0,g0⟩:=a4b hos;obtain⟨κ,e1⟩:=abj ι (is:=a2r ds) λi hi=>by
     obtain⟨j,hj⟩:=bY hi;have hjl:j<os.length:=by rw[<-l0];exact(ag.mp hj).1
     obtain⟨x,h3,h4⟩:=g0 j _ (af hjl);rw[hj]at h3;cases h3
     rw[hr.len];exact(ag.mp h4).1
    obtain⟨l1,g1⟩:=a4b e1;have lk:κ.length=os.length:=by omega
    have R0:Reps K κ H vs (a1s 0 ds):=by simpa using a6t (pre:=[]) r hd e1
    have H0:HRep K κ H os:=by
     refine⟨abl hr.nd e1 nd,lk,λj a ob q1 q2=>?_⟩;obtain⟨i,h3,h4⟩:=g1 j a q1;obtain⟨i',h5,h6⟩:=g0 j ob q2;rw[h3]at h5;cases h5
     exact(hr.obj i a ob h4 h6).any (hcl ob (aQ q2)) _
    refine⟨κ,a1s 0 ds,os,R0,H0,?_⟩
    cases hF:F (a1s 0 ds) os with
    |no=>rw[hF]at o;cases m<;>exact o.elim
    |ex c hx=>rw[hF]at o;cases m<;>exact o.elim
    |ok d h1 =>
     rw[hF]at o
     intro ι' H' v g rb hr1
     rw[<-lk]at o
     cases m with
     |false =>
      simp only[cP,ft]at o
      cases hz:ad7 κ.length (.ok d h1) with
      |ok d' g' =>
       rw[hz]at o;simp only at o;obtain⟨L,ab,k⟩:=ai3 g rb hr1 hz;refine⟨L,ab,λH2 f=>?_⟩;obtain⟨k1,k2,k3⟩:=k H2 f
       split at o
       ·rename_i cg
        split at o
        ·rename_i cd;have q:=aeg (m:=[]) hr e1 nd (by simpa using k1) (by simpa using k3) cg (by simp)
         have lg:=k3.len;have dr:g'.drop κ.length=[]:=bU (by omega)
         rw[dr,bT,bT]at q;exact o ι H2 v q.1 (k2.any cd _) q.2
        ·exact o.elim
       ·exact o.elim
      |ex c hx=>rw[hz]at o;exact o.elim
      |no=>rw[hz]at o;exact o.elim
     |true =>
      simp only[de]at o
      cases hz:anl κ.length (.ok d h1) with
      |ok d' g' =>
       rw[hz]at o;simp only at o;obtain⟨b,hb,k1,k2,k3⟩:=alc g rb hr1 hz;refine⟨[],λa ha=>(by simp at ha),λH2 f=>?_⟩
       have e2:H2=H':=by funext a;exact(f a).1 (by simp)
       subst e2
       split at o
       ·rename_i cg;have q:=aeg (m:=[b]) hr e1 nd k1 k3 cg (by simp)
        refine o (ι++[b]) H2 v q.1 ?_ q.2;have hd':d'=.ref κ.length:=by
         unfold anl at hz
         split at hz
         ·rename_i i h2 hh
          injection hh with z1 z2
          split at hz
          ·split at hz
           ·injection hz with z3 z4;exact z3.symm
           ·cases hz
          ·cases hz
         ·cases hz
        subst hd'
        cases k2 with
        |ref hk =>
         rw[aN (aJ _)]at hk;simp at hk;subst hk;exact .ref (by rw[<-hr.len];simp)
       ·exact o.elim
      |ex c hx=>rw[hz]at o;exact o.elim
      |no=>rw[hz]at o;exact o.elim
   ·exact o.elim
 ·exact o.elim
end
theorem aa2(m:Bool){X:Cx}(G:Dn X.prog X.w X.K X.mg X.base k x ps (a0i X.K n F) f fd)(hr:Room k X.A)(hg:Gl X x)(ha:MA X X0 (e::es) ka)
  (hdb:(x == ("__debug__" : Str))=false:=by decide) (he:starEach (e::es) X.env=(false,eval e X.env)::starEach es X.env:=by rfl) (hpl:(backTo pos (starEach es X.env)).any (·.1)=false:=by rfl):ME X X0 (.Call (.Name x p) (e::es) [] pos) (sA (ik m n F) ka):=by
 refine PE.weak (a93 (ags G.ok hr hg G.m G.kp G.b .nil acu ha hdb he hpl)) ?_
 rintro σ H Q ⟨ι,τ,h,S,Rh,o⟩
 refine⟨ι,τ,h,S,Rh,gq o λds h1 ι1 H1 vs g1 r1 hr1 o1=>?_⟩;rw[bT];exact aa1 r1 hr1 o1 _
theorem ai4(m:Bool){X:Cx}(G:Dn X.prog X.w X.K X.mg X.base k x ps (a0i X.K n F) f fd)(hr:Room k X.A)(hg:Gl X x)(hdb:(x == ("__debug__" : Str))=false:=by decide) :
  ME X X0 (.Call (.Name x p) [] [] pos) (sA (ik m n F) bw):=by
 refine PE.weak (a93 (akj G.ok hr hg G.m G.kp G.b .nil acu hdb)) ?_
 rintro σ H Q ⟨ι,τ,h,S,Rh,o⟩
 exact aa1 (vs:=[]) .nil Rh o E0
def aaw:SS:=λ_ _=>.no
section
variable{X:Cx}{E:XD}
theorem a3g:MSs X E st aaw:=λ_ _ _ _ _ _ ⟨_,_,_,_,_,o⟩=>o.elim
end
theorem auu(h:PS X st t):PS X st (λD σ H=>t {D with nx:=λσ' H1=>∃L,aee H1 L/\∀H2,FrzOf L H1 H2->D.nx σ' H2} σ H):=λaA s σ H D I q =>
 thn (h aA s σ H _ I q) λf s' k=>by
  cases f with
  |next =>
   obtain⟨σ',H1,I1,L,ab,k⟩:=k;obtain⟨H2,f,I2⟩:=Inv.frz I1 ab;exact⟨σ',H2,I2,k H2 f⟩
  |brk=>exact k
  |cont=>exact k
  |ret u=>exact k
theorem ano(q:a9o K E (m7 i f) N σ H):lift K E (a3j K) f σ H (λv H1=>N.nx (σ.set i (some v)) H1):=by
 obtain⟨ι,τ,h,S,Rh,o⟩:=q;exact⟨ι,τ,h,S,Rh,sy o λd h1 ι1 H1 v g1 r1 hr1 o1=>o1 ι1 H1 _ (.refl _ _) ((S.mono g1).set r1 i) hr1⟩
theorem ai5(ht:as3 K n g t)(q:lift K E (a3j K) (mq fi t fe ix) σ H Q):ah8 (lift K E (b01 K) fi) (a3n n ix) g (lift K E (a3j K) fe) σ H Q:=by
 obtain⟨ι,τ,h,Sr,Rh,o⟩:=q;refine⟨ι,τ,h,Sr,Rh,gq o λit h1 ι1 H1 J g1 r1 hr1 o1=>?_⟩
 by_cases hl:it.xs.length<=LINE
 ·rw[aT hl]at o1;exact ae5 r1 ht (ae4 (Sr.mono g1) ix) hr1 hl o1
 ·rw[bA hl]at o1;exact o1.elim
section
variable{X:Cx}{E:XD}{aD tg aF cnd:Expr}{aB:Scope}{pos spos pos':Pos}{cl:List (Str×Addr)}{ts fr:List Str}{ix:List Nat}{fi:SI}{g:TG}{t:D->Option Sd}{fe:SE}{fc:ST}{i:Nat}{x:Str}
theorem aq5(hN:X.N.Nodup)(hi':X.N[i]? = some x)(hx:Loc X.env.scope x)(hc:X.calm=true)(S:CSc X aB cl ts fr ix)(hi:MI X E tg aF fi)(hg:∀C fp s H,PG (cxC X (ts++fr) aB cl C fp s H) tg g)(ht:as3 X.K ts.length g t)(he:∀C fp s H,ME (cxC X (ts++fr) aB cl C fp s H) E aD fe)
  (hs:∀x,foldedSetIterable aF X.env x=pure x:=by intro _;rfl) (hsw:swapsWith (.ListComp aD [⟨tg,aF,[],0⟩] aB pos) (some (.Name x pos')) spos.line X.env=pure true:=by rfl) (hf:Hf X x:=by first|exact .inl rfl|exact .inr rfl|assumption) :
  MS X E (.Assign [.Name x pos'] (.ListComp aD [⟨tg,aF,[],0⟩] aB pos) spos) (m7 i (mq fi t fe ix)) :=
 PS.weak (adx (te:=lift X.K E (a3j X.K) fe) hN hi' hx hc S hi hg he hs hsw hf) λN σ H q=>ai5 ht (ano q)
theorem a5p(hN:X.N.Nodup)(hi':X.N[i]? = some x)(hx:Loc X.env.scope x)(hc:X.calm=true)(S:CSc X aB cl ts fr ix)(hi:MI X E tg aF fi)(hg:∀C fp s H,PG (cxC X (ts++fr) aB cl C fp s H) tg g)(ht:as3 X.K ts.length g t)(he:∀C fp s H,ME (cxC X (ts++fr) aB cl C fp s H) E aD fe)
  (hs:∀x,foldedSetIterable aF X.env x=pure x:=by intro _;rfl) (hsw:swapsWith (.ListComp aD [⟨tg,aF,[],0⟩] aB pos) (some (.Name x pos')) spos.line X.env=pure true:=by rfl) (hf:Hf X x:=by first|exact .inl rfl|exact .inr rfl|assumption) :
  MS X E (.Assign [.Name x pos'] (.ListComp aD [⟨tg,aF,[],0⟩] aB pos) spos) (m7 i (sZ (mq fi t fe ix))) :=
 PS.weak (auu (adx (te:=lift X.K E (a3j X.K) fe) hN hi' hx hc S hi hg he hs hsw hf)) λN σ H q=>ai5 ht (b07 (ano q))
end
theorem wu(Fu:Fun K x qual st f fd)(S:FnScope N ps (az st))
  (hb:∀(cdv:Value) (A:Around) (outer:List Env) (s:Shared) (H:Hp) (E:XK),Room k (A.deeper (PyProof.Rows.envOfC qual (az st) s.heap.objs.size f cdv))->MSs (a5b CX0 P w K mg base N qual (az st) f cdv A outer s H E).nox X0 (jz st) b) :
  FnOk P w K mg base CX0 (k+1) f fd ps (a0i K ps.length (m8 b N.length)):=auc Fu S hb λds h _ _ _=>Rf.same rfl
end MI
namespace MI
open L2 HT
theorem afo{s:Shared}(ht:PyProof.Rows.IsTup s.heap t aC)(hs:s.heap.IsSliceOf sl vl vu .none)(pl:IsPart vl lo)(pu:IsPart vu hi)
  (hw:HT.sIx aC.size 0 lo=0/\HT.sIx aC.size aC.size hi=aC.size) (h:Q (.ref t) s):wpAny (model prog w) A (getItem (.ref t) (.ref sl)) Q E s:=by
 obtain⟨os,f1,f2,f3⟩:=id hs;have ty:s.TypeIs (.ref sl) "slice":=⟨os,f1,f2⟩;have tt:s.TypeIs (.ref t) "tuple":=ht.typeIs;rw[getItem]
 try apply cV
 first|(apply aE;apply bp)|skip
 apply aE;apply wpAny_sequenceKey tt (by decide)
 apply aE
 apply cL (name:=Str.ofString "__getitem__") tt cf
 apply dW cf tt PyProof.Rows.entry_tuple_getitem _ (PyProof.Rows.args_tuple_getitem _ _)
 change wpAny (model prog w) A.in1 (Builtin.Tuple.tupleItemsOf (.ref t)>>=_) _ _ s
 apply aE;apply PyProof.Rows.tupleItemsOf_ ht
 apply aE;apply wpAny_typeOf ty
 rw[aT (by decide)]
 apply aE;apply HT.a3c hs pl pu
 rw[hw.1,hw.2];dsimp only;rw[aT (by simp)]
 apply aE
 rw[Builtin.Tuple.tupleIsExact]
 apply aE;apply wpAny_typeOf tt
 apply bp
 rw[aT (by decide)]
 apply aE;apply wpAny_rule
 apply bp
 exact⟨_,rfl,bp h⟩
def b08(K:Fg):V->Option Int->Option Int->Hp->VK->Prop:=λx lo hi H Q=>∃a xs,x=.ref a/\SqT K H a xs/\whole xs.length lo hi/\Q (.ref a) H
theorem ald:SlR X (b08 X.K):=by
 intro aA s σ H x v vl vu lo hi sl Q I rx hs pl pu h
 obtain⟨a,xs,rfl,hx,hw,q⟩:=h;cases rx
 obtain⟨its,r,ht,hz⟩:=I.tuple hx;have aH:its.toArray.size=xs.length:=by rw[aK];exact r.length.symm
 exact⟨"tuple",_,cf.lookup,ht.typeIs,afo ht hs pl pu (by rw[aH];exact hw) ⟨.ref a,H,I,rfl,q⟩⟩
def afp(d:D)(lo hi:Option Int)(h:Hd):R D:=match d with
 |.tup xs=>if whole xs.length lo hi then .ok (.tup xs) h else .ok (.tup (a8n xs lo hi)) h
 |d=>gSl d lo hi h
def a3l(f:SE)(l u:SO):SE:=λτ h=>(f τ h).bind λd h1=>(l τ h1).bind λlo h2=>(u τ h2).bind λhi h3=>afp d lo hi h3
theorem aq6(rx:Rep K ι H x d)(hr:HRep K ι H h)(o:out K E (a3j K) ι H (afp d lo hi h) Q):(ayt x lo hi H Q\/ayl K x lo hi H Q\/ayn K x lo hi H Q)\/b08 K x lo hi H Q:=by
 cases rx with
 |@tup p vs xs hp r =>
  by_cases hc:whole xs.length lo hi
  ·simp only[afp,aT hc]at o;exact .inr ⟨p,vs,rfl,SqT.of hp,by rw[r.len];exact hc,ans o (.tup hp r) hr⟩
  ·simp only[afp,bA hc]at o;exact .inl (.inr (.inl ⟨p,vs,rfl,SqT.of hp,by rw[r.len];exact hc,a3p (a5j r lo hi) hr o⟩))
 |non=>exact o.elim
 |bl _=>exact o.elim
 |int _=>exact o.elim
 |ty _=>exact o.elim
 |str z=>exact .inl (aeb (.str z) hr o)
 |rol a b=>exact .inl (aeb (.rol a b) hr o)
 |scr a b=>exact .inl (aeb (.scr a b) hr o)
 |rod a b c=>exact o.elim
 |rdT a b c=>exact o.elim
 |exc a b c=>exact o.elim
 |ins _ _ _ _=>exact o.elim
 |ref a=>exact .inl (aeb (.ref a) hr o)
theorem u6(he:ME X E e fa)(hl:MO X E lo l)(hu:MO X E hi u):ME X E (.Subscript e (.Slice lo hi none p2) pos) (a3l fa l u):=by
 refine PE.weak (ako ((au1.or (atm.or ap1)).or ald) he hl hu) ?_
 rintro σ H Q ⟨ι,τ,h,S,Rh,o⟩
 refine⟨ι,τ,h,S,Rh,gq o λd h1 ι1 H1 v g1 r1 hr1 o1=>?_⟩;refine⟨ι1,τ,h1,S.mono g1,hr1,gq o1 λlo h2 ι2 H2 lv g2 r2 hr2 o2=>?_⟩;refine⟨ι2,τ,h2,(S.mono g1).mono g2,hr2,gq o2 λhi h3 ι3 H3 hv g3 r3 hr3 o3=>?_⟩
 cases r2;cases r3
 exact aq6 ((r1.mono g2).mono g3) hr3 o3
end MI
namespace TPM
open PySem.W L2 HT MI
theorem a3h:fillsNumberSlot (.type "tuple") "mul" = pure false :=
 fillsNumberSlot_seq (id := "tuple.__mul__") (r:=some (.builtin "tuple.__rmul__")) fH.lookup (by decide +kernel) F.slot_tuple_rmul.lookup (by decide +kernel)
theorem ai6(t:Addr)(aC:Array Value)(n:Nat)(dd:Option Addr)(sl:Array (Option Value))(x:Int)(u:Tok)(h0:aC.isEmpty=false)(h2:2<=x)(h3:x<2^63)(hz:aC.size*x.toNat<=sizeLine) :
  Meets (Builtin.«tuple.__mul__» ⟨[.ref t,.int x u],[]⟩) (λ_ R s=>s.heap.get? t=some {cls:=.type "tuple",dict:=dd,data:=.seq aC n,slots:=sl}/\R (.ok (.ret (.ref s.heap.objs.size))) {s with heap:=s.heap.push {cls:=.type "tuple",data:=.seq (List.foldl (λx1 x2=>x1++x2) #[] (List.replicate x.toNat aC))} }) :=
 .of_wp λprog w A R s h=>by
  obtain⟨hp,g,d,tk,os⟩:=s;obtain⟨hl,h⟩:=h;have c1:¬ (decide (x < -2^63) || decide (x≥2^63))=true:=by
   rw[eS,eD,eD];omega
  have c2:¬ (aC.isEmpty || x == 1)=true:=by
   rw[h0,Bool.false_or];simp;omega
  have c3:¬ (decide (x<=0) || aC.isEmpty)=true:=by
   rw[h0,Bool.or_false,eD];omega
  have ex:((aC.size:Nat):Int)*x=((aC.size*x.toNat:Nat):Int):=by
   rw[Int.natCast_mul,Int.toNat_of_nonneg (by omega)]
  have sl':(sizeLine:Nat)<=(2^63-1) / 8:=by decide
  have c4:¬ (aC.size:Int)*x > (2^63-1) / 8:=by rw[ex];omega
  have c5:¬ Builtin.Tuple.tupleTooMany ((aC.size:Int)*x)=true:=by
   rw[ex];simp only[Builtin.Tuple.tupleTooMany,eD];omega
  wp_walk
  rw[bA c1]
  wp_walk
  rw[bA c2]
  wp_walk
  rw[bA c3]
  wp_walk
  rw[bA c4]
  wp_walk
  rw[bA c5]
  wp_walk
  have fs:¬ (List.foldl (λx1 x2=>x1++x2) #[] (List.replicate x.toNat aC)).size > sizeLine:=by
   have:=foldl_rep aC.toList x.toNat []
   rw[cE,Array.toArray_toList]at this;rw[show(#[]:Array Value)=([]:List Value).toArray from rfl,this,aK,len_rep,dR,fX]
   omega
  rw[bA fs]
  wp_walk
  exact⟨_,rfl,h⟩
theorem a7a(a:Int)(t:Tok)(l:Addr)(aC:Array Value)(n:Nat)(dd:Option Addr)(sl:Array (Option Value)) :
  Meets (Builtin.«int.__rmul__» ⟨[.int a t,.ref l],[]⟩) (λ_ R s=>s.heap.get? l=some {cls:=.type "tuple",dict:=dd,data:=.seq aC n,slots:=sl}/\R (.ok (.ret Value.notImplemented)) s):=by
 refine .of_wp λprog w A R s h=>?_;obtain⟨hp,g,d,tk,os⟩:=s;obtain⟨hl,h⟩:=h
 wp_walk
 exact⟨_,rfl,h⟩
theorem abm:seqRepeat? (.type "tuple")=pure (some (.builtin "tuple.__mul__")):=by
 unfold seqRepeat?;rw[seqSlot_of (T := "tuple") (name := "__mul__") (id := "tuple.__mul__") fH.lookup (by decide +kernel),seqSlot_of (T := "tuple") (name := "__rmul__") (id := "tuple.__rmul__") F.slot_tuple_rmul.lookup (by decide +kernel)]
 rfl
def ale(K:Fg):R2:=λx y H Q=>∃a k xs,x=.ref a/\y=.int k/\SqT K H a xs/\xs≠[]/\2<=k/\k<2^63/\xs.length*k.toNat<=sizeLine/\∀p,H p=none->Q (.ref p) (upd H p (.tup (List.replicate k.toNat xs).flatten))
theorem aq7:OpR X (binaryOp .Mult) (ale X.K):=by
 intro aA s σ H x y v u Q I rx ry h
 obtain⟨a,k,xs,rfl,rfl,ha,hx,h1,h2,hz,q⟩:=h;cases rx
 obtain⟨t,rfl⟩:=ry;obtain⟨its,r1,p1,_⟩:=I.tuple ha;obtain⟨⟨cls,dd,data,sl⟩,ho,hc,n,hd⟩:=id p1;simp only at hc hd;subst hc hd;have he:its.toArray.isEmpty=false:=by
  cases its with
  |nil=>exact(hx (r1.nil_iff.mp rfl)).elim
  |cons _ _=>rfl
 have hz2:its.toArray.size*k.toNat<=sizeLine:=by rw[aK,<-r1.length];exact hz
 have hnew:List.foldl (λx1 x2=>x1++x2) #[] (List.replicate k.toNat its.toArray)=(List.replicate k.toNat its).flatten.toArray:=by
  have:=foldl_rep its k.toNat []
  rw[cE]at this;exact this
 refine dE (T := "tuple") (U := "int") (by decide) ⟨_,ho,rfl⟩ (λs'=>eM s' k t) a3h fQ dk abm fF.lookup
  (cO dk (eM s k t) fG (fh _ _) (a7a k t a its.toArray n dd sl)
   ⟨ho,rfl,⟨_,ho,rfl⟩,cO fH ⟨_,ho,rfl⟩ F.entry_tuple_mul (F.args_tuple_mul_2 _ _) (ai6 a its.toArray n dd sl k t he h1 h2 hz2) ⟨ho,?_⟩⟩)
 rw[hnew];refine⟨.ref s.heap.objs.size,_,I.laid (t':=s.toks) (o:=.tup (List.replicate k.toNat xs).flatten) (λb ob q=>av _ q) (aJ _) ?_,rfl,q _ (I.hok.fresh (aJ _))⟩;exact⟨by rw[len_rep,fX];exact hz,_,r1.rep k.toNat,PyProof.Rows.IsTup.new _ _⟩
end TPM
namespace MI
open L2 TPM
open Classical in
noncomputable def alf(x y:D)(h:Hd):R D:=match x,y with
 |.tup xs,.int k=>if (xs≠[]/\2<=k/\k<2^63)/\xs.length*k.toNat<=LINE then .ok (.tup (List.replicate k.toNat xs).flatten) h else .no
 |x,y=>aue x y h
theorem aa3:a3o K alf (λx y H Q=>(rI CMul (λi j=>.int (i*j)) x y H Q\/atr x y H Q)\/ale K x y H Q):=by
 intro E ι H h x y dx dy Q rx ry hr o
 cases rx with
 |@tup a vs xs ha rs =>
  cases ry with
  |int k =>
   simp only[alf]at o
   split at o
   ·rename_i hc;refine .inr ⟨a,k,vs,rfl,rfl,SqT.of ha,λz=>?_,hc.1.2.1,hc.1.2.2,ll (by rw[rs.len];exact hc.2),a3p (rs.flat _) hr o⟩
    subst z;cases rs
    exact hc.1.1 rfl
   ·exact o.elim
  |_=>exact o.elim
 |int i=>exact .inl (ahm _ _ _ _ _ _ _ _ _ (.int i) ry hr o)
 |ref e=>exact .inl (ahm _ _ _ _ _ _ _ _ _ (.ref e) ry hr o)
 |_=>exact o.elim
end MI
namespace L2
open PyProof.Rows
theorem alg:azx X (axh X.K):=by
 intro aA s σ H o i ov iv Q I ro ri h
 obtain⟨p,xs,k,z,rfl,rfl,hq,he,q⟩:=h;cases ro
 obtain⟨t,rfl⟩:=ri;obtain⟨its,r,pl,hz⟩:=I.list hq;obtain⟨j,h1,h2,h3,h4,h5⟩:=a9i he;obtain⟨w,ew,rw'⟩:=r.get h2;have len:=r.length;have l63:=a75;have done:EP X aA σ Q w s:=⟨z,H,I,rw',q⟩
 by_cases neg:k<0
 ·have ej:(k+(its.toArray.size:Int)).toNat=j:=by
   rw[gN neg h4]at h1;rw[aK,<-len];exact bQ h1
  exact wpAny_getItem_list_neg pl.isList neg (by rw[aK];omega) (by omega) (by rw[ej];simpa using ew) done
 ·have ej:k.toNat=j:=by
   rw[gR (by omega) h5]at h1
   exact bQ h1
  exact wpAny_getItem_list pl.isList (by omega) (by omega) (by rw[ej];simpa using ew) done
end L2
namespace MI
open L2
def ak1(x y:D)(h:Hd):R D:=match x,y with
 |.ref p,.int i=>(match h[p]? with|some (.lst xs)=>(match atI xs i with|some d=>.ok d h|none=>.no)|_=>.no)
 |_,_=>.no
theorem aq8:a3o K ak1 (axh K):=by
 intro E ι H h x y dx dy Q rx ry hr o
 cases rx with
 |@ref p i hp =>
  cases ry with
  |int k =>
   simp only[ak1]at o
   split at o
   ·rename_i xs hx;obtain⟨vs,h3,h4⟩:=hr.lst hp hx
    split at o
    ·rename_i d he;obtain⟨v,h1,h2⟩:=aea h4 he;exact⟨p,vs,k,v,rfl,rfl,SqL.of h3,h1,ans o h2 hr⟩
    ·exact o.elim
   ·exact o.elim
  |_=>exact o.elim
 |_=>exact o.elim
def a4i(g:D->D->Hd->R D)(fo fi fe:SE):SS:=λτ h=>(fo τ h).fl λo h1=>(fi τ h1).fl λi h2=>(ak1 o i h2).fl λx h3=>(fe τ h3).fl λy h4=>(g x y h4).fl λz h5=>match put o i z h5 with|some h6=>.nx τ h6|none=>.no
section
variable{X:Cx}{E:XD}{e o i:Expr}{fa fb fc:SE}{pos:Pos}
theorem ad8(ho:ME X E o fa)(hi:ME X E i fb)(he:ME X E e fc)(hp:OpR X (inplaceOp op) r)(hs:a3o X.K gg r)
  (ha:∀ov iv new,augStore i ov iv new=(do holding [new,ov,iv] (setItem ov iv new);release [new,ov,iv] [];pure .next):=by intros;rfl):MS X E (.AugAssign (.Subscript o i tpos) op e pos) (a4i gg fa fb fc):=by
 refine PS.weak (aoi ho hi alg he hp set_list ha) ?_
 rintro N σ H ⟨ι,τ,h,S,Rh,oo⟩
 refine⟨ι,τ,h,S,Rh,sy oo λd h1 ι1 H1 v g1 r1 hr1 o1=>?_⟩;refine⟨ι1,τ,h1,S.mono g1,hr1,sy o1 λd2 h2 ι2 H2 u g2 r2 hr2 o2=>?_⟩;refine aq8 E ι2 H2 h2 v u d d2 _ (r1.mono g2) r2 hr2 (sy o2 λd3 h3 ι3 H3 w g3 r3 hr3 o3=>?_);have S3:=((S.mono g1).mono g2).mono g3;refine⟨ι3,τ,h3,S3,hr3,sy o3 λd4 h4 ι4 H4 y g4 r4 hr4 o4=>?_⟩;refine hs E ι4 H4 h4 w y d3 d4 _ (r3.mono g4) r4 hr4 (sy o4 λd5 h5 ι5 H5 z g5 r5 hr5 o5=>?_)
 cases hq:put d d2 d5 h5 with
 |none=>rw[hq]at o5;exact o5.elim
 |some h6 =>
  rw[hq]at o5;exact ahh ((((r1.mono g2).mono g3).mono g4).mono g5) (((r2.mono g3).mono g4).mono g5) r5 hr5 hq λH' g6 hr6=>o5 ι5 H' σ g6 (((S3.mono g4).mono g5).mono g6) hr6
end
end MI
namespace TPM
open PySem.W L2 HT MI
theorem afq(t b:Addr)(items2:Array Value)(n n2:Nat)(dd dd2:Option Addr)(sl sl2:Array (Option Value)) :
  Meets (Builtin.«tuple.__add__» ⟨[.ref t,.ref b],[]⟩) (λ_ R s=>s.heap.get? t=some {cls:=.type "tuple",dict:=dd,data:=.seq #[] n,slots:=sl}/\s.heap.get? b=some {cls:=.type "tuple",dict:=dd2,data:=.seq items2 n2,slots:=sl2}/\R (.ok (.ret (.ref b))) s):=by
 refine .of_wp λprog w A R s h=>?_;obtain⟨hp,g,d,tk,os⟩:=s;obtain⟨hl,hb,h⟩:=h
 wp_walk
 refine wpAny_of_eq sub_tuple_self ?_
 wp_walk
 exact⟨_,rfl,h⟩
def auv(K:Fg):R2:=λx y H Q=>∃a b ys,x=.ref a/\y=.ref b/\SqT K H a []/\SqT K H b ys/\Q (.ref b) H
theorem aq9:OpR X (binaryOp .Add) (auv X.K):=by
 intro aA s σ H x y v u Q I rx ry h
 obtain⟨a,b,ys,rfl,rfl,ha,hb,q⟩:=h;cases rx
 cases ry
 obtain⟨its,r1,p1,_⟩:=I.tuple ha;obtain⟨its2,r2,p2,_⟩:=I.tuple hb;cases r1
 obtain⟨⟨cls,dd,data,sl⟩,ho,hc,n,hd⟩:=id p1;obtain⟨⟨cls2,dd2,data2,sl2⟩,ho2,hc2,n2,hd2⟩:=id p2;simp only at hc hd hc2 hd2;subst hc hd hc2 hd2;exact concat_meets ⟨_,ho,rfl⟩ ⟨_,ho2,rfl⟩ gG seq_tuple_add F.slot_tuple_add F.entry_tuple_add (F.args_tuple_add_2 _ _) (afq a b its2.toArray n n2 dd dd2 sl sl2) ⟨ho,ho2,⟨.ref b,H,I,rfl,q⟩⟩
end TPM
namespace L2
open PyProof.Rows
section
variable{X:Cx}
theorem Inv.lstR(I:Inv X aA σ H s)(hH:Rd H l (.lst xs)):xs.length<=sizeLine/\∃(its:List Value) (n:Nat),Vals xs its/\xs.length=its.length/\s.heap.get? l=some {cls:=.type "list",data:=.seq its.toArray n}:=by
 obtain⟨z,its,n,r,e⟩:=hH.ok I.hok;exact⟨z,its,n,r,r.length,e⟩
def auw:R2:=λx y H Q=>∃l b xs zs,x=.ref l/\y=.ref b/\Rd H l (.lst xs)/\Rd H b (.lst zs)/\xs.length+zs.length<=sizeLine/\∀p,H p=none->Q (.ref p) (upd H p (.lst (xs++zs)))
theorem aqa:OpR X (binaryOp .Add) auw:=λaA s σ H x y v u Q I rx ry ⟨l,b,xs,zs,ex,ey,h1,h2,hz,q⟩=>by
 subst ex ey;cases rx
 cases ry
 obtain⟨_,as,_,va,la,ea⟩:=I.lstR h1;obtain⟨_,bs,_,vb,lb,eb⟩:=I.lstR h2;have app:as.toArray++bs.toArray=(as++bs).toArray:=by simp
 refine PySem.P.add_list ea eb ?_ (by simp;omega)
 rw[app];exact⟨.ref _,_,I.lnew (t':=s.toks) (va.append vb) (by simpa using hz),rfl,q _ I.fresh⟩
def auy:V->List V->Hp->VK->Prop:=λx vs H Q=>∃l b xs zs,x=.ref l/\vs=[.ref b]/\H l=some (.lst xs)/\Rd H b (.lst zs)/\xs.length+zs.length<=sizeLine/\Q .non (upd H l (.lst (xs++zs)))
theorem afr:MtM X "list.extend" auy:=λaA s σ H x vs v us Q I rx rv ⟨l,b,xs,zs,ex,ev,h1,h2,hz,q⟩=>by
 subst ex ev;cases rx
 obtain⟨u,rfl,ru⟩:=rv.one;cases ru
 obtain⟨_,as,n,va,la,ea⟩:=I.lstM h1;obtain⟨_,bs,m,vb,lb,eb⟩:=I.lstR h2;have few:as.toArray.size+bs.toArray.size<=sizeLine:=by simp;omega
 have long:¬ (!as.toArray.isEmpty && Builtin.List.listTooLong (as.toArray.size+bs.toArray.size))=true:=by rw[a7f few,gQ];exact bI
 exact cO F.slot_list_extend ⟨_,ea,rfl⟩ F.entry_list_extend (F.args_list_extend_2 _ _) (AutoSeq1.list_extend_list_list_0 l as.toArray n b bs.toArray m long (by simp;omega) (by omega))
  ⟨ea,eb,.non,_,I.lset (its':=as++bs) h1 ea (by simp) (va.append vb) (by simpa using hz),rfl,q⟩
def auz:R2:=λx y H Q=>∃l k xs,x=.ref l/\y=.int k/\Rd H l (.lst xs) /\ -(2^63)<=k/\k<2^63/\xs.length*k.toNat<=sizeLine/\∀p,H p=none->Q (.ref p) (upd H p (.lst (List.replicate k.toNat xs).flatten))
theorem aqb(its:List Value)(k:Nat):List.foldl (λx1 x2=>x1++x2) #[] (List.replicate (if its.toArray.isEmpty=true then 0 else k) its.toArray)=(List.replicate k its).flatten.toArray:=by
 have g:∀m:Nat,List.foldl (λx1 x2=>x1++x2) #[] (List.replicate m its.toArray)=(List.replicate m its).flatten.toArray:=λm=>by simpa using foldl_rep its m []
 cases its with
 |nil=>simp
 |cons a r=>rw[bA (by simp),g]
theorem aqc:OpR X (binaryOp .Mult) auz:=λaA s σ H x y v u Q I rx ry ⟨l,k,xs,ex,ey,h1,k1,k2,hz,q⟩=>by
 subst ex ey;cases rx
 obtain⟨t,rfl⟩:=ry;obtain⟨_,as,n,va,la,ea⟩:=I.lstR h1;have few:as.toArray.size*k.toNat<=sizeLine:=by rw[aK,<-la];exact hz
 have top:(sizeLine:Nat)<=(2^63-1) / 8:=by decide
 refine dE (T := "list") (U := "int") (by decide) ⟨_,ea,rfl⟩ (λs'=>eM s' k t) noFill_list_mul fQ dk repeat_list fF.lookup
  (cO dk (eM s k t) fG (fh _ _) (int___rmul___int_list k t l as.toArray n)
   ⟨ea,rfl,⟨_,ea,rfl⟩,cO F.slot_list_mul ⟨_,ea,rfl⟩ F.entry_list_mul (F.args_list_mul_2 _ _)
    (eP l as.toArray n k t (by rw[fitsIndex_both k1 k2];exact bI) (by omega) (by rw[a7f few];exact bI)) ⟨ea,?_⟩⟩)
 rw[aqb];exact⟨.ref _,_,I.lnew (t':=s.toks) (va.rep k.toNat) (by rw[len_rep,fX];exact hz),rfl,q _ I.fresh⟩
end
end L2
namespace MI
open L2 TPM
def yc(d:D)(h:Hd):Option (List D):=match d with
 |.rol xs=>some xs
 |.ref i=>(match h[i]? with|some (.lst xs)=>some xs|_=>none)
 |_=>none
section
variable{K:Fg}{ι:List Addr}{H:Hp}{h:Hd}
theorem a2s(r:Rep K ι H x d)(hr:HRep K ι H h)(e:yc d h=some xs):∃a vs,x=.ref a/\Rd H a (.lst vs)/\Reps K ι H vs xs:=by
 cases r with
 |@rol a vs ys hp rs=>cases e;exact⟨a,vs,rfl,.inr hp,rs⟩
 |@ref a i hp =>
  obtain⟨ob,e1,e2⟩:=hr.at hp;simp only[yc,e1]at e
  cases ob with
  |lst ys=>cases e;obtain⟨vs,h3,h4⟩:=e2;exact⟨a,vs,rfl,.inl h3,h4⟩
  |_=>cases e
 |_=>cases e
def my:D->D->Hd->R D
 |.int i,.int j,h=>.ok (.int (i+j)) h
 |.str x,.str y,h=>if x.length+y.length<=LINE then .ok (.str (x++y)) h else .no
 |.tup [],.tup ys,h=>.ok (.tup ys) h
 |.tup (x::xs),.tup ys,h=>if (x::xs).length+ys.length<=LINE then .ok (.tup (x::xs++ys)) h else .no
 |x,y,h=>match yc x h,yc y h with
  |some xs,some ys=>if xs.length+ys.length<=LINE then .ok (.ref h.length) (h++[.lst (xs++ys)]) else .no
  |_,_=>.no
theorem ad9(e1:yc x h=some xs)(e2:yc y h=some ys):my x y h=if xs.length+ys.length<=LINE then .ok (.ref h.length) (h++[.lst (xs++ys)]) else .no:=by
 cases x<;>first|(cases e1;done)|(cases y<;>first|(cases e2;done)|(simp only[my,e1,e2]))
theorem aqd(x y:D)(h:Hd):(∃i j,x=.int i/\y=.int j)\/(∃i j,x=.str i/\y=.str j)\/(∃xs ys,x=.tup xs/\y=.tup ys)\/(∃xs ys,yc x h=some xs/\yc y h=some ys)\/my x y h=.no:=by
 cases e1:yc x h with
 |some xs =>
  cases e2:yc y h with
  |some ys=>exact .inr (.inr (.inr (.inl ⟨xs,ys,rfl,rfl⟩)))
  |none =>
   refine .inr (.inr (.inr (.inr ?_)))
   cases x<;>first|(cases e1;done)|(simp only[my,e1,e2])
 |none =>
  cases x with
  |int i=>cases y<;>first|exact .inl ⟨_,_,rfl,rfl⟩|exact .inr (.inr (.inr (.inr rfl)))
  |str i=>cases y<;>first|exact .inr (.inl ⟨_,_,rfl,rfl⟩)|exact .inr (.inr (.inr (.inr rfl)))
  |tup i=>cases y<;>first|exact .inr (.inr (.inl ⟨_,_,rfl,rfl⟩))|(cases i<;>exact .inr (.inr (.inr (.inr rfl))))
  |_=>refine .inr (.inr (.inr (.inr ?_)));simp only[my,e1]
theorem alh:a3o K my (λx y H Q=>(rI0 (λi j=>.int (i+j)) x y H Q\/(∃i j,x=.str i/\y=.str j/\i.length+j.length<=sizeLine/\Q (.str (i++j)) H)\/atn K x y H Q\/auw x y H Q)\/auv K x y H Q):=by
 intro E ι H h x y dx dy Q rx ry hr o
 rcases aqd dx dy h with⟨i,j,rfl,rfl⟩|⟨i,j,rfl,rfl⟩|⟨xs,ys,rfl,rfl⟩|⟨xs,ys,e1,e2⟩|e
 ·cases rx;cases ry
  exact .inl (.inl ⟨i,j,rfl,rfl,ans o (.int _) hr⟩)
 ·cases rx;cases ry
  simp only[my]at o
  split at o
  ·rename_i hc;exact .inl (.inr (.inl ⟨i,j,rfl,rfl,ll hc,ans o (.str _) hr⟩))
  ·exact o.elim
 ·cases rx with
  |@tup a vs _ ha r1 =>
  cases ry with
  |@tup b us _ hb r2 =>
  cases xs with
  |nil=>cases r1;exact .inr ⟨a,b,us,rfl,rfl,SqT.of ha,SqT.of hb,ans o (.tup hb r2) hr⟩
  |cons z xs =>
   simp only[my]at o
   split at o
   ·rename_i hc;refine .inl (.inr (.inr (.inl ⟨a,b,vs,us,rfl,rfl,SqT.of ha,SqT.of hb,λz=>(by subst z;cases r1),ll (by rw[r1.len,r2.len];exact hc),λz=>?_,λ_=>?_⟩)))
    ·subst z;cases r2
     rw[bT]at o;exact ans o (.tup ha r1) hr
    ·exact a3p (r1.app r2) hr o
   ·exact o.elim
 ·rw[ad9 e1 e2]at o;obtain⟨a,vs,rfl,h1,h2⟩:=a2s rx hr e1;obtain⟨b,us,rfl,h3,h4⟩:=a2s ry hr e2
  split at o
  ·rename_i hc;exact .inl (.inr (.inr (.inr ⟨a,b,vs,us,rfl,rfl,h1,h3,ll (by rw[h2.len,h4.len];exact hc),a2o (h2.app h4) hr o⟩)))
  ·exact o.elim
 ·rw[e]at o;exact o.elim
theorem qi(ha:ME X E a fa)(hb:ME X E b fb):ME X E (.BinOp a .Add b pos) (s2 my fa fb) :=
 ad0 (OpR.or (atc.or (af8.or (aoz.or aqa))) aq9) alh ha hb
open Classical in
noncomputable def a3i(x y:D)(h:Hd):R D:=match y with
 |.int k=>(match x with
  |.int i=>if CMul i k then .ok (.int (i*k)) h else .no
  |_=>match yc x h with
   |some xs=>if (-(2^63)<=k/\k<2^63)/\xs.length*k.toNat<=LINE then .ok (.ref h.length) (h++[.lst (List.replicate k.toNat xs).flatten]) else .no
   |none=>.no)
 |_=>.no
theorem ali:a3o K a3i (λx y H Q=>rI CMul (λi j=>.int (i*j)) x y H Q\/auz x y H Q):=by
 intro E ι H h x y dx dy Q rx ry hr o
 cases dy with
 |int k =>
  obtain rfl:=ahr ry
  cases hx:yc dx h with
  |some xs =>
   obtain⟨a,vs,rfl,h1,h2⟩:=a2s rx hr hx;have o':out K E (a3j K) ι H (if (-(2^63)<=k/\k<2^63)/\xs.length*k.toNat<=LINE then .ok (.ref h.length) (h++[.lst (List.replicate k.toNat xs).flatten]) else .no) Q:=by
    cases dx<;>first|(cases hx;done)|(simp only[a3i,hx]at o;exact o)
   split at o'
   ·rename_i hc;exact .inr ⟨a,k,vs,rfl,rfl,h1,hc.1.1,hc.1.2,ll (by rw[h2.len];exact hc.2),a2o (h2.flat _) hr o'⟩
   ·exact o'.elim
  |none =>
   cases dx with
   |int i =>
    obtain rfl:=ahr rx
    by_cases hc:CMul i k
    ·simp only[a3i,aT hc]at o;exact .inl ⟨i,k,rfl,rfl,hc,ans o (.int _) hr⟩
    ·simp only[a3i,bA hc]at o;exact o.elim
   |_=>simp only[a3i,hx]at o;exact o.elim
 |_=>exact o.elim
theorem aa4(ha:ME X E a fa)(hb:ME X E b fb):ME X E (.BinOp a .Mult b pos) (s2 a3i fa fb):=ad0 (amv.or aqc) ali ha hb
def ai7:D->List D->Hd->R D
 |.ref i,[.tup ys],h=>(match h[i]? with|some (.lst xs)=>if xs.length+ys.length<=LINE then .ok .non (h.set i (.lst (xs++ys))) else .no|_=>.no)
 |.ref i,[y],h=>(match h[i]?,yc y h with|some (.lst xs),some ys=>if xs.length+ys.length<=LINE then .ok .non (h.set i (.lst (xs++ys))) else .no|_,_=>.no)
 |_,_,_=>.no
theorem alj:anb K ai7 (λx vs H Q=>auy x vs H Q\/adz K x vs H Q):=by
 intro E ι H h x dx xs ds Q rx r hr o
 unfold ai7 at o
 split at o
 ·rename_i i ys
  cases rx with
  |@ref p _ hp =>
   cases r with
   |cons r1 rs =>
    cases rs
    cases r1 with
    |@tup b us zs hb rb =>
     split at o
     ·rename_i xs hx;obtain⟨vs,h3,h4⟩:=hr.lst hp hx
      split at o
      ·rename_i hc;exact .inr ⟨p,b,vs,us,rfl,rfl,h3,SqT.of hb,ll (by rw[h4.len,rb.len];exact hc),ad1 (h4.app rb) hr hp .non o⟩
      ·exact o.elim
     ·exact o.elim
 ·rename_i i y _
  cases rx with
  |@ref p _ hp =>
   cases r with
   |cons r1 rs =>
    cases rs
    split at o
    ·rename_i xs ys hx hy;obtain⟨vs,h3,h4⟩:=hr.lst hp hx;obtain⟨b,us,rfl,h5,h6⟩:=a2s r1 hr hy
     split at o
     ·rename_i hc;exact .inl ⟨p,b,vs,us,rfl,rfl,h3,h5,ll (by rw[h4.len,h6.len];exact hc),ad1 (h4.app h6) hr hp .non o⟩
     ·exact o.elim
    ·exact o.elim
 ·exact o.elim
end
end MI
namespace MI
open L2
def a94(d:D)(h:Hd):Option (List Int):=match d with
 |.ref i=>(match h[i]? with|some (.lst xs)=>a9v xs|_=>none)
 |.rol xs=>a9v xs
 |_=>none
theorem abn(r:Rep K ι H v d)(hr:HRep K ι H h)(e:a94 d h=some ns):∃p,v=.ref p/\SqL K H p (ns.map V.int):=by
 unfold a94 at e
 split at e
 ·cases r with
  |@ref p _ hp =>
   split at e
   ·rename_i xs hx;obtain⟨vs,h3,h4⟩:=hr.lst hp hx;exact⟨p,rfl,SqL.of (by rw[h3,a5l h4 e])⟩
   ·cases e
 ·cases r with
  |@rol p vs xs hp r=>exact⟨p,rfl,by rw[<-a5l r e];exact hp.l⟩
 ·cases e
end MI
namespace L2
open PyProof.Rows
section
variable{X:Cx}
theorem aa5:CallR X (.builtin "sorted") (λxs H Q=>∃(p:Addr) (ns:List Int),xs=[.ref p]/\SqL X.K H p (ns.map V.int)/\ns.length<64/\∀l,H l=none->Q (.ref l) (upd H l (.lst ((PySem.W.sortI ns).map V.int)))):=by
 intro aA s σ H xs us Q I r ⟨p,ns,e,hq,h64,q⟩
 subst e;obtain⟨u,rfl,ru⟩:=vals1 r;cases ru
 obtain⟨its,r',pl,hz⟩:=I.list hq;have hI:IntsAre its ns:=intsAre_of r';have hl:its.length=ns.length:=by have:=r'.length;simp at this;omega
 refine sorted_ints pl.isList hI (by omega) λout ns' a1 a2 a3=>?_
 obtain⟨e,he⟩:=sortedAll_at s.heap its out;have e2:ns'=PySem.W.sortI ns:=PySem.W.eq_sortI a2 a3;subst e2;have ln:(PySem.W.sortI ns).length=ns.length:=(PySem.W.sortI_perm ns).length_eq;refine⟨.ref (s.heap.objs.size+1),_,I.laid (t':=s.toks) (λ_ _=>sortedAll_old) (gC _) (show ObjOk X.prog X.w _ _ _ (.lst ((PySem.W.sortI ns).map V.int)) from ⟨by rw[ay,ln];have:=e7;omega,out.toList,e,a7x a1,by simpa[seqObj] using he⟩),rfl,q _ (I.hok.fresh (gC _))⟩
end
end L2
namespace MI
open L2
def a4z:List D->Hd->R D
 |[d],h=>(match a94 d h with|some ns=>if ns.length<64 then .ok (.ref h.length) (h++[.lst ((PySem.W.sortI ns).map D.int)]) else .no|none=>.no)
 |_,_=>.no
theorem a95:∀ns:List Int,Reps K ι H (ns.map V.int) (ns.map D.int)
 |[]=>.nil
 |n::ns=>.cons (.int n) (a95 ns)
theorem afs:ag9 K a4z (λxs H Q=>∃(p:Addr) (ns:List Int),xs=[.ref p]/\SqL K H p (ns.map V.int)/\ns.length<64/\∀l,H l=none->Q (.ref l) (upd H l (.lst ((PySem.W.sortI ns).map V.int)))):=by
 intro E ι H h xs ds Q r hr o
 unfold a4z at o
 split at o
 ·cases r with
  |cons r rs =>
   cases rs
   split at o
   ·rename_i ns e
    split at o
    ·rename_i hl;obtain⟨p,rfl,q⟩:=abn r hr e;exact⟨p,ns,rfl,q,hl,a2o (a95 _) hr o⟩
    ·exact o.elim
   ·exact o.elim
 ·exact o.elim
end MI
namespace L2
open PyProof.Rows
def ixI(n:Int):List Int->Option Nat
 |[]=>none
 |a::l=>if a=n then some 0 else (ixI n l).map (·+1)
theorem aeh:∀{l:List Int} {j:Nat},ixI n l=some j->l[j]? = some n/\∀i,i<j->l[i]?≠some n
 |[],_,h=>by cases h
 |a::l,j,h=>by
  unfold ixI at h
  split at h
  ·rename_i e;cases h
   exact⟨by rw[e];rfl,λi hi=>absurd hi (Nat.not_lt_zero i)⟩
  ·rename_i e;obtain⟨k,hk,rfl⟩:=aV.mp h;obtain⟨h1,h2⟩:=aeh hk;refine⟨h1,λi hi=>?_⟩
   cases i with
   |zero=>intro z;exact e (bQ z)
   |succ i=>exact h2 i (Nat.lt_of_succ_lt_succ hi)
theorem aei:∀{l:List Int},n∈l->∃j,ixI n l=some j
 |[],h=>by cases h
 |a::l,h=>by
  unfold ixI
  split
  ·exact⟨0,rfl⟩
  ·rename_i e
   rcases aR.mp h with h|h
   ·exact absurd h.symm e
   ·obtain⟨j,hj⟩:=aei h;exact⟨j+1,by rw[hj];rfl⟩
def eqI(n:Int):Value->Bool
 |.int a _=>a == n
 |_=>false
def ai8(K:Fg):V->List V->Hp->VK->Prop:=λx vs H Q=>∃(l:Addr) (ns:List Int) (n:Int) (j:Nat),x=.ref l/\vs=[.int n]/\SqL K H l (ns.map V.int)/\ixI n ns=some j/\Q (.int (j:Nat)) H
theorem ai9:MtR X "list.index" (ai8 X.K):=by
 intro aA s σ H x vs v us Q I rx rv h
 obtain⟨l,ns,n,j,rfl,rfl,hq,hj,q⟩:=h;cases rx
 obtain⟨u,rfl,ru⟩:=rv.one;obtain⟨t,rfl⟩:=ru;obtain⟨its,r,⟨⟨cls,dict,data,slots⟩,m,e1,e2,e3,e4⟩,hz⟩:=I.list hq;have e2:cls=.type "list":=e2;have e3:dict=none:=e3;have e4:data=.seq its.toArray m:=e4;subst e2 e3 e4;have hl:its.length=ns.length:=by have:=r.length;simp at this;omega
 have each:∀i (h:i<its.length),∃a t,its[i]=.int a t/\ns[i]? = some a:=λi h=>by
  obtain⟨y,h1,h2⟩:=r.get (show(ns.map V.int)[i]? = some (V.int (ns[i]'(by omega))) by rw[aO,af (by omega)];rfl)
  obtain⟨t,rfl⟩:=h2;exact⟨_,t,(ag.mp h1).2,af _⟩
 obtain⟨p1,p2⟩:=aeh hj;have jl:j<ns.length:=(ag.mp p1).1;rw[ay]at hz;rw[e7]at hz;refine cO F.slot_list_index ⟨_,e1,rfl⟩ F.entry_list_index (F.args_list_index_2 _ _)
  (SeqAt.list_indexAt l its.toArray m none slots (.int n t) (eqI n) j (by simp;omega) (by omega) ?_ ?_) ⟨e1,λy hy=>?_,.int (j:Nat),H,I.tok _,⟨_,rfl⟩,q⟩
 ·obtain⟨a,t,h1,h2⟩:=each j (by omega)
  rw[p1]at h2;cases h2
  rw[List.getElem_toArray,h1];exact dX _
 ·intro i hi hij
  obtain⟨a,t,h1,h2⟩:=each i (by simpa using hi)
  rw[List.getElem_toArray,h1];exact cn.mpr λz=>p2 i hij (by rw[h2,z])
 ·obtain⟨i,hi,rfl⟩:=List.getElem_of_mem (List.mem_toArray.mp hy);obtain⟨a,t',h1,_⟩:=each i hi;rw[h1];exact SeqAt.EqAt.int_int a t' n t
end L2
namespace MI
open L2
def a87(d:D)(ds:List D)(h:Hd):R D:=match a94 d h,ds with
 |some ns,[.int n]=>(match ixI n ns with|some j=>.ok (.int (j:Nat)) h|none=>.no)
 |_,_=>.no
theorem aft:anb K a87 (ai8 K):=by
 intro E ι H h x dx xs ds Q rx r hr o
 unfold a87 at o
 split at o
 ·rename_i ns n e
  cases r with
  |cons r rs =>
   cases r;cases rs
   split at o
   ·rename_i j hj;obtain⟨p,rfl,q⟩:=abn rx hr e;exact⟨p,ns,n,j,rfl,rfl,q,hj,ans o (.int _) hr⟩
   ·exact o.elim
 ·exact o.elim
def ak2:D->Option Key
 |.int i=>some (.inl i)
 |.str x=>some (.inr x)
 |_=>none
def as4:D->Option (List Key)
 |.tup xs=>a0m ak2 xs
 |_=>none
def abo{κ:Type}[DecidableEq κ](kvs:List (κ×D))(k:κ):Option D:=(kvs.find? λkv=>decide (kv.1=k)).map (·.2)
def putD{κ:Type}[DecidableEq κ](kvs:List (κ×D))(k:κ)(d:D):List (κ×D):=if (kvs.any λkv=>decide (kv.1=k))=true then kvs.map λkv=>if kv.1=k then (kv.1,d) else kv else kvs++[(k,d)]
section
variable{K:Fg}{ι:List Addr}{H:Hp}{h:Hd}
theorem aa6{v:V}{d:D}{k:Key}(r:Rep K ι H v d)(e:ak2 d=some k):v=kV k:=by
 cases r with
 |int i=>cases e;rfl
 |str x=>cases e;rfl
 |_=>cases e
theorem aej:∀{vs:List V} {ds:List D} {ks:List Key},Reps K ι H vs ds->a0m ak2 ds=some ks->vs=ks.map kV
 |_,_,_,.nil,e=>by cases e;rfl
 |_,d::ds,_,.cons r rs,e=>by
  unfold a0m at e
  split at e
  ·rename_i y ys h1 h2;cases e
   rw[aa6 r h1,aej rs h2];rfl
  ·cases e
theorem aia{v:V}{d:D}{ks:List Key}(r:Rep K ι H v d)(e:as4 d=some ks):∃b,v=.ref b/\H b=some (.tup (ks.map kV)):=by
 cases r with
 |@tup a vs xs hp rs=>exact⟨a,rfl,by rw[<-aej rs e];exact hp⟩
 |_=>cases e
theorem aa7{κ:Type}[DecidableEq κ](k:κ):∀{us:List (κ×V)} {kvs:List (κ×D)},KRep K ι H us kvs->match abo kvs k with|some d=>∃v,adu us k=some v/\Rep K ι H v d|none=>adu us k=none
 |[],[],_=>rfl
 |[],_::_,r=>by have:=aP List.length r.1;simp at this
 |_::_,[],r=>by have:=aP List.length r.1;simp at this
 |(a,v)::us,(b,d)::kvs,r=>by
  obtain⟨e,rs⟩:=r;simp only[br,eV]at e;obtain⟨e1,e2⟩:=e;subst e1
  cases rs with
  |cons r1 rs =>
   by_cases hk:a=k
   ·simp only[abo,adu,dn,hk,gS,fU];exact⟨v,rfl,r1⟩
   ·have ih:=aa7 k (us:=us) (kvs:=kvs) ⟨e2,rs⟩;simp only[abo,adu,dn,hk,decide_false]at ih ⊢;exact ih
theorem aek{κ:Type}[DecidableEq κ]{us:List (κ×V)}{kvs:List (κ×D)}(k:κ){v:V}{d:D}(r:KRep K ι H us kvs)(rv:Rep K ι H v d):KRep K ι H (putK us k v) (putD kvs k d):=by
 have anyEq:∀{us:List (κ×V)} {kvs:List (κ×D)},us.map (·.1)=kvs.map (·.1)->(us.any λkv=>decide (kv.1=k))=(kvs.any λkv=>decide (kv.1=k)):=λ{us kvs} e=>by
  have h1:(us.any λkv=>decide (kv.1=k))=(us.map (·.1)).any λa=>decide (a=k):=by rw[List.any_map];rfl
  have h2:(kvs.any λkv=>decide (kv.1=k))=(kvs.map (·.1)).any λa=>decide (a=k):=by rw[List.any_map];rfl
  rw[h1,h2,e]
 have rmap:∀{us:List (κ×V)} {kvs:List (κ×D)},KRep K ι H us kvs->KRep K ι H (us.map λkv=>if kv.1=k then (kv.1,v) else kv) (kvs.map λkv=>if kv.1=k then (kv.1,d) else kv):=λ{us}=>by
  induction us with
  |nil=>intro kvs r;cases kvs with
   |nil=>exact⟨rfl,.nil⟩
   |cons _ _=>have:=aP List.length r.1;simp at this
  |cons a us ih=>intro kvs r;cases kvs with
   |nil=>have:=aP List.length r.1;simp at this
   |cons b kvs =>
    obtain⟨e,rs⟩:=r;simp only[br,eV]at e;obtain⟨e1,e2⟩:=e
    cases rs with
    |cons r1 rs =>
     obtain⟨i1,i2⟩:=ih ⟨e2,rs⟩;obtain⟨a1,a2⟩:=a;obtain⟨b1,b2⟩:=b;simp only at e1;subst e1
     by_cases hk:a1=k
     ·simp only[br,hk,de];exact⟨by simp only[br,i1],.cons rv i2⟩
     ·simp only[br,hk,ft];exact⟨by simp only[br,i1],.cons r1 i2⟩
 have ae:=anyEq r.1;unfold putK putD;rw[ae]
 split
 ·exact rmap r
 ·exact⟨by simp[r.1],by simpa using r.2.snoc rv⟩
def az0(x y:D)(h:Hd):Option (Option D):=match x with
 |.ref i=>(match h[i]? with
  |some (.dK kvs)=>(ak2 y).map λk=>abo kvs k
  |some (.dT kvs)=>(as4 y).map λk=>abo kvs k
  |_=>none)
 |.rod ks xs=>(ak2 y).map λk=>abo (ks.zip xs) k
 |.rdT ks xs=>(as4 y).map λk=>abo (ks.zip xs) k
 |_=>none
def az1(K:Fg)(ι:List Addr)(H:Hp)(a:Addr)(y:V):Option D->Prop
 |some d=>∃v,axi H a y (some v)/\Rep K ι H v d
 |none=>axi H a y none
theorem aib{κ:Type}{us:List (κ×V)}{ks:List κ}{xs:List D}(e:us.map (·.1)=ks)(r:Reps K ι H (us.map (·.2)) xs):KRep K ι H us (ks.zip xs):=a5o e r
theorem aqe(rx:Rep K ι H x dx)(ry:Rep K ι H y dy)(hr:HRep K ι H h)(e:az0 dx dy h=some r):∃a,x=.ref a/\az1 K ι H a y r:=by
 have goK:∀{a:Addr} {us:List (Key×V)} {kvs:List (Key×D)},Rd H a (.dK us)->KRep K ι H us kvs->(ak2 dy).map (λk=>abo kvs k)=some r->az1 K ι H a y r:=λ{a us kvs} rd kr e=>by
  simp only[aV]at e;obtain⟨k,ek,rfl⟩:=e;have ey:=aa6 ry ek;have q:=aa7 k kr
  cases hv:abo kvs k with
  |none=>rw[hv]at q;exact .inl ⟨us,k,rd,ey,q.symm⟩
  |some d=>rw[hv]at q;obtain⟨v,q1,q2⟩:=q;exact⟨v,.inl ⟨us,k,rd,ey,q1.symm⟩,q2⟩
 have goT:∀{a:Addr} {us:List (List Key×V)} {kvs:List (List Key×D)},Rd H a (.dT us)->KRep K ι H us kvs->(as4 dy).map (λk=>abo kvs k)=some r->az1 K ι H a y r:=λ{a us kvs} rd kr e=>by
  simp only[aV]at e;obtain⟨k,ek,rfl⟩:=e;obtain⟨b,ey,eb⟩:=aia ry ek;have q:=aa7 k kr
  cases hv:abo kvs k with
  |none=>rw[hv]at q;exact .inr ⟨us,k,b,rd,ey,eb,q.symm⟩
  |some d=>rw[hv]at q;obtain⟨v,q1,q2⟩:=q;exact⟨v,.inr ⟨us,k,b,rd,ey,eb,q1.symm⟩,q2⟩
 cases rx with
 |@ref a i ha =>
  obtain⟨ob,e1,e2⟩:=hr.at ha;simp only[az0,e1]at e
  cases ob with
  |lst _=>cases e
  |dK kvs=>obtain⟨us,h3,h4⟩:=e2;exact⟨a,rfl,goK (.inl h3) h4 e⟩
  |dT kvs=>obtain⟨us,h3,h4⟩:=e2;exact⟨a,rfl,goT (.inl h3) h4 e⟩
  |ins _ _=>cases e
 |@rod a o us ks xs hp ek rs=>exact⟨a,rfl,goK (.inr ⟨o,hp⟩) (aib ek rs) e⟩
 |@rdT a o us ks xs hp ek rs=>exact⟨a,rfl,goT (.inr ⟨o,hp⟩) (aib ek rs) e⟩
 |_=>cases e
def as5(neg:Bool)(y x:D)(h:Hd):R D:=match az0 x y h with
 |some r=>.ok (.bl (if neg then !r.isSome else r.isSome)) h
 |none=>.no
def aic:R2:=λy x H Q=>∃a o,x=.ref a/\axi H a y o/\Q (.bl (!o.isSome)) H
theorem u1{A:Around}(hu:A.units+64<cLine):A.units+1<cLine:=by omega
theorem aid{X:Cx}(hu:X.A.units+64<cLine):OpR X (compareOp .NotIn) aic:=λaA s σ H y x v u Q I ry rx ⟨a,o,ex,g,q⟩=>by
 subst ex;obtain rfl:u=Value.ref a:=rx;exact ap3 (u1 hu) I g ry λs3 I3=>⟨.bl (!o.isSome),H,I3,rfl,q⟩
theorem afu:a3o K (as5 true) aic:=by
 intro E ι H h y x dy dx Q ry rx hr o
 unfold as5 at o
 split at o
 ·rename_i r e;obtain⟨a,rfl,q⟩:=aqe rx ry hr e
  cases r with
  |none=>exact⟨a,none,rfl,q,ans o (.bl _) hr⟩
  |some d=>obtain⟨v,q,_⟩:=q;exact⟨a,some v,rfl,q,ans o (.bl _) hr⟩
 ·exact o.elim
variable{X:Cx}{E:XD}{a b e o i:Expr}{fa fb fc:SE}{pos:Pos}
def as6(o k v:D)(h:Hd):Option Hd:=match o with
 |.ref i=>(match h[i]? with
  |some (.dK kvs)=>(match ak2 k with|some kk=>if kvs.length<LINE then some (h.set i (.dK (putD kvs kk v))) else none|none=>none)
  |some (.dT kvs)=>(match as4 k with|some kk=>if kvs.length<LINE then some (h.set i (.dT (putD kvs kk v))) else none|none=>none)
  |_=>none)
 |_=>none
def aa8(fe fo fi:SE):SS:=λτ h=>(fe τ h).fl λv h1=>(fo τ h1).fl λo h2=>(fi τ h2).fl λk h3=>match as6 o k v h3 with|some h4=>.nx τ h4|none=>.no
theorem KRep.mono{κ:Type}{ι':List Addr}{H':Hp}{us:List (κ×V)}{kvs:List (κ×D)}(g:Gr ι H ι' H')(r:KRep K ι H us kvs):KRep K ι' H' us kvs:=⟨r.1,r.2.mono g⟩
theorem alk{h':Hd}{o k v:V}{od kd vd:D}{Q:Hp->Prop}(r1:Rep K ι H o od)(r2:Rep K ι H k kd)(r3:Rep K ι H v vd)(hr:HRep K ι H h)(e:as6 od kd vd h=some h')(q:∀H',Gr ι H ι H'->HRep K ι H' h'->Q H') :
  ∃a H4,o=.ref a/\ayq H a k v H4/\Q H4:=by
 cases r1 with
 |@ref a i ha =>
  obtain⟨ob,h1,h2⟩:=hr.at ha;simp only[as6,h1]at e
  cases ob with
  |lst _=>cases e
  |dK kvs =>
   obtain⟨us,h3,h4⟩:=h2
   cases hk:ak2 kd with
   |none=>simp only[hk]at e;cases e
   |some kk =>
    simp only[hk]at e
    split at e
    ·rename_i hl;cases e
     have lu:us.length=kvs.length:=by simpa using aP List.length h4.1
     exact⟨a,_,rfl,.inl ⟨us,kk,h3,aa6 r2 hk,by rw[apa,lu];exact hl,rfl⟩,q _ (a2e hr ha _) (hr.put ha ⟨_,ph,(aek kk h4 r3).mono (a2e hr ha _)⟩)⟩
    ·cases e
  |dT kvs =>
   obtain⟨us,h3,h4⟩:=h2
   cases hk:as4 kd with
   |none=>simp only[hk]at e;cases e
   |some kk =>
    simp only[hk]at e
    split at e
    ·rename_i hl;cases e
     have lu:us.length=kvs.length:=by simpa using aP List.length h4.1
     obtain⟨b,eb,tb⟩:=aia r2 hk;exact⟨a,_,rfl,.inr ⟨us,kk,b,h3,eb,tb,by rw[apa,lu];exact hl,rfl⟩,q _ (a2e hr ha _) (hr.put ha ⟨_,ph,(aek kk h4 r3).mono (a2e hr ha _)⟩)⟩
    ·cases e
  |ins _ _=>cases e
 |_=>cases e
theorem aqf(hu:X.A.units+64<cLine)(he:ME X E e fa)(ho:ME X E o fb)(hi:ME X E i fc)(hs:swapsWith e (some (.Subscript o i pos')) pos.line X.env=pure false:=by rfl):MS X E (.Assign [.Subscript o i pos'] e pos) (aa8 fa fb fc):=by
 refine PS.weak (ap4 (u1 hu) ho hi he hs) ?_
 rintro N σ H ⟨ι,τ,h,S,Rh,oo⟩
 refine⟨ι,τ,h,S,Rh,sy oo λd h1 ι1 H1 v g1 r1 hr1 o1=>?_⟩;refine⟨ι1,τ,h1,S.mono g1,hr1,sy o1 λd2 h2 ι2 H2 u g2 r2 hr2 o2=>?_⟩;refine⟨ι2,τ,h2,(S.mono g1).mono g2,hr2,sy o2 λd3 h3 ι3 H3 w g3 r3 hr3 o3=>?_⟩
 cases hp:as6 d2 d3 d h3 with
 |none=>rw[hp]at o3;exact o3.elim
 |some h4 =>
  rw[hp]at o3;exact alk (r2.mono g3) r3 ((r1.mono g2).mono g3) hr3 hp λH' g4 hr4=>o3 ι3 H' σ g4 ((((S.mono g1).mono g2).mono g3).mono g4) hr4
def gD1(x y:D)(h:Hd):R D:=match ak2 x with
 |some k=>.ok (.ref h.length) (h++[.dK [(k,y)]])
 |none=>.no
theorem aie{p:Addr}{o:HO}{ob:O}(hr:HRep K ι H h)(pn:p∉ι)(gw:Gw ι H (ι++[p]) (upd H p o))(q:ORep K (ι++[p]) (upd H p o) p ob):HRep K (ι++[p]) (upd H p o) (h++[ob]):=by
 refine⟨bM.mpr ⟨hr.nd,by simp,λa ha b hb z=>pn (by rw[ar.mp hb]at z;rw[<-z];exact ha)⟩,by simp[hr.len],λj a o' q1 q2=>?_⟩
 by_cases hj:j<ι.length
 ·rw[aM hj]at q1;rw[aM (by rw[<-hr.len];exact hj)]at q2
  exact(hr.obj j a o' q1 q2).monoW gw (jg λz=>pn (by rw[<-z];exact aQ q1))
 ·have hj2:j<(ι++[p]).length:=(ag.mp q1).1;have:j=ι.length:=by simp at hj2;omega
  subst this;rw[aN (aJ _)]at q1;rw[hr.len,aN (aJ _)]at q2;simp at q1 q2;subst q1 q2;exact q
theorem az2(ha:ME X E a fa)(hb:ME X E b fb):ME X E (.Dict [some a] [b] pos) (s2 gD1 fa fb):=by
 refine PE.weak (ap6 (aks ha hb ap5) rfl rfl (by simp) (by simp)) ?_
 rintro σ H Q ⟨ι,τ,h,S,Rh,o⟩ p hp
 have pn:p∉ι:=Rh.notin hp;have g0:Gr ι H ι (upd H p (.dK [])):=a3e hp _;unfold s2 at o;refine⟨ι,τ,h,S.mono g0,Rh.aside hp _,?_⟩
 cases hfa:fa τ h with
 |no=>rw[hfa]at o;exact o.elim
 |ex c hx=>rw[hfa]at o;exact a7h (Rp:=a3j X.K) (r:=.ex c hx) (Q:=Q) o g0
 |ok d h1 =>
  rw[hfa]at o
  intro ι1 H1 v g1 r1 hr1
  refine⟨ι1,τ,h1,(S.mono g0).mono g1,hr1,?_⟩;simp only[R.bind]at o
  cases hfb:fb τ h1 with
  |no=>rw[hfb]at o;exact o.elim
  |ex c hx=>rw[hfb]at o;exact a7h (Rp:=a3j X.K) (r:=.ex c hx) (Q:=Q) o (g0.trans g1)
  |ok d2 h2 =>
   rw[hfb]at o
   intro ι2 H2 u g2 r2 hr2
   have g12:=g1.trans g2;have e2:H2 p=some (.dK []):=g12.oth p _ ph pn;simp only[gD1]at o
   cases hk:ak2 d with
   |none=>rw[hk]at o;exact o.elim
   |some k =>
    rw[hk]at o;refine⟨e2,[(k,u)],?_,by simp,?_⟩
    ·rw[aa6 (r1.mono g2) hk];rfl
    ·obtain⟨m,em,hm⟩:=g12.pre;have nm:∀c∈m,c≠p/\H c=none:=λc hc=>by
      have q:=hm c hc
      by_cases z:c=p
      ·subst z;rw[ph]at q;cases q
      ·rw[jg z]at q;exact⟨z,q⟩
     have pn2:p∉ι2:=λz=>by
      rw[em]at z
      rcases aS.mp z with z|z
      ·exact pn z
      ·exact(nm p z).1 rfl
     have ne:∀{c u'},H c=some u'->c≠p:=λe=>jr e hp;have up:∀{c u'},H c=some u'->(upd H p (.dK [])) c=some u':=λe=>by rw[jg (ne e)];exact e
     have gw:Gw ι2 H2 (ι2++[p]) (upd H2 p (.dK [(k,u)])):=⟨⟨[p],rfl⟩,λc vs e=>by rw[jg (λz=>by subst z;rw[e2]at e;cases e)];exact e,λc o u' e=>by rw[jg (λz=>by subst z;rw[e2]at e;cases e)];exact e⟩
     have G:Gr ι H (ι2++[p]) (upd H2 p (.dK [(k,u)])):=by
      refine⟨⟨m++[p],by rw[em];simp,λc hc=>?_⟩,λc vs e=>?_,λc o u' e=>?_,λc u' e hn=>?_,λc u' e=>?_⟩
      ·rcases aS.mp hc with hc|hc
       ·exact(nm c hc).2
       ·rw[ar.mp hc];exact hp
      ·rw[jg (ne e)];exact g12.tup _ _ (up e)
      ·rw[jg (ne e)];exact g12.frz _ _ _ (up e)
      ·rw[jg (ne e)];exact g12.oth _ _ (up e) hn
      ·obtain⟨w,q⟩:=g12.kp _ _ (up e);exact⟨w,by rw[jg (ne e)];exact q⟩
     refine o (ι2++[p]) _ (.ref p) G (.ref (by rw[aN (by rw[hr2.len];exact aJ _),hr2.len];simp)) (aie hr2 pn2 gw ⟨_,ph,rfl,.cons (r2.monoW gw) .nil⟩)
end
end MI
namespace MI
open L2 ZP
def aqg(x:D)(h:Hd):R Itm:=match srcOf x h with
 |some (xs,c)=>.ok ⟨((List.range xs.length).zip xs).map λp=>.tup [.int (p.1:Nat),p.2],c⟩ h
 |none=>.no
def av0(f:SE):SI:=λτ h=>(f τ h).bind aqg
end MI
namespace MI
open L2
def b1t(lo:Int)(n:Nat):List D:=(List.range n).map λi=>D.int (lo-(i:Nat))
def av1(ds:List D)(h:Hd):R Itm:=match ds with
 |[.int i,.int j,.int k]=>if k = -1/\B62 i/\B62 j then .ok ⟨b1t i (i-j).toNat,λ_=>True⟩ h else .no
 |_=>.no
theorem aif:bootBuiltins "sorted" = some (.builtin "sorted"):=by decide +kernel
theorem di{α β:Type}(a:α)(h:Hd)(k:α->Hd->R β):(R.ok a h).bind k=k a h:=rfl
theorem a2j{α:Type}(a:α)(h:Hd)(k:α->Hd->Fl):(R.ok a h).fl k=k a h:=rfl
def thn(r:Fl)(g:SS):Fl:=match r with|.nx τ h=>g τ h|r=>r
theorem yp(f g:SS)(τ:Sd)(h:Hd):dw f g τ h=thn (f τ h) g:=by unfold dw thn;cases f τ h<;>rfl
theorem zg(τ:Sd)(h:Hd)(g:SS):thn (.nx τ h) g=g τ h:=rfl
theorem abp(d:D)(h:Hd)(g:SS):thn (.rt d h) g=.rt d h:=rfl
def toR(r:Fl):R D:=match r with|.rt d h1=>.ok d h1|.nx _ h1=>.ok .non h1|.ex c h1=>.ex c h1|_=>.no
theorem dm(b:SS)(n:Nat)(ds:List D)(h:Hd):m8 b n ds h=toR (b (a83 n ds) h):=by unfold m8 toR;cases b (a83 n ds) h<;>rfl
theorem abq(d:D)(h:Hd):toR (.rt d h)=.ok d h:=rfl
theorem ael(τ:Sd)(h:Hd):toR (.nx τ h)=.ok .non h:=rfl
theorem xj:∀{xs:List D},clos n xs↔∀x∈xs,clo n x
 |[]=>by simp[clos]
 |x::xs=>by simp[clos,xj (xs:=xs)]
theorem dh(i:Int):clo n (.int i):=by simp[clo]
theorem fu(i:Str):clo n (.str i):=by simp[clo]
theorem zj(i:Bool):clo n (.bl i):=by simp[clo]
theorem a0q:clo n .non:=by simp[clo]
theorem jy:clos n []:=by simp[clos]
theorem bf(a:clo n x)(b:clos n xs):clos n (x::xs):=by simp only[clos];exact⟨a,b⟩
theorem qx(h:clos n xs):clo n (.tup xs):=by simpa[clo] using h
theorem km(h:clos n xs):clo n (.rol xs):=by simpa[clo] using h
theorem gj{α:Type}{n:Nat}{f:α->D}{l:List α}(h:∀a∈l,clo n (f a)):clos n (l.map f):=by
 rw[xj]
 intro x hx
 obtain⟨a,ha,rfl⟩:=bX.mp hx;exact h a ha
mutual
theorem a7b(hm:n<=m):∀{d:D},clo n d->clo m d
 |.non,_=>by simp[clo]
 |.bl _,_=>by simp[clo]
 |.int _,_=>by simp[clo]
 |.str _,_=>by simp[clo]
 |.ty _,_=>by simp[clo]
 |.tup xs,h=>by simp only[clo]at h ⊢;exact a00 hm h
 |.rol xs,h=>by simp only[clo]at h ⊢;exact a00 hm h
 |.scr xs,h=>by simp only[clo]at h ⊢;exact a00 hm h
 |.rod _ xs,h=>by simp only[clo]at h ⊢;exact a00 hm h
 |.rdT _ xs,h=>by simp only[clo]at h ⊢;exact a00 hm h
 |.exc _,_=>by simp[clo]
 |.ins _ _ xs,h=>by simp only[clo]at h ⊢;exact a00 hm h
 |.ref i,h=>by simp only[clo]at h ⊢;omega
theorem a00(hm:n<=m):∀{xs:List D},clos n xs->clos m xs
 |[],_=>by simp[clos]
 |x::xs,h=>by simp only[clos]at h ⊢;exact⟨a7b hm h.1,a00 hm h.2⟩
end
theorem jm(hm:n<=m)(h:vy n o):vy m o:=by
 cases o with
 |lst xs=>exact a00 hm h
 |dK kvs=>exact a00 hm h
 |dT kvs=>exact a00 hm h
 |ins _ _=>exact a00 hm h
theorem ada{α:Type}{f:α->Option α}:∀{xs:List α},(∀x∈xs,f x=some x)->a0m f xs=some xs
 |[],_=>rfl
 |x::xs,h=>by
  unfold a0m;rw[h x bt,ada λy hy=>h y (ba _ hy)]
theorem a1f(c:clo n d):a4h n h (k+1) d=some d:=by unfold a4h;rw[aT c]
theorem alm(c:vy n o):aus n h k o=some o:=by unfold aus;rw[aT c]
theorem a5q{n k i:Nat}{h:Hd}{xs:List D}(hi:n<=i)(e:h[i]? = some (.lst xs))(c:clos n xs):a4h n h (k+2) (.ref i)=some (.rol xs):=by
 unfold a4h;rw[bA (by simp only[clo];omega)]
 simp only[e];rw[ada λx hx=>a1f (xj.mp c x hx)];rfl
theorem aa9(e:a0m (a4h n h k) xs=some ys)(nc:¬ clos n xs):a4h n h (k+1) (.tup xs)=some (.tup ys):=by
 unfold a4h;rw[bA (by simpa only[clo] using nc)]
 simp only[e,fU]
theorem a3s{α β:Type}{f:α->Option β}{x:α}{y:β}{xs:List α}{ys:List β}(h:f x=some y)(t:a0m f xs=some ys):a0m f (x::xs)=some (y::ys):=by unfold a0m;rw[h,t]
theorem a88{n:Nat}{d d':D}{h1:Hd}(e:a4h n h1 FU d=some d')(c:∀o∈h1.take n,vy n o):ad7 n (.ok d h1)=.ok d' (h1.take n):=by
 unfold ad7;simp only[e];rw[ada λo ho=>alm (c o ho)]
theorem o7{h1:Hd}(e:clo n d)(c:∀o∈h1.take n,vy n o):ad7 n (.ok d h1)=.ok d (h1.take n):=a88 (a1f e) c
theorem a2t(hi:n<=i)(e:h1[i]? = some (.lst xs))(cx:clos n xs)(c:∀o∈h1.take n,vy n o):ad7 n (.ok (.ref i) h1)=.ok (.rol xs) (h1.take n):=a88 (a5q hi e cx) c
theorem a4j(e:f τ h=.ok (.ref h.length) (h++[.lst xs]))(cx:clos h.length xs)(c:∀o∈h,vy h.length o):sZ f τ h=.ok (.rol xs) h:=by
 unfold sZ;rw[e,a2t (aJ _) (by simp) cx (by simpa using c)]
 simp
def Pu(F:SF)(n:Nat)(ds:List D)(d:D):Prop:=∀h,ik false n F ds h=.ok d h
def Dr(F:SF)(n:Nat)(ds:List D)(o:O)(d:D)(o':O):Prop:=∀p h,h[p]? = some o->ik false n F (.ref p::ds) h=.ok d (h.set p o')
theorem a5r:∀{ds:List D},(∀d∈ds,clo 0 d)->a2r ds=[]/\a1s 0 ds=ds/\∀k,a1s k ds=ds
 |[],_=>⟨rfl,rfl,λ_=>rfl⟩
 |d::ds,h=>by
  obtain⟨a,b,c⟩:=a5r (ds:=ds) λx hx=>h x (ba _ hx);have hd:=h d bt;have nr:refOf d=none:=by cases d<;>first|rfl|(simp only[clo]at hd;omega)
  refine⟨?_,?_,λk=>?_⟩
  ·simpa[a2r,nr] using a
  ·cases d<;>first|(simp only[clo]at hd;omega)|(simp only[a1s,b])
  ·cases d<;>first|(simp only[clo]at hd;omega)|(simp only[a1s,c])
theorem Pu.of{ds:List D}(hn:ds.length=n)(cd:∀x∈ds,clo 0 x)(e:F ds []=r)(z:ad7 0 r=.ok d [])(c:clo 0 d):Pu F n ds d:=λh=>by
 obtain⟨p1,p2,_⟩:=a5r cd;unfold ik;rw[aT hn];unfold aq4;rw[p1];simp only[a0m,eQ,cP,ft];rw[aT ⟨gs,λx hx=>.inl (cd x hx),λo ho=>by simp at ho⟩,p2,e,z]
 simp[c,xr]
theorem Dr.of{ds:List D}(hn:ds.length+1=n)(cd:∀x∈ds,clo 0 x)(co:vy 0 o)(e:F (.ref 0::ds) [o]=r)(z:ad7 1 r=.ok d [o'])(c:clo 0 d)(co':vy 0 o'):Dr F n ds o d o':=λp h hp=>by
 obtain⟨p1,_,p3⟩:=a5r cd;have e1:a2r (.ref p::ds)=[p]:=by
  have:a2r (.ref p::ds)=p::a2r ds:=rfl
  rw[this,p1]
 have e2:a1s 0 (.ref p::ds)=.ref 0::ds:=by
  have:a1s 0 (.ref p::ds)=.ref 0::a1s 1 ds:=rfl
  rw[this,p3]
 unfold ik;rw[aT (by simpa using hn)]
 unfold aq4;rw[e1];simp only[a0m,hp,aI,cP,ft];have all:∀x∈(D.ref p::ds),clo 0 x\/isRef x:=λx hx=>by
  rcases aR.mp hx with rfl|hx
  ·exact .inr ⟨p,rfl⟩
  ·exact .inl (cd x hx)
 rw[aT ⟨by simp,all,λu hu=>by rw[ar.mp hu];exact co⟩,e2,e,z]
 simp[c,co',xr]
theorem anp{ds:List D}(hn:ds.length=n)(cd:∀x∈ds,clo 0 x)(e:F ds []=.ok (.ref i) h1)(ho:h1[i]? = some o)(co:vy 0 o)(h:Hd):ik true n F ds h=.ok (.ref h.length) (h++[o]):=by
 obtain⟨p1,p2,_⟩:=a5r cd;unfold ik;rw[aT hn];unfold aq4;rw[p1];simp only[a0m,eQ,de];rw[aT ⟨gs,λx hx=>.inl (cd x hx),λo ho=>by simp at ho⟩,p2,e]
 unfold anl;simp only[ho];rw[aT ⟨aW _,co,by simp⟩]
 simp[co,xr]
theorem aln(g:SG)(b:SS)(τ:Sd)(h:Hd):forL (λ_=>True) g b [] τ h=.nx τ h:=by rw[forL,aT True.intro]
def trn(r:Fl)(k:Sd->Hd->Fl):Fl:=match r with|.nx τ h=>k τ h|.ct τ h=>k τ h|.bk τ h=>.nx τ h|r=>r
theorem aig(g:SG)(b:SS)(x:D)(xs:List D)(τ τ1:Sd)(h h1:Hd)(e:g x τ h=.nx τ1 h1):forL (λ_=>True) g b (x::xs) τ h=trn (b τ1 h1) (forL (λ_=>True) g b xs):=by
 rw[forL,aT True.intro,e];dsimp only;unfold trn
 cases b τ1 h1<;>rfl
theorem av2(τ:Sd)(h:Hd)(k:Sd->Hd->Fl):trn (.nx τ h) k=k τ h:=rfl
theorem av3(d:D)(h:Hd)(k:Sd->Hd->Fl):trn (.rt d h) k=.rt d h:=rfl
theorem aaa{g:SG}{b:SS}{α:Type}(f:α->D)(I:List α->Sd->Hd->Prop)(Rt:D->Hd->Prop):∀(xs pre:List α) (τ:Sd) (h:Hd),
  (∀pre' x post τ h,pre++xs=pre'++x::post->I pre' τ h->∃τ1 h1,g (f x) τ h=.nx τ1 h1/\((∃τ2 h2,b τ1 h1=.nx τ2 h2/\I (pre'++[x]) τ2 h2)\/∃d h2,b τ1 h1=.rt d h2/\Rt d h2))->I pre τ h->
  (∃τ' h',forL (λ_=>True) g b (xs.map f) τ h=.nx τ' h'/\I (pre++xs) τ' h')\/∃d h',forL (λ_=>True) g b (xs.map f) τ h=.rt d h'/\Rt d h'
 |[],pre,τ,h,_,i0=>.inl ⟨τ,h,aln ..,by simpa using i0⟩
 |x::xs,pre,τ,h,st,i0=>by
  obtain⟨τ1,h1,e1,q⟩:=st pre x xs τ h rfl i0;rw[br,aig _ _ _ _ _ _ _ _ e1]
  rcases q with⟨τ2,h2,e2,i2⟩|⟨d,h2,e2,r⟩
  ·rw[e2,av2];have:=aaa f I Rt xs (pre++[x]) τ2 h2 (λpre' y post τ h e=>st pre' y post τ h (by simpa using e)) i2
   simpa using this
  ·rw[e2,av3];exact .inr ⟨d,h2,rfl,r⟩
theorem rm{g:SG}{b:SS}{α:Type}(f:α->D)(I:List α->Sd->Hd->Prop)(xs:List α)(τ:Sd)(h:Hd)
  (st:∀pre x post τ h,xs=pre++x::post->I pre τ h->∃τ1 h1,g (f x) τ h=.nx τ1 h1/\∃τ2 h2,b τ1 h1=.nx τ2 h2/\I (pre++[x]) τ2 h2) (i0:I [] τ h) :
  ∃τ' h',forL (λ_=>True) g b (xs.map f) τ h=.nx τ' h'/\I xs τ' h':=by
 rcases aaa f I (λ_ _=>False) xs [] τ h (λpre' x post τ h e i=>let ⟨τ1,h1,a,b⟩:=st pre' x post τ h e i; ⟨τ1,h1,a,.inl b⟩) i0 with⟨τ',h',a,b⟩|⟨_,_,_,z⟩
 ·exact⟨τ',h',a,b⟩
 ·exact z.elim
theorem a7j{f:D->Hd->R D}{α:Type}(g:α->D)(I:List α->List D->Hd->Prop):∀(xs pre:List α) (ys:List D) (h:Hd),
  (∀pre' x post ys h,pre++xs=pre'++x::post->I pre' ys h->∃y h',f (g x) h=.ok y h'/\I (pre'++[x]) (ys++[y]) h')->I pre ys h->∃zs h',mapR (λ_=>True) f (xs.map g) h=.ok zs h'/\I (pre++xs) (ys++zs) h'
 |[],pre,ys,h,_,i0=>⟨[],h,by rw[dQ,mapR,aT True.intro],by simpa using i0⟩
 |x::xs,pre,ys,h,st,i0=>by
  obtain⟨y,h1,e1,i1⟩:=st pre x xs ys h rfl i0;obtain⟨zs,h',e2,i2⟩:=a7j g I xs (pre++[x]) (ys++[y]) h1 (λpre' z post ys h e=>st pre' z post ys h (by simpa using e)) i1
  refine⟨y::zs,h',?_,by simpa using i2⟩
  rw[br,mapR,aT True.intro,e1];show(mapR _ f (xs.map g) h1).bind _=_;rw[e2];rfl
theorem abr{f:D->Hd->R D}{α:Type}(g F:α->D){h:Hd}:∀{xs:List α},(∀x∈xs,f (g x) h=.ok (F x) h)->mapR (λ_=>True) f (xs.map g) h=.ok (xs.map F) h
 |[],_=>by rw[dQ,mapR,aT True.intro];rfl
 |x::xs,st=>by
  rw[br,mapR,aT True.intro,st x bt];show(mapR _ f (xs.map g) h).bind _=_;rw[abr g F λy hy=>st y (ba _ hy)];rfl
theorem aih(I:Nat->Sd->Hd->Prop)(N:Sd->Hd->Prop)(Rt:D->Hd->Prop)
  (st:∀m τ h,I m τ h->(∃h1,c τ h=.ok false h1/\N τ h1)\/∃h1,c τ h=.ok true h1/\((∃τ2 h2 m',f τ h1=.nx τ2 h2/\m'<m/\I m' τ2 h2)\/∃d h2,f τ h1=.rt d h2/\Rt d h2)) :
  ∀(m n:Nat) (τ:Sd) (h:Hd),m<n->I m τ h->(∃τ' h',sWh c f n τ h=.nx τ' h'/\N τ' h')\/∃d h',sWh c f n τ h=.rt d h'/\Rt d h':=by
 intro m
 induction m using Nat.strongRecOn with
 |ind m ih =>
  intro n τ h hn i0
  cases n with
  |zero=>omega
  |succ n =>
   rcases st m τ h i0 with⟨h1,e1,q⟩|⟨h1,e1,q⟩
   ·exact .inl ⟨τ,h1,by rw[sWh,e1];rfl,q⟩
   ·rcases q with⟨τ2,h2,m',e2,lt,i2⟩|⟨d,h2,e2,r⟩
    ·have e3:sWh c f (n+1) τ h=sWh c f n τ2 h2:=by
      rw[sWh,e1,a2j,aT rfl,e2]
     rw[e3];exact ih m' lt n τ2 h2 (by omega) i2
    ·refine .inr ⟨d,h2,?_,r⟩;rw[sWh,e1,a2j,aT rfl,e2]
structure KD (P:Program) (w:World) (K:Fg) (a:Addr) (kvs:List (Str×Str)):Prop where
 sys:(a == sysModules)=false
 ex:∃(o:Obj) (vs:List (Key×Value)),K.lookup a=some o/\KV (kvs.map λp=>((.inr p.1:Key),V.str p.2)) vs/\∀h:Heap,h.get? a=some o->h.DictOf (v4 P w) a vs
section
variable{X:Cx}{E:XD}{e:Expr}{fa:SE}{pos p:Pos}{a:Addr}{kvs:List (Str×Str)}{x:Str}
theorem KD.at(kd:KD X.prog X.w X.K a kvs)(I:Inv X aA σ H s):∃vs,KV (kvs.map λp=>((.inr p.1:Key),V.str p.2)) vs/\s.heap.DictOf (v4 X.prog X.w) a vs:=by
 obtain⟨o,vs,l,r,d⟩:=kd.ex;exact⟨vs,r,d _ (I.bk _ _ (I.mod.kin _ _ l))⟩
end
mutual
def toPy:D->Option PyData
 |.non=>some .none
 |.bl b=>some (.bool b)
 |.int i=>some (.int i)
 |.str x=>some (.str x)
 |.tup xs=>(aqh xs).map .tuple
 |.rol xs=>(aqh xs).map .list
 |.rod [] []=>some (.dict [])
 |_=>none
def aqh:List D->Option (List PyData)
 |[]=>some []
 |x::xs=>match toPy x,aqh xs with|some p,some ps=>some (p::ps)|_,_=>none
end
mutual
def noL:D->Bool
 |.rol _=>false
 |.tup xs=>b09 xs
 |_=>true
def b09:List D->Bool
 |[]=>true
 |x::xs=>noL x && b09 xs
end
open Classical in
theorem v5:CallR X (.builtin "isinstance") (λxs H Q=>∃a o us T b,xs=[.ref a,.ty T]/\H a=some (.frz o (.dK us))/\PySem.W.kitOne X.K (.type "dict") (.type T)=some b/\Q (.bl b) H):=by
 intro aA s σ H xs us Q I r h
 obtain⟨a,o,kv,T,b,rfl,ea,e,q⟩:=h;obtain⟨u,w',rfl,rx,rt⟩:=vals2 r;cases rt
 obtain rfl:u=Value.ref a:=rx
 obtain⟨_,_,_,vs,_,p⟩:=(show ObjOk X.prog X.w H s.heap a (.frz o (.dK kv)) from I.hok a _ ea)
 obtain⟨o',es,ep,h1,h2,_⟩:=p;exact cB gu I.kIn ⟨o',h1,h2.1⟩ e (λz=>nomatch z) λtk=>⟨.bl b,H,I.tok tk,rfl,q⟩
def a0r:List D->Hd->R D
 |[.rod ks xs,.ty T],h=>(match aht "dict" T with|some b=>.ok (.bl b) h|none=>.no)
 |ds,h=>al4 ds h
theorem a2u:ag9 K a0r (λxs H Q=>(∃x T t b,xs=[x,.ty T]/\TyOf K H x t/\PySem.W.kitOne K t (.type T)=some b/\Q (.bl b) H)\/∃a o us T b,xs=[.ref a,.ty T]/\H a=some (.frz o (.dK us))/\PySem.W.kitOne K (.type "dict") (.type T)=some b/\Q (.bl b) H):=by
 intro E ι H h xs ds Q r hr o
 unfold a0r at o
 split at o
 ·split at o
  ·rename_i b hb
   cases r with
   |cons r1 rs =>
    cases rs with
    |cons r2 rs2 =>
     cases rs2
     cases r2
     cases r1 with
     |rod hp ek rr=>exact .inr ⟨_,_,_,_,b,rfl,hp,ahu hb,ans o (.bl _) hr⟩
  ·exact o.elim
 ·exact .inl (apw E ι H h xs _ Q r hr o)
end MI
namespace SRC
open L2 MI
noncomputable def a0s:SE :=
 (s2 my (s2 a3i (sI 2) (sA axm (ak (sV 0) bw))) (sA apu (ak (s2 gLt (sV 0) (sI 0)) bw)))
noncomputable def a1g:SS :=
 (dw (m7 1 (sZ (mq (sIt (sZ (a3l (sV 0) oN (oS (sI 63))))) t1 a0s [])))
 (uo (sA a3f (ak (sV 1) (ak (sI 0) (ak (sI 0) (ak (sI 0) (ak (s2 a78 (sA aum (ak (sV 1) bw)) (sI 2147483647)) bw))))))))
noncomputable def a4c:SS :=
 (dw (a4i a1r (sV 0) (sI 3) (sI 1))
 (dw (sIf (a6j (sT (s2 hEq (s2 gIx (sV 0) (sI 2)) (sI 0))) (sT (s2 gLt (s2 gIx (sV 0) (sI 1)) (sA uf (ak (s2 gIx (sV 0) (sI 0)) bw)))))
 (dw (m7 2 (s2 gIx (s2 gIx (sV 0) (sI 0)) (s2 gIx (sV 0) (sI 1))))
 (dw (a4i a1r (sV 0) (sI 1) (sI 1))
 (sIf (sT (s2 gGe (sV 2) (s2 a90 (sI 10) (sI 18))))
 (a6s (sV 2) (sV 0) (sI 2))
 (a6s (s2 a78 (s2 my (s2 a3i (s2 gIx (sV 0) (sI 4)) (sI 31)) (sV 2)) (sI 2147483647)) (sV 0) (sI 4)))))
 sNx)
 (dw (sIf (sT (s2 gGt (s2 gIx (sV 0) (sI 2)) (sI 0)))
 (dw (m7 3 (s2 a78 (s2 gIx (sV 0) (sI 2)) (sV 1)))
 (dw (a4i aau (sV 0) (sI 2) (sV 1))
 (uo (sV 3))))
 sNx)
 (dw (m7 3 (s2 a78 (s2 a90 (s2 my (s2 my (s2 gIx (sV 0) (sI 4)) (sI 1)) (s2 a3i (s2 gIx (sV 0) (sI 3)) (sI 7919))) (sI 3)) (sI 2147483647)))
 (uo (s2 a78 (s2 aau (s2 a78 (s2 a90 (s2 my (s2 a3i (sV 3) (sI 48271)) (s2 gIx (sV 0) (sI 3))) (sI 2)) (sI 2147483629)) (sI 64)) (sV 1)))))))
noncomputable def a0t:SS :=
 (dw (m7 0 (sC (.str " !\"#$&'()*+,-./0123456789:;<=>?@ABCDEFGHIJKLMNOPQRSTUVWXYZ[\\]^_`")))
 (uo (s2 my (sV 0) (sC (.str "abcdefghijklmnopqrstuvwxyz{|}~\n")))))
noncomputable def a0u(aa:SF)(o9:SF):SS :=
 (dw (m7 4 (sA (ik false 2 aa) (ak (sV 0) (ak (sA uf (ak (sV 1) bw)) bw))))
 (dw (afl 2 a1r (s2 gIx (sV 1) (sV 4)))
 (m7 1 (s2 my (a3l (sV 1) oN (oS (sV 4))) (a3l (sV 1) (oS (s2 my (sV 4) (sI 1))) oN)))))
noncomputable def a1h(aa:SF)(o9:SF):SS :=
 (dw (m7 1 (sA (ik false 0 o9) bw))
 (dw (m7 2 (sC (.str "")))
 (dw (a3k (sRg vq (ak (s2 my (sI 1) (sA (ik false 2 aa) (ak (sV 0) (ak (sI 6) bw)))) bw)) (kN 3) (a0u aa o9))
 (uo (sV 2)))))
noncomputable def uv(aa:SF):SE :=
 (sA (ik false 2 aa) (ak (sV 1) (ak (sV 2) bw)))
noncomputable def a06(aa:SF):SE :=
 (aat (a6j (sT (s2 gLt (s2 gIx (sV 2) (sV 0)) (sI 0))) (sT (s2 gLe (sV 0) (sV 3)))) (s2 ack (sV 1) (sI 1)) (sV 0))
noncomputable def ww(aa:SF):SE :=
 (sV 1)
noncomputable def uw(aa:SF):SS :=
 (dw (m7 7 (sZ (mq (sIt (sV 1)) t1 (uv aa) [0,2])))
 (dw (sIf (sT (s2 gGt (sV 5) (sI 0)))
 (m7 7 (sZ (mq (sIt (sV 7)) t1 (a06 aa) [2,3,4])))
 sNx)
 (dw (sIf (a6j (sT (s2 hEq (sV 5) (sI 1))) (sT (s2 hEq (sV 4) (s2 ack (sV 2) (sI 1)))))
 (m7 7 (sZ (mq (sIt (sV 7)) t1 (ww aa) [4])))
 sNx)
 (ue (sML a5k (sV 6) (ak (sV 7) bw))))))
noncomputable def a0e:SS :=
 (sIf (sOr (a6o (a4f (sA a0r (ak (sV 2) (ak (sC (.ty "int")) bw))))) (a4f (sA a0r (ak (sV 2) (ak (sC (.ty "bool")) bw)))))
 (uo (sC (.bl false)))
 sNx)
noncomputable def a0k:SS :=
 (dw (sIf (sOr (a6o (a4f (sA a0r (ak (sV 0) (ak (sC (.ty "tuple")) bw))))) (sT (s2 hNe (sA uf (ak (sV 0) bw)) (sV 1))))
 (uo (sC (.bl false)))
 sNx)
 (dw (a3k (sIt (sV 0)) (kN 2) a0e)
 (uo (sC (.bl true)))))
end SRC
namespace L2
open PySem.W PyProof.Rows Builtin Builtin.ObjectAttr Builtin.Getset_descriptor
section
variable{prog:Program}{w:World}{A:Around}{E:Value->Shared->Prop}{s:Shared}{K:Frag}{x D:Addr}{ox:Obj}{odo:Option Obj}
structure XKit (K:Frag) (D:Addr):Prop where
 ga:findIn K (.ref D) "__getattribute__" = some (some (.builtin "BaseException.__getattribute__"))
 gn:findIn K (.ref D) "__getattr__" = some none
 cl:(clsIn K D).isSome=true
 ca:findIn K (.ref D) "__class__" = some (some (.builtin "object.__class__"))
 sp:specialIn K (.builtin "object.__class__") "__get__" = some (some (.builtin "getset_descriptor.__get__"))
 tk:takesIn K (.builtin "object.__class__")=some true
 ob:mroIn K D (.type "object")=some true
 be:subIn K (.ref D) (.type "BaseException")=some true
 kc:kitCls K (.ref D) (.ref D)=some true
abbrev ExAt(x D:Addr)(h:Heap):Prop:=∃o,h.get? x=some o/\o.cls=.ref D
theorem ExAt.ty(I:ExAt x D h):Looks M h (typeOf (.ref x)) (.ref D):=by
 obtain⟨o,q,c⟩:=I;exact c ▸ (Looks.ld q).andThen .now
theorem XKit.at(Z:XKit K D):∃c o cd sl,K.lookup D=some ⟨c,o,.cls cd,sl⟩:=by
 have:=Z.cl
 unfold clsIn at this
 split at this
 ·exact⟨_,_,_,_, ‹_›⟩
 ·cases this
theorem XKit.no(Z:XKit K D){its:List Value}(X:K.In h)(q:h.get? tp=some ⟨.type "tuple",dd,.seq its.toArray n,sl⟩):(Value.ref D == .ref tp)=false :=
 cn.mpr λe=>by
  obtain⟨_,_,_,_,lo⟩:=Z.at;rw[Value.ref.inj e]at lo;have:=X _ _ lo;rw[q]at this;cases this
end
end L2
namespace AT
open L2
theorem alo{α:Type}(x0:α)(xs:List α):atI (x0::xs) 0=some x0:=zp (j:=0) rfl
theorem alp{α:Type}(x0 x1:α)(xs:List α):atI (x0::x1::xs) 1=some x1:=zp (j:=1) rfl
theorem alq{α:Type}(x0 x1 x2:α)(xs:List α):atI (x0::x1::x2::xs) 2=some x2:=zp (j:=2) rfl
theorem alr{α:Type}(x0 x1 x2 x3:α)(xs:List α):atI (x0::x1::x2::x3::xs) 3=some x3:=zp (j:=3) rfl
theorem als{α:Type}(x0 x1 x2 x3 x4:α)(xs:List α):atI (x0::x1::x2::x3::x4::xs) 4=some x4:=zp (j:=4) rfl
theorem alu{α:Type}(x0 x1 x2 x3 x4 x5:α)(xs:List α):atI (x0::x1::x2::x3::x4::x5::xs) 5=some x5:=zp (j:=5) rfl
theorem alv{α:Type}(x0 x1 x2 x3 x4 x5 x6:α)(xs:List α):atI (x0::x1::x2::x3::x4::x5::x6::xs) 6=some x6:=zp (j:=6) rfl
theorem alw{α:Type}(x0 x1 x2 x3 x4 x5 x6 x7:α)(xs:List α):atI (x0::x1::x2::x3::x4::x5::x6::x7::xs) 7=some x7:=zp (j:=7) rfl
theorem x10:ixN 1 0=some 0:=rfl
theorem x20:ixN 2 0=some 0:=rfl
theorem x21:ixN 2 1=some 1:=rfl
theorem x30:ixN 3 0=some 0:=rfl
theorem x31:ixN 3 1=some 1:=rfl
theorem x32:ixN 3 2=some 2:=rfl
theorem x40:ixN 4 0=some 0:=rfl
theorem x41:ixN 4 1=some 1:=rfl
theorem x42:ixN 4 2=some 2:=rfl
theorem x43:ixN 4 3=some 3:=rfl
theorem x50:ixN 5 0=some 0:=rfl
theorem x51:ixN 5 1=some 1:=rfl
theorem x52:ixN 5 2=some 2:=rfl
theorem x53:ixN 5 3=some 3:=rfl
theorem x54:ixN 5 4=some 4:=rfl
theorem x60:ixN 6 0=some 0:=rfl
theorem x61:ixN 6 1=some 1:=rfl
theorem x62:ixN 6 2=some 2:=rfl
theorem x63:ixN 6 3=some 3:=rfl
theorem x64:ixN 6 4=some 4:=rfl
theorem x65:ixN 6 5=some 5:=rfl
theorem x70:ixN 7 0=some 0:=rfl
theorem x71:ixN 7 1=some 1:=rfl
theorem x72:ixN 7 2=some 2:=rfl
theorem x73:ixN 7 3=some 3:=rfl
theorem x74:ixN 7 4=some 4:=rfl
theorem x75:ixN 7 5=some 5:=rfl
theorem x76:ixN 7 6=some 6:=rfl
def b0a(x:Int):Int:=if x<0 then -x else x
theorem aii(x:Int)(h:MI.Hd):MI.axm [.int x] h=.ok (.int (b0a x)) h:=rfl
theorem p18(h:MI.Hd):MI.a90 (.int 10) (.int 18) h=.ok (.int 1000000000000000000) h:=by rw[MI.a90,aT (by decide)];rfl
theorem av4{i:Int}(c:0<=j/\j<=1000000/\i.natAbs<2^64):MI.a90 (.int i) (.int j) h=.ok (.int (i^j.toNat)) h:=by rw[MI.a90,aT c]
end AT
namespace MI
open L2 SeqAt
def b0b(neg:Bool)(K:Fg):R2:=λx y H Q=>∃(ι:List Addr) (p q:Addr) (vs us:List V) (xs ys:List D),x=.ref p/\y=.ref q/\Rd H p (.lst vs)/\Rd H q (.lst us)/\Reps K ι H vs xs/\Reps K ι H us ys/\xs.all (pur 59)=true/\ys.all (pur 59)=true/\Q (.bl (if neg then !abi xs ys else abi xs ys)) H
theorem alx(I:Inv X aA σ H s)(hu:X.A.units+64<cLine)(h1:Rd H p (.lst vs))(h2:Rd H q (.lst us))(rs:Reps X.K ι H vs xs)(qs:Reps X.K ι H us ys)(p1:xs.all (pur 59)=true)(p2:ys.all (pur 59)=true) :
  RcAt X.A s (.ref p) (.ref q) (abi xs ys)/\RcNeAt X.A s (.ref p) (.ref q) (!abi xs ys):=by
 obtain⟨its,r1,pl1,z1⟩:=I.list (.inl h1);obtain⟨its2,r2,pl2,z2⟩:=I.list (.inl h2);have l1:its.toArray.size=xs.length:=by rw[aK,<-r1.length,rs.len]
 have l2:its2.toArray.size=ys.length:=by rw[aK,<-r2.length,qs.len]
 by_cases hl:xs.length=ys.length
 ·have step:∀j (h1:j<its.toArray.size) (h2:j<its2.toArray.size),EqAt X.A.in1 s its.toArray[j] its2.toArray[j] (pairE xs ys j):=λj h1 h2=>by
   have j1:j<xs.length:=by omega
   have j2:j<ys.length:=by omega
   obtain⟨v1,e1,q1⟩:=rs.get (af j1);obtain⟨v2,e2,q2⟩:=qs.get (af j2);obtain⟨u1,e3,q3⟩:=r1.get e1;obtain⟨u2,e4,q4⟩:=r2.get e2;have f1:its.toArray[j]=u1:=by simpa using (ag.mp e3).2
   have f2:its2.toArray[j]=u2:=by simpa using (ag.mp e4).2
   have pe:pairE xs ys j=eqD xs[j] ys[j]:=by simp[pairE,af j1,af j2]
   rw[f1,f2,pe];rw[cp]at p1 p2;exact anf I.hok 59 X.A.in1 q1 q2 q3 q4 (p1 _ (bF j1)) (p2 _ (bF j2)) (by rw[gH];omega)
  have c1:=RcAt.lists (A:=X.A) (s:=s) (e:=pairE xs ys) pl1.isList pl2.isList (by omega) (by omega) step
  have c2:=RcNeAt.lists (A:=X.A) (s:=s) (e:=pairE xs ys) pl1.isList pl2.isList (by omega) (by omega) step
  have ea:=a5m xs ys;rw[hl,Nat.min_self,dX,Bool.and_true,<-hl]at ea;rw[l1,ea]at c1 c2;exact⟨c1,c2⟩
 ·have ne:(its.toArray.size != its2.toArray.size)=true:=by rw[l1,l2];simpa using hl
  have ea:=a5m xs ys;rw[cn.mpr hl,gQ]at ea;rw[<-ea];exact⟨RcAt.lists_lengths pl1.isList pl2.isList ne (by omega),RcNeAt.lists_lengths pl1.isList pl2.isList ne (by omega)⟩
theorem av5{X:Cx}(hu:X.A.units+64<cLine):OpR X (compareOp .NotEq) (b0b true X.K):=by
 intro aA s σ H x y v u Q I rx ry h
 obtain⟨ι,p,q,vs,us,xs,ys,rfl,rfl,h1,h2,r1,r2,p1,p2,hq⟩:=h
 cases rx;cases ry
 exact(alx I hu h1 h2 r1 r2 p1 p2).2 X.prog X.w X.xe _ ⟨.bl _,H,I,rfl,hq⟩
def aqi(neg:Bool)(x y:D)(h:Hd):R D:=match yc x h,yc y h with
 |some xs,some ys=>if xs.all (pur 59)=true/\ys.all (pur 59)=true then .ok (.bl (if neg then !abi xs ys else abi xs ys)) h else .no
 |_,_=>.no
theorem aqj(neg:Bool):a3o K (aqi neg) (b0b neg K):=by
 intro E ι H h x y dx dy Q rx ry hr o
 unfold aqi at o
 split at o
 ·rename_i xs ys e1 e2
  split at o
  ·rename_i hc;obtain⟨a,vs,rfl,h1,r1⟩:=a2s rx hr e1;obtain⟨b,us,rfl,h2,r2⟩:=a2s ry hr e2;exact⟨ι,a,b,vs,us,xs,ys,rfl,rfl,h1,h2,r1,r2,hc.1,hc.2,ans o (.bl _) hr⟩
  ·exact o.elim
 ·exact o.elim
end MI
namespace SETH
def it:Nat->Nat->Nat
 |0,x=>x
 |n+1,x=>it n (5*x+1)
open PySem.SetTable
end SETH
namespace RCH
open L2 MI
noncomputable def yq(jb:SF):SE :=
 (sA (ik false 2 jb) (ak (sV 1) (ak (sV 0) bw)))
noncomputable def xu(jb:SF):SS :=
 (uo (sA xq (ak (sZ (mq (sRg vq (ak (sA uf (ak (s2 gIx (sV 0) (sI 1)) bw)) bw)) t1 (yq jb) [0])) bw)))
noncomputable def kh:SS :=
 (dw (sIf (sT (s2 hNe (s2 gIx (sV 4) (sV 11)) (s1 a8l (sI 1))))
 (uo (s2 my (sV 9) (sV 10)))
 sNx)
 (sIf (sT (s2 (as5 true) (sV 11) (sV 6)))
 (dw (aa8 (sC (.bl true)) (sV 6) (sV 11))
 (ue (sML a5k (sV 5) (ak (sA a1c (ak (sV 11) (ak (s2 my (sV 9) (sV 10)) bw))) bw))))
 sNx))
noncomputable def wy:ST :=
 (sT (s2 gLt (sV 7) (sA uf (ak (sV 5) bw))))
noncomputable def qy:SS :=
 (dw (a77 (s2 gIx (sV 5) (sV 7)) (a4g 2 (iy (kN 8) (iy (kN 9) a4x))))
 (dw (a3k (ai1 (sV 2) (s2 gIx (sV 3) (sV 8))) (a4g 2 (iy (kN 10) (iy (kN 11) a4x))) kh)
 (afl 7 a1r (sI 1))))
noncomputable def a01:SS :=
 (dw (a77 (sV 0) (a4g 3 (iy (kN 2) (iy (kN 3) (iy (kN 4) a4x)))))
 (dw (m7 5 (sA a3f (ak (sA a1c (ak (sV 1) (ak (sC (.str "")) bw))) bw)))
 (dw (m7 6 (s2 gD1 (sV 1) (sC (.bl true))))
 (dw (m7 7 (sI 0))
 (dw (sWh wy qy 100000)
 (uo (sC .non)))))))
noncomputable def a4d(iu:SF):SE :=
 (s2 a79 (sV 0) (sC .non))
noncomputable def a6v(iu:SF):SS :=
 (uo (sA xq (ak (sZ (mq (sIt (sA (ik false 1 iu) (ak (sV 0) bw))) t1 (a4d iu) [])) bw)))
noncomputable def yr:SE :=
 (sC (.bl false))
noncomputable def yu:SS :=
 (sIf (sOr (sT (s2 gGe (s2 gIx (s2 gIx (sV 0) (sI 2)) (sV 4)) (sI 0))) (a4f (s2 gIx (sV 1) (sV 4))))
 (a6s (sC (.bl true)) (sV 1) (sV 3))
 sNx)
noncomputable def v8:SS :=
 (a3k (sIt (s2 gIx (s2 gIx (sV 0) (sI 1)) (sV 3))) (kN 4) yu)
noncomputable def v9:SS :=
 (a3k (sRg vq (ak (sA uf (ak (sV 1) bw)) bw)) (kN 3) v8)
noncomputable def a0n:SS :=
 (dw (m7 1 (mq (sIt (s2 gIx (sV 0) (sI 1))) t1 yr []))
 (dw (a3k (sRg vq (ak (sA uf (ak (sV 1) bw)) bw)) (kN 2) v9)
 (uo (sV 1))))
end RCH
namespace MI
open L2
def Bz(j:Int):Prop:=0<=j/\j<2^62
instance (j:Int):Decidable (Bz j):=by unfold Bz;exact inferInstance
end MI
namespace STP
open L2 MI
noncomputable def a0c:SE :=
 (s2 (gIn false) (sV 0) (sV 1))
noncomputable def wz:SS :=
 (uo (a6p (sA a0r (ak (sV 1) (ak (sC (.ty "str")) bw))) (sA anc (ak (sZ (mq (sIt (sV 1)) t1 a0c [0])) bw))))
noncomputable def a02(n6:SF):SS :=
 (uo (s2 gIx (sA (ik false 3 n6) (ak (sV 0) (ak (sV 1) (ak (sV 2) bw)))) (s1 a8l (sI 1))))
noncomputable def uq:SS :=
 (ue (sML a5k (sV 6) (ak (s2 gIx (s2 gIx (sV 4) (s2 gIx (sV 6) (s1 a8l (sI 1)))) (sMS abh (sV 3) (ak (sV 7) bw))) bw)))
noncomputable def vf:SS :=
 (dw (a77 (sV 0) (a4g 3 (iy (kN 3) (iy (kN 4) (iy (kN 5) a4x)))))
 (dw (m7 6 (sA a3f (ak (sV 1) bw)))
 (dw (a3k (sIt (sV 2)) (kN 7) uq)
 (uo (sV 6)))))
end STP
namespace TPM
open PySem.W L2 HT MI
theorem afv(t:Addr)(aC:Array Value)(n:Nat)(dd:Option Addr)(sl:Array (Option Value))(u:Tok) :
  Meets (Builtin.«tuple.__mul__» ⟨[.ref t,.int 1 u],[]⟩) (λ_ R s=>s.heap.get? t=some {cls:=.type "tuple",dict:=dd,data:=.seq aC n,slots:=sl}/\R (.ok (.ret (.ref t))) s) :=
 .of_wp λprog w A R s h=>by
  obtain⟨hp,g,d,tk,os⟩:=s;obtain⟨hl,h⟩:=h
  wp_walk
  exact⟨_,rfl,h⟩
def aqk(K:Fg):R2:=λx y H Q=>∃a xs,x=.ref a/\y=.int 1/\SqT K H a xs/\Q (.ref a) H
theorem aql:OpR X (binaryOp .Mult) (aqk X.K):=by
 intro aA s σ H x y v u Q I rx ry h
 obtain⟨a,xs,rfl,rfl,ha,q⟩:=h;cases rx
 obtain⟨t,rfl⟩:=ry;obtain⟨its,r1,p1,_⟩:=I.tuple ha;obtain⟨⟨cls,dd,data,sl⟩,ho,hc,n,hd⟩:=id p1;simp only at hc hd;subst hc hd;exact dE (T := "tuple") (U := "int") (by decide) ⟨_,ho,rfl⟩ (λs'=>eM s' 1 t) a3h fQ dk abm fF.lookup
  (cO dk (eM s 1 t) fG (fh _ _) (a7a 1 t a its.toArray n dd sl)
   ⟨ho,rfl,⟨_,ho,rfl⟩,cO fH ⟨_,ho,rfl⟩ F.entry_tuple_mul (F.args_tuple_mul_2 _ _) (afv a its.toArray n dd sl t) ⟨ho,.ref a,H,I,rfl,q⟩⟩)
end TPM
namespace MI
open L2 TPM
noncomputable def aly(x y:D)(h:Hd):R D:=match x,y with
 |.tup xs,.int k=>if k=1 then .ok (.tup xs) h else alf (.tup xs) (.int k) h
 |x,y=>alf x y h
theorem a7k:a3o K aly (λx y H Q=>((rI CMul (λi j=>.int (i*j)) x y H Q\/atr x y H Q)\/ale K x y H Q)\/aqk K x y H Q):=by
 intro E ι H h x y dx dy Q rx ry hr o
 cases rx with
 |@tup a vs xs ha rs =>
  cases ry with
  |int k =>
   simp only[aly]at o
   split at o
   ·rename_i hc;subst hc;exact .inr ⟨a,vs,rfl,rfl,SqT.of ha,ans o (.tup ha rs) hr⟩
   ·exact .inl (aa3 _ _ _ _ _ _ _ _ _ (.tup ha rs) (.int k) hr o)
  |_=>exact o.elim
 |int i=>exact .inl (aa3 _ _ _ _ _ _ _ _ _ (.int i) ry hr o)
 |ref e=>exact .inl (aa3 _ _ _ _ _ _ _ _ _ (.ref e) ry hr o)
 |_=>exact o.elim
end MI
namespace MI
open L2
abbrev S(l:List Nat):Str:=⟨l.toArray⟩
theorem a5s(l:List Nat):(S l).cps.toList=l:=by simp
theorem abt(l:List Nat):(S l).length=l.length:=by simp[Str.length]
theorem alz(x:Str):S x.cps.toList=x:=by cases x;simp
theorem aqm(a b:List Nat):S a++S b=S (a++b):=by rw[<-alz (S a++S b),ayu]
theorem az3(h:S a=S b):a=b:=by
 have:=aP (λx:Str=>x.cps.toList) h
 simpa using this
theorem az4(a b:List Nat):(S a == S b)=decide (a=b):=by
 by_cases h:a=b
 ·subst h;simp
 ·have:¬ S a=S b:=λz=>h (az3 z)
  simp[h]
section
variable{h:Hd}{a b l:List Nat}{i:Nat}{c:Nat}
theorem as7(hl:l.length<=LINE)(e:l[i]? = some c):gIx (.str (S l)) (.int (i:Nat)) h=.ok (.str (S [c])) h:=by
 unfold gIx;simp only[abt,aT hl,a5s,zp e]
theorem abu(hl:a.length+b.length<=LINE):my (.str (S a)) (.str (S b)) h=.ok (.str (S (a++b))) h:=by
 unfold my;simp only[abt,aT hl,aqm]
theorem a6w(hl:l.length<=LINE):uf [.str (S l)] h=.ok (.int l.length) h:=by
 unfold uf;simp only[abt,aT hl]
theorem as8(k:Nat)(hl:l.length<=LINE):afp (.str (S l)) none (some (k:Int)) h=.ok (.str (S (l.take k))) h:=by
 show gSl (.str (S l)) none (some (k:Int)) h=_;unfold gSl;simp only[abt,aT hl,a5s,ahf]
theorem aem(k:Nat)(hl:l.length<=LINE):afp (.str (S l)) (some (k:Int)) none h=.ok (.str (S (l.drop k))) h:=by
 show gSl (.str (S l)) (some (k:Int)) none h=_;unfold gSl;simp only[abt,aT hl,a5s,a7z]
end
section
variable{h:Hd}{i j:Int}{xs ys:List D}
theorem a7u:gIx (.tup xs) (.int i) h=(match atI xs i with|some d=>.ok d h|none=>.no):=rfl
theorem a96:gIx (.rol xs) (.int i) h=(match atI xs i with|some d=>.ok d h|none=>.no):=rfl
theorem a97:gIx (.ref k) (.int i) h=(match a2p (.ref k) h with|some xs=>(match atI xs i with|some d=>.ok d h|none=>.no)|none=>.no):=rfl
theorem a6x:uf [.tup xs] h=.ok (.int xs.length) h:=rfl
theorem a3t:uf [.rol xs] h=.ok (.int xs.length) h:=rfl
theorem a89:uf [.ref k] h=(match a2p (.ref k) h with|some xs=>.ok (.int xs.length) h|none=>.no):=rfl
theorem a0d:my (.int i) (.int j) h=.ok (.int (i+j)) h:=rfl
theorem a1t:a1r (.int i) (.int j) h=.ok (.int (i+j)) h:=rfl
open Classical in
theorem a7c:a3i (.int i) (.int j) h=if CMul i j then .ok (.int (i*j)) h else .no:=by unfold a3i;rfl
theorem qj(b:Bool):tru (.bl b) h=.ok b h:=rfl
theorem aab:tru (.int i) h=.ok (i != 0) h:=rfl
theorem aac:tru (.rol xs) h=.ok (!xs.isEmpty) h:=rfl
theorem aad:tru (.tup xs) h=.ok (!xs.isEmpty) h:=rfl
theorem aae:tru .non h=.ok false h:=rfl
theorem afw:hEq (.int i) (.int j) h=.ok (.bl (i == j)) h:=rfl
theorem afx:hNe (.int i) (.int j) h=.ok (.bl (!(i == j))) h:=rfl
theorem av6(a b:Str):hNe (.str a) (.str b) h=.ok (.bl (!(a == b))) h:=rfl
theorem am0(a b:Bool):hEq (.bl a) (.bl b) h=.ok (.bl (a == b)) h:=rfl
theorem am1(a b:Bool):hNe (.bl a) (.bl b) h=.ok (.bl (!(a == b))) h:=rfl
theorem aen(x:D):gIs x .non h=.ok (.bl (a5i x)) h:=by cases x<;>rfl
theorem a3u(x:D):a79 x .non h=.ok (.bl (!a5i x)) h:=by cases x<;>rfl
theorem am2(a b:Bool):gIs (.bl a) (.bl b) h=.ok (.bl (a == b)) h:=rfl
theorem a7l(a b:Bool):a79 (.bl a) (.bl b) h=.ok (.bl (a != b)) h:=rfl
theorem axn:a5i (.int i)=false:=rfl
theorem axo(x:Str):a5i (.str x)=false:=rfl
theorem axp:a5i .non=true:=rfl
theorem axq:a5i (.tup xs)=false:=rfl
end
theorem az5(n:Nat):rng 0 n=(List.range n).map λi:Nat=>D.int (i:Nat):=by
 unfold rng;exact eJ λi _=>by rw[Int.zero_add]
theorem az6(a:Int)(n:Nat):rng a n=(List.range n).map λi:Nat=>D.int (a+(i:Nat)):=rfl
theorem adb(h:n<=LINE):B62 (n:Int):=by
 have:n<=16777216:=h
 unfold B62;omega
theorem a98(h:Hd)(z:n<=LINE):vq [.int (n:Nat)] h=.ok ⟨(List.range n).map λi:Nat=>D.int (i:Nat),λ_=>True⟩ h:=by
 unfold vq;simp only[adb z,de,dJ,az5]
theorem av7(h:Hd)(za:a<=LINE)(z:n<=LINE):a8p [.int (a:Nat),.int (n:Nat)] h=.ok ⟨(List.range (n-a)).map λi:Nat=>D.int ((a+i:Nat)),λ_=>True⟩ h:=by
 unfold a8p;simp only[adb z,adb za,and_self,de,az6];rw[show((n:Int)-(a:Int)).toNat=n-a by omega]
 congr 2
theorem az7(e:f τ h=.ok d h):ak f bw τ h=.ok [d] h:=by unfold ak bw;rw[e];rfl
theorem afy(e:f τ h=.ok c h)(e':g τ h=.ok d h):ak f (ak g bw) τ h=.ok [c,d] h:=by unfold ak;rw[e,di,e',di];rfl
theorem a8a(e:f τ h=.ok (.int (n:Nat)) h)(z:n<=LINE):sRg vq (ak f bw) τ h=.ok ⟨(List.range n).map λi:Nat=>D.int (i:Nat),λ_=>True⟩ h:=by
 unfold sRg;rw[az7 e,di];exact a98 h z
theorem aij(e':g τ h=.ok (.int (a:Nat)) h)(e:f τ h=.ok (.int (n:Nat)) h)(za:a<=LINE)(z:n<=LINE):sRg a8p (ak g (ak f bw)) τ h=.ok ⟨(List.range (n-a)).map λi:Nat=>D.int ((a+i:Nat)),λ_=>True⟩ h:=by
 unfold sRg;rw[afy e' e,di];exact av7 h za z
theorem bj(e:τ[i]? = some (some d)):sV i τ h=.ok d h:=by unfold sV;rw[e]
theorem xf{fi:SI}{t:D->Option Sd}{fe:SE}{ix:List Nat}{τ:Sd}{h:Hd}{α:Type}(g F:α->D)(xs:List α)(e:fi τ h=.ok ⟨xs.map g,λ_=>True⟩ h)(z:xs.length<=LINE)
  (st:∀x∈xs,a82 t fe (frs' ix τ) (g x) h=.ok (F x) h):mq fi t fe ix τ h=.ok (.ref h.length) (h++[.lst (xs.map F)]):=by
 unfold mq;rw[e,di];dsimp only;rw[aT (by rw[ay];exact z),abr g F st]
 rfl
theorem vz(fe:SE)(r:Sd)(x:D)(h:Hd):a82 t1 fe r x h=fe (some x::r) h:=rfl
theorem am3(i:Nat)(ix:List Nat)(τ:Sd):frs' (i::ix) τ=(τ[i]?).join::frs' ix τ:=rfl
theorem aqn(τ:Sd):frs' [] τ=[]:=rfl
section
variable{f k f1 f2 f3:SE}{c c1 c2:ST}{g p q:SS}{τ τ1:Sd}{h h1 h2 h3 h4:Hd}{a b d v:D}{i:Nat}{t u:Bool}
theorem b0c(d:D)(τ:Sd)(h:Hd):sC d τ h=.ok d h:=rfl
theorem b1v(e3:G [] h=.ok v h1):sA G bw τ h=.ok v h1:=e3
theorem ye(e1:f τ h=.ok a h1)(e3:G [a] h1=.ok v h2):sA G (ak f bw) τ h=.ok v h2:=by
 have:ak f bw τ h=.ok [a] h1:=by unfold ak;rw[e1];rfl
 unfold sA;rw[this,di,e3]
theorem wg(e1:f τ h=.ok a h1)(e2:k τ h1=.ok b h2)(e3:G [a,b] h2=.ok v h3):sA G (ak f (ak k bw)) τ h=.ok v h3:=by
 have:ak f (ak k bw) τ h=.ok [a,b] h2:=by unfold ak;rw[e1,di,e2];rfl
 unfold sA;rw[this,di,e3]
theorem aga(e0:f1 τ h=.ok d h1)(e1:f τ h1=.ok a h2)(e2:k τ h2=.ok b h3)(e3:G [d,a,b] h3=.ok v h4):sA G (ak f1 (ak f (ak k bw))) τ h=.ok v h4:=by
 have:ak f1 (ak f (ak k bw)) τ h=.ok [d,a,b] h3:=by unfold ak;rw[e0,di,e1,di,e2];rfl
 unfold sA;rw[this,di,e3]
theorem o6(e:f τ h=.ok d h1):dw (m7 i f) g τ h=g (τ.set i (some d)) h1:=by
 rw[yp];unfold m7;rw[e];rfl
theorem aeo(e:f τ h=.ok d h1):m7 i f τ h=.nx (τ.set i (some d)) h1:=by
 unfold m7;rw[e];rfl
theorem jj(e:p τ h=.nx τ1 h1):dw p g τ h=g τ1 h1:=by rw[yp,e];rfl
theorem aaf(e:p τ h=.rt d h1):dw p g τ h=.rt d h1:=by rw[yp,e];rfl
theorem ifT(e:c τ h=.ok true h1):sIf c p q τ h=p τ h1:=by unfold sIf;rw[e];rfl
theorem ifF(e:c τ h=.ok false h1):sIf c p q τ h=q τ h1:=by unfold sIf;rw[e];rfl
theorem ifN(e:c τ h=.ok false h1):dw (sIf c p sNx) g τ h=g τ h1:=by rw[yp,ifF e];rfl
theorem tof(e:f τ h=.ok (.bl t) h1):sT f τ h=.ok t h1:=by unfold sT;rw[e];rfl
theorem a03(e:f τ h=.ok d h1)(e':tru d h1=.ok t h2):a4f f τ h=.ok t h2:=by unfold a4f;rw[e,di,e']
theorem abv(e:c1 τ h=.ok true h1)(e':c2 τ h1=.ok t h2):a6j c1 c2 τ h=.ok t h2:=by unfold a6j;rw[e,di,aT rfl,e']
theorem aik(e:c1 τ h=.ok false h1):a6j c1 c2 τ h=.ok false h1:=by unfold a6j;rw[e,di,bA (by simp)]
theorem orT(e:c1 τ h=.ok true h1):sOr c1 c2 τ h=.ok true h1:=by unfold sOr;rw[e,di,aT rfl]
theorem orF(e:c1 τ h=.ok false h1)(e':c2 τ h1=.ok t h2):sOr c1 c2 τ h=.ok t h2:=by unfold sOr;rw[e,di,bA (by simp),e']
theorem av8(e:c τ h=.ok t h1):a6o c τ h=.ok (!t) h1:=by unfold a6o;rw[e];rfl
theorem aep(e:c τ h=.ok true h1):a6o c τ h=.ok false h1:=av8 e
theorem az8(e:c τ h=.ok false h1):a6o c τ h=.ok true h1:=av8 e
theorem u9(e:f τ h=.ok d h1):uo f τ h=.rt d h1:=by unfold uo;rw[e];rfl
theorem av9(e:f τ h=.ok (.bl true) h1)(e':k τ h1=.ok d h2):a6p f k τ h=.ok d h2:=by unfold a6p;rw[e,di];exact e'
theorem a0g(e1:f τ h=.ok d h1)(l:isL d h1=true)(e2:A τ h1=.ok ds h2)(e3:G d ds h2=.ok v h3):ue (sML G f A) τ h=.nx τ h3:=by
 unfold ue sML;rw[e1,di,aT l,e2,di,e3];rfl
theorem az9(e1:f τ h=.ok d h1)(l:isL d h1=true)(e2:A τ h1=.ok ds h2)(e3:G d ds h2=.ok v h3):sML G f A τ h=.ok v h3:=by
 unfold sML;rw[e1,di,aT l,e2,di,e3]
theorem arg1(e:f τ h=.ok d h1):ak f bw τ h=.ok [d] h1:=by unfold ak bw;rw[e];rfl
theorem qm(e1:f τ h=.ok a h1)(e2:k τ h1=.ok b h2)(e3:G a b h2=.ok v h3):s2 G f k τ h=.ok v h3:=by
 unfold s2;rw[e1,di,e2,di,e3]
theorem a1u(e:τ[i]? = some (some a))(e3:G a d h=.ok v h3):s2 G (sV i) (sC d) τ h=.ok v h3:=qm (bj e) (b0c _ _ _) e3
theorem ckk:sC d τ h=.ok d h:=rfl
theorem tvc(e:τ[i]? = some (some a))(e3:G a d h=.ok (.bl t) h3):sT (s2 G (sV i) (sC d)) τ h=.ok t h3:=tof (qm (bj e) (b0c _ _ _) e3)
theorem t2s(e1:f τ h=.ok a h1)(e2:k τ h1=.ok b h2)(e3:G a b h2=.ok (.bl t) h3):sT (s2 G f k) τ h=.ok t h3:=tof (qm e1 e2 e3)
theorem ifr(e:c τ h=.ok true h1)(e2:f τ h1=.ok d h2):sIf c (uo f) q τ h=.rt d h2:=aw (ifT e) (u9 e2)
theorem ets{rr:R D}(e:f τ h=.ok d h1)(e2:toR (g (τ.set i (some d)) h1)=rr):toR (dw (m7 i f) g τ h)=rr:=by rw[o6 e,e2]
theorem eti{rr:R D}(e:c τ h=.ok false h1)(e2:toR (g τ h1)=rr):toR (dw (sIf c p sNx) g τ h)=rr:=by rw[ifN e,e2]
theorem etr{fa fb:Fl}{rr:R D}(e:fa=fb)(e2:toR fb=rr):toR fa=rr:=by rw[e,e2]
theorem yw(e1:f τ h=.ok a h1)(e3:G a h1=.ok v h2):s1 G f τ h=.ok v h2:=by
 unfold s1;rw[e1,di,e3]
theorem am4(ht:τ[i]? = some (some a))(e:f τ h=.ok b h1)(e2:G a b h1=.ok d h2):afl i G f τ h=.nx (τ.set i (some d)) h2:=by
 unfold afl;rw[ht];dsimp only;rw[e,a2j,e2];rfl
theorem a6y(e:f τ h=.ok d h1)(e2:G d τ h1=.nx τ1 h2):a77 f G τ h=.nx τ1 h2:=by
 unfold a77;rw[e,a2j,e2]
theorem a8q(e1:f1 τ h=.ok v h1)(e2:f2 τ h1=.ok a h2)(e3:f3 τ h2=.ok b h3)(e4:put a b v h3=some h4):a6s f1 f2 f3 τ h=.nx τ h4:=by
 unfold a6s;rw[e1,a2j,e2,a2j,e3,a2j,e4]
theorem ava(e1:f1 τ h=.ok v h1)(e2:f2 τ h1=.ok a h2)(e3:f3 τ h2=.ok b h3)(e4:as6 a b v h3=some h4):aa8 f1 f2 f3 τ h=.nx τ h4:=by
 unfold aa8;rw[e1,a2j,e2,a2j,e3,a2j,e4]
theorem a4k{fi:SI}{G:SG}{b:SS}{xs:List D}{ck:Hd->Prop}(e:fi τ h=.ok ⟨xs,ck⟩ h1):dw (a3k fi G b) g τ h=thn (forL ck G b xs τ h1) g:=by
 rw[yp];unfold a3k;rw[e];rfl
theorem a99(e:f τ h=.ok d h1)(e2:ahj d h1=.ok ⟨xs,ck⟩ h1):sIt f τ h=.ok ⟨xs,ck⟩ h1:=by
 unfold sIt;rw[e,di,e2]
theorem a1i(e:h[i]? = some (.lst xs))(z:xs.length<LINE):a5k (.ref i) [a] h=.ok .non (h.set i (.lst (xs++[a]))):=by
 unfold a5k;simp only[e,aT z]
theorem ail(e:h[i]? = some (.lst xs)):isL (.ref i) h=true:=by unfold isL;simp only[e]
theorem abw(e:h[i]? = some (.lst xs))(hj:j<xs.length):put (.ref i) (.int (j:Nat)) v h=some (h.set i (.lst (xs.set j v))):=by
 have:ixN xs.length (j:Int)=some j:=by unfold ixN;rw[aT (by omega),aT (by omega)];simp
 unfold put;simp only[e,this]
theorem v7(e:h[i]? = some (.lst xs))(hj:xs[j]? = some y):gIx (.ref i) (.int (j:Nat)) h=.ok y h:=by
 rw[a97];unfold a2p;simp only[e,zp hj]
theorem as9(hj:xs[j]? = some y):gIx (.rol xs) (.int (j:Nat)) h=.ok y h:=by
 rw[a96];simp only[zp hj]
theorem a8r(hj:xs[j]? = some y):gIx (.tup xs) (.int (j:Nat)) h=.ok y h:=by
 rw[a7u];simp only[zp hj]
theorem a0v(e:h[i]? = some (.lst xs)):uf [.ref i] h=.ok (.int (xs.length:Nat)) h:=by
 rw[a89];unfold a2p;simp only[e]
theorem div_ii(c:0<y/\y<1073741824):aau (.int x) (.int y) h=.ok (.int (x / y)) h:=by unfold aau;exact aT c
theorem a9a(c:0<y):a78 (.int x) (.int y) h=.ok (.int (x%y)) h:=by unfold a78;exact aT c
theorem aza(c:y<x):gGt (.int x) (.int y) h=.ok (.bl true) h:=by unfold gGt;simp only[c,gS]
theorem azb(c:¬ y<x):gGt (.int x) (.int y) h=.ok (.bl false) h:=by unfold gGt;simp only[c,decide_false]
theorem agb(c:x<y):gLt (.int x) (.int y) h=.ok (.bl true) h:=by unfold gLt;simp only[c,gS]
theorem am5(c:¬ x<y):gLt (.int x) (.int y) h=.ok (.bl false) h:=by unfold gLt;simp only[c,decide_false]
theorem a5t(c:x=y):hEq (.int x) (.int y) h=.ok (.bl true) h:=by rw[afw,c,dX]
theorem a6z(c:¬ x=y):hEq (.int x) (.int y) h=.ok (.bl false) h:=by rw[afw,cn.mpr c]
theorem aim(c:x=y):hNe (.int x) (.int y) h=.ok (.bl false) h:=by rw[afx,c,dX];rfl
theorem avb(c:¬ x=y):hNe (.int x) (.int y) h=.ok (.bl true) h:=by rw[afx,cn.mpr c];rfl
theorem a8b(x:Int):a8l (.int x) h=.ok (.int (-x)) h:=rfl
theorem aeq(x y:Int):MI.ack (.int x) (.int y) h=.ok (.int (x-y)) h:=rfl
theorem g8(h:n<=1000000):n<=LINE:=by show n<=16777216;omega
theorem a0w(h:n<=1000000):n<LINE:=by show n<16777216;omega
theorem aqo:MI.a1c [a,b] h=.ok (.tup [a,b]) h:=by unfold MI.a1c;rw[aT (g8 (by simp))]
theorem asa:MI.a1c [a,b,v] h=.ok (.tup [a,b,v]) h:=by unfold MI.a1c;rw[aT (g8 (by simp))]
end
end MI
namespace L2
open PyProof.Rows
theorem aer(x:Array Nat):∀(n:Nat) (a:Array Nat),(List.replicate n x).foldl (·++·) a=(a.toList++(List.replicate n x.toList).flatten).toArray
 |0,a=>by simp
 |n+1,a=>by rw[cD,List.foldl_cons,aer x n];simp[cD]
theorem am6{α:Type}(n:Nat)(l:List α):(List.replicate n l).flatten.length=n*l.length:=by simp
def avc:R2:=λx y H Q=>∃z k,x=.str z/\y=.int k /\ -1000000<=k/\k<=1000000/\z.length*k.toNat<=sizeLine/\Q (.str ⟨((List.replicate k.toNat z.cps.toList).flatten).toArray⟩) H
theorem aqp{X:Cx}:OpR X (binaryOp .Mult) avc:=by
 intro aA s σ H x y v u Q I rx ry ⟨z,k,ex,ey,k1,k2,hz,q⟩
 subst ex ey;obtain⟨t,rfl⟩:=rx;obtain⟨t',rfl⟩:=ry;refine P.mul_str (by rw[bL (by omega),bL (by omega)];rfl) (λh1 h2=>?_) (λ_ _=>?_) ?_
 ·have hs:=e7;have hx:z.length<=sizeLine:=by
   have:1<=k.toNat:=by omega
   exact cA (Nat.le_mul_of_pos_right _ this) hz
  have:(1000000000:Int)<=(2^63-1) / k:=by
   rw[Int.le_ediv_iff_mul_le (by omega)]
   omega
  omega
 ·exact bL (Nat.not_lt.mpr hz)
 ·split
  ·rename_i h1;have:k.toNat=0:=by omega
   refine⟨by decide,.str _,H,I.tok _,⟨_,rfl⟩,?_⟩
   rw[this]at q;exact q
  ·split
   ·rename_i h1 h2;rw[eS]at h2;refine⟨.str z,H,I,⟨_,rfl⟩,?_⟩;have e:(⟨((List.replicate k.toNat z.cps.toList).flatten).toArray⟩:Str)=z:=by
     rcases h2 with h2|h2
     ·have:k=1:=by simpa using h2
      subst this;simp
     ·have h0:z.length=0:=by simpa using h2
      have:z.cps.toList=[]:=gE.mp (by rw[dR];exact h0)
      rw[this];obtain⟨c⟩:=z;have:c = #[]:=by simpa using this
      subst this;simp
    rw[e]at q;exact q
   ·have e:(⟨(List.replicate k.toNat z.cps).foldl (·++·) #[]⟩:Str)=⟨((List.replicate k.toNat z.cps.toList).flatten).toArray⟩:=by rw[aer];simp
    rw[e];refine⟨?_,.str _,H,I.tok _,⟨_,rfl⟩,q⟩;show((List.replicate k.toNat z.cps.toList).flatten).toArray.size<=_;have hl:((List.replicate k.toNat z.cps.toList).flatten).toArray.size=z.length*k.toNat:=by
     rw[aK,am6];exact fX _ _
    omega
def azc(i j:Int):Prop:=i.natAbs<2^1000/\j.natAbs<2^1000
theorem aqq{X:Cx}:OpR X (binaryOp .Mult) (rI azc λi j=>.int (i*j)):=opI λ_ _ _ _ _ _ _ hc q=>P.mul_int q (IntMulOk.of_le (intBits_le_iff.mpr hc.1) (intBits_le_iff.mpr hc.2) (by omega))
end L2
namespace MI
open L2 TPM
open Classical in
noncomputable def abx(x y:D)(h:Hd):R D:=match x,y with
 |.str z,.int k=>if (-1000000<=k/\k<=1000000)/\z.length*k.toNat<=LINE then .ok (.str ⟨((List.replicate k.toNat z.cps.toList).flatten).toArray⟩) h else .no
 |.int i,.int j=>if azc i j then .ok (.int (i*j)) h else aly (.int i) (.int j) h
 |x,y=>aly x y h
theorem am7{K:Fg}:a3o K abx (λx y H Q=>((((rI CMul (λi j=>.int (i*j)) x y H Q\/atr x y H Q)\/ale K x y H Q)\/aqk K x y H Q)\/rI azc (λi j=>.int (i*j)) x y H Q)\/avc x y H Q):=by
 intro E ι H h x y dx dy Q rx ry hr o
 cases rx with
 |str z =>
  cases ry with
  |int k =>
   simp only[abx]at o
   split at o
   ·rename_i hc;exact .inr ⟨z,k,rfl,rfl,hc.1.1,hc.1.2,ll hc.2,ans o (.str _) hr⟩
   ·exact o.elim
  |_=>exact o.elim
 |int i =>
  cases ry with
  |int j =>
   simp only[abx]at o
   split at o
   ·rename_i hc;exact .inl (.inr ⟨i,j,rfl,rfl,hc,ans o (.int _) hr⟩)
   ·exact .inl (.inl (a7k _ _ _ _ _ _ _ _ _ (.int i) (.int j) hr o))
  |_=>exact o.elim
 |@tup a vs xs ha rs=>exact .inl (.inl (a7k _ _ _ _ _ _ _ _ _ (.tup ha rs) ry hr o))
 |ref e=>exact .inl (.inl (a7k _ _ _ _ _ _ _ _ _ (.ref e) ry hr o))
 |_=>first|exact o.elim|exact .inl (.inl (a7k _ _ _ _ _ _ _ _ _ (by assumption) ry hr o))
theorem aqr{X:Cx}{E:XD}{a b:Expr}{fa fb:SE}{pos:Pos}(ha:ME X E a fa)(hb:ME X E b fb):ME X E (.BinOp a .Mult b pos) (s2 abx fa fb):=ad0 (((((amv.or atu).or aq7).or aql).or aqq).or aqp) am7 ha hb
open Classical in
theorem avd{l:List Nat}{k:Nat}{h:Hd}(hk:k<=1000)(hl:l.length<=1000):abx (.str (S l)) (.int (k:Nat)) h=.ok (.str (S (List.replicate k l).flatten)) h:=by
 have:abx (.str (S l)) (.int (k:Nat)) h=if (-1000000<=(k:Int)/\(k:Int)<=1000000)/\(S l).length*(k:Int).toNat<=LINE then .ok (.str ⟨((List.replicate (k:Int).toNat (S l).cps.toList).flatten).toArray⟩) h else .no:=rfl
 have hz:(S l).length*(k:Int).toNat<=LINE:=by
  rw[abt,dJ];exact g8 (cA (Nat.mul_le_mul hl hk) (by omega))
 rw[this,aT ⟨by omega,hz⟩,dJ]
end MI
namespace CAS
open L2 MI
noncomputable def a07(aa:SF):SS :=
 (ue (sML a5k (sV 3) (ak (aat (sT (s2 hEq (sA (ik false 2 aa) (ak (sV 0) (ak (sI 3) bw))) (sI 0))) (sA (ik false 2 aa) (ak (sV 0) (ak (sI 6) bw))) (s1 a8l (sI 1))) bw)))
noncomputable def uv(aa:SF):SE :=
 (sA (ik false 2 aa) (ak (sV 1) (ak (sV 2) bw)))
noncomputable def a06(aa:SF):SE :=
 (aat (a6j (sT (s2 gLt (s2 gIx (sV 2) (sV 0)) (sI 0))) (sT (s2 gLe (sV 0) (sV 3)))) (s2 ack (sV 1) (sI 1)) (sV 0))
noncomputable def ww(aa:SF):SE :=
 (sV 1)
noncomputable def uw(aa:SF):SS :=
 (dw (m7 7 (sZ (mq (sIt (sV 1)) t1 (uv aa) [0,2])))
 (dw (sIf (sT (s2 gGt (sV 5) (sI 0)))
 (m7 7 (sZ (mq (sIt (sV 7)) t1 (a06 aa) [2,3,4])))
 sNx)
 (dw (sIf (a6j (sT (s2 hEq (sV 5) (sI 1))) (sT (s2 hEq (sV 4) (s2 ack (sV 2) (sI 1)))))
 (m7 7 (sZ (mq (sIt (sV 7)) t1 (ww aa) [4])))
 sNx)
 (ue (sML a5k (sV 6) (ak (sV 7) bw))))))
noncomputable def a8c(aa:SF):SS :=
 (dw (m7 3 (sA a3f (ak (s1 a8l (sI 1)) bw)))
 (dw (a3k (sRg a8p (ak (sI 1) (ak (sV 2) bw))) (kN 4) (a07 aa))
 (dw (m7 5 (sA (ik false 2 aa) (ak (sV 0) (ak (sI 3) bw))))
 (dw (m7 6 (sA a3f bw))
 (dw (a3k (sRg vq (ak (sV 2) bw)) (kN 4) (uw aa))
 (uo (sA a1c (ak (sV 6) (ak (sV 3) bw)))))))))
noncomputable def a1v(aa:SF):SE :=
 (s1 a8l (sI 1))
noncomputable def a8s(aa:SF):SE :=
 (s2 gIx (sV 2) (sA (ik false 2 aa) (ak (sV 1) (ak (sA uf (ak (sV 2) bw)) bw))))
noncomputable def a1w(aa:SF):SE :=
 (s1 a8l (sI 1))
noncomputable def ux(aa:SF):SS :=
 (dw (m7 9 (sMS ad3 (sV 1) (ak (sV 8) bw)))
 (dw (sIf (sT (s2 gLt (s2 gIx (s2 gIx (sV 3) (sV 7)) (sV 9)) (sI 0)))
 (dw (a6s (sA uf (ak (sV 3) bw)) (s2 gIx (sV 3) (sV 7)) (sV 9))
 (dw (ue (sML a5k (sV 3) (ak (mq (sIt (sV 1)) t1 (a1w aa) []) bw)))
 (ue (sML a5k (sV 4) (ak (s1 a8l (sI 1)) bw)))))
 sNx)
 (m7 7 (s2 gIx (s2 gIx (sV 3) (sV 7)) (sV 9)))))
noncomputable def a08(aa:SF):SS :=
 (dw (m7 6 (sMS a9t (sC (.str "")) (ak (sZ (mq (sRg vq (ak (s2 my (sI 1) (sA (ik false 2 aa) (ak (sV 0) (ak (sI 4) bw)))) bw)) t1 (a8s aa) [0,1])) bw)))
 (dw (sIf (a6j (sT (s2 (aqi true) (sV 2) (sZ (sA a3f bw)))) (sT (s2 hEq (sA (ik false 2 aa) (ak (sV 0) (ak (sI 2) bw))) (sI 0))))
 (m7 6 (a3l (s2 my (s2 gIx (sV 2) (sA (ik false 2 aa) (ak (sV 0) (ak (sA uf (ak (sV 2) bw)) bw)))) (sV 6)) oN (oS (sI 6))))
 sNx)
 (dw (ue (sML a5k (sV 2) (ak (sV 6) bw)))
 (dw (m7 7 (sI 0))
 (dw (a3k (sIt (sV 6)) (kN 8) (ux aa))
 (a6s (sA (ik false 2 aa) (ak (sV 0) (ak (sI 6) bw))) (sV 4) (sV 7)))))))
noncomputable def a09(aa:SF):SS :=
 (dw (m7 7 (sA (ik false 2 aa) (ak (sV 0) (ak (sA uf (ak (sV 3) bw)) bw))))
 (dw (m7 9 (sA (ik false 2 aa) (ak (sV 0) (ak (sA uf (ak (sV 1) bw)) bw))))
 (sIf (sT (s2 gLt (s2 gIx (s2 gIx (sV 3) (sV 7)) (sV 9)) (sI 0)))
 (a6s (s2 my (sI 1) (sA (ik false 2 aa) (ak (sV 0) (ak (s2 ack (sA uf (ak (sV 3) bw)) (sI 1)) bw)))) (s2 gIx (sV 3) (sV 7)) (sV 9))
 sNx)))
noncomputable def a4o(aa:SF):SE :=
 (aat (sT (s2 gGe (sV 0) (sI 0))) (sV 0) (sA uf (ak (sV 1) bw)))
noncomputable def a1x(aa:SF):SE :=
 (sZ (mq (sIt (sV 0)) t1 (a4o aa) [1]))
noncomputable def a4p(aa:SF):SE :=
 (sA uf (ak (sV 1) bw))
noncomputable def a2v(aa:SF):SS :=
 (dw (m7 2 (sA a3f bw))
 (dw (m7 3 (sA a3f (ak (mq (sIt (sV 1)) t1 (a1v aa) []) bw)))
 (dw (m7 4 (sA a3f (ak (s1 a8l (sI 1)) bw)))
 (dw (a3k (sRg vq (ak (s2 my (sI 1) (sA (ik false 2 aa) (ak (sV 0) (ak (sI 5) bw)))) bw)) (kN 5) (a08 aa))
 (dw (a3k (sRg vq (ak (sA (ik false 2 aa) (ak (sV 0) (ak (sI 3) bw))) bw)) (kN 5) (a09 aa))
 (dw (m7 10 (sZ (mq (sIt (sV 3)) t1 (a1x aa) [3])))
 (uo (sA a1c (ak (sV 2) (ak (sZ (s2 my (sV 10) (sZ (sA a3f (ak (sZ (mq (sIt (sV 1)) t1 (a4p aa) [3])) bw))))) (ak (sZ (s2 my (sV 4) (sZ (sA a3f (ak (s1 a8l (sI 1)) bw))))) bw)))))))))))
noncomputable def a1j:SS :=
 (sIf (sT (s2 (gIn true) (sV 5) (sV 3)))
 (ue (sML a5k (sV 3) (ak (sV 5) bw)))
 sNx)
noncomputable def a3v:ST :=
 (sT (s2 gLt (sV 4) (sA uf (ak (sV 3) bw))))
noncomputable def a1k:SS :=
 (dw (a3k (sIt (s2 gIx (sV 1) (s2 gIx (sV 3) (sV 4)))) (kN 5) a1j)
 (afl 4 a1r (sI 1)))
noncomputable def a3w:SE :=
 (sML a87 (sV 1) (ak (sV 0) bw))
noncomputable def a1l:SE :=
 (sA xq (ak (sZ (mq (sIt (s2 gIx (sV 1) (sV 0))) t1 a3w [2])) bw))
noncomputable def a1m:SE :=
 (s2 gIx (sV 1) (sV 0))
noncomputable def a5u:SS :=
 (dw (m7 3 (sA a3f (ak (sI 0) bw)))
 (dw (m7 4 (sI 0))
 (dw (sWh a3v a1k 100000)
 (dw (m7 3 (sA a4z (ak (sV 3) bw)))
 (dw (m7 6 (sA xq (ak (sZ (mq (sIt (sV 3)) t1 a1l [1,3])) bw)))
 (uo (sA a1c (ak (sV 0) (ak (sV 6) (ak (sA xq (ak (sZ (mq (sIt (sV 3)) t1 a1m [2])) bw)) bw))))))))))
noncomputable def a5v(aa:SF)(jo:SF)(qp:SF)(jx:SF)(jf:SF):SE :=
 (s2 gIx (sV 2) (sA (ik false 2 aa) (ak (sV 1) (ak (sA uf (ak (sV 2) bw)) bw))))
noncomputable def yx(aa:SF)(jo:SF)(qp:SF)(jx:SF)(jf:SF):SS :=
 (dw (m7 9 (s2 gIx (sV 7) (sA (ik false 2 aa) (ak (sV 0) (ak (sA uf (ak (sV 7) bw)) bw)))))
 (dw (m7 10 (sA (ik false 2 aa) (ak (sV 0) (ak (sI 6) bw))))
 (dw (sIf (sT (s2 hEq (sV 10) (sI 0)))
 (m7 9 (a3l (sV 9) oN (oS (sA (ik false 2 aa) (ak (sV 0) (ak (sA uf (ak (sV 9) bw)) bw))))))
 sNx)
 (dw (sIf (sT (s2 hEq (sV 10) (sI 1)))
 (m7 9 (s2 gIx (sV 3) (sA (ik false 2 aa) (ak (sV 0) (ak (sA uf (ak (sV 3) bw)) bw)))))
 sNx)
 (afl 6 a1r (sV 9))))))
noncomputable def a4e(aa:SF)(jo:SF)(qp:SF)(jx:SF)(jf:SF):SS :=
 (dw (m7 1 (sA (ik false 2 aa) (ak (sV 0) (ak (sI 4) bw))))
 (dw (m7 2 (sA (ik false 2 aa) (ak (sV 0) (ak (sI 8) bw))))
 (dw (m7 3 (sA (ik false 1 jf) (ak (sV 0) bw)))
 (dw (sIf (sT (s2 hEq (sV 1) (sI 0)))
 (dw (a77 (sA (ik false 3 jx) (ak (sV 0) (ak (sV 3) (ak (s2 my (sI 1) (sA (ik false 2 aa) (ak (sV 0) (ak (s2 gIx (sA a1c (ak (sI 8) (ak (sI 32) bw))) (s2 aau (sV 2) (sI 7))) bw)))) bw)))) (a4g 2 (iy (kN 4) (iy (kN 5) a4x))))
 (m7 6 (sMS a9t (sC (.str "")) (ak (sZ (mq (sRg vq (ak (sA (ik false 2 aa) (ak (sV 0) (ak (sI 25) bw))) bw)) t1 (a5v aa jo qp jx jf) [0,3])) bw))))
 (dw (a77 (sA (ik false 2 jo) (ak (sV 0) (ak (sV 3) bw))) (a4g 3 (iy (kN 7) (iy (kN 4) (iy (kN 5) a4x)))))
 (dw (m7 6 (sC (.str "")))
 (a3k (sRg vq (ak (sA (ik false 2 aa) (ak (sV 0) (ak (sI 12) bw))) bw)) (kN 8) (yx aa jo qp jx jf)))))
 (dw (sIf (sT (s2 hEq (sV 2) (sI 3)))
 (m7 6 (a3l (s2 abx (sV 6) (sI 240)) oN (oS (sA (ik false 2 aa) (ak (sV 0) (ak (sI 241) bw))))))
 sNx)
 (uo (sA a1c (ak (sA (ik false 3 qp) (ak (sV 3) (ak (sV 4) (ak (sV 5) bw)))) (ak (sV 6) bw)))))))))
end CAS
namespace MI
open L2
structure CK (K:Fg) (mg:Str->Option Value) (c:Str) (C:Addr) (ks:List Str):Prop where
 m:mg c=some (.ref C)
 ns:PySem.W.nsIn K mainGlobals c=some (some (.ref C))
 cl:Cls K C
 na:∀k∈ks,NoAttr K C k
def azd(K:Fg)(ta:TE)(f:Str):TE:=λσ H Q=>ta σ H λx H1=>∃a C dx fs v,x=.ref a/\Rd H1 a (.ins C dx fs)/\Cls K C/\NoAttr K C f/\fs.lookup f=some v/\Q v H1
section
variable{X:Cx}{E:XD}
theorem aqs(he:PE X e ta)(hb:attributeBase e f X.env (eval e X.env)=eval e X.env):PE X (.Attribute e f pos) (azd X.K ta f):=by
 intro aA s σ H Q I h
 refine aoo hb (L2.thn (he aA s σ H _ I h) λu s1 ⟨x,H1,I1,rx,a,C,dx,fs,v,ex,ea,c,n,l,q⟩=>?_);subst ex;obtain rfl:u=Value.ref a:=rx
 rcases ea with ea|⟨o,ea⟩
 ·exact a8w I1 ea c n l λu' s2 I2 ru=>⟨v,H1,I2,ru,q⟩
 ·obtain⟨_,_,_,ne,ob,mA,nn,r,_⟩:=I1.hok a _ ea;obtain⟨u,hu,ru⟩:=RelO.some_of (v:=v) (o:=mA f) (by rw[<-l];exact r f)
  exact agp I1.kIn ⟨ob,nn,ne⟩ (c.get f) c.hd n hu (ab1 ru) ⟨v,H1,I1.tok _,ru,q⟩
theorem a5w{us:List (Str×V)}:∀{us:List (Str×V)} {kvs:List (Str×D)},KRep K ι H us kvs->kvs.lookup k=some d->∃v,us.lookup k=some v/\Rep K ι H v d
 |[],[],_,e=>by cases e
 |[],_::_,r,_=>by cases r.1
 |_::_,[],r,_=>by cases r.1
 |(k1,v1)::us,(k2,d2)::kvs,⟨h1,h2⟩,e=>by
  simp only[br,eV]at h1;obtain⟨rfl,h1⟩:=h1
  cases h2 with
  |cons r rs =>
   rw[List.lookup_cons]at e ⊢
   cases hk:k == k1 with
   |true=>rw[hk]at e;cases e;exact⟨_,rfl,r⟩
   |false=>rw[hk]at e;exact a5w (us:=us) ⟨h1,rs⟩ e
def axr(c k:Str):D->Hd->Option D
 |.ins c' ks xs,_=>if c'=c then (ks.zip xs).lookup k else none
 |.ref i,h=>(match h[i]? with|some (.ins c' fs)=>if c'=c then fs.lookup k else none|_=>none)
 |_,_=>none
def a1y(c k:Str)(d:D)(h:Hd):R D:=match axr c k d h with
 |some x=>.ok x h
 |none=>.no
theorem nq{c k:Str}{C:Addr}{ks:List Str}(hk:CK X.K X.mg c C ks)(hf:k∈ks)(he:ME X E e f)(hb:attributeBase e k X.env (eval e X.env)=eval e X.env:=by rfl):ME X E (.Attribute e k pos) (s1 (a1y c k) f):=by
 refine PE.weak (aqs he hb) λσ H Q ⟨ι,τ,h,S,Rh,o⟩=>?_;refine⟨ι,τ,h,S,Rh,gq o λd h1 ι1 H1 v g1 r1 hr1 o1=>?_⟩;unfold a1y at o1
 split at o1
 ·rename_i x hx
  cases r1 with
  |@ref a i ha =>
   obtain⟨ob,e1,e2⟩:=hr1.at ha;simp only[axr,e1]at hx
   cases ob with
   |ins c' fs =>
    simp only at hx
    split at hx
    ·rename_i hc;subst hc;obtain⟨C',dx,us,h3,hn,kr⟩:=e2;rw[hk.ns]at hn;cases hn
     obtain⟨v,l,r⟩:=a5w (us:=us) kr hx;exact⟨a,C,dx,us,v,rfl,.inl h3,hk.cl,hk.na _ hf,l,o1 ι1 H1 v (.refl _ _) r hr1⟩
    ·cases hx
   |_=>cases hx
  |@ins a C' dx oo c' us ks' xs h3 hn ek rs =>
   simp only[axr]at hx
   split at hx
   ·rename_i hc;subst hc;rw[hk.ns]at hn;cases hn
    obtain⟨v,l,r⟩:=a5w (us:=us) (a5o ek rs) hx;exact⟨a,C,dx,us,v,rfl,.inr ⟨oo,h3⟩,hk.cl,hk.na _ hf,l,o1 ι1 H1 v (.refl _ _) r hr1⟩
   ·cases hx
  |_=>cases hx
 ·exact o1.elim
def aby(c:Str)(n:Nat)(F:SF)(ds:List D)(h:Hd):R D:=if ds.length=n then (match F (.ref h.length::ds) (h++[.ins c []]) with
 |.ok .non h'=>.ok (.ref h.length) h'
 |_=>.no) else .no
theorem aqt{c:Str}{C:Addr}{ks:List Str}(hk:CK X.K X.mg c C ks)(M:Mk X.K C f)(G:FnOk X.prog X.w X.K X.mg X.base CX0 k f fd ps (a0i X.K (n+1) F))(hb:Binds X.K fd ps [])(hr:Room (k+1) X.A)(ha:MA X X0 (e::es) ka)(hg:Gl X c:=by rfl)
  (hdb:(c == ("__debug__" : Str))=false:=by decide) (he:starEach (e::es) X.env=(false,eval e X.env)::starEach es X.env:=by rfl) (hpl:(backTo pos (starEach es X.env)).any (·.1)=false:=by rfl) :
  ME X X0 (.Call (.Name c p) (e::es) [] pos) (sA (aby c n F) ka):=by
 refine PE.weak (aou M G hr hg hk.m hb .nil acu ha hdb he hpl) λσ H Q ⟨ι,τ,h,S,Rh,o⟩=>?_;refine⟨ι,τ,h,S,Rh,gq o λds h1 ι1 H1 vs g1 r1 hr1 o1=>?_⟩
 intro x dx nx nd ne
 unfold aby at o1
 split at o1
 ·rename_i hl;have n2:upd H1 dx (.own x) x=none:=by rw[jg ne.symm];exact nx
  have g2:Gr ι1 H1 (ι1++[x]) (upd (upd H1 dx (.own x)) x (.ins C dx [])):=(a3e nd _).trans (ae0 n2 _);have hr2:HRep X.K (ι1++[x]) (upd (upd H1 dx (.own x)) x (.ins C dx [])) (h1++[.ins c []]):=(hr1.aside nd _).add n2 ⟨C,dx,[],ph,hk.ns,rfl,.nil⟩;have ix:(ι1++[x])[h1.length]? = some x:=by rw[<-hr1.len];simp
  rw[bT];refine⟨by rw[aY,r1.len,hl],ι1++[x],.ref h1.length::ds,_,.cons (.ref ix) (r1.mono g2),hr2,?_⟩
  split at o1
  ·rename_i h' hF;rw[hF]
   intro ι' H' v g r hr'
   cases r
   exact⟨rfl,o1 ι' H' _ (g2.trans g) (.ref (g.at ix)) hr'⟩
  ·exact o1.elim
 ·exact o1.elim
structure Di (P:Program) (w:World) (K:Fg) (mg:Str->Option Value) (base:Heap) (k:Nat) (c:Str) (C:Addr) (ks ps:List Str) (n:Nat) (F:SF) (f:Addr) (fd:FuncData):Prop where
 ok:FnOk P w K mg base CX0 k f fd ps (a0i K (n+1) F)
 b:Binds K fd ps []
 mke:Mk K C f
 ck:CK K mg c C ks
theorem ave{X:Cx}{ks ps:List Str}(G:Di X.prog X.w X.K X.mg X.base k c C ks ps n F f fd)(hr:Room k' X.A)(hk:k+1<=k')(ha:MA X X0 (e::es) ka)(hg:Gl X c:=by rfl)
  (hdb:(c == ("__debug__" : Str))=false:=by decide) (he:starEach (e::es) X.env=(false,eval e X.env)::starEach es X.env:=by rfl) (hpl:(backTo pos (starEach es X.env)).any (·.1)=false:=by rfl) :
  ME X X0 (.Call (.Name c p) (e::es) [] pos) (sA (aby c n F) ka):=aqt G.ck G.mke G.ok G.b (hr.mono hk) ha hg hdb he hpl
def ain{α:Type}(f:Str)(v:α):List (Str×α)->List (Str×α)
 |[]=>[(f,v)]
 |(g,x)::r=>if g=f then (g,v)::r else (g,x)::ain f v r
theorem a5x{k:Str}(q:Rep K ι H v d):∀{us:List (Str×V)} {kvs:List (Str×D)},KRep K ι H us kvs->KRep K ι H (a7p k v us) (ain k d kvs)
 |[],[],_=>⟨rfl,.cons q .nil⟩
 |[],_::_,r=>by cases r.1
 |_::_,[],r=>by cases r.1
 |(k1,v1)::us,(k2,d2)::kvs,⟨h1,h2⟩=>by
  simp only[br,eV]at h1;obtain⟨rfl,h1⟩:=h1
  cases h2 with
  |cons r rs =>
   unfold a7p ain
   split
   ·exact⟨by simp[h1],.cons q rs⟩
   ·have ih:=a5x (k:=k) q (us:=us) (kvs:=kvs) ⟨h1,rs⟩;exact⟨by simp[ih.1],.cons r ih.2⟩
def a2k(c k:Str)(fo fe:SE):SS:=λτ h=>(fe τ h).fl λy h1=>(fo τ h1).fl λx h2=>match x with
 |.ref i=>(match h2[i]? with
  |some (.ins c' fs)=>if c'=c/\fs.length<1000 then .nx τ (h2.set i (.ins c (ain k y fs))) else .no
  |_=>.no)
 |_=>.no
theorem a0h{c k:Str}{C:Addr}{ks:List Str}(hk:CK X.K X.mg c C ks)(hf:k∈ks)(ho:ME X E o fo)(he:ME X E e fe)(hs:swapsWith e (some (.Attribute o k pos')) pos.line X.env=pure false:=by rfl) :
  MS X E (.Assign [.Attribute o k pos'] e pos) (a2k c k fo fe):=by
 refine PS.weak (atj ho he hs) λN σ H ⟨ι,τ,h,S,Rh,o⟩=>?_;refine⟨ι,τ,h,S,Rh,sy o λy h1 ι1 H1 v g1 r1 hr1 o1=>⟨ι1,τ,h1,S.mono g1,hr1,sy o1 λx h2 ι2 H2 u g2 r2 hr2 o2=>?_⟩⟩
 split at o2
 ·rename_i i
  cases r2 with
  |@ref a _ ha =>
   split at o2
   ·rename_i c' fs hx
    split at o2
    ·rename_i hc;obtain⟨rfl,hl⟩:=hc;obtain⟨C',dx,us,h3,hn,kr⟩:=hr2.obj i a _ ha hx;rw[hk.ns]at hn;cases hn
     have lu:us.length=fs.length:=by simpa using aP List.length kr.1
     have gp:=a2e hr2 ha (.ins C dx (a7p k v us));exact⟨a,C,dx,us,rfl,h3,hk.cl,hk.na _ hf,by omega,o2 ι2 _ σ gp (((S.mono g1).mono g2).mono gp) (hr2.put ha ⟨C,dx,_,ph,hk.ns,let q:=a5x (k:=k) (r1.mono g2) kr; ⟨q.1,q.2.mono gp⟩⟩)⟩
    ·exact o2.elim
   ·exact o2.elim
 ·exact o2.elim
end
def asb(c m:Str)(d:D)(h:Hd):Bool:=match d with
 |.ref i=>(match h[i]? with
  |some (.ins c' fs)=>decide (c'=c) && (fs.lookup m).isNone
  |_=>false)
 |_=>false
theorem abz{k:Str}:∀{us:List (Str×V)} {kvs:List (Str×D)},us.map (·.1)=kvs.map (·.1)->kvs.lookup k=none->us.lookup k=none
 |[],_,_,_=>rfl
 |_::_,[],r,_=>by cases r
 |(k1,v1)::us,(k2,d2)::kvs,r,e=>by
  simp only[br,eV]at r;obtain⟨rfl,r⟩:=r;rw[List.lookup_cons]at e ⊢
  cases hk:k == k1 with
  |true=>rw[hk]at e;cases e
  |false=>rw[hk]at e;exact abz r e
theorem aqu{K:Fg}{mg:Str->Option Value}{ks:List Str}(hk:CK K mg c C ks)(r:Rep K ι H v d)(hr:HRep K ι H h)(e:asb c m d h=true):∃a dx fs,v=.ref a/\H a=some (.ins C dx fs)/\fs.lookup m=none:=by
 cases r with
 |@ref a i ha =>
  obtain⟨ob,e1,e2⟩:=hr.at ha;simp only[asb,e1]at e
  cases ob with
  |ins c' fs =>
   simp only[cH,eD]at e;obtain⟨rfl,e⟩:=e;obtain⟨C',dx,us,h3,hn,kr⟩:=e2;rw[hk.ns]at hn;cases hn
   exact⟨a,dx,us,rfl,h3,abz kr.1 (Option.isNone_iff_eq_none.mp e)⟩
  |_=>cases e
 |_=>cases e
noncomputable def sMe(b:Bool)(c m:Str)(n:Nat)(F:SF)(fo:SE)(ka:SA):SE:=λτ h=>(fo τ h).bind λd h1=>if asb c m d h1=true then (ka τ h1).bind λds h2=>ik b n F (d::ds) h2 else .no
structure Dm (P:Program) (w:World) (K:Fg) (mg:Str->Option Value) (base:Heap) (k:Nat) (C:Addr) (m:Str) (ps:List Str) (n:Nat) (F:SF) (f:Addr) (fd:FuncData):Prop where
 ok:FnOk P w K mg base CX0 k f fd ps (a0i K n F)
 b:Binds K fd ps []
 mt:Meth K C m f
section
variable{X:Cx}
theorem ac0{b:Bool}{ks:List Str}{F:SF}{fo:SE}{ka:SA}(hk:CK X.K X.mg c C ks){σ:St}{H:Hp}{Q:VK}(q:lift X.K X0 (a3j X.K) (sMe b c m n F fo ka) σ H Q) :
  aos C m (a0i X.K n F) [] E0 (lift X.K X0 (a3j X.K) fo) (lift X.K X0 (ayw X.K) ka) σ H (λv H1=>∃L,aee H1 L/\∀H2,FrzOf L H1 H2->Q v H2):=by
 obtain⟨ι,τ,h,S,Rh,o⟩:=q;refine⟨ι,τ,h,S,Rh,gq o λd h1 ι1 H1 v g1 r1 hr1 o1=>?_⟩
 split at o1
 ·rename_i e;obtain⟨a,dx,fs,rfl,h3,l⟩:=aqu hk r1 hr1 e;refine⟨a,dx,fs,rfl,h3,l,ι1,τ,h1,S.mono g1,hr1,gq o1 λds h2 ι2 H2 vs g2 r2 hr2 o2=>?_⟩;rw[bT];exact aa1 (.cons (r1.mono g2) r2) hr2 o2 _
 ·exact o1.elim
theorem a1z(b:Bool){ks ps:List Str}(hk:CK X.K X.mg c C ks)(G:Dm X.prog X.w X.K X.mg X.base k C m ps n F f fd)(hr:Room k X.A)(ho:ME X X0 o fo)(ha:MA X X0 (e::es) ka)
  (hst:starEach (e::es) X.env=(false,eval e X.env)::starEach es X.env:=by rfl) (hpl:(backTo pos (starEach es X.env)).any (·.1)=false:=by rfl)
  (ht:eval (.Call (.Attribute o m apos) (e::es) [] pos) X.env=(do
   let ov <-eval o X.env
   standAt apos.atName
   let (f,first) <-holding [ov] (getMethod ov m pl)
   callWith pos f first (backTo pos (starEach (e::es) X.env)) (backToKw pos (keywordEach [] X.env))):=by rfl) :
  ME X X0 (.Call (.Attribute o m apos) (e::es) [] pos) (sMe b c m n F fo ka) :=
 PE.weak (a93 (aot ho hk.cl G.mt G.ok hr G.b .nil acu ha hst hpl ht)) λ_ _ _ q=>ac0 hk q
theorem qt(b:Bool){ks ps:List Str}(hk:CK X.K X.mg c C ks)(G:Dm X.prog X.w X.K X.mg X.base k C m ps n F f fd)(hr:Room k X.A)(ho:ME X X0 o fo)
  (ht:eval (.Call (.Attribute o m apos) [] [] pos) X.env=(do
   let ov <-eval o X.env
   standAt apos.atName
   let (f,first) <-holding [ov] (getMethod ov m pl)
   callWith pos f first (backTo pos (starEach [] X.env)) (backToKw pos (keywordEach [] X.env))):=by rfl) :
  ME X X0 (.Call (.Attribute o m apos) [] [] pos) (sMe b c m n F fo bw):=by
 refine PE.weak (a93 (akk ho hk.cl G.mt G.ok hr G.b .nil acu ht)) λσ H Q q=>?_;obtain⟨ι,τ,h,S,Rh,o⟩:=ac0 hk q;refine⟨ι,τ,h,S,Rh,?_⟩
 revert o
 generalize fo τ h=r
 intro o
 cases r with
 |ok d h1 =>
  intro ι' H' v g r' hr'
  obtain⟨a,dx,fs,e1,e2,e3,ι2,τ2,h2,S2,Rh2,o2⟩:=o ι' H' v g r' hr';exact⟨a,dx,fs,e1,e2,e3,o2 ι2 H' [] (.refl _ _) .nil Rh2⟩
 |ex c h1=>exact o
 |no=>exact o
structure Dc (P:Program) (w:World) (K:Fg) (mg:Str->Option Value) (base:Heap) (k:Nat) (c:Str) (m:Str) (ps:List Str) (n:Nat) (F:SF) (f:Addr) (fd:FuncData):Prop where
 ok:FnOk P w K mg base CX0 k f fd ps (a0i K n F)
 b:Binds K fd ps []
 cl:∃C mc,mg c=some (.ref C)/\PySem.W.specialIn K (.ref C) "__getattribute__" = some (some (.builtin "type.__getattribute__"))/\PySem.W.readsIn K C mc=true/\PySem.W.findCls K (.ref C) mc m=some (.val (.ref f))/\PySem.W.handedIn (.ref f)=true
 kp:PySem.W.keepIn K (.ref f)=true
theorem aqv(b:Bool){ps:List Str}(G:Dc X.prog X.w X.K X.mg X.base k c m ps n F f fd)(hr:Room k X.A)(hg:Gl X c)(ha:MA X X0 (e::es) ka)(hdb:(c == ("__debug__" : Str))=false:=by decide)
  (hst:starEach (e::es) X.env=(false,eval e X.env)::starEach es X.env:=by rfl) (hpl:(backTo pos (starEach es X.env)).any (·.1)=false:=by rfl)
  (ht:eval (.Call (.Attribute (.Name c p) m apos) (e::es) [] pos) X.env=(do
   let ov <-eval (.Name c p) X.env
   standAt apos.atName
   let (f,first) <-holding [ov] (getMethod ov m pl)
   callWith pos f first (backTo pos (starEach (e::es) X.env)) (backToKw pos (keywordEach [] X.env))):=by rfl) :
  ME X X0 (.Call (.Attribute (.Name c p) m apos) (e::es) [] pos) (sA (ik b n F) ka):=by
 obtain⟨C,mc,m1,m2,m3,m4,m5⟩:=G.cl;have main:PE X (.Call (.Attribute (.Name c p) m apos) (e::es) [] pos) (aor (a0i X.K n F) [] E0 (lift X.K X0 (ayw X.K) ka)):=by
  intro aA s σ H Q I h
  refine fv (pl:=pl) (L2.thn (aoa hg m1 (v:=.ref C) rfl hdb aA s σ H (λx H1=>x=.ref C/\H1=H) I ⟨rfl,rfl⟩) λu s1 ⟨x,H1,I1,rx,ex,eh⟩=>?_) ht;subst ex eh;obtain rfl:u=Value.ref C:=rx;refine PySem.W.method_cls I1.kIn m2 (PySem.W.cls_value I1.kIn m3 m4 m5 ?_);have I2:=I1.tok (s1.toks+1);refine eO (h₀:=X.base) I.ok.mod.kin G.kp (L2.thn (ha pos aA _ σ H1 _ I2 h) λus s2 ⟨vs,H2,I2,r,q2⟩=>⟨I2.kIn,?_⟩) hst hpl;exact ab2 G.ok hr G.b .nil acu I2 r q2
 refine PE.weak (a93 main) ?_
 rintro σ H Q ⟨ι,τ,h,S,Rh,o⟩
 refine⟨ι,τ,h,S,Rh,gq o λds h1 ι1 H1 vs g1 r1 hr1 o1=>?_⟩;rw[bT];exact aa1 r1 hr1 o1 _
variable{E:XD}
def avf(c k:Str)(d:D)(h:Hd):Option D:=match d with
 |.ref i=>(match h[i]? with|some (.ins c' fs)=>if c'=c then fs.lookup k else none|_=>none)
 |_=>none
def ak3(c k:Str)(y x:D)(h:Hd):Option Hd:=match x with
 |.ref i=>(match h[i]? with
  |some (.ins c' fs)=>if c'=c/\fs.length<1000 then some (h.set i (.ins c (ain k y fs))) else none
  |_=>none)
 |_=>none
def afz(c k:Str)(gg:D->D->Hd->R D)(fo fe:SE):SS:=λτ h=>(fo τ h).fl λx h1=>match avf c k x h1 with
 |some v=>(fe τ h1).fl λy h2=>(gg v y h2).fl λz h3=>match ak3 c k z x h3 with
  |some h4=>.nx τ h4
  |none=>.no
 |none=>.no
theorem adc{c k:Str}{C:Addr}{ks:List Str}(hk:CK X.K X.mg c C ks)(hf:k∈ks)(ho:ME X E o fo)(he:ME X E e fe)(hp:OpR X (inplaceOp op) r)(hs:a3o X.K gg r):MS X E (.AugAssign (.Attribute o k tpos) op e pos) (afz c k gg fo fe):=by
 refine PS.weak (agq (rd:=r) ho he λaA s σ H x y u v Q I rx ry q=>hp aA s σ H x y u v Q I rx ry q) ?_
 rintro N σ H ⟨ι,τ,h,S,Rh,oo⟩
 refine⟨ι,τ,h,S,Rh,sy oo λx h1 ι1 H1 v g1 r1 hr1 o1=>?_⟩
 split at o1
 ·rename_i w hw
  cases r1 with
  |@ref a i ha =>
   obtain⟨ob,e1,e2⟩:=hr1.at ha;simp only[avf,e1]at hw
   cases ob with
   |ins c' fs =>
    simp only at hw
    split at hw
    ·rename_i hc;subst hc;obtain⟨C',dx,us,h3,hn,kr⟩:=e2;rw[hk.ns]at hn;cases hn
     obtain⟨v,l,r⟩:=a5w (us:=us) kr hw;refine⟨a,C,dx,us,v,rfl,h3,hk.cl,hk.na _ hf,l,ι1,τ,h1,S.mono g1,hr1,sy o1 λy h2 ι2 H2 u g2 r2 hr2 o2=>?_⟩;refine hs E ι2 H2 h2 v u w y _ (r.mono g2) r2 hr2 (sy o2 λz h4 ι3 H3 zv g3 r3 hr3 o3=>?_);have ha3:ι3[i]? = some a:=g3.at (g2.at ha)
     split at o3
     ·rename_i h5 hq;obtain⟨ob3,e3,e4⟩:=hr3.at ha3;simp only[ak3,e3]at hq
      cases ob3 with
      |ins c2 fs2 =>
       simp only at hq
       split at hq
       ·rename_i hc;obtain⟨rfl,hl⟩:=hc;cases hq
        obtain⟨C2,dx2,us2,h6,hn2,kr2⟩:=e4;rw[hk.ns]at hn2;cases hn2
        have lu:us2.length=fs2.length:=by simpa using aP List.length kr2.1
        have gp:=a2e hr3 ha3 (.ins C dx2 (a7p k zv us2));exact⟨dx2,us2,h6,by omega,o3 ι3 _ σ gp ((((S.mono g1).mono g2).mono g3).mono gp) (hr3.put ha3 ⟨C,dx2,_,ph,hk.ns,let q:=a5x (k:=k) r3 kr2; ⟨q.1,q.2.mono gp⟩⟩)⟩
       ·cases hq
      |_=>cases hq
     ·exact o3.elim
    ·cases hw
   |_=>cases hw
  |_=>cases hw
 ·exact o1.elim
end
end MI
namespace STM
open L2 MI
noncomputable def a5y(ud:SF):SS :=
 (dw (sIf (a6o (a4f (sA (ik false 2 ud) (ak (sV 0) (ak (sV 1) bw)))))
 aaw
 sNx)
 (uo (sV 1)))
noncomputable def a5z(a2z:SF):SS :=
 (dw (a2k "Stream" "table" (sV 0) (sV 1))
 (dw (a2k "Stream" "hope" (sV 0) (sA (ik false 1 a2z) (ak (sV 1) bw)))
 (dw (a2k "Stream" "phase" (sV 0) (sC (.str "open")))
 (dw (a2k "Stream" "start" (sV 0) (sI 0))
 (a2k "Stream" "fed" (sV 0) (sI 0))))))
noncomputable def a4q:SS :=
 (uo (s1 (a1y "Stream" "phase") (sV 0)))
noncomputable def a65:SS :=
 (uo (s1 (a1y "Stream" "fed") (sV 0)))
noncomputable def a0x:SS :=
 (uo (aat (sT (s2 hEq (s1 (a1y "Stream" "phase") (sV 0)) (sC (.str "stopped")))) (s1 (a1y "Stream" "start") (sV 0)) (sC .non)))
noncomputable def a0y:SS :=
 (dw (sIf (sT (s2 hEq (s1 (a1y "Stream" "phase") (sV 0)) (sC (.str "closed"))))
 aaw
 sNx)
 (sIf (sT (s2 hEq (s1 (a1y "Stream" "phase") (sV 0)) (sC (.str "stopped"))))
 aaw
 sNx))
noncomputable def a66(bz:SF)(vm:SF):SS :=
 (dw (ue (sMe false "Stream" "look_ended" 1 bz (sV 0) bw))
 (afz "Stream" "fed" a1r (sV 0) (sA uf (ak (sA (ik false 2 vm) (ak (s2 gIx (s1 (a1y "Stream" "table") (sV 0)) (sI 0)) (ak (sV 1) bw))) bw))))
noncomputable def a67(vp:SF)(iw:SF):SS :=
 (dw (ue (sA (ik false 2 vp) (ak (sV 0) (ak (sV 1) bw))))
 (ue (sMe false "Stream" "begin" 2 iw (sV 0) (ak (sI 0) bw))))
noncomputable def a4r:SS :=
 (dw (a2k "Stream" "start" (sV 0) (sV 1))
 (dw (a2k "Stream" "at" (sV 0) (sV 1))
 (dw (a2k "Stream" "room" (sV 0) (sI 0))
 (dw (a2k "Stream" "last" (sV 0) (sC .non))
 (a2k "Stream" "rest" (sV 0) (sC (.str "")))))))
noncomputable def a68(vo:SF)(gk:SF):SS :=
 (dw (ue (sMe false "Stream" "take" 2 vo (sV 0) (ak (sV 1) bw)))
 (uo (sMe true "Stream" "read" 2 gk (sV 0) (ak (sV 1) bw))))
noncomputable def a04(bz:SF)(bx:SF)(gk:SF):ST :=
 (a6j (sT (s2 hEq (s1 (a1y "Stream" "phase") (sV 0)) (sC (.str "open")))) (sT (s2 gLt (s1 (a1y "Stream" "start") (sV 0)) (s1 (a1y "Stream" "fed") (sV 0)))))
noncomputable def uc(bz:SF)(bx:SF)(gk:SF):SS :=
 (dw (m7 2 (sMe false "Stream" "settle" 2 bx (sV 0) (ak (sV 1) bw)))
 (ue (sML ai7 (sV 1) (ak (sMe false "Stream" "read" 2 gk (sV 0) (ak (sV 2) bw)) bw))))
noncomputable def a0a(bz:SF)(bx:SF)(gk:SF):SS :=
 (dw (ue (sMe false "Stream" "look_ended" 1 bz (sV 0) bw))
 (dw (m7 1 (sA a3f bw))
 (dw (sWh (a04 bz bx gk) (uc bz bx gk) 100000)
 (dw (sIf (sT (s2 hEq (s1 (a1y "Stream" "phase") (sV 0)) (sC (.str "open"))))
 (a2k "Stream" "phase" (sV 0) (sC (.str "closed")))
 sNx)
 (uo (sV 1))))))
noncomputable def a0f(bx:SF)(jw:SF):ST :=
 (a6j (sT (s2 hNe (sV 3) (sC (.str "")))) (sT (s2 hEq (s1 (a1y "Stream" "phase") (sV 0)) (sC (.str "open")))))
noncomputable def ur(bx:SF)(jw:SF):SS :=
 (dw (ue (sMe false "Stream" "go" 2 jw (sV 0) (ak (s2 gIx (sV 3) (sI 0)) bw)))
 (dw (m7 3 (a3l (sV 3) (oS (sI 1)) oN))
 (sIf (a6o (a4f (s2 gIx (s1 (a1y "Stream" "hope") (sV 0)) (s1 (a1y "Stream" "room") (sV 0)))))
 (m7 3 (s2 my (sMe false "Stream" "settle" 2 bx (sV 0) (ak (sV 2) bw)) (sV 3)))
 sNx)))
noncomputable def vg(bx:SF)(jw:SF):SS :=
 (dw (m7 2 (sA a3f bw))
 (dw (m7 3 (sV 1))
 (dw (sWh (a0f bx jw) (ur bx jw) 100000)
 (uo (sV 2)))))
noncomputable def a2w(oh:SF):SS :=
 (dw (afz "Stream" "at" a1r (sV 0) (sI 1))
 (dw (a2k "Stream" "room" (sV 0) (sA (ik false 3 oh) (ak (s1 (a1y "Stream" "table") (sV 0)) (ak (s1 (a1y "Stream" "room") (sV 0)) (ak (sV 1) bw)))))
 (dw (m7 2 (s2 gIx (s2 gIx (s1 (a1y "Stream" "table") (sV 0)) (sI 2)) (s1 (a1y "Stream" "room") (sV 0))))
 (sIf (sT (s2 hNe (sV 2) (s1 a8l (sI 1))))
 (dw (a2k "Stream" "last" (sV 0) (sA a1c (ak (sV 2) (ak (s1 (a1y "Stream" "at") (sV 0)) bw))))
 (a2k "Stream" "rest" (sV 0) (sC (.str ""))))
 (sIf (sT (s2 a79 (s1 (a1y "Stream" "last") (sV 0)) (sC .non)))
 (afz "Stream" "rest" a1r (sV 0) (sV 1))
 sNx)))))
noncomputable def a1n(iw:SF):SS :=
 (dw (a77 (s1 (a1y "Stream" "last") (sV 0)) (a4g 2 (iy (kN 1) (iy (kN 2) a4x))))
 (dw (m7 3 (s1 (a1y "Stream" "rest") (sV 0)))
 (dw (ue (sMe false "Stream" "begin" 2 iw (sV 0) (ak (sV 2) bw)))
 (uo (sV 3)))))
noncomputable def a69(iw:SF):SS :=
 (dw (a2k "Stream" "phase" (sV 0) (sC (.str "stopped")))
 (dw (ue (sMe false "Stream" "begin" 2 iw (sV 0) (ak (s1 (a1y "Stream" "start") (sV 0)) bw)))
 (uo (sC (.str "")))))
noncomputable def a6a:SS :=
 (uo (s1 (a1y "Stream" "rest") (sV 0)))
noncomputable def a3x(o8:SF)(vh:SF):SS :=
 (dw (sIf (sT (s2 gIs (s1 (a1y "Stream" "last") (sV 0)) (sC .non)))
 (uo (sMe false "Stream" "stop" 1 vh (sV 0) bw))
 sNx)
 (dw (a77 (s1 (a1y "Stream" "last") (sV 0)) (a4g 2 (iy (kN 2) (iy (kN 3) a4x))))
 (dw (ue (sML a5k (sV 1) (ak (sA a1c (ak (sV 2) (ak (s1 (a1y "Stream" "start") (sV 0)) (ak (sV 3) bw)))) bw)))
 (uo (sMe false "Stream" "go_behind" 1 o8 (sV 0) bw)))))
noncomputable def a4s(nj:SF):SS :=
 (uo (sMe false "Stream" "stopped_at" 1 nj (sV 0) bw))
noncomputable def yr:SE :=
 (sC (.bl false))
noncomputable def yu:SS :=
 (sIf (sOr (sT (s2 gGe (s2 gIx (s2 gIx (sV 0) (sI 2)) (sV 4)) (sI 0))) (a4f (s2 gIx (sV 1) (sV 4))))
 (a6s (sC (.bl true)) (sV 1) (sV 3))
 sNx)
noncomputable def v8:SS :=
 (a3k (sIt (s2 gIx (s2 gIx (sV 0) (sI 1)) (sV 3))) (kN 4) yu)
noncomputable def v9:SS :=
 (a3k (sRg vq (ak (sA uf (ak (sV 1) bw)) bw)) (kN 3) v8)
noncomputable def a0n:SS :=
 (dw (m7 1 (mq (sIt (s2 gIx (sV 0) (sI 1))) t1 yr []))
 (dw (a3k (sRg vq (ak (sA uf (ak (sV 1) bw)) bw)) (kN 2) v9)
 (uo (sV 1))))
noncomputable def a2a:SS :=
 (sIf (a6o (a4f (sV 6)))
 (dw (m7 4 (s2 gIx (s2 gIx (s2 gIx (sV 0) (sI 1)) (sV 4)) (sMS ad3 (s2 gIx (sV 0) (sI 0)) (ak (s2 gIx (sV 2) (sV 7)) bw))))
 (dw (sIf (sT (s2 gGe (s2 gIx (s2 gIx (sV 0) (sI 2)) (sV 4)) (sI 0)))
 (m7 5 (sA a1c (ak (s2 gIx (s2 gIx (sV 0) (sI 2)) (sV 4)) (ak (s2 my (sV 7) (sI 1)) bw))))
 sNx)
 (m7 6 (a9r (s2 gIx (sV 1) (sV 4))))))
 sNx)
noncomputable def a2x:SS :=
 (dw (m7 4 (sI 0))
 (dw (m7 5 (sC .non))
 (dw (m7 6 (sC (.bl false)))
 (dw (a3k (sRg a8p (ak (sV 3) (ak (sA uf (ak (sV 2) bw)) bw))) (kN 7) a2a)
 (uo (sA a1c (ak (sV 6) (ak (sV 5) (ak (sV 4) bw)))))))))
noncomputable def a1o(jn:SF):ST :=
 (a6j (sT (s2 gLt (sV 5) (sA uf (ak (sV 2) bw)))) (sOr (a4f (sV 6)) (a4f (sV 3))))
noncomputable def a1p(jn:SF):SS :=
 (dw (sIf (sT (s2 gIs (sV 7) (sC .non)))
 (uo (sA a1c (ak (sV 4) (ak (sC (.str "stopped")) (ak (sV 5) (ak (sI 0) (ak (sC .non) bw)))))))
 sNx)
 (dw (ue (sML a5k (sV 4) (ak (sA a1c (ak (s2 gIx (sV 7) (sI 0)) (ak (sV 5) (ak (s2 gIx (sV 7) (sI 1)) bw)))) bw)))
 (dw (m7 5 (s2 gIx (sV 7) (sI 1)))
 (a77 (sA (ik false 4 jn) (ak (sV 0) (ak (sV 1) (ak (sV 2) (ak (sV 5) bw))))) (a4g 3 (iy (kN 6) (iy (kN 7) (iy (kN 8) a4x))))))))
noncomputable def a6b(jn:SF):SS :=
 (dw (m7 4 (sA a3f bw))
 (dw (m7 5 (sI 0))
 (dw (a77 (sA (ik false 4 jn) (ak (sV 0) (ak (sV 1) (ak (sV 2) (ak (sV 5) bw))))) (a4g 3 (iy (kN 6) (iy (kN 7) (iy (kN 8) a4x)))))
 (dw (sWh (a1o jn) (a1p jn) 100000)
 (dw (sIf (a4f (sV 3))
 (uo (sA a1c (ak (sV 4) (ak (sC (.str "closed")) (ak (sV 5) (ak (sI 0) (ak (sC .non) bw)))))))
 sNx)
 (uo (sA a1c (ak (sV 4) (ak (sC (.str "open")) (ak (sV 5) (ak (sV 8) (ak (sV 7) bw))))))))))))
noncomputable def a0z(jc:SF):SS :=
 (sIf (sOr (a6o (a4f (sA (ik false 2 jc) (ak (sV 2) (ak (sI 3) bw))))) (sT (s2 hNe (sV 2) (sV 3))))
 aaw
 sNx)
noncomputable def a1q(jc:SF):SS :=
 (dw (sIf (sOr (a6o (a4f (sA a0r (ak (sV 0) (ak (sC (.ty "list")) bw))))) (sT (s2 hNe (sA uf (ak (sV 0) bw)) (sA uf (ak (sV 1) bw)))))
 aaw
 sNx)
 (dw (a3k (ai1 (sV 0) (sV 1)) (a4g 2 (iy (kN 2) (iy (kN 3) a4x))) (a0z jc))
 (uo (sC (.bl true)))))
noncomputable def yz(pq:SF)(cu:SF)(mj:SF)(qb:SF)(jc:SF):SS :=
 (dw (a77 (sV 1) (a4g 5 (iy (kN 3) (iy (kN 4) (iy (kN 5) (iy (kN 6) (iy (kN 7) a4x)))))))
 (dw (m7 8 (aat (sT (s2 a79 (sV 7) (sC .non))) (a3l (sV 2) (oS (s2 gIx (sV 7) (sI 1))) oN) (sC (.str ""))))
 (dw (m7 9 (aat (sT (s2 hEq (sV 4) (sC (.str "stopped")))) (sV 5) (sC .non)))
 (dw (sIf (sOr (a6o (a4f (sA a0r (ak (sMe false "Stream" "state" 1 cu (sV 0) bw) (ak (sC (.ty "str")) bw))))) (sT (s2 hNe (sMe false "Stream" "state" 1 cu (sV 0) bw) (sV 4))))
 aaw
 sNx)
 (dw (sIf (sOr (a6o (a4f (sA (ik false 2 jc) (ak (sA a1c (ak (sMe false "Stream" "seen" 1 pq (sV 0) bw) bw)) (ak (sI 1) bw))))) (sT (s2 hNe (sMe false "Stream" "seen" 1 pq (sV 0) bw) (sA uf (ak (sV 2) bw)))))
 aaw
 sNx)
 (dw (sIf (sOr (a6o (a4f (sA a0r (ak (sMe false "Stream" "kept" 1 qb (sV 0) bw) (ak (sC (.ty "str")) bw))))) (sT (s2 hNe (sMe false "Stream" "kept" 1 qb (sV 0) bw) (sV 8))))
 aaw
 sNx)
 (dw (sIf (sT (s2 gIs (sV 9) (sC .non)))
 (uo (s2 gIs (sMe false "Stream" "fault" 1 mj (sV 0) bw) (sC .non)))
 sNx)
 (uo (a6p (sA (ik false 2 jc) (ak (sA a1c (ak (sMe false "Stream" "fault" 1 mj (sV 0) bw) bw)) (ak (sI 1) bw))) (s2 hEq (sMe false "Stream" "fault" 1 mj (sV 0) bw) (sV 9)))))))))))
end STM
namespace MI
open L2
def kF(c k:Str)(fo:SE):SG:=λd τ h=>(fo τ h).fl λx h1=>match ak3 c k d x h1 with
 |some h2=>.nx τ h2
 |none=>.no
theorem a9b{X:Cx}{E:XD}{c k:Str}{C:Addr}{ks:List Str}(hk:CK X.K X.mg c C ks)(hf:k∈ks)(ho:ME X E o fo):MG X E (.Attribute o k pos) (kF c k fo):=by
 intro aA s σ H v u Q I r ⟨ι,τ,h,d,rd,S,Rh,oo⟩
 refine PySem.W.kas_attr (L2.thn (ho aA s σ H (λy H2=>∃a dx fs,y=.ref a/\H2 a=some (.ins C dx fs)/\fs.length<1000/\Q σ (upd H2 a (.ins C dx (a7p k v fs)))) I ⟨ι,τ,h,S,Rh,sy oo λx h1 ι1 H1 y g1 r1 hr1 o1=>?_⟩) λov s1 ⟨y,H2,I2,ry,a,dx,fs,ey,ea,l,q⟩=>?_)
 ·split at o1
  ·rename_i h2 hq
   cases r1 with
   |@ref a i ha =>
    obtain⟨ob,e1,e2⟩:=hr1.at ha;simp only[ak3,e1]at hq
    cases ob with
    |ins c' fs =>
     simp only at hq
     split at hq
     ·rename_i hc;obtain⟨rfl,hl⟩:=hc;cases hq
      obtain⟨C',dx,us,h3,hn,kr⟩:=e2;rw[hk.ns]at hn;cases hn
      have lu:us.length=fs.length:=by simpa using aP List.length kr.1
      have gp:=a2e hr1 ha (.ins C dx (a7p k v us));exact⟨a,dx,us,rfl,h3,by omega,o1 ι1 _ σ gp ((S.mono g1).mono gp) (hr1.put ha ⟨C,dx,_,ph,hk.ns,let q:=a5x (k:=k) (rd.mono g1) kr; ⟨q.1,q.2.mono gp⟩⟩)⟩
     ·cases hq
    |_=>cases hq
   |_=>cases hq
  ·exact o1.elim
 ·subst ey;obtain rfl:ov=Value.ref a:=ry;exact a6l I2 ea hk.cl (hk.na _ hf) l r λs3 I3=>⟨σ,_,I3,q⟩
end MI
namespace TWN
open L2 MI
noncomputable def a4t:SS :=
 (uo (sA a1c (ak (s1 (a1y "Stream" "phase") (sV 0)) (ak (s1 (a1y "Stream" "start") (sV 0)) (ak (s1 (a1y "Stream" "fed") (sV 0)) (ak (s1 (a1y "Stream" "room") (sV 0)) (ak (s1 (a1y "Stream" "last") (sV 0)) (ak (s1 (a1y "Stream" "rest") (sV 0)) bw))))))))
noncomputable def a6c(uz:SF)(a1b:SF):SS :=
 (uo (sA (ik true 2 a1b) (ak (s1 (a1y "Stream" "table") (sV 0)) (ak (sMe false "Stream" "stand" 1 uz (sV 0) bw) bw))))
noncomputable def a6d(fj:SF):SS :=
 (dw (m7 2 (sA (aby "Stream" 1 fj) (ak (sV 0) bw)))
 (dw (a77 (sV 1) (a4g 6 (iy (kF "Stream" "phase" (sV 2)) (iy (kF "Stream" "start" (sV 2)) (iy (kF "Stream" "fed" (sV 2)) (iy (kF "Stream" "room" (sV 2)) (iy (kF "Stream" "last" (sV 2)) (iy (kF "Stream" "rest" (sV 2)) a4x))))))))
 (dw (a2k "Stream" "at" (sV 2) (s1 (a1y "Stream" "fed") (sV 2)))
 (uo (sV 2)))))
end TWN
namespace L2
open PyProof.Rows
section
variable{prog:Program}{w:World}{A:Around}{E:Value->Shared->Prop}
theorem ac1(ne:l≠it):∀(aG pre:List Value) {s:Shared} {Q:List Value->Shared->Prop},s.heap.IsListIter it l pre.length->s.heap.IsList l (pre++aG).toArray->
  (∀h',h'.IsListIter it l (pre++aG).length->Heap.SameBut it s.heap h'->Q aG {s with heap:=h' })->wpAny (model prog w) A (draw (.ref it) aG.length) Q E s
 |[],pre,s,Q,i0,_,q=>bp (q s.heap (by rw[bT];exact i0) (Heap.SameBut.refl _ _))
 |v::aG,pre,s,Q,i0,l0,q=>by
  show wpAny (model prog w) A (pyNext (.ref it)>>=_) Q E s
  apply aE
  refine wpAny_pyNext_list_item i0 l0 (x:=v) (by simp) λh1 i1 s1=>?_
  apply aE
  apply cV
  have l1:h1.IsList l ((pre++[v])++aG).toArray:=by
   rw[bO];exact l0.at λo e=>s1.extBut l o ne e
  refine ac1 ne aG (pre++[v]) (s:={s with heap:=h1}) (by rw[ai];exact i1) l1 λh2 i2 s2=>bp (q h2 ?_ (s1.trans s2))
  rw[bO]at i2;exact i2
theorem ag0{us:List Value}{s:Shared}(hh:A.handled=none)(hl:s.heap.IsList l us.toArray)
  (q:∀h',(∀b o,s.heap.get? b=some o->h'.get? b=some o)->Q us {s with heap:=h' }):wpAny (model prog w) A (unpackItems (.ref l) us.length none) Q E s:=by
 have ll:l<s.heap.objs.size:=by obtain⟨o,ho,_⟩:=hl;exact aX ho
 unfold unpackItems notIterableAtAll
 apply aE
 apply aE
 refine wpAny_specialOf hl.typeIs F.slot_list_iter.lookup (bp ?_);simp only[cP,ft]
 apply aE
 apply cV
 refine eZ hl ?_;have il:=hl.at (h':=s.heap.push {cls:=.type "list_iterator",data:=.fields #[.ref l,.int 0 0]}) λo e=>av _ e
 apply aE
 apply cV
 refine ac1 (bN ll) us [] (s:={s with heap:=s.heap.push {cls:=.type "list_iterator",data:=.fields #[.ref l,.int 0 0]} }) ⟨_,bb _ rfl,rfl,rfl⟩ il λh1 i1 s1=>?_
 rw[bA (cJ _)]
 apply aE
 apply cV
 refine wpAny_pyNext_list_end (s:={s with heap:=h1}) hh i1 (il.at λo e=>s1.extBut l o (bN ll) e) (by simp) λh2 e2=>?_
 simp only[Option.isSome_none,cP,ft];refine bp (q h2 λb o e=>?_);have nb:b≠s.heap.objs.size:=bN (aX e);exact e2 b o nb (s1.extBut b o nb (av _ e))
end
section
variable{X:Cx}{pos:Pos}
def aze(K:Fg)(n:Nat)(t:TGs):TG:=λv σ H Q=>∃a xs,v=.ref a/\SqL K H a xs/\xs.length=n/\t xs σ H Q
theorem aqw(hc:X.calm=true)(h:PGs X es t)
  (hn:(assignEach es X.env).length=n:=by rfl) (hst:(assignEach es X.env).findIdx? (·.1)=none:=by rfl):PG X (.Tuple es k pos) (aze X.K n t):=by
 intro aA s σ H v u Q I r ⟨a,xs,ev,hq,hl,hw⟩
 subst ev;cases r
 obtain⟨its,rv,pl,hz⟩:=I.list hq;rw[assign_Tuple];refine aE (gB ?_);unfold unpack;rw[hst,hn,<-hl,rv.length];refine aE (cV (ag0 (I.ok.hd hc) pl.isList λh' k1=>?_));exact h aA _ σ H xs _ Q (I.kept (t':=s.toks) k1) rv hw
end
end L2
namespace MI
open L2
def ade(n:Nat)(k:SGs):SG:=λd τ h=>match d with
 |.tup ds=>if ds.length=n then k ds τ h else .no
 |d=>match yc d h with
  |some ds=>if ds.length=n then k ds τ h else .no
  |none=>.no
section
variable{X:Cx}{E:XD}{es:List Expr}{pos:Pos}{ks:SGs}
theorem aqx(hc:X.calm=true)(h:MGs X E es ks)(hn:(assignEach es X.env).length=n:=by rfl)(hst:(assignEach es X.env).findIdx? (·.1)=none:=by rfl):MG X E (.Tuple es k pos) (ade n ks):=by
 intro aA s σ H v u Q I rv hw
 obtain⟨ι,τ,hd,d,r,S,Rh,o⟩:=hw;have both:(∃a xs,d=.tup xs/\v=.ref a)\/∃xs,yc d hd=some xs/\∀ys,d≠.tup ys:=by
  cases r with
  |@tup a vs xs e rs=>exact .inl ⟨a,xs,rfl,rfl⟩
  |_ =>
   refine .inr ?_;simp only[ade]at o
   split at o
   ·exact⟨_,by assumption,λys z=>by cases z⟩
   ·exact o.elim
 rcases both with⟨a,xs,rfl,rfl⟩|⟨xs,e,nt⟩
 ·refine a0o hc h hn hst aA s σ H (.ref a) u Q I rv ⟨ι,τ,hd,.tup xs,r,S,Rh,?_⟩;exact o
 ·obtain⟨a,vs,ev,h1,h2⟩:=a2s r Rh e;refine aqw hc h hn hst aA s σ H v u Q I rv ⟨a,vs,ev,.inl h1,?_⟩;have eq:ade n ks d τ hd=if xs.length=n then ks xs τ hd else .no:=by
   unfold ade
   cases d<;>first|exact(nt _ rfl).elim|(simp only[e])
  have o':=o;rw[eq]at o'
  by_cases hl:xs.length=n
  ·rw[aT hl]at o';exact⟨by rw[h2.len];exact hl,ι,τ,hd,xs,h2,S,Rh,o'⟩
  ·rw[bA hl]at o';exact o'.elim
end
end MI
namespace K51
open L2 MI
noncomputable def a05(aa:SF):SE :=
 (s2 gIx (s2 gIx (sV 2) (sI 0)) (sA (ik false 2 aa) (ak (sV 1) (ak (sA uf (ak (s2 gIx (sV 2) (sI 0)) bw)) bw))))
noncomputable def uy(aa:SF):SS :=
 (dw (sIf (sT (s2 gGt (sA (ik false 2 aa) (ak (sV 0) (ak (sI 3) bw))) (sI 0)))
 (uo (a3l (sV 2) oN (oS (sA (ik false 2 aa) (ak (sV 0) (ak (s2 my (sA ad2 (ak (sA uf (ak (sV 2) bw)) (ak (sI 30) bw))) (sI 1)) bw))))))
 sNx)
 (uo (sMS a9t (sC (.str "")) (ak (sZ (mq (sRg vq (ak (sA (ik false 2 aa) (ak (sV 0) (ak (sI 6) bw))) bw)) t1 (a05 aa) [0,1])) bw))))
noncomputable def a6e(kj:SF)(nu:SF)(aa:SF)(jq:SF)(qe:SF)(ig:SF):SS :=
 (dw (a77 (sV 1) (ade 7 (iy (kN 2) (iy (kN 3) (iy (kN 4) (iy (kN 5) (iy (kN 6) (iy (kN 7) (iy (kN 8) a4x)))))))))
 (dw (sIf (sT (s2 hEq (sA (ik false 2 aa) (ak (sV 0) (ak (sI 9) bw))) (sI 0)))
 (dw (m7 9 (sMe true "Stream" "close" 1 kj (sV 2) bw))
 (a6s (sC (.bl true)) (sV 1) (sI 6)))
 (dw (m7 10 (sA (ik false 3 jq) (ak (sV 0) (ak (sV 3) (ak (sV 5) bw)))))
 (dw (m7 9 (sMe true "Stream" "feed" 2 nu (sV 2) (ak (sV 10) bw)))
 (dw (a6s (a3l (sV 5) (oS (sA uf (ak (sV 10) bw))) oN) (sV 1) (sI 3))
 (a6s (s2 my (sV 6) (sV 10)) (sV 1) (sI 4))))))
 (dw (m7 11 (sA (ik false 4 ig) (ak (sV 3) (ak (sV 4) (ak (s2 gIx (sV 1) (sI 4)) (ak (s2 gIx (sV 1) (sI 6)) bw))))))
 (dw (sIf (a6o (a4f (sA (ik false 2 qe) (ak (sV 9) (ak (sZ (a3l (s2 gIx (sV 11) (sI 0)) (oS (sV 7)) oN)) bw)))))
 aaw
 sNx)
 (dw (a6s (sA uf (ak (s2 gIx (sV 11) (sI 0)) bw)) (sV 1) (sI 5))
 (dw (ue (sML a5k (sV 9) (ak (sA a1c (ak (sI 1) (ak (sI 1) (ak (sI 1) bw)))) bw)))
 (uo (sC (.bl true)))))))))
noncomputable def aag(cu:SF)(ie:SF)(fj:SF)(lz:SF)(aa:SF)(n8:SF)(jh:SF)(ig:SF)(iz:SF)(dq:SF):SS :=
 (dw (a77 (sA (ik false 1 lz) (ak (sV 1) bw)) (a4g 2 (iy (kN 4) (iy (kN 5) a4x))))
 (ue (sML a5k (sV 2) (ak (sA a3f (ak (sA (aby "Stream" 1 fj) (ak (sV 4) bw)) (ak (sV 4) (ak (sA (ik false 1 jh) (ak (sV 4) bw)) (ak (a3l (sV 5) oN (oS (sI 80))) (ak (sC (.str "")) (ak (sI 0) (ak (sC (.bl false)) bw)))))))) bw))))
noncomputable def aah(cu:SF)(ie:SF)(fj:SF)(lz:SF)(aa:SF)(n8:SF)(jh:SF)(ig:SF)(iz:SF)(dq:SF):SS :=
 (dw (m7 6 (s2 gIx (sV 2) (sA (ik false 2 aa) (ak (sV 1) (ak (sA uf (ak (sV 2) bw)) bw)))))
 (dw (sIf (a6j (sT (s2 gLt (sA uf (ak (sV 2) bw)) (sI 10))) (sT (s2 hEq (sA (ik false 2 aa) (ak (sV 1) (ak (sI 6) bw))) (sI 0))))
 (ue (sML a5k (sV 2) (ak (s2 my (sA a3f (ak (sMe true "Stream" "twin" 1 ie (s2 gIx (sV 6) (sI 0)) bw) bw)) (a3l (sV 6) (oS (sI 1)) oN)) bw)))
 (sIf (a6j (sT (s2 hEq (sMe false "Stream" "state" 1 cu (s2 gIx (sV 6) (sI 0)) bw) (sC (.str "open")))) (a6o (a4f (sA (sN 2 n8) (ak (sV 1) (ak (sV 6) bw))))))
 aaw
 sNx))
 (dw (m7 6 (s2 gIx (sV 2) (sA (ik false 2 aa) (ak (sV 1) (ak (sA uf (ak (sV 2) bw)) bw)))))
 (sIf (a6o (a4f (sA (ik false 3 dq) (ak (s2 gIx (sV 6) (sI 0)) (ak (sA (ik false 4 ig) (ak (s2 gIx (sV 6) (sI 1)) (ak (s2 gIx (sV 6) (sI 2)) (ak (s2 gIx (sV 6) (sI 4)) (ak (s2 gIx (sV 6) (sI 6)) bw))))) (ak (s2 gIx (sV 6) (sI 4)) bw))))))
 aaw
 sNx))))
noncomputable def aai(cu:SF)(ie:SF)(fj:SF)(lz:SF)(aa:SF)(n8:SF)(jh:SF)(ig:SF)(iz:SF)(dq:SF):SS :=
 (sIf (a6o (a4f (sA (ik false 3 dq) (ak (s2 gIx (sV 6) (sI 0)) (ak (sA (ik false 4 ig) (ak (s2 gIx (sV 6) (sI 1)) (ak (s2 gIx (sV 6) (sI 2)) (ak (s2 gIx (sV 6) (sI 4)) (ak (s2 gIx (sV 6) (sI 6)) bw))))) (ak (s2 gIx (sV 6) (sI 4)) bw))))))
 aaw
 sNx)
noncomputable def am8(cu:SF)(ie:SF)(fj:SF)(lz:SF)(aa:SF)(n8:SF)(jh:SF)(ig:SF)(iz:SF)(dq:SF):SS :=
 (dw (m7 1 (sA (ik true 1 iz) (ak (sV 0) bw)))
 (dw (m7 2 (sA a3f bw))
 (dw (a3k (sRg vq (ak (sI 2) bw)) (kN 3) (aag cu ie fj lz aa n8 jh ig iz dq))
 (dw (a3k (sRg vq (ak (sI 30) bw)) (kN 3) (aah cu ie fj lz aa n8 jh ig iz dq))
 (dw (a3k (sIt (sV 2)) (kN 6) (aai cu ie fj lz aa n8 jh ig iz dq))
 (uo (sC (.bl true))))))))
end K51
namespace MI
open L2
theorem dj(ha:ME X E a fa)(hb:ME X E b fb)(hp:a9j b:=by exact λ_ _=>rfl):ME X E (.Subscript a b pos) (s2 gIx fa fb):=apo ha hb hp
theorem jt(i:Nat)(hN:X.N.Nodup)(he:ME X E e fa)(hi:X.N[i]? = some x:=by rfl)(hx:Loc X.env.scope x:=by first|exact Or.inl rfl|exact Or.inr rfl)(hs:swapsWith e (some (.Name x pos')) pos.line X.env=pure false:=by rfl)(hf:Hf X x:=by first|exact .inl rfl|exact .inr rfl|assumption) :
  MS X E (.Assign [.Name x pos'] e pos) (m7 i fa):=au8 hN hi hx he hs hf
theorem m9{X:Cx}(G:Dn X.prog X.w X.K X.mg X.base k x ps (a0i X.K n F) f fd)(hr:Room k' X.A)(hk:k<=k')(ha:MA X X0 (e::es) ka)(hg:Gl X x:=by rfl)
  (hdb:(x == ("__debug__" : Str))=false:=by decide) (he:starEach (e::es) X.env=(false,eval e X.env)::starEach es X.env:=by rfl) (hpl:(backTo pos (starEach es X.env)).any (·.1)=false:=by rfl):ME X X0 (.Call (.Name x p) (e::es) [] pos) (sA (ik false n F) ka):=aa2 false G (hr.mono hk) hg ha hdb he hpl
theorem p6(hm:X.mg "len" = none)(ha:MA X E [e] ka)(hg:Gl X "len":=by rfl)(he:starEach [e] X.env=(false,eval e X.env)::starEach [] X.env:=by rfl)(hpl:(backTo pos (starEach [] X.env)).any (·.1)=false:=by rfl):ME X E (.Call (.Name "len" p) [e] [] pos) (sA uf ka) :=
 a6q (L2.CallR.or ab9 aba) aps hg hm au2 ha (by decide) (by decide) he hpl
theorem qd(ho:OpR X (compareOp op) r)(hs:a3o X.K g r)(ha:ME X E a fa)(hb:ME X E b fb)(hm:behindInMarks op b=false:=by exact a8u _):MT X E (.Compare a [op] [b] pos) (sT (s2 g fa fb)):=a9p ho hs ha hb hm
theorem zb(hu:X.A.units+64<cLine)(ha:ME X E a fa)(hb:ME X E b fb):MT X E (.Compare a [.Eq] [b] pos) (sT (s2 hEq fa fb)):=a9p (ang hu) ahw ha hb (a8u _)
theorem pgn(i:Nat)(hN:N.Nodup:=by decide +kernel)(hi:N[i]? = some x:=by rfl)(hx:∀C fp s H,Loc (cxC X N aB cl C fp s H).env.scope x:=by exact λ_ _ _ _=>Or.inl rfl)(hf:∀C fp s H,(cxC X N aB cl C fp s H).fn x=true\/(cxC X N aB cl C fp s H).env.scope.names.lookup x=some .local:=by exact λ_ _ _ _=>.inr rfl) :
  ∀C fp s H,PG (cxC X N aB cl C fp s H) (.Name x pos) (af4 i):=λC fp s H=>agf (X:=cxC X N aB cl C fp s H) hN hi (hx C fp s H) (hf C fp s H)
def allP(P:α->Prop):List α->Prop
 |[]=>True
 |a::l=>P a/\allP P l
theorem allP.mem{P:α->Prop}:∀{l:List α},allP P l->∀a∈l,P a
 |b::l,h,a,m=>by
  rcases aR.mp m with rfl|m
  ·exact h.1
  ·exact h.2.mem a m
theorem a6f{X:Cx}(ts fr:List Str)(ix:List Nat)(clos:closureFor aB X.env=pure cl:=by rfl)(kind:aB.kind=.function:=by rfl)
  (nocell:(aB.names.all λp=>p.2 != .cell)=true:=by rfl) (names:(aB.names.all λp=>p.2 != .local || aB.names.lookup p.1 == some .local)=true:=by rfl) (sub:allP (λp=>X.env.cells.lookup p.1=some p.2) cl:=by repeat' constructor)
  (has:((relabel aB X.env).names.all λp => !(p.2 == .cell || p.2 == .free) || (cl.lookup p.1).isSome)=true:=by rfl) (nofn:(ts.all λy=>(relabel aB X.env).names.lookup y == some .local)=true:=by rfl)
  (len:ix.length=fr.length:=by rfl) (vis:((fr.zip ix).all λp=>X.N[p.2]? == some p.1 && (X.env.kindOf p.1 == some .cell || X.env.kindOf p.1 == some .free) && ((relabel aB X.env).names.lookup p.1 == some .cell || (relabel aB X.env).names.lookup p.1 == some .free))=true:=by rfl) :
  CSc X aB cl ts fr ix:=.of clos kind nocell names sub.mem has nofn len vis
theorem aio{aB:Scope}(ts:List Str)(kind:aB.kind=.function:=by rfl)(h:∀y∈aB.names,y.2≠.cell/\y.2≠.free:=by decide +kernel)(names:∀y∈aB.names,y.2=.local->aB.names.lookup y.1=some .local:=by decide +kernel)
  (ht:∀y∈ts,aB.names.lookup y=some .local:=by decide +kernel):CSc X aB [] ts [] []:=.noFree kind h names ht
section
variable{α:Type}{us:List α}
theorem len0{P:List α->Prop}(h:us.length=0)(k:P []):P us:=by cases us with|nil=>exact k|cons _ _=>cases h
theorem ag1{P:List α->Prop}(h:us.length=n+1)(k:∀a vs,vs.length=n->P (a::vs)):P us:=by cases us with|nil=>cases h|cons a vs=>exact k a vs (Nat.succ.inj h)
theorem b0d{P:List α->Prop}(h:us.length=1)(k:∀a,P [a]):P us:=ag1 h λa _ h=>len0 (P:=λus=>P (a::us)) h (k a)
theorem b0e{P:List α->Prop}(h:us.length=2)(k:∀a b,P [a,b]):P us:=ag1 h λa _ h=>b0d (P:=λus=>P (a::us)) h (k a)
theorem b0f{P:List α->Prop}(h:us.length=3)(k:∀a b c,P [a,b,c]):P us:=ag1 h λa _ h=>b0e (P:=λus=>P (a::us)) h (k a)
theorem b0g{P:List α->Prop}(h:us.length=4)(k:∀a b c d,P [a,b,c,d]):P us:=ag1 h λa _ h=>b0f (P:=λus=>P (a::us)) h (k a)
theorem b0h{P:List α->Prop}(h:us.length=5)(k:∀a b c d e,P [a,b,c,d,e]):P us:=ag1 h λa _ h=>b0g (P:=λus=>P (a::us)) h (k a)
theorem b1x{P:List α->Prop}(h:us.length=6)(k:∀a b c d e f,P [a,b,c,d,e,f]):P us:=ag1 h λa _ h=>b0h (P:=λus=>P (a::us)) h (k a)
end
end MI
namespace K51
open L2 MI
def cst(s:Stmt)(j:Nat):Stmt:=match s with
 |.ClassDef _ _ _ b _ _ _ _ _ _ _=>b.getD j (.Pass ⟨0,0,0,0⟩)
 |_=>s
def top(i:Nat):Stmt:=PySem.Challenge.pw_nearreach_k51_twins_and_two_at_once.main.body.getD i (.Pass ⟨0,0,0,0⟩)
structure Nm (mg:Str->Option Value):Prop where
 abs:mg "abs" = none
 all:mg "all" = none
 bool:mg "bool" = none
 int:mg "int" = none
 isinstance:mg "isinstance" = none
 len:mg "len" = none
 list:mg "list" = none
 min:mg "min" = none
 range:mg "range" = none
 sorted:mg "sorted" = none
 str:mg "str" = none
 sum:mg "sum" = none
 tuple:mg "tuple" = none
 zip:mg "zip" = none
section
variable{P:Program}{w:World}{K:Fg}{mg:Str->Option Value}{base:Heap}{f:Addr}
def MD(P:Program)(w:World)(K:Fg)(mg:Str->Option Value)(base:Heap)(f:Addr)(k:Nat)(N:List Str)(x:Str)(t:Stmt)(b:SS):Prop:=∀(cdv:Value) (A:Around) (outer:List Env) (s:Shared) (H:Hp) (E:XK),Room k (A.deeper (PyProof.Rows.envOfC x (az t) s.heap.objs.size f cdv))->MSs (a5b CX0 P w K mg base N x (az t) f cdv A outer s H E).nox X0 (jz t) b
local macro_rules|`(tactic|walk_at "sc") => `(tactic|exact⟨rfl,rfl,rfl,by decide +kernel,rfl,by decide +kernel,by decide +kernel⟩)
theorem b0i:FnScope ["tongue","thing"] ["tongue","thing"] (az (top 6)):=by walk_at "sc"
theorem m_0(M:Nm mg):MD P w K mg base f k ["tongue","thing"] "is_text" (top 6) (STP.wz):=λcdv A outer s H E hr =>
 have SC:=b0i
 (bu (jk (an5 (a6q (L2.CallR.or xm v5) a2u rfl M.isinstance um (aj (bh 1) (aj (acz rfl M.str ahe) au))) (an4 (a6q (acw rfl) apy rfl M.all au3 (aj (aav (zr rfl (a6f ["sign"] ["tongue"] [0]) (wk (bh 1)) (pgn 0) yo (λ_ _ _ _=>(a81 (apc.or ah0) apq (bh 0) (bh 1) (by with_unfolding_all rfl))))) au))))))
theorem b0j:FnScope ["tongue","thing"] ["tongue","thing"] (az (top 8)):=by walk_at "sc"
theorem m_1(D_0:Dn P w K mg base k_0 "is_text" ["tongue","thing"] (a0i K 2 F_0) a_0 d_0)(h_0:k_0<=k):MD P w K mg base f k ["tongue","thing"] "looked_text" (top 8) (STM.a5y F_0):=λcdv A outer s H E hr =>
 have SC:=b0j
 (ao (qw (a1e (yh (m9 D_0 hr h_0 (aj (bh 0) (aj (bh 1) au)))))
 a3g
 jd)
 (bu (jk (bh 1))))
theorem b0k:FnScope ["table","room","word"] ["table","room","word"] (az (top 9)):=by walk_at "sc"
theorem m_2(D_3:Dn P w K mg base k_3 "rooms_along" ["table","room","word"] (a0i K 3 F_3) a_3 d_3)(h_3:k_3<=k):MD P w K mg base f k ["table","room","word"] "room_from" (top 9) (STP.a02 F_3):=λcdv A outer s H E hr =>
 have SC:=b0k
 (bu (jk (dj (m9 D_3 hr h_3 (aj (bh 0) (aj (bh 1) (aj (bh 2) au)))) (a3q bc))))
theorem b0m:FnScope ["table","room","word","tongue","goes","kinds","rooms","sign"] ["table","room","word"] (az (top 10)):=by walk_at "sc"
theorem m_3:MD P w K mg base f k ["table","room","word","tongue","goes","kinds","rooms","sign"] "rooms_along" (top 10) (STP.vf):=λcdv A outer s H E hr =>
 have SC:=b0m
 (ao (a2f (bh 0) (a0o rfl (du (dz (i:=3) SC.nd rfl (Or.inl rfl)) (du (dz (i:=4) SC.nd rfl (Or.inl rfl)) (du (dz (i:=5) SC.nd rfl (Or.inl rfl)) xn)))))
 (ao (jt 6 SC.nd (zf (aj (bh 1) au)))
 (ao (ym bC rfl (wk (bh 2)) (dz (i:=7) SC.nd rfl (Or.inl rfl)) (bu (qu (a4y bG bH sr zy (bh 6) (aj (dj (dj (bh 4) (dj (bh 6) (a3q bc))) (afn PySem.F.slot_str_index PySem.F.type_str_index akx ahv (bh 3) (aj (bh 7) au))) au)))))
 (bu (jk (bh 6))))))
theorem b0n:FnScope ["table"] ["table"] (az (top 12)):=by walk_at "sc"
theorem m_4(M:Nm mg)(D_5:Dn P w K mg base k_5 "hope_word" ["table","start"] (a0i K 2 F_5) a_5 d_5)(h_5:k_5<=k):MD P w K mg base f k ["table"] "hope_words" (top 12) (RCH.xu F_5):=λcdv A outer s H E hr =>
 have SC:=b0n
 (bu (jk (a6r (L2.CallR.or yf (a0b rfl)) a3r rfl M.tuple a4a (aj (aav (zr rfl (a6f ["room"] ["table"] [0]) (zq rfl M.range (aj (p6 M.len (aj (dj (bh 0) bc) au)) au)) (pgn 0) yo (λ_ _ _ _=>(m9 D_5 hr h_5 (aj (bh 1) (aj (bh 0) au)))))) au))))
theorem b0o:FnScope ["table","start","tongue","goes","kinds","found","seen","looked","room","word","sign","to"] ["table","start"] (az (top 13)):=by walk_at "sc"
theorem m_5(M:Nm mg):MD P w K mg base f k ["table","start","tongue","goes","kinds","found","seen","looked","room","word","sign","to"] "hope_word" (top 13) (RCH.a01):=λcdv A outer s H E hr =>
 have SC:=b0o
 (ao (a2f (bh 0) (a0o rfl (du (dz (i:=2) SC.nd rfl (Or.inl rfl)) (du (dz (i:=3) SC.nd rfl (Or.inl rfl)) (du (dz (i:=4) SC.nd rfl (Or.inl rfl)) xn)))))
 (ao (jt 5 SC.nd (zf (aj (yj (aj (bh 1) (aj qz au))) au)))
 (ao (jt 6 SC.nd (az2 (bh 1) a6n))
 (ao (jt 7 SC.nd bc)
 (ao (a5h 100000 bC (qd (a8m.or wj) a4n (bh 7) (p6 M.len (aj (bh 5) au))) (ao (a2f (dj (bh 5) (bh 7)) (a0o rfl (du (dz (i:=8) SC.nd rfl (Or.inl rfl)) (du (dz (i:=9) SC.nd rfl (Or.inl rfl)) xn))))
 (ao (ym bC rfl (anj rfl M.zip ank (bh 2) (dj (bh 3) (bh 8))) (a0o rfl (du (dz (i:=10) SC.nd rfl (Or.inl rfl)) (du (dz (i:=11) SC.nd rfl (Or.inl rfl)) xn))) (ao (qw (qd (a5n hr.u) a2q (dj (bh 4) (bh 11)) (a3q bc))
 (bu (jk (qi (bh 9) (bh 10))))
 jd)
 (bu (qw (a9p (aid hr.u) afu (bh 11) (bh 6) (by with_unfolding_all rfl))
 (ao (aqf hr.u a6n (bh 6) (bh 11))
 (bu (qu (a4y bG bH sr zy (bh 5) (aj (yj (aj (bh 11) (aj (qi (bh 9) (bh 10)) au))) au)))))
 jd))))
 (bu (ae1 (i:=7) SC.nd rfl (Or.inl rfl) (a2m.or ul) a0j bc)))))
 (bu (jk a1d)))))))
theorem b0p:FnScope ["table"] ["table"] (az (top 14)):=by walk_at "sc"
theorem m_6(M:Nm mg)(D_4:Dn P w K mg base k_4 "hope_words" ["table"] (a0i K 1 F_4) a_4 d_4)(h_4:k_4<=k):MD P w K mg base f k ["table"] "hopes" (top 14) (RCH.a6v F_4):=λcdv A outer s H E hr =>
 have SC:=b0p
 (bu (jk (a6r (L2.CallR.or yf (a0b rfl)) a3r rfl M.tuple a4a (aj (aav (zr rfl (aio ["word"]) (wk (m9 D_4 hr h_4 (aj (bh 0) au))) (pgn 0) yo (λ_ _ _ _=>(a81 (acp.or a4w) a84 (bh 0) a1d (a8u _))))) au))))
theorem b0q:FnScope ["self","table"] ["self","table"] (az (cst (top 16) 0)):=by walk_at "sc"
theorem m_7{k:Nat}{C_Stream:Addr}(Q_Stream:CK K mg "Stream" C_Stream ["table","hope","phase","start","fed","at","room","last","rest"]){a_6:Addr}{d_6:FuncData}{k_6:Nat}{F_6:SF}(D_6:Dn P w K mg base k_6 "hopes" ["table"] (a0i K 1 F_6) a_6 d_6)(h_6:k_6<=k)(cdv:Value)(A:Around)(outer:List Env)(s:Shared)(H:Hp)(E:XK)(hr:Room k (A.deeper (PyProof.Rows.envOfC "Reader.__init__" (az (cst (top 16) 0)) s.heap.objs.size f cdv))):MSs (a5b CX0 P w K mg base ["self","table"] "Reader.__init__" (az (cst (top 16) 0)) f cdv A outer s H E).nox X0 (jz (cst (top 16) 0)) (STM.a5z F_6) :=
 have SC:=b0q
 (ao (a0h Q_Stream (by decide +kernel) (bh 0) (bh 1))
 (ao (a0h Q_Stream (by decide +kernel) (bh 0) (m9 D_6 hr h_6 (aj (bh 1) au)))
 (ao (a0h Q_Stream (by decide +kernel) (bh 0) qz)
 (ao (a0h Q_Stream (by decide +kernel) (bh 0) bc)
 (bu (a0h Q_Stream (by decide +kernel) (bh 0) bc))))))
theorem b0r:FnScope ["self"] ["self"] (az (cst (top 16) 1)):=by walk_at "sc"
theorem m_8{k:Nat}{C_Stream:Addr}(Q_Stream:CK K mg "Stream" C_Stream ["table","hope","phase","start","fed","at","room","last","rest"])(cdv:Value)(A:Around)(outer:List Env)(s:Shared)(H:Hp)(E:XK)(hr:Room k (A.deeper (PyProof.Rows.envOfC "Reader.state" (az (cst (top 16) 1)) s.heap.objs.size f cdv))):MSs (a5b CX0 P w K mg base ["self"] "Reader.state" (az (cst (top 16) 1)) f cdv A outer s H E).nox X0 (jz (cst (top 16) 1)) (STM.a4q) :=
 have SC:=b0r
 (bu (jk (nq Q_Stream (by decide +kernel) (bh 0))))
theorem b0s:FnScope ["self"] ["self"] (az (cst (top 16) 2)):=by walk_at "sc"
theorem m_9{k:Nat}{C_Stream:Addr}(Q_Stream:CK K mg "Stream" C_Stream ["table","hope","phase","start","fed","at","room","last","rest"])(cdv:Value)(A:Around)(outer:List Env)(s:Shared)(H:Hp)(E:XK)(hr:Room k (A.deeper (PyProof.Rows.envOfC "Reader.seen" (az (cst (top 16) 2)) s.heap.objs.size f cdv))):MSs (a5b CX0 P w K mg base ["self"] "Reader.seen" (az (cst (top 16) 2)) f cdv A outer s H E).nox X0 (jz (cst (top 16) 2)) (STM.a65) :=
 have SC:=b0s
 (bu (jk (nq Q_Stream (by decide +kernel) (bh 0))))
theorem avh:FnScope ["self"] ["self"] (az (cst (top 16) 3)):=by walk_at "sc"
theorem b1y{k:Nat}{C_Stream:Addr}(Q_Stream:CK K mg "Stream" C_Stream ["table","hope","phase","start","fed","at","room","last","rest"])(cdv:Value)(A:Around)(outer:List Env)(s:Shared)(H:Hp)(E:XK)(hr:Room k (A.deeper (PyProof.Rows.envOfC "Reader.stopped_at" (az (cst (top 16) 3)) s.heap.objs.size f cdv))):MSs (a5b CX0 P w K mg base ["self"] "Reader.stopped_at" (az (cst (top 16) 3)) f cdv A outer s H E).nox X0 (jz (cst (top 16) 3)) (STM.a0x) :=
 have SC:=avh
 (bu (jk (a8z (zb hr.u (nq Q_Stream (by decide +kernel) (bh 0)) qz) (nq Q_Stream (by decide +kernel) (bh 0)) a1d)))
theorem avi:FnScope ["self"] ["self"] (az (cst (top 16) 4)):=by walk_at "sc"
theorem b1z{k:Nat}{C_Stream:Addr}(Q_Stream:CK K mg "Stream" C_Stream ["table","hope","phase","start","fed","at","room","last","rest"])(cdv:Value)(A:Around)(outer:List Env)(s:Shared)(H:Hp)(E:XK)(hr:Room k (A.deeper (PyProof.Rows.envOfC "Reader.look_ended" (az (cst (top 16) 4)) s.heap.objs.size f cdv))):MSs (a5b CX0 P w K mg base ["self"] "Reader.look_ended" (az (cst (top 16) 4)) f cdv A outer s H E).nox X0 (jz (cst (top 16) 4)) (STM.a0y) :=
 have SC:=avi
 (ao (qw (zb hr.u (nq Q_Stream (by decide +kernel) (bh 0)) qz)
 a3g
 jd)
 (bu (qw (zb hr.u (nq Q_Stream (by decide +kernel) (bh 0)) qz)
 a3g
 jd)))
theorem avj:FnScope ["self","part"] ["self","part"] (az (cst (top 16) 5)):=by walk_at "sc"
theorem b20{k:Nat}(M:Nm mg){C_Stream:Addr}(Q_Stream:CK K mg "Stream" C_Stream ["table","hope","phase","start","fed","at","room","last","rest"]){a_11:Addr}{d_11:FuncData}{k_11:Nat}{F_11:SF}(D_11:Dm P w K mg base k_11 C_Stream "look_ended" ["self"] 1 F_11 a_11 d_11)(h_11:k_11<=k){a_1:Addr}{d_1:FuncData}{k_1:Nat}{F_1:SF}(D_1:Dn P w K mg base k_1 "looked_text" ["tongue","thing"] (a0i K 2 F_1) a_1 d_1)(h_1:k_1<=k)(cdv:Value)(A:Around)(outer:List Env)(s:Shared)(H:Hp)(E:XK)(hr:Room k (A.deeper (PyProof.Rows.envOfC "Reader.take" (az (cst (top 16) 5)) s.heap.objs.size f cdv))):MSs (a5b CX0 P w K mg base ["self","part"] "Reader.take" (az (cst (top 16) 5)) f cdv A outer s H E).nox X0 (jz (cst (top 16) 5)) (STM.a66 F_11 F_1) :=
 have SC:=avj
 (ao (qu (qt false Q_Stream D_11 (hr.mono h_11) (bh 0)))
 (bu (adc Q_Stream (by decide +kernel) (bh 0) (p6 M.len (aj (m9 D_1 hr h_1 (aj (dj (nq Q_Stream (by decide +kernel) (bh 0)) bc) (aj (bh 1) au))) au)) (a2m.or ul) a0j)))
theorem avk:FnScope ["self","table"] ["self","table"] (az (cst (top 17) 0)):=by walk_at "sc"
theorem b21{k:Nat}{C_Stream:Addr}(Q_Stream:CK K mg "Stream" C_Stream ["table","hope","phase","start","fed","at","room","last","rest"]){a_7:Addr}{d_7:FuncData}{k_7:Nat}{F_7:SF}(D_7:Dc P w K mg base k_7 "Reader" "__init__" ["self","table"] 2 F_7 a_7 d_7)(h_7:k_7<=k){a_14:Addr}{d_14:FuncData}{k_14:Nat}{F_14:SF}(D_14:Dm P w K mg base k_14 C_Stream "begin" ["self","place"] 2 F_14 a_14 d_14)(h_14:k_14<=k)(cdv:Value)(A:Around)(outer:List Env)(s:Shared)(H:Hp)(E:XK)(hr:Room k (A.deeper (PyProof.Rows.envOfC "Walker.__init__" (az (cst (top 17) 0)) s.heap.objs.size f cdv))):MSs (a5b CX0 P w K mg base ["self","table"] "Walker.__init__" (az (cst (top 17) 0)) f cdv A outer s H E).nox X0 (jz (cst (top 17) 0)) (STM.a67 F_7 F_14) :=
 have SC:=avk
 (ao (qu (aqv false D_7 (hr.mono h_7) rfl (aj (bh 0) (aj (bh 1) au))))
 (bu (qu (a1z false Q_Stream D_14 (hr.mono h_14) (bh 0) (aj bc au)))))
theorem avl:FnScope ["self","place"] ["self","place"] (az (cst (top 17) 1)):=by walk_at "sc"
theorem b22{k:Nat}{C_Stream:Addr}(Q_Stream:CK K mg "Stream" C_Stream ["table","hope","phase","start","fed","at","room","last","rest"])(cdv:Value)(A:Around)(outer:List Env)(s:Shared)(H:Hp)(E:XK)(hr:Room k (A.deeper (PyProof.Rows.envOfC "Walker.begin" (az (cst (top 17) 1)) s.heap.objs.size f cdv))):MSs (a5b CX0 P w K mg base ["self","place"] "Walker.begin" (az (cst (top 17) 1)) f cdv A outer s H E).nox X0 (jz (cst (top 17) 1)) (STM.a4r) :=
 have SC:=avl
 (ao (a0h Q_Stream (by decide +kernel) (bh 0) (bh 1))
 (ao (a0h Q_Stream (by decide +kernel) (bh 0) (bh 1))
 (ao (a0h Q_Stream (by decide +kernel) (bh 0) bc)
 (ao (a0h Q_Stream (by decide +kernel) (bh 0) a1d)
 (bu (a0h Q_Stream (by decide +kernel) (bh 0) qz))))))
theorem avm:FnScope ["self","part"] ["self","part"] (az (cst (top 17) 2)):=by walk_at "sc"
theorem b23{k:Nat}{C_Stream:Addr}(Q_Stream:CK K mg "Stream" C_Stream ["table","hope","phase","start","fed","at","room","last","rest"]){a_12:Addr}{d_12:FuncData}{k_12:Nat}{F_12:SF}(D_12:Dm P w K mg base k_12 C_Stream "take" ["self","part"] 2 F_12 a_12 d_12)(h_12:k_12<=k){a_17:Addr}{d_17:FuncData}{k_17:Nat}{F_17:SF}(D_17:Dm P w K mg base k_17 C_Stream "read" ["self","signs"] 2 F_17 a_17 d_17)(h_17:k_17<=k)(cdv:Value)(A:Around)(outer:List Env)(s:Shared)(H:Hp)(E:XK)(hr:Room k (A.deeper (PyProof.Rows.envOfC "Walker.feed" (az (cst (top 17) 2)) s.heap.objs.size f cdv))):MSs (a5b CX0 P w K mg base ["self","part"] "Walker.feed" (az (cst (top 17) 2)) f cdv A outer s H E).nox X0 (jz (cst (top 17) 2)) (STM.a68 F_12 F_17) :=
 have SC:=avm
 (ao (qu (a1z false Q_Stream D_12 (hr.mono h_12) (bh 0) (aj (bh 1) au)))
 (bu (jk (a1z true Q_Stream D_17 (hr.mono h_17) (bh 0) (aj (bh 1) au)))))
theorem avn:FnScope ["self","told","again"] ["self"] (az (cst (top 17) 3)):=by walk_at "sc"
theorem b24{k:Nat}{C_Stream:Addr}(Q_Stream:CK K mg "Stream" C_Stream ["table","hope","phase","start","fed","at","room","last","rest"]){a_11:Addr}{d_11:FuncData}{k_11:Nat}{F_11:SF}(D_11:Dm P w K mg base k_11 C_Stream "look_ended" ["self"] 1 F_11 a_11 d_11)(h_11:k_11<=k){a_22:Addr}{d_22:FuncData}{k_22:Nat}{F_22:SF}(D_22:Dm P w K mg base k_22 C_Stream "settle" ["self","told"] 2 F_22 a_22 d_22)(h_22:k_22<=k){a_17:Addr}{d_17:FuncData}{k_17:Nat}{F_17:SF}(D_17:Dm P w K mg base k_17 C_Stream "read" ["self","signs"] 2 F_17 a_17 d_17)(h_17:k_17<=k)(cdv:Value)(A:Around)(outer:List Env)(s:Shared)(H:Hp)(E:XK)(hr:Room k (A.deeper (PyProof.Rows.envOfC "Walker.close" (az (cst (top 17) 3)) s.heap.objs.size f cdv))):MSs (a5b CX0 P w K mg base ["self","told","again"] "Walker.close" (az (cst (top 17) 3)) f cdv A outer s H E).nox X0 (jz (cst (top 17) 3)) (STM.a0a F_11 F_22 F_17) :=
 have SC:=avn
 (ao (qu (qt false Q_Stream D_11 (hr.mono h_11) (bh 0)))
 (ao (jt 1 SC.nd (zf au))
 (ao (a5h 100000 bC (PW.pt (a5g (zb hr.u (nq Q_Stream (by decide +kernel) (bh 0)) qz) (a2n (qd (a8m.or wj) a4n (nq Q_Stream (by decide +kernel) (bh 0)) (nq Q_Stream (by decide +kernel) (bh 0)))))) (ao (jt 2 SC.nd (a1z false Q_Stream D_22 (hr.mono h_22) (bh 0) (aj (bh 1) au)))
 (bu (qu (a4y PySem.F.slot_list_extend PySem.F.type_list_extend (MtR.or afr afk) alj (bh 1) (aj (a1z false Q_Stream D_17 (hr.mono h_17) (bh 0) (aj (bh 2) au)) au))))))
 (ao (qw (zb hr.u (nq Q_Stream (by decide +kernel) (bh 0)) qz)
 (bu (a0h Q_Stream (by decide +kernel) (bh 0) qz))
 jd)
 (bu (jk (bh 1)))))))
theorem avo:FnScope ["self","signs","told","left"] ["self","signs"] (az (cst (top 17) 4)):=by walk_at "sc"
theorem b26{k:Nat}{C_Stream:Addr}(Q_Stream:CK K mg "Stream" C_Stream ["table","hope","phase","start","fed","at","room","last","rest"]){a_22:Addr}{d_22:FuncData}{k_22:Nat}{F_22:SF}(D_22:Dm P w K mg base k_22 C_Stream "settle" ["self","told"] 2 F_22 a_22 d_22)(h_22:k_22<=k){a_18:Addr}{d_18:FuncData}{k_18:Nat}{F_18:SF}(D_18:Dm P w K mg base k_18 C_Stream "go" ["self","sign"] 2 F_18 a_18 d_18)(h_18:k_18<=k)(cdv:Value)(A:Around)(outer:List Env)(s:Shared)(H:Hp)(E:XK)(hr:Room k (A.deeper (PyProof.Rows.envOfC "Walker.read" (az (cst (top 17) 4)) s.heap.objs.size f cdv))):MSs (a5b CX0 P w K mg base ["self","signs","told","left"] "Walker.read" (az (cst (top 17) 4)) f cdv A outer s H E).nox X0 (jz (cst (top 17) 4)) (STM.vg F_22 F_18) :=
 have SC:=avo
 (ao (jt 2 SC.nd (zf au))
 (ao (jt 3 SC.nd (bh 1))
 (ao (a5h 100000 bC (PW.pt (a5g (qd (a5n hr.u) a2q (bh 3) qz) (a2n (zb hr.u (nq Q_Stream (by decide +kernel) (bh 0)) qz)))) (ao (qu (a1z false Q_Stream D_18 (hr.mono h_18) (bh 0) (aj (dj (bh 3) bc) au)))
 (ao (jt 3 SC.nd (u6 (bh 3) (zx bc) zu))
 (bu (qw (a1e (yh (dj (nq Q_Stream (by decide +kernel) (bh 0)) (nq Q_Stream (by decide +kernel) (bh 0)))))
 (bu (jt 3 SC.nd (qi (a1z false Q_Stream D_22 (hr.mono h_22) (bh 0) (aj (bh 2) au)) (bh 3))))
 jd)))))
 (bu (jk (bh 2))))))
theorem avp:FnScope ["self","sign","kind"] ["self","sign"] (az (cst (top 17) 5)):=by walk_at "sc"
theorem b27{k:Nat}{C_Stream:Addr}(Q_Stream:CK K mg "Stream" C_Stream ["table","hope","phase","start","fed","at","room","last","rest"]){a_2:Addr}{d_2:FuncData}{k_2:Nat}{F_2:SF}(D_2:Dn P w K mg base k_2 "room_from" ["table","room","word"] (a0i K 3 F_2) a_2 d_2)(h_2:k_2<=k)(cdv:Value)(A:Around)(outer:List Env)(s:Shared)(H:Hp)(E:XK)(hr:Room k (A.deeper (PyProof.Rows.envOfC "Walker.go" (az (cst (top 17) 5)) s.heap.objs.size f cdv))):MSs (a5b CX0 P w K mg base ["self","sign","kind"] "Walker.go" (az (cst (top 17) 5)) f cdv A outer s H E).nox X0 (jz (cst (top 17) 5)) (STM.a2w F_2) :=
 have SC:=avp
 (ao (adc Q_Stream (by decide +kernel) (bh 0) bc (a2m.or ul) a0j)
 (ao (a0h Q_Stream (by decide +kernel) (bh 0) (m9 D_2 hr h_2 (aj (nq Q_Stream (by decide +kernel) (bh 0)) (aj (nq Q_Stream (by decide +kernel) (bh 0)) (aj (bh 1) au)))))
 (ao (jt 2 SC.nd (dj (dj (nq Q_Stream (by decide +kernel) (bh 0)) bc) (nq Q_Stream (by decide +kernel) (bh 0))))
 (bu (qw (qd (a5n hr.u) a2q (bh 2) (a3q bc))
 (ao (a0h Q_Stream (by decide +kernel) (bh 0) (yj (aj (bh 2) (aj (nq Q_Stream (by decide +kernel) (bh 0)) au))))
 (bu (a0h Q_Stream (by decide +kernel) (bh 0) qz)))
 (bu (qw (qd (acp.or a4w) a84 (nq Q_Stream (by decide +kernel) (bh 0)) a1d)
 (bu (adc Q_Stream (by decide +kernel) (bh 0) (bh 1) (a2m.or ul) a0j))
 jd)))))))
theorem avq:FnScope ["self","kind","end","again"] ["self"] (az (cst (top 17) 6)):=by walk_at "sc"
theorem b28{k:Nat}{C_Stream:Addr}(Q_Stream:CK K mg "Stream" C_Stream ["table","hope","phase","start","fed","at","room","last","rest"]){a_14:Addr}{d_14:FuncData}{k_14:Nat}{F_14:SF}(D_14:Dm P w K mg base k_14 C_Stream "begin" ["self","place"] 2 F_14 a_14 d_14)(h_14:k_14<=k)(cdv:Value)(A:Around)(outer:List Env)(s:Shared)(H:Hp)(E:XK)(hr:Room k (A.deeper (PyProof.Rows.envOfC "Walker.go_behind" (az (cst (top 17) 6)) s.heap.objs.size f cdv))):MSs (a5b CX0 P w K mg base ["self","kind","end","again"] "Walker.go_behind" (az (cst (top 17) 6)) f cdv A outer s H E).nox X0 (jz (cst (top 17) 6)) (STM.a1n F_14) :=
 have SC:=avq
 (ao (a2f (nq Q_Stream (by decide +kernel) (bh 0)) (a0o rfl (du (dz (i:=1) SC.nd rfl (Or.inl rfl)) (du (dz (i:=2) SC.nd rfl (Or.inl rfl)) xn))))
 (ao (jt 3 SC.nd (nq Q_Stream (by decide +kernel) (bh 0)))
 (ao (qu (a1z false Q_Stream D_14 (hr.mono h_14) (bh 0) (aj (bh 2) au)))
 (bu (jk (bh 3))))))
theorem avr:FnScope ["self"] ["self"] (az (cst (top 17) 7)):=by walk_at "sc"
theorem b29{k:Nat}{C_Stream:Addr}(Q_Stream:CK K mg "Stream" C_Stream ["table","hope","phase","start","fed","at","room","last","rest"]){a_14:Addr}{d_14:FuncData}{k_14:Nat}{F_14:SF}(D_14:Dm P w K mg base k_14 C_Stream "begin" ["self","place"] 2 F_14 a_14 d_14)(h_14:k_14<=k)(cdv:Value)(A:Around)(outer:List Env)(s:Shared)(H:Hp)(E:XK)(hr:Room k (A.deeper (PyProof.Rows.envOfC "Walker.stop" (az (cst (top 17) 7)) s.heap.objs.size f cdv))):MSs (a5b CX0 P w K mg base ["self"] "Walker.stop" (az (cst (top 17) 7)) f cdv A outer s H E).nox X0 (jz (cst (top 17) 7)) (STM.a69 F_14) :=
 have SC:=avr
 (ao (a0h Q_Stream (by decide +kernel) (bh 0) qz)
 (ao (qu (a1z false Q_Stream D_14 (hr.mono h_14) (bh 0) (aj (nq Q_Stream (by decide +kernel) (bh 0)) au)))
 (bu (jk qz))))
theorem avs:FnScope ["self"] ["self"] (az (cst (top 17) 8)):=by walk_at "sc"
theorem b2a{k:Nat}{C_Stream:Addr}(Q_Stream:CK K mg "Stream" C_Stream ["table","hope","phase","start","fed","at","room","last","rest"])(cdv:Value)(A:Around)(outer:List Env)(s:Shared)(H:Hp)(E:XK)(hr:Room k (A.deeper (PyProof.Rows.envOfC "Walker.kept" (az (cst (top 17) 8)) s.heap.objs.size f cdv))):MSs (a5b CX0 P w K mg base ["self"] "Walker.kept" (az (cst (top 17) 8)) f cdv A outer s H E).nox X0 (jz (cst (top 17) 8)) (STM.a6a) :=
 have SC:=avs
 (bu (jk (nq Q_Stream (by decide +kernel) (bh 0))))
theorem avt:FnScope ["self","told","kind","end"] ["self","told"] (az (cst (top 19) 0)):=by walk_at "sc"
theorem b2b{k:Nat}{C_Stream:Addr}(Q_Stream:CK K mg "Stream" C_Stream ["table","hope","phase","start","fed","at","room","last","rest"]){a_19:Addr}{d_19:FuncData}{k_19:Nat}{F_19:SF}(D_19:Dm P w K mg base k_19 C_Stream "go_behind" ["self"] 1 F_19 a_19 d_19)(h_19:k_19<=k){a_20:Addr}{d_20:FuncData}{k_20:Nat}{F_20:SF}(D_20:Dm P w K mg base k_20 C_Stream "stop" ["self"] 1 F_20 a_20 d_20)(h_20:k_20<=k)(cdv:Value)(A:Around)(outer:List Env)(s:Shared)(H:Hp)(E:XK)(hr:Room k (A.deeper (PyProof.Rows.envOfC "Stream.settle" (az (cst (top 19) 0)) s.heap.objs.size f cdv))):MSs (a5b CX0 P w K mg base ["self","told","kind","end"] "Stream.settle" (az (cst (top 19) 0)) f cdv A outer s H E).nox X0 (jz (cst (top 19) 0)) (STM.a3x F_19 F_20) :=
 have SC:=avt
 (ao (qw (qd (adp.or a7g) ae9 (nq Q_Stream (by decide +kernel) (bh 0)) a1d)
 (bu (jk (qt false Q_Stream D_20 (hr.mono h_20) (bh 0))))
 jd)
 (ao (a2f (nq Q_Stream (by decide +kernel) (bh 0)) (a0o rfl (du (dz (i:=2) SC.nd rfl (Or.inl rfl)) (du (dz (i:=3) SC.nd rfl (Or.inl rfl)) xn))))
 (ao (qu (a4y bG bH sr zy (bh 1) (aj (yj (aj (bh 2) (aj (nq Q_Stream (by decide +kernel) (bh 0)) (aj (bh 3) au)))) au)))
 (bu (jk (qt false Q_Stream D_19 (hr.mono h_19) (bh 0)))))))
theorem avu:FnScope ["self"] ["self"] (az (cst (top 19) 1)):=by walk_at "sc"
theorem b2c{k:Nat}{C_Stream:Addr}(Q_Stream:CK K mg "Stream" C_Stream ["table","hope","phase","start","fed","at","room","last","rest"]){a_10:Addr}{d_10:FuncData}{k_10:Nat}{F_10:SF}(D_10:Dm P w K mg base k_10 C_Stream "stopped_at" ["self"] 1 F_10 a_10 d_10)(h_10:k_10<=k)(cdv:Value)(A:Around)(outer:List Env)(s:Shared)(H:Hp)(E:XK)(hr:Room k (A.deeper (PyProof.Rows.envOfC "Stream.fault" (az (cst (top 19) 1)) s.heap.objs.size f cdv))):MSs (a5b CX0 P w K mg base ["self"] "Stream.fault" (az (cst (top 19) 1)) f cdv A outer s H E).nox X0 (jz (cst (top 19) 1)) (STM.a4s F_10) :=
 have SC:=avu
 (bu (jk (qt false Q_Stream D_10 (hr.mono h_10) (bh 0))))
theorem avv:FnScope ["self"] ["self"] (az (cst (top 19) 2)):=by walk_at "sc"
theorem b2d{k:Nat}{C_Stream:Addr}(Q_Stream:CK K mg "Stream" C_Stream ["table","hope","phase","start","fed","at","room","last","rest"])(cdv:Value)(A:Around)(outer:List Env)(s:Shared)(H:Hp)(E:XK)(hr:Room k (A.deeper (PyProof.Rows.envOfC "Stream.stand" (az (cst (top 19) 2)) s.heap.objs.size f cdv))):MSs (a5b CX0 P w K mg base ["self"] "Stream.stand" (az (cst (top 19) 2)) f cdv A outer s H E).nox X0 (jz (cst (top 19) 2)) (TWN.a4t) :=
 have SC:=avv
 (bu (jk (yj (aj (nq Q_Stream (by decide +kernel) (bh 0)) (aj (nq Q_Stream (by decide +kernel) (bh 0)) (aj (nq Q_Stream (by decide +kernel) (bh 0)) (aj (nq Q_Stream (by decide +kernel) (bh 0)) (aj (nq Q_Stream (by decide +kernel) (bh 0)) (aj (nq Q_Stream (by decide +kernel) (bh 0)) au)))))))))
theorem avw:FnScope ["self"] ["self"] (az (cst (top 19) 3)):=by walk_at "sc"
theorem b2e{k:Nat}{C_Stream:Addr}(Q_Stream:CK K mg "Stream" C_Stream ["table","hope","phase","start","fed","at","room","last","rest"]){a_24:Addr}{d_24:FuncData}{k_24:Nat}{F_24:SF}(D_24:Dm P w K mg base k_24 C_Stream "stand" ["self"] 1 F_24 a_24 d_24)(h_24:k_24<=k){a_26:Addr}{d_26:FuncData}{k_26:Nat}{F_26:SF}(D_26:Dn P w K mg base k_26 "resumed" ["table","stand"] (a0i K 2 F_26) a_26 d_26)(h_26:k_26<=k)(cdv:Value)(A:Around)(outer:List Env)(s:Shared)(H:Hp)(E:XK)(hr:Room k (A.deeper (PyProof.Rows.envOfC "Stream.twin" (az (cst (top 19) 3)) s.heap.objs.size f cdv))):MSs (a5b CX0 P w K mg base ["self"] "Stream.twin" (az (cst (top 19) 3)) f cdv A outer s H E).nox X0 (jz (cst (top 19) 3)) (TWN.a6c F_24 F_26) :=
 have SC:=avw
 (bu (jk (aa2 true D_26 (hr.mono h_26) rfl (aj (nq Q_Stream (by decide +kernel) (bh 0)) (aj (qt false Q_Stream D_24 (hr.mono h_24) (bh 0)) au)))))
theorem avx:FnScope ["table","stand","stream"] ["table","stand"] (az (top 20)):=by walk_at "sc"
theorem b2f(Q_Stream:CK K mg "Stream" C_Stream ["table","hope","phase","start","fed","at","room","last","rest"])(D_13:Di P w K mg base k_13 "Stream" C_Stream ["table","hope","phase","start","fed","at","room","last","rest"] ["self","table"] 1 F_13 a_13 d_13)(h_13:k_13+1<=k):MD P w K mg base f k ["table","stand","stream"] "resumed" (top 20) (TWN.a6d F_13):=λcdv A outer s H E hr =>
 have SC:=avx
 (ao (jt 2 SC.nd (ave D_13 hr h_13 (aj (bh 0) au)))
 (ao (a2f (bh 1) (a0o rfl (du (a9b Q_Stream (by decide +kernel) (bh 2)) (du (a9b Q_Stream (by decide +kernel) (bh 2)) (du (a9b Q_Stream (by decide +kernel) (bh 2)) (du (a9b Q_Stream (by decide +kernel) (bh 2)) (du (a9b Q_Stream (by decide +kernel) (bh 2)) (du (a9b Q_Stream (by decide +kernel) (bh 2)) xn))))))))
 (ao (a0h Q_Stream (by decide +kernel) (bh 2) (nq Q_Stream (by decide +kernel) (bh 2)))
 (bu (jk (bh 2))))))
theorem avy:FnScope ["_law_script","_law_cells"] ["_law_script"] (az (top 22)):=by walk_at "sc"
theorem b2g(M:Nm mg):MD P w K mg base f k ["_law_script","_law_cells"] "_law_source" (top 22) (SRC.a1g):=λcdv A outer s H E hr =>
 have SC:=avy
 (ao (a5p (i:=1) SC.nd rfl (Or.inl rfl) rfl (aio ["_law_cell"]) (wk (aav (u6 (bh 0) zu (zx bc)))) (pgn 0) yo (λ_ _ _ _=>(qi (aa4 bc (a6q akg apt rfl M.abs au4 (aj (bh 0) au))) (a6r agn apv rfl M.int an3 (aj (a81 (a8m.or wj) a4n (bh 0) bc (a8u _)) au)))))
 (bu (jk (zf (aj (bh 1) (aj bc (aj bc (aj bc (aj (a91 (a6q (afj rfl) apz rfl M.sum aup (aj (bh 1) au)) bc) au)))))))))
theorem avz:FnScope ["_law_left","_law_many","_law_cell","_law_told"] ["_law_left","_law_many"] (az (top 23)):=by walk_at "sc"
theorem b2h(M:Nm mg):MD P w K mg base f k ["_law_left","_law_many","_law_cell","_law_told"] "_law_draw" (top 23) (SRC.a4c):=λcdv A outer s H E hr =>
 have SC:=avz
 (ao (ad8 (bh 0) bc bc (a2m.or ul) a0j)
 (ao (qw (PW.pt (a5g (zb hr.u (dj (bh 0) bc) bc) (a2n (qd (a8m.or wj) a4n (dj (bh 0) bc) (p6 M.len (aj (dj (bh 0) bc) au))))))
 (ao (jt 2 SC.nd (dj (dj (bh 0) bc) (dj (bh 0) bc)))
 (ao (ad8 (bh 0) bc bc (a2m.or ul) a0j)
 (bu (qw (qd ake ae6 (bh 2) (aho bc bc))
 (bu (a4m (bh 2) (bh 0) bc))
 (bu (a4m (a91 (qi (aa4 (dj (bh 0) bc) bc) (bh 2)) bc) (bh 0) bc))))))
 jd)
 (ao (qw (qd aok ahp (dj (bh 0) bc) bc)
 (ao (jt 3 SC.nd (a91 (dj (bh 0) bc) (bh 1)))
 (ao (ad8 (bh 0) bc (bh 1) akd ahl)
 (bu (jk (bh 3)))))
 jd)
 (ao (jt 3 SC.nd (a91 (aho (qi (qi (dj (bh 0) bc) bc) (aa4 (dj (bh 0) bc) bc)) bc) bc))
 (bu (jk (a91 (an9 (a91 (aho (qi (aa4 (bh 3) bc) (dj (bh 0) bc)) bc) bc) bc) (bh 1))))))))
theorem aw0:FnScope ["_law_some"] [] (az (top 24)):=by walk_at "sc"
theorem b2j:MD P w K mg base f k ["_law_some"] "_law_signs" (top 24) (SRC.a0t):=λcdv A outer s H E hr =>
 have SC:=aw0
 (ao (jt 0 SC.nd qz)
 (bu (jk (qi (bh 0) qz))))
theorem aw1:FnScope ["_law_left","_law_rest","_law_told","_law_k","_law_at"] ["_law_left"] (az (top 25)):=by walk_at "sc"
theorem b2k(M:Nm mg)(D_28:Dn P w K mg base k_28 "_law_draw" ["_law_left","_law_many"] (a0i K 2 F_28) a_28 d_28)(h_28:k_28<=k)(D_29:Dn P w K mg base k_29 "_law_signs" [] (a0i K 0 F_29) a_29 d_29)(h_29:k_29<=k):MD P w K mg base f k ["_law_left","_law_rest","_law_told","_law_k","_law_at"] "_law_tongue" (top 25) (SRC.a1h F_28 F_29):=λcdv A outer s H E hr =>
 have SC:=aw1
 (ao (jt 1 SC.nd (ai4 false D_29 (hr.mono h_29) rfl))
 (ao (jt 2 SC.nd qz)
 (ao (ym bC rfl (zq rfl M.range (aj (qi bc (m9 D_28 hr h_28 (aj (bh 0) (aj bc au)))) au)) (dz (i:=3) SC.nd rfl (Or.inl rfl)) (ao (jt 4 SC.nd (m9 D_28 hr h_28 (aj (bh 0) (aj (p6 M.len (aj (bh 1) au)) au))))
 (ao (ae1 (i:=2) SC.nd rfl (Or.inl rfl) (a2m.or ul) a0j (dj (bh 1) (bh 4)))
 (bu (jt 1 SC.nd (qi (u6 (bh 1) zu (zx (bh 4))) (u6 (bh 1) (zx (qi (bh 4) bc)) zu)))))))
 (bu (jk (bh 2))))))
theorem aw2:FnScope ["_law_left","_law_tongue_here","_law_many","_law_kinds","_law_room","_law_manner","_law_goes","_law_row"] ["_law_left","_law_tongue_here","_law_many"] (az (top 26)):=by walk_at "sc"
theorem b2l(M:Nm mg)(D_28:Dn P w K mg base k_28 "_law_draw" ["_law_left","_law_many"] (a0i K 2 F_28) a_28 d_28)(h_28:k_28<=k):MD P w K mg base f k ["_law_left","_law_tongue_here","_law_many","_law_kinds","_law_room","_law_manner","_law_goes","_law_row"] "_law_rooms" (top 26) (CAS.a8c F_28):=λcdv A outer s H E hr =>
 have SC:=aw2
 (ao (jt 3 SC.nd (zf (aj (a3q bc) au)))
 (ao (ym bC rfl (ahk rfl M.range (aj bc (aj (bh 2) au))) (dz (i:=4) SC.nd rfl (Or.inr rfl)) (bu (qu (a4y bG bH sr zy (bh 3) (aj (a8z (zb hr.u (m9 D_28 hr h_28 (aj (bh 0) (aj bc au))) bc) (m9 D_28 hr h_28 (aj (bh 0) (aj bc au))) (a3q bc)) au)))))
 (ao (jt 5 SC.nd (m9 D_28 hr h_28 (aj (bh 0) (aj bc au))))
 (ao (jt 6 SC.nd (zf au))
 (ao (ym bC rfl (zq rfl M.range (aj (bh 2) au)) (dz (i:=4) SC.nd rfl (Or.inr rfl)) (ao (a5p (i:=7) SC.nd rfl (Or.inl rfl) rfl (a6f ["_law_sign"] ["_law_left","_law_many"] [0,2]) (wk (bh 1)) (pgn 0) yo (λ_ _ _ _=>(m9 D_28 hr h_28 (aj (bh 1) (aj (bh 2) au)))))
 (ao (qw (qd aok ahp (bh 5) bc)
 (bu (a5p (i:=7) SC.nd rfl (Or.inl rfl) rfl (a6f ["_law_to"] ["_law_many","_law_kinds","_law_room"] [2,3,4]) (wk (bh 7)) (pgn 0) yo (λ_ _ _ _=>(a8z (PW.pt (a5g (qd (a8m.or wj) a4n (dj (bh 2) (bh 0)) bc) (a2n (qd (aye.or ah7) auf (bh 0) (bh 3))))) (ahn (bh 1) bc) (bh 0)))))
 jd)
 (ao (qw (PW.pt (a5g (zb hr.u (bh 5) bc) (a2n (zb hr.u (bh 4) (ahn (bh 2) bc)))))
 (bu (a5p (i:=7) SC.nd rfl (Or.inl rfl) rfl (a6f ["_law_to"] ["_law_room"] [4]) (wk (bh 7)) (pgn 0) yo (λ_ _ _ _=>(bh 1))))
 jd)
 (bu (qu (a4y bG bH sr zy (bh 6) (aj (bh 7) au))))))))
 (bu (jk (yj (aj (bh 6) (aj (bh 3) au))))))))))
theorem aw3:FnScope ["_law_left","_law_tongue_here","_law_words","_law_goes","_law_kinds","_law_k","_law_word","_law_room","_law_sign","_law_at","_law_rows"] ["_law_left","_law_tongue_here"] (az (top 27)):=by walk_at "sc"
theorem b2m(M:Nm mg)(D_28:Dn P w K mg base k_28 "_law_draw" ["_law_left","_law_many"] (a0i K 2 F_28) a_28 d_28)(h_28:k_28<=k):MD P w K mg base f k ["_law_left","_law_tongue_here","_law_words","_law_goes","_law_kinds","_law_k","_law_word","_law_room","_law_sign","_law_at","_law_rows"] "_law_grown" (top 27) (CAS.a2v F_28):=λcdv A outer s H E hr =>
 have SC:=aw3
 (ao (jt 2 SC.nd (zf au))
 (ao (jt 3 SC.nd (zf (aj (zr rfl (aio ["_law_sign"]) (wk (bh 1)) (pgn 0) yo (λ_ _ _ _=>(a3q bc))) au)))
 (ao (jt 4 SC.nd (zf (aj (a3q bc) au)))
 (ao (ym bC rfl (zq rfl M.range (aj (qi bc (m9 D_28 hr h_28 (aj (bh 0) (aj bc au)))) au)) (dz (i:=5) SC.nd rfl (Or.inl rfl)) (ao (jt 6 SC.nd (afn fB fD acy a9u qz (aj (aav (zr rfl (a6f ["_law_j"] ["_law_left","_law_tongue_here"] [0,1]) (zq rfl M.range (aj (qi bc (m9 D_28 hr h_28 (aj (bh 0) (aj bc au)))) au)) (pgn 0) yo (λ_ _ _ _=>(dj (bh 2) (m9 D_28 hr h_28 (aj (bh 1) (aj (p6 M.len (aj (bh 2) au)) au))))))) au)))
 (ao (qw (PW.pt (a5g (qd (av5 hr.u) (aqj true) (bh 2) (aav (zf au))) (a2n (zb hr.u (m9 D_28 hr h_28 (aj (bh 0) (aj bc au))) bc))))
 (bu (jt 6 SC.nd (u6 (qi (dj (bh 2) (m9 D_28 hr h_28 (aj (bh 0) (aj (p6 M.len (aj (bh 2) au)) au)))) (bh 6)) zu (zx bc))))
 jd)
 (ao (qu (a4y bG bH sr zy (bh 2) (aj (bh 6) au)))
 (ao (jt 7 SC.nd bc)
 (ao (ym bC rfl (wk (bh 6)) (dz (i:=8) SC.nd rfl (Or.inl rfl)) (ao (jt 9 SC.nd (afn PySem.F.slot_str_find PySem.F.type_str_find ahg aec (bh 1) (aj (bh 8) au)))
 (ao (qw (qd (a8m.or wj) a4n (dj (dj (bh 3) (bh 7)) (bh 9)) bc)
 (ao (a4m (p6 M.len (aj (bh 3) au)) (dj (bh 3) (bh 7)) (bh 9))
 (ao (qu (a4y bG bH sr zy (bh 3) (aj (zr rfl (aio ["_law_one"]) (wk (bh 1)) (pgn 0) yo (λ_ _ _ _=>(a3q bc))) au)))
 (bu (qu (a4y bG bH sr zy (bh 4) (aj (a3q bc) au))))))
 jd)
 (bu (jt 7 SC.nd (dj (dj (bh 3) (bh 7)) (bh 9)))))))
 (bu (a4m (m9 D_28 hr h_28 (aj (bh 0) (aj bc au))) (bh 4) (bh 7)))))))))
 (ao (ym bC rfl (zq rfl M.range (aj (m9 D_28 hr h_28 (aj (bh 0) (aj bc au))) au)) (dz (i:=5) SC.nd rfl (Or.inl rfl)) (ao (jt 7 SC.nd (m9 D_28 hr h_28 (aj (bh 0) (aj (p6 M.len (aj (bh 3) au)) au))))
 (ao (jt 9 SC.nd (m9 D_28 hr h_28 (aj (bh 0) (aj (p6 M.len (aj (bh 1) au)) au))))
 (bu (qw (qd (a8m.or wj) a4n (dj (dj (bh 3) (bh 7)) (bh 9)) bc)
 (bu (a4m (qi bc (m9 D_28 hr h_28 (aj (bh 0) (aj (ahn (p6 M.len (aj (bh 3) au)) bc) au)))) (dj (bh 3) (bh 7)) (bh 9)))
 jd)))))
 (ao (a5p (i:=10) SC.nd rfl (Or.inl rfl) rfl (a6f ["_law_row"] ["_law_goes"] [3]) (wk (bh 3)) (pgn 0) yo (λ_ _ _ _=>(aav (zr rfl (a6f ["_law_to"] ["_law_goes"] [1]) (wk (bh 0)) (pgn 0) yo (λ_ _ _ _=>(a8z (qd ake ae6 (bh 0) bc) (bh 0) (p6 M.len (aj (bh 1) au))))))))
 (bu (jk (yj (aj (bh 2) (aj (aav (qi (bh 10) (aav (zf (aj (aav (zr rfl (a6f ["_law_sign"] ["_law_goes"] [3]) (wk (bh 1)) (pgn 0) yo (λ_ _ _ _=>(p6 M.len (aj (bh 1) au))))) au))))) (aj (aav (qi (bh 4) (aav (zf (aj (a3q bc) au))))) au))))))))))))
theorem aw4:FnScope ["_law_tongue_here","_law_goes","_law_kinds","_law_met_here","_law_at","_law_to","_law_rows"] ["_law_tongue_here","_law_goes","_law_kinds"] (az (top 28)):=by walk_at "sc"
theorem b2n(M:Nm mg):MD P w K mg base f k ["_law_tongue_here","_law_goes","_law_kinds","_law_met_here","_law_at","_law_to","_law_rows"] "_law_met" (top 28) (CAS.a5u):=λcdv A outer s H E hr =>
 have SC:=aw4
 (ao (jt 3 SC.nd (zf (aj bc au)))
 (ao (jt 4 SC.nd bc)
 (ao (a5h 100000 bC (qd (a8m.or wj) a4n (bh 4) (p6 M.len (aj (bh 3) au))) (ao (ym bC rfl (wk (dj (bh 1) (dj (bh 3) (bh 4)))) (dz (i:=5) SC.nd rfl (Or.inl rfl)) (bu (qw (a9p (afi.or ab8) apr (bh 5) (bh 3) (by with_unfolding_all rfl))
 (bu (qu (a4y bG bH sr zy (bh 3) (aj (bh 5) au))))
 jd)))
 (bu (ae1 (i:=4) SC.nd rfl (Or.inl rfl) (a2m.or ul) a0j bc))))
 (ao (jt 3 SC.nd (a6q aa5 afs rfl M.sorted aif (aj (bh 3) au)))
 (ao (jt 6 SC.nd (a6r (L2.CallR.or yf (a0b rfl)) a3r rfl M.tuple a4a (aj (aav (zr rfl (a6f ["_law_room"] ["_law_goes","_law_met_here"] [1,3]) (wk (bh 3)) (pgn 0) yo (λ_ _ _ _=>(a6r (L2.CallR.or yf (a0b rfl)) a3r rfl M.tuple a4a (aj (aav (zr rfl (a6f ["_law_to"] ["_law_met_here"] [2]) (wk (dj (bh 1) (bh 0))) (pgn 0) yo (λ_ _ _ _=>(a4y PySem.F.slot_list_index PySem.F.type_list_index ai9 aft (bh 1) (aj (bh 0) au))))) au))))) au)))
 (bu (jk (yj (aj (bh 0) (aj (bh 6) (aj (a6r (L2.CallR.or yf (a0b rfl)) a3r rfl M.tuple a4a (aj (aav (zr rfl (a6f ["_law_room"] ["_law_kinds"] [2]) (wk (bh 3)) (pgn 0) yo (λ_ _ _ _=>(dj (bh 1) (bh 0))))) au)) au)))))))))))
theorem aw5:FnScope ["_law_left","_law_sort","_law_size","_law_tongue_here","_law_goes","_law_kinds","_law_text","_law_words","_law_k","_law_word","_law_bent"] ["_law_left"] (az (top 29)):=by walk_at "sc"
theorem b2o(M:Nm mg)(D_28:Dn P w K mg base k_28 "_law_draw" ["_law_left","_law_many"] (a0i K 2 F_28) a_28 d_28)(h_28:k_28<=k)(D_32:Dn P w K mg base k_32 "_law_grown" ["_law_left","_law_tongue_here"] (a0i K 2 F_32) a_32 d_32)(h_32:k_32<=k)(D_33:Dn P w K mg base k_33 "_law_met" ["_law_tongue_here","_law_goes","_law_kinds"] (a0i K 3 F_33) a_33 d_33)(h_33:k_33<=k)(D_31:Dn P w K mg base k_31 "_law_rooms" ["_law_left","_law_tongue_here","_law_many"] (a0i K 3 F_31) a_31 d_31)(h_31:k_31<=k)(D_30:Dn P w K mg base k_30 "_law_tongue" ["_law_left"] (a0i K 1 F_30) a_30 d_30)(h_30:k_30<=k):MD P w K mg base f k ["_law_left","_law_sort","_law_size","_law_tongue_here","_law_goes","_law_kinds","_law_text","_law_words","_law_k","_law_word","_law_bent"] "_law_case" (top 29) (CAS.a4e F_28 F_32 F_33 F_31 F_30):=λcdv A outer s H E hr =>
 have SC:=aw5
 (ao (jt 1 SC.nd (m9 D_28 hr h_28 (aj (bh 0) (aj bc au))))
 (ao (jt 2 SC.nd (m9 D_28 hr h_28 (aj (bh 0) (aj bc au))))
 (ao (jt 3 SC.nd (m9 D_30 hr h_30 (aj (bh 0) au)))
 (ao (qw (zb hr.u (bh 1) bc)
 (ao (a2f (m9 D_31 hr h_31 (aj (bh 0) (aj (bh 3) (aj (qi bc (m9 D_28 hr h_28 (aj (bh 0) (aj (dj (yj (aj bc (aj bc au))) (an9 (bh 2) bc)) au)))) au)))) (a0o rfl (du (dz (i:=4) SC.nd rfl (Or.inl rfl)) (du (dz (i:=5) SC.nd rfl (Or.inl rfl)) xn))))
 (bu (jt 6 SC.nd (afn fB fD acy a9u qz (aj (aav (zr rfl (a6f ["_law_k"] ["_law_left","_law_tongue_here"] [0,3]) (zq rfl M.range (aj (m9 D_28 hr h_28 (aj (bh 0) (aj bc au))) au)) (pgn 0) yo (λ_ _ _ _=>(dj (bh 2) (m9 D_28 hr h_28 (aj (bh 1) (aj (p6 M.len (aj (bh 2) au)) au))))))) au)))))
 (ao (a2f (m9 D_32 hr h_32 (aj (bh 0) (aj (bh 3) au))) (a0o rfl (du (dz (i:=7) SC.nd rfl (Or.inl rfl)) (du (dz (i:=4) SC.nd rfl (Or.inl rfl)) (du (dz (i:=5) SC.nd rfl (Or.inl rfl)) xn)))))
 (ao (jt 6 SC.nd qz)
 (bu (ym bC rfl (zq rfl M.range (aj (m9 D_28 hr h_28 (aj (bh 0) (aj bc au))) au)) (dz (i:=8) SC.nd rfl (Or.inl rfl)) (ao (jt 9 SC.nd (dj (bh 7) (m9 D_28 hr h_28 (aj (bh 0) (aj (p6 M.len (aj (bh 7) au)) au)))))
 (ao (jt 10 SC.nd (m9 D_28 hr h_28 (aj (bh 0) (aj bc au))))
 (ao (qw (zb hr.u (bh 10) bc)
 (bu (jt 9 SC.nd (u6 (bh 9) zu (zx (m9 D_28 hr h_28 (aj (bh 0) (aj (p6 M.len (aj (bh 9) au)) au)))))))
 jd)
 (ao (qw (zb hr.u (bh 10) bc)
 (bu (jt 9 SC.nd (dj (bh 3) (m9 D_28 hr h_28 (aj (bh 0) (aj (p6 M.len (aj (bh 3) au)) au))))))
 jd)
 (bu (ae1 (i:=6) SC.nd rfl (Or.inl rfl) (a2m.or ul) a0j (bh 9))))))))))))
 (ao (qw (zb hr.u (bh 2) bc)
 (bu (jt 6 SC.nd (u6 (aqr (bh 6) bc) zu (zx (m9 D_28 hr h_28 (aj (bh 0) (aj bc au)))))))
 jd)
 (bu (jk (yj (aj (m9 D_33 hr h_33 (aj (bh 3) (aj (bh 4) (aj (bh 5) au)))) (aj (bh 6) au))))))))))
theorem aw6:FnScope ["_law_table","_law_hope_here","_law_k","_law_room","_law_to"] ["_law_table"] (az (top 30)):=by walk_at "sc"
theorem b2p(M:Nm mg):MD P w K mg base f k ["_law_table","_law_hope_here","_law_k","_law_room","_law_to"] "_law_hope" (top 30) (STM.a0n):=λcdv A outer s H E hr =>
 have SC:=aw6
 (ao (aq5 (i:=1) SC.nd rfl (Or.inl rfl) rfl (aio ["_law_row"]) (wk (dj (bh 0) bc)) (pgn 0) yo (λ_ _ _ _=>a6n))
 (ao (ym bC rfl (zq rfl M.range (aj (p6 M.len (aj (bh 1) au)) au)) (dz (i:=2) SC.nd rfl (Or.inl rfl)) (bu (ym bC rfl (zq rfl M.range (aj (p6 M.len (aj (bh 1) au)) au)) (dz (i:=3) SC.nd rfl (Or.inl rfl)) (bu (ym bC rfl (wk (dj (dj (bh 0) bc) (bh 3))) (dz (i:=4) SC.nd rfl (Or.inl rfl)) (bu (qw (PW.pt (a9q (qd ake ae6 (dj (dj (bh 0) bc) (bh 4)) bc) (a5f (yh (dj (bh 1) (bh 4))))))
 (bu (a4m a6n (bh 1) (bh 3)))
 jd)))))))
 (bu (jk (bh 1)))))
theorem aw7:FnScope ["_law_table","_law_hope_here","_law_text","_law_start","_law_room","_law_best","_law_sure","_law_place"] ["_law_table","_law_hope_here","_law_text","_law_start"] (az (top 31)):=by walk_at "sc"
theorem b2q(M:Nm mg):MD P w K mg base f k ["_law_table","_law_hope_here","_law_text","_law_start","_law_room","_law_best","_law_sure","_law_place"] "_law_along" (top 31) (STM.a2x):=λcdv A outer s H E hr =>
 have SC:=aw7
 (ao (jt 4 SC.nd bc)
 (ao (jt 5 SC.nd a1d)
 (ao (jt 6 SC.nd a6n)
 (ao (ym bC rfl (ahk rfl M.range (aj (bh 3) (aj (p6 M.len (aj (bh 2) au)) au))) (dz (i:=7) SC.nd rfl (Or.inl rfl)) (bu (qw (a1e (yh (bh 6)))
 (ao (jt 4 SC.nd (dj (dj (dj (bh 0) bc) (bh 4)) (afn PySem.F.slot_str_find PySem.F.type_str_find ahg aec (dj (bh 0) bc) (aj (dj (bh 2) (bh 7)) au))))
 (ao (qw (qd ake ae6 (dj (dj (bh 0) bc) (bh 4)) bc)
 (bu (jt 5 SC.nd (yj (aj (dj (dj (bh 0) bc) (bh 4)) (aj (qi (bh 7) bc) au)))))
 jd)
 (bu (jt 6 SC.nd (au6 (dj (bh 1) (bh 4)))))))
 jd)))
 (bu (jk (yj (aj (bh 6) (aj (bh 5) (aj (bh 4) au))))))))))
theorem aw8:FnScope ["_law_table","_law_hope_here","_law_text","_law_ended","_law_pieces_here","_law_start","_law_sure","_law_best","_law_room"] ["_law_table","_law_hope_here","_law_text","_law_ended"] (az (top 32)):=by walk_at "sc"
theorem b2r(M:Nm mg)(D_36:Dn P w K mg base k_36 "_law_along" ["_law_table","_law_hope_here","_law_text","_law_start"] (a0i K 4 F_36) a_36 d_36)(h_36:k_36<=k):MD P w K mg base f k ["_law_table","_law_hope_here","_law_text","_law_ended","_law_pieces_here","_law_start","_law_sure","_law_best","_law_room"] "_law_run" (top 32) (STM.a6b F_36):=λcdv A outer s H E hr =>
 have SC:=aw8
 (ao (jt 4 SC.nd (zf au))
 (ao (jt 5 SC.nd bc)
 (ao (a2f (m9 D_36 hr h_36 (aj (bh 0) (aj (bh 1) (aj (bh 2) (aj (bh 5) au))))) (a0o rfl (du (dz (i:=6) SC.nd rfl (Or.inl rfl)) (du (dz (i:=7) SC.nd rfl (Or.inl rfl)) (du (dz (i:=8) SC.nd rfl (Or.inl rfl)) xn)))))
 (ao (a5h 100000 bC (PW.pt (a5g (qd (a8m.or wj) a4n (bh 5) (p6 M.len (aj (bh 2) au))) (a2n (PW.pt (a9q (yh (bh 6)) (a5f (yh (bh 3)))))))) (ao (qw (qd (adp.or a7g) ae9 (bh 7) a1d)
 (bu (jk (yj (aj (bh 4) (aj qz (aj (bh 5) (aj bc (aj a1d au))))))))
 jd)
 (ao (qu (a4y bG bH sr zy (bh 4) (aj (yj (aj (dj (bh 7) bc) (aj (bh 5) (aj (dj (bh 7) bc) au)))) au)))
 (ao (jt 5 SC.nd (dj (bh 7) bc))
 (bu (a2f (m9 D_36 hr h_36 (aj (bh 0) (aj (bh 1) (aj (bh 2) (aj (bh 5) au))))) (a0o rfl (du (dz (i:=6) SC.nd rfl (Or.inl rfl)) (du (dz (i:=7) SC.nd rfl (Or.inl rfl)) (du (dz (i:=8) SC.nd rfl (Or.inl rfl)) xn))))))))))
 (ao (qw (yh (bh 3))
 (bu (jk (yj (aj (bh 4) (aj qz (aj (bh 5) (aj bc (aj a1d au))))))))
 jd)
 (bu (jk (yj (aj (bh 4) (aj qz (aj (bh 5) (aj (bh 8) (aj (bh 7) au)))))))))))))
theorem aw9:FnScope ["_law_found","_law_many","_law_one"] ["_law_found","_law_many"] (az (top 33)):=by walk_at "sc"
theorem b2s(M:Nm mg):MD P w K mg base f k ["_law_found","_law_many","_law_one"] "_law_numbers" (top 33) (SRC.a0k):=λcdv A outer s H E hr =>
 have SC:=aw9
 (ao (qw (PW.pt (a9q (a1e (yh (a6q (L2.CallR.or xm v5) a2u rfl M.isinstance um (aj (bh 0) (aj (acz rfl M.tuple a4a) au))))) (a5f (qd (a5n hr.u) a2q (p6 M.len (aj (bh 0) au)) (bh 1)))))
 (bu (jk a6n))
 jd)
 (ao (ym bC rfl (wk (bh 0)) (dz (i:=2) SC.nd rfl (Or.inl rfl)) (bu (qw (PW.pt (a9q (a1e (yh (a6q (L2.CallR.or xm v5) a2u rfl M.isinstance um (aj (bh 2) (aj (acz rfl M.int an3) au))))) (a5f (yh (a6q (L2.CallR.or xm v5) a2u rfl M.isinstance um (aj (bh 2) (aj (acz rfl M.bool aq0) au)))))))
 (bu (jk a6n))
 jd)))
 (bu (jk a6n))))
theorem awa:FnScope ["_law_found","_law_due","_law_one","_law_piece"] ["_law_found","_law_due"] (az (top 34)):=by walk_at "sc"
theorem b2t(M:Nm mg)(D_38:Dn P w K mg base k_38 "_law_numbers" ["_law_found","_law_many"] (a0i K 2 F_38) a_38 d_38)(h_38:k_38<=k):MD P w K mg base f k ["_law_found","_law_due","_law_one","_law_piece"] "_law_pieces" (top 34) (STM.a1q F_38):=λcdv A outer s H E hr =>
 have SC:=awa
 (ao (qw (PW.pt (a9q (a1e (yh (a6q (L2.CallR.or xm v5) a2u rfl M.isinstance um (aj (bh 0) (aj (acz rfl M.list ap9) au))))) (a5f (qd (a5n hr.u) a2q (p6 M.len (aj (bh 0) au)) (p6 M.len (aj (bh 1) au))))))
 a3g
 jd)
 (ao (ym bC rfl (anj rfl M.zip ank (bh 0) (bh 1)) (a0o rfl (du (dz (i:=2) SC.nd rfl (Or.inl rfl)) (du (dz (i:=3) SC.nd rfl (Or.inl rfl)) xn))) (bu (qw (PW.pt (a9q (a1e (yh (m9 D_38 hr h_38 (aj (bh 2) (aj bc au))))) (a5f (qd (a5n hr.u) a2q (bh 2) (bh 3)))))
 a3g
 jd)))
 (bu (jk a6n))))
theorem awb:FnScope ["_law_reader","_law_run_here","_law_text","_law_pieces_here","_law_state","_law_start","_law_room","_law_last","_law_tail","_law_fault"] ["_law_reader","_law_run_here","_law_text"] (az (top 35)):=by walk_at "sc"
theorem b2u(M:Nm mg)(Q_Stream:CK K mg "Stream" C_Stream ["table","hope","phase","start","fed","at","room","last","rest"])(D_9:Dm P w K mg base k_9 C_Stream "seen" ["self"] 1 F_9 a_9 d_9)(h_9:k_9<=k)(D_8:Dm P w K mg base k_8 C_Stream "state" ["self"] 1 F_8 a_8 d_8)(h_8:k_8<=k)(D_23:Dm P w K mg base k_23 C_Stream "fault" ["self"] 1 F_23 a_23 d_23)(h_23:k_23<=k)(D_21:Dm P w K mg base k_21 C_Stream "kept" ["self"] 1 F_21 a_21 d_21)(h_21:k_21<=k)(D_38:Dn P w K mg base k_38 "_law_numbers" ["_law_found","_law_many"] (a0i K 2 F_38) a_38 d_38)(h_38:k_38<=k):MD P w K mg base f k ["_law_reader","_law_run_here","_law_text","_law_pieces_here","_law_state","_law_start","_law_room","_law_last","_law_tail","_law_fault"] "_law_stands_so" (top 35) (STM.yz F_9 F_8 F_23 F_21 F_38):=λcdv A outer s H E hr =>
 have SC:=awb
 (ao (a2f (bh 1) (a0o rfl (du (dz (i:=3) SC.nd rfl (Or.inl rfl)) (du (dz (i:=4) SC.nd rfl (Or.inl rfl)) (du (dz (i:=5) SC.nd rfl (Or.inl rfl)) (du (dz (i:=6) SC.nd rfl (Or.inl rfl)) (du (dz (i:=7) SC.nd rfl (Or.inl rfl)) xn)))))))
 (ao (jt 8 SC.nd (a8z (qd (acp.or a4w) a84 (bh 7) a1d) (u6 (bh 2) (zx (dj (bh 7) bc)) zu) qz))
 (ao (jt 9 SC.nd (a8z (zb hr.u (bh 4) qz) (bh 5) a1d))
 (ao (qw (PW.pt (a9q (a1e (yh (a6q (L2.CallR.or xm v5) a2u rfl M.isinstance um (aj (qt false Q_Stream D_8 (hr.mono h_8) (bh 0)) (aj (acz rfl M.str ahe) au))))) (a5f (qd (a5n hr.u) a2q (qt false Q_Stream D_8 (hr.mono h_8) (bh 0)) (bh 4)))))
 a3g
 jd)
 (ao (qw (PW.pt (a9q (a1e (yh (m9 D_38 hr h_38 (aj (yj (aj (qt false Q_Stream D_9 (hr.mono h_9) (bh 0)) au)) (aj bc au))))) (a5f (qd (a5n hr.u) a2q (qt false Q_Stream D_9 (hr.mono h_9) (bh 0)) (p6 M.len (aj (bh 2) au))))))
 a3g
 jd)
 (ao (qw (PW.pt (a9q (a1e (yh (a6q (L2.CallR.or xm v5) a2u rfl M.isinstance um (aj (qt false Q_Stream D_21 (hr.mono h_21) (bh 0)) (aj (acz rfl M.str ahe) au))))) (a5f (qd (a5n hr.u) a2q (qt false Q_Stream D_21 (hr.mono h_21) (bh 0)) (bh 8)))))
 a3g
 jd)
 (ao (qw (qd (adp.or a7g) ae9 (bh 9) a1d)
 (bu (jk (a81 (adp.or a7g) ae9 (qt false Q_Stream D_23 (hr.mono h_23) (bh 0)) a1d (a8u _))))
 jd)
 (bu (jk (an5 (m9 D_38 hr h_38 (aj (yj (aj (qt false Q_Stream D_23 (hr.mono h_23) (bh 0)) au)) (aj bc au))) (an4 (a81 (ang hr.u) ahw (qt false Q_Stream D_23 (hr.mono h_23) (bh 0)) (bh 9) (a8u _)))))))))))))
theorem awc:FnScope ["_law_left","_law_table","_law_rest"] ["_law_left","_law_table","_law_rest"] (az (top 36)):=by walk_at "sc"
theorem b2v(M:Nm mg)(D_28:Dn P w K mg base k_28 "_law_draw" ["_law_left","_law_many"] (a0i K 2 F_28) a_28 d_28)(h_28:k_28<=k):MD P w K mg base f k ["_law_left","_law_table","_law_rest"] "_law_new_part" (top 36) (uy F_28):=λcdv A outer s H E hr =>
 have SC:=awc
 (ao (qw (qd aok ahp (m9 D_28 hr h_28 (aj (bh 0) (aj bc au))) bc)
 (bu (jk (u6 (bh 2) zu (zx (m9 D_28 hr h_28 (aj (bh 0) (aj (qi (a6q (agm rfl) al3 rfl M.min auo (aj (p6 M.len (aj (bh 2) au)) (aj bc au))) bc) au)))))))
 jd)
 (bu (jk (afn fB fD acy a9u qz (aj (aav (zr rfl (a6f ["_law_k"] ["_law_left","_law_table"] [0,1]) (zq rfl M.range (aj (m9 D_28 hr h_28 (aj (bh 0) (aj bc au))) au)) (pgn 0) yo (λ_ _ _ _=>(dj (dj (bh 2) bc) (m9 D_28 hr h_28 (aj (bh 1) (aj (p6 M.len (aj (dj (bh 2) bc) au)) au))))))) au)))))
theorem awd:FnScope ["_law_left","_law_one","_law_reader","_law_table","_law_hope_here","_law_rest","_law_fed_here","_law_many","_law_ended","_law_found","_law_part","_law_run_here"] ["_law_left","_law_one"] (az (top 37)):=by walk_at "sc"
theorem b2w(M:Nm mg)(Q_Stream:CK K mg "Stream" C_Stream ["table","hope","phase","start","fed","at","room","last","rest"])(D_16:Dm P w K mg base k_16 C_Stream "close" ["self"] 1 F_16 a_16 d_16)(h_16:k_16<=k)(D_15:Dm P w K mg base k_15 C_Stream "feed" ["self","part"] 2 F_15 a_15 d_15)(h_15:k_15<=k)(D_28:Dn P w K mg base k_28 "_law_draw" ["_law_left","_law_many"] (a0i K 2 F_28) a_28 d_28)(h_28:k_28<=k)(D_41:Dn P w K mg base k_41 "_law_new_part" ["_law_left","_law_table","_law_rest"] (a0i K 3 F_41) a_41 d_41)(h_41:k_41<=k)(D_39:Dn P w K mg base k_39 "_law_pieces" ["_law_found","_law_due"] (a0i K 2 F_39) a_39 d_39)(h_39:k_39<=k)(D_37:Dn P w K mg base k_37 "_law_run" ["_law_table","_law_hope_here","_law_text","_law_ended"] (a0i K 4 F_37) a_37 d_37)(h_37:k_37<=k):MD P w K mg base f k ["_law_left","_law_one","_law_reader","_law_table","_law_hope_here","_law_rest","_law_fed_here","_law_many","_law_ended","_law_found","_law_part","_law_run_here"] "_law_fed" (top 37) (a6e F_16 F_15 F_28 F_41 F_39 F_37):=λcdv A outer s H E hr =>
 have SC:=awd
 (ao (a2f (bh 1) (aqx rfl (du (dz (i:=2) SC.nd rfl (Or.inl rfl)) (du (dz (i:=3) SC.nd rfl (Or.inl rfl)) (du (dz (i:=4) SC.nd rfl (Or.inl rfl)) (du (dz (i:=5) SC.nd rfl (Or.inl rfl)) (du (dz (i:=6) SC.nd rfl (Or.inl rfl)) (du (dz (i:=7) SC.nd rfl (Or.inl rfl)) (du (dz (i:=8) SC.nd rfl (Or.inl rfl)) xn)))))))))
 (ao (qw (zb hr.u (m9 D_28 hr h_28 (aj (bh 0) (aj bc au))) bc)
 (ao (jt 9 SC.nd (qt true Q_Stream D_16 (hr.mono h_16) (bh 2)))
 (bu (a4m a6n (bh 1) bc)))
 (ao (jt 10 SC.nd (m9 D_41 hr h_41 (aj (bh 0) (aj (bh 3) (aj (bh 5) au)))))
 (ao (jt 9 SC.nd (a1z true Q_Stream D_15 (hr.mono h_15) (bh 2) (aj (bh 10) au)))
 (ao (a4m (u6 (bh 5) (zx (p6 M.len (aj (bh 10) au))) zu) (bh 1) bc)
 (bu (a4m (qi (bh 6) (bh 10)) (bh 1) bc))))))
 (ao (jt 11 SC.nd (m9 D_37 hr h_37 (aj (bh 3) (aj (bh 4) (aj (dj (bh 1) bc) (aj (dj (bh 1) bc) au))))))
 (ao (qw (a1e (yh (m9 D_39 hr h_39 (aj (bh 9) (aj (aav (u6 (dj (bh 11) bc) (zx (bh 7)) zu)) au)))))
 a3g
 jd)
 (ao (a4m (p6 M.len (aj (dj (bh 11) bc) au)) (bh 1) bc)
 (ao (qu (a4y bG bH sr zy (bh 9) (aj (yj (aj bc (aj bc (aj bc au)))) au)))
 (bu (jk a6n))))))))
theorem awe:FnScope ["_law_script","_law_left","_law_some","_law_k","_law_table","_law_text","_law_one"] ["_law_script"] (az (top 38)):=by walk_at "sc"
theorem b2x(M:Nm mg)(Q_Stream:CK K mg "Stream" C_Stream ["table","hope","phase","start","fed","at","room","last","rest"])(D_8:Dm P w K mg base k_8 C_Stream "state" ["self"] 1 F_8 a_8 d_8)(h_8:k_8<=k)(D_25:Dm P w K mg base k_25 C_Stream "twin" ["self"] 1 F_25 a_25 d_25)(h_25:k_25<=k)(D_13:Di P w K mg base k_13 "Stream" C_Stream ["table","hope","phase","start","fed","at","room","last","rest"] ["self","table"] 1 F_13 a_13 d_13)(h_13:k_13+1<=k)(D_34:Dn P w K mg base k_34 "_law_case" ["_law_left"] (a0i K 1 F_34) a_34 d_34)(h_34:k_34<=k)(D_28:Dn P w K mg base k_28 "_law_draw" ["_law_left","_law_many"] (a0i K 2 F_28) a_28 d_28)(h_28:k_28<=k)(D_42:Dn P w K mg base k_42 "_law_fed" ["_law_left","_law_one"] (a0i K 2 F_42) a_42 d_42)(h_42:k_42<=k)(D_35:Dn P w K mg base k_35 "_law_hope" ["_law_table"] (a0i K 1 F_35) a_35 d_35)(h_35:k_35<=k)(D_37:Dn P w K mg base k_37 "_law_run" ["_law_table","_law_hope_here","_law_text","_law_ended"] (a0i K 4 F_37) a_37 d_37)(h_37:k_37<=k)(D_27:Dn P w K mg base k_27 "_law_source" ["_law_script"] (a0i K 1 F_27) a_27 d_27)(h_27:k_27<=k)(D_40:Dn P w K mg base k_40 "_law_stands_so" ["_law_reader","_law_run_here","_law_text"] (a0i K 3 F_40) a_40 d_40)(h_40:k_40<=k):MD P w K mg base f k ["_law_script","_law_left","_law_some","_law_k","_law_table","_law_text","_law_one"] "law" (top 38) (am8 F_8 F_25 F_13 F_34 F_28 F_42 F_35 F_37 F_27 F_40):=λcdv A outer s H E hr =>
 have SC:=awe
 (ao (jt 1 SC.nd (aa2 true D_27 (hr.mono h_27) rfl (aj (bh 0) au)))
 (ao (jt 2 SC.nd (zf au))
 (ao (ym bC rfl (zq rfl M.range (aj bc au)) (dz (i:=3) SC.nd rfl (Or.inl rfl)) (ao (a2f (m9 D_34 hr h_34 (aj (bh 1) au)) (a0o rfl (du (dz (i:=4) SC.nd rfl (Or.inl rfl)) (du (dz (i:=5) SC.nd rfl (Or.inl rfl)) xn))))
 (bu (qu (a4y bG bH sr zy (bh 2) (aj (zf (aj (ave D_13 hr h_13 (aj (bh 4) au)) (aj (bh 4) (aj (m9 D_35 hr h_35 (aj (bh 4) au)) (aj (u6 (bh 5) zu (zx bc)) (aj qz (aj bc (aj a6n au)))))))) au))))))
 (ao (ym bC rfl (zq rfl M.range (aj bc au)) (dz (i:=3) SC.nd rfl (Or.inl rfl)) (ao (jt 6 SC.nd (dj (bh 2) (m9 D_28 hr h_28 (aj (bh 1) (aj (p6 M.len (aj (bh 2) au)) au)))))
 (ao (qw (PW.pt (a5g (qd (a8m.or wj) a4n (p6 M.len (aj (bh 2) au)) bc) (a2n (zb hr.u (m9 D_28 hr h_28 (aj (bh 1) (aj bc au))) bc))))
 (bu (qu (a4y bG bH sr zy (bh 2) (aj (qi (zf (aj (qt true Q_Stream D_25 (hr.mono h_25) (dj (bh 6) bc)) au)) (u6 (bh 6) (zx bc) zu)) au))))
 (bu (qw (PW.pt (a5g (zb hr.u (qt false Q_Stream D_8 (hr.mono h_8) (dj (bh 6) bc)) qz) (a2n (a1e (yh (apk D_42 (hr.mono h_42) rfl (aj (bh 1) (aj (bh 6) au))))))))
 a3g
 jd)))
 (ao (jt 6 SC.nd (dj (bh 2) (m9 D_28 hr h_28 (aj (bh 1) (aj (p6 M.len (aj (bh 2) au)) au)))))
 (bu (qw (a1e (yh (m9 D_40 hr h_40 (aj (dj (bh 6) bc) (aj (m9 D_37 hr h_37 (aj (dj (bh 6) bc) (aj (dj (bh 6) bc) (aj (dj (bh 6) bc) (aj (dj (bh 6) bc) au))))) (aj (dj (bh 6) bc) au))))))
 a3g
 jd))))))
 (ao (ym bC rfl (wk (bh 2)) (dz (i:=6) SC.nd rfl (Or.inl rfl)) (bu (qw (a1e (yh (m9 D_40 hr h_40 (aj (dj (bh 6) bc) (aj (m9 D_37 hr h_37 (aj (dj (bh 6) bc) (aj (dj (bh 6) bc) (aj (dj (bh 6) bc) (aj (dj (bh 6) bc) au))))) (aj (dj (bh 6) bc) au))))))
 a3g
 jd)))
 (bu (jk a6n)))))))
end
end K51
namespace HND
open L2 MI
noncomputable def a0t:SS :=
 (dw (m7 0 (sC (.str " !\"#$&'()*+,-./0123456789:;<=>?@ABCDEFGHIJKLMNOPQRSTUVWXYZ[\\]^_`")))
 (uo (s2 my (sV 0) (sC (.str "abcdefghijklmnopqrstuvwxyz{|}~\n")))))
end HND
namespace HND
open L2 MI AT
def axs:Str := " !\"#$&'()*+,-./0123456789:;<=>?@ABCDEFGHIJKLMNOPQRSTUVWXYZ[\\]^_`"
def axt:Str := "abcdefghijklmnopqrstuvwxyz{|}~\n"
def sig:List Nat:=axs.cps.toList++axt.cps.toList
theorem aqy:sig.length=95:=by decide +kernel
theorem awf:sig.Nodup:=by decide +kernel
noncomputable def o9:SF:=m8 a0t 1
theorem lits{h:Hd}:my (.str axs) (.str axt) h=.ok (.str (S sig)) h:=by
 rw[<-alz axs,<-alz axt,abu (by decide +kernel)]
 rfl
theorem aaj:Pu o9 0 [] (.str (S sig)):=by
 refine Pu.of rfl (by simp) (r:=.ok (.str (S sig)) []) ?_ (by rw[o7 (fu _) (by simp)];rfl) (fu _)
 unfold o9;rw[dm];unfold a0t;have e:=@lits [];unfold axs axt at e;show toR (dw (m7 0 _) _ [none] [])=_;simp only[yp,m7,sC,a2j,zg,uo,s2,sV,List.set_cons_zero,eR,di,e,abq]
structure Tongue (l:List Nat):Prop where
 lo:1<=l.length
 hi:l.length<=6
 nd:l.Nodup
 sub:∀c∈l,c∈sig
theorem aip(a r:List Nat)(i:Nat)(c:Nat)(e:r[i]? = some c):List.Perm (a++r) ((a++[c])++(r.take i++r.drop (i+1))):=by
 obtain⟨hi,e⟩:=ag.mp e;have:r=r.take i++c::r.drop (i+1):=by rw[<-e];simp
 rw[bO];refine List.Perm.append_left a ?_;rw[fA]
 conv=>lhs;rw[this]
 exact List.perm_middle
end HND
namespace SRC
open L2 MI AT
structure Src (o:O) (N:Nat):Prop where
 ex:∃(cells:List Int) (a l c s:Int),o=.lst [.rol (cells.map D.int),.int a,.int l,.int c,.int s]/\0<=a/\0<=l/\0<=s/\s<2147483647/\0<=c/\c<=N
theorem Src.clo(P:Src o N):vy 0 o:=by
 obtain⟨cells,a,l,c,s,rfl,_⟩:=P.ex;exact bf (km (gj λx _=>dh x)) (bf (dh _) (bf (dh _) (bf (dh _) (bf (dh _) jy))))
theorem Src.up(P:Src o N)(h:N<=M):Src o M:=by
 obtain⟨cells,a,l,c,s,e,h1,h2,h3,h4,h5,h6⟩:=P.ex;exact⟨cells,a,l,c,s,e,h1,h2,h3,h4,h5,by omega⟩
noncomputable def aa:SF:=m8 a4c 4
abbrev so(cells:List Int)(a l c s:Int):O:=.lst [.rol (cells.map D.int),.int a,.int l,.int c,.int s]
theorem aiq(e:h[i]? = some (.lst xs))(hj:xs[j]? = some y):ak1 (.ref i) (.int (j:Nat)) h=.ok y h:=by
 unfold ak1;simp only[e,zp hj]
theorem azf(e1:fo τ h=.ok o h)(e2:fi τ h=.ok i h)(e3:ak1 o i h=.ok x h)(e4:fe τ h=.ok y h)(e5:G x y h=.ok z h)(e6:put o i z h=some h'):a4i G fo fi fe τ h=.nx τ h':=by
 unfold a4i;rw[e1,a2j,e2,a2j,e3,a2j,e4,a2j,e5,a2j,e6]
theorem azg(c:y<=x):gGe (.int x) (.int y) h=.ok (.bl true) h:=by show R.ok (D.bl (decide (y<=x))) h=_;rw[cW c]
theorem azh(c:¬ y<=x):gGe (.int x) (.int y) h=.ok (.bl false) h:=by show R.ok (D.bl (decide (y<=x))) h=_;rw[bL c]
theorem air(P:Src o N)(hN:N<=1000000000)(m0:0<m)(m1:m<1073741824):∃r o',aa [.ref 0,.int m] [o]=.ok (.int r) [o']/\0<=r/\r<m/\Src o' (N+1):=by
 obtain⟨cells,a,l,c,s,rfl,a0,l0,s0,s1,c0,c1⟩:=P.ex;unfold aa;rw[dm];show ∃r o',toR (a4c [some (.ref 0),some (.int m),none,none] [so cells a l c s])=_/\_;unfold a4c;have last:∀s':Int,0<=s'->s'<2147483647->∃r q,0<=r/\r<m/\(s'+1+(c+1)*7919)^(3:Int).toNat%2147483647=q/\(q*48271+(c+1))^(2:Int).toNat%2147483629 / 64%m=r/\CMul (c+1) 7919/\CMul q 48271 /\
   (∀h,a90 (.int (s'+1+(c+1)*7919)) (.int 3) h=.ok (.int ((s'+1+(c+1)*7919)^(3:Int).toNat)) h)/\∀h,a90 (.int (q*48271+(c+1))) (.int 2) h=.ok (.int ((q*48271+(c+1))^(2:Int).toNat)) h:=λs' h0 h1=>by
  have q0:0<=(s'+1+(c+1)*7919)^(3:Int).toNat%2147483647:=el _ (by decide)
  have q1:(s'+1+(c+1)*7919)^(3:Int).toNat%2147483647<2147483647:=dC _ (by decide)
  refine⟨_,_,el _ (by omega),dC _ m0,rfl,rfl,.inr ⟨by decide,by decide⟩,.inr ⟨by decide,by decide⟩,λh=>av4 ⟨by decide,by decide,by omega⟩,λh=>av4 ⟨by decide,by decide,?_⟩⟩
  generalize (s'+1+(c+1)*7919)^(3:Int).toNat%2147483647=q at q0 q1
  omega
 have x0:∀{a l c s:Int},gIx (.ref 0) (.int 0) [so cells a l c s]=.ok (.rol (cells.map D.int)) [so cells a l c s]:=λ{a l c s}=>v7 (j:=0) rfl rfl;have x1:∀{a l c s:Int},gIx (.ref 0) (.int 1) [so cells a l c s]=.ok (.int a) [so cells a l c s]:=λ{a l c s}=>v7 (j:=1) rfl rfl;have x2:∀{a l c s:Int},gIx (.ref 0) (.int 2) [so cells a l c s]=.ok (.int l) [so cells a l c s]:=λ{a l c s}=>v7 (j:=2) rfl rfl;have x3:∀{a l c s:Int},gIx (.ref 0) (.int 3) [so cells a l c s]=.ok (.int c) [so cells a l c s]:=λ{a l c s}=>v7 (j:=3) rfl rfl
 have x4:∀{a l c s:Int},gIx (.ref 0) (.int 4) [so cells a l c s]=.ok (.int s) [so cells a l c s]:=λ{a l c s}=>v7 (j:=4) rfl rfl;have u3:∀{a l c s:Int} {τ:Sd},τ[0]? = some (some (.ref 0))->a4i a1r (sV 0) (sI 3) (sI 1) τ [so cells a l c s]=.nx τ [so cells a l (c+1) s]:=λ{a l c s τ} h0=>azf (bj h0) ckk (aiq (j:=3) rfl rfl) ckk a1t rfl;have u1:∀{a l c s:Int} {τ:Sd},τ[0]? = some (some (.ref 0))->a4i a1r (sV 0) (sI 1) (sI 1) τ [so cells a l c s]=.nx τ [so cells (a+1) l c s]:=λ{a l c s τ} h0=>azf (bj h0) ckk (aiq (j:=1) rfl rfl) ckk a1t rfl
 have p18:∀{h:Hd},a90 (.int 10) (.int 18) h=.ok (.int 1000000000000000000) h:=λ{h}=>p18 h;have e1:∀{a l c s:Int} {t2:Option D},0<l->toR (dw (sIf (sT (s2 gGt (s2 gIx (sV 0) (sI 2)) (sI 0))) (dw (m7 3 (s2 a78 (s2 gIx (sV 0) (sI 2)) (sV 1))) (dw (a4i aau (sV 0) (sI 2) (sV 1)) (uo (sV 3)))) sNx) (dw (m7 3 (s2 a78 (s2 a90 (s2 my (s2 my (s2 gIx (sV 0) (sI 4)) (sI 1)) (s2 a3i (s2 gIx (sV 0) (sI 3)) (sI 7919))) (sI 3)) (sI 2147483647))) (uo (s2 a78 (s2 aau (s2 a78 (s2 a90 (s2 my (s2 a3i (sV 3) (sI 48271)) (s2 gIx (sV 0) (sI 3))) (sI 2)) (sI 2147483629)) (sI 64)) (sV 1)))) [some (.ref 0),some (.int m),t2,none] [so cells a l c s])=.ok (.int (l%m)) [so cells a (l / m) c s]:=λ{a l c s t2} hl=>by
  refine aP toR (aaf (aw (ifT (t2s (a1u rfl x2) ckk (aza hl))) ?_));refine aw (o6 (qm (a1u rfl x2) (bj rfl) (a9a m0))) ?_;refine aw (jj (azf (bj rfl) ckk (aiq (j:=2) rfl rfl) (bj rfl) (div_ii ⟨m0,m1⟩) rfl)) ?_;exact u9 (bj rfl)
 have e2:∀{a s':Int} {t2:Option D},0<=s'->s'<2147483647->∃r,0<=r/\r<m/\toR (dw (sIf (sT (s2 gGt (s2 gIx (sV 0) (sI 2)) (sI 0))) (dw (m7 3 (s2 a78 (s2 gIx (sV 0) (sI 2)) (sV 1))) (dw (a4i aau (sV 0) (sI 2) (sV 1)) (uo (sV 3)))) sNx) (dw (m7 3 (s2 a78 (s2 a90 (s2 my (s2 my (s2 gIx (sV 0) (sI 4)) (sI 1)) (s2 a3i (s2 gIx (sV 0) (sI 3)) (sI 7919))) (sI 3)) (sI 2147483647))) (uo (s2 a78 (s2 aau (s2 a78 (s2 a90 (s2 my (s2 a3i (sV 3) (sI 48271)) (s2 gIx (sV 0) (sI 3))) (sI 2)) (sI 2147483629)) (sI 64)) (sV 1)))) [some (.ref 0),some (.int m),t2,none] [so cells a 0 (c+1) s'])=.ok (.int r) [so cells a 0 (c+1) s']:=λ{a s' t2} h0 h1=>by
  obtain⟨r,q,r0,r1,eq,er,d1,d2,d3,d4⟩:=last s' h0 h1;refine⟨r,r0,r1,?_⟩;refine eti (t2s (a1u rfl x2) ckk (azb (by omega))) ?_
  refine ets (qm (qm (qm (qm (a1u rfl x4) ckk a0d) (qm (a1u rfl x3) ckk (a7c.trans (aT d1))) a0d) ckk (d3 _)) ckk (a9a (by decide))) ?_
  rw[eq];refine etr (u9 (qm (qm (qm (qm (qm (a1u rfl (a7c.trans (aT d2))) (a1u rfl x3) a0d) ckk (d4 _)) ckk (a9a (by decide))) ckk (div_ii ⟨by decide,by decide⟩)) (bj rfl) (a9a m0))) ?_
  rw[er];rfl
 by_cases hA:l=0/\a<(cells.length:Int)
 ·obtain⟨rfl,ha⟩:=hA;obtain⟨j,rfl⟩:=aU a0;have hj:j<cells.length:=by omega
  have gx:∀{h:Hd},gIx (.rol (cells.map D.int)) (.int (j:Nat)) h=.ok (.int cells[j]) h:=λ{h}=>as9 (by rw[aO,af hj];rfl)
  have tt:∀{c s:Int} {t2 t3:Option D},a6j (sT (s2 hEq (s2 gIx (sV 0) (sI 2)) (sI 0))) (sT (s2 gLt (s2 gIx (sV 0) (sI 1)) (sA uf (ak (s2 gIx (sV 0) (sI 0)) bw)))) [some (.ref 0),some (.int m),t2,t3] [so cells (j:Nat) 0 c s]=.ok true [so cells (j:Nat) 0 c s]:=λ{c s t2 t3} =>
   abv (t2s (a1u rfl x2) ckk (a5t rfl)) (t2s (a1u rfl x1) (ye (a1u rfl x0) (a3t.trans (by rw[ay]))) (agb ha))
  have s2':0<=(s*31+cells[j])%2147483647:=el _ (by decide)
  have s3:(s*31+cells[j])%2147483647<2147483647:=dC _ (by decide)
  have go:∀{o':O} {g:SS},sIf (sT (s2 gGe (sV 2) (s2 a90 (sI 10) (sI 18)))) (a6s (sV 2) (sV 0) (sI 2)) (a6s (s2 a78 (s2 my (s2 a3i (s2 gIx (sV 0) (sI 4)) (sI 31)) (sV 2)) (sI 2147483647)) (sV 0) (sI 4)) [some (.ref 0),some (.int m),some (.int cells[j]),none] [so cells ((j:Nat)+1) 0 (c+1) s]=.nx [some (.ref 0),some (.int m),some (.int cells[j]),none] [o']->
    toR (dw (a4i a1r (sV 0) (sI 3) (sI 1)) (dw (sIf (a6j (sT (s2 hEq (s2 gIx (sV 0) (sI 2)) (sI 0))) (sT (s2 gLt (s2 gIx (sV 0) (sI 1)) (sA uf (ak (s2 gIx (sV 0) (sI 0)) bw))))) (dw (m7 2 (s2 gIx (s2 gIx (sV 0) (sI 0)) (s2 gIx (sV 0) (sI 1)))) (dw (a4i a1r (sV 0) (sI 1) (sI 1)) (sIf (sT (s2 gGe (sV 2) (s2 a90 (sI 10) (sI 18)))) (a6s (sV 2) (sV 0) (sI 2)) (a6s (s2 a78 (s2 my (s2 a3i (s2 gIx (sV 0) (sI 4)) (sI 31)) (sV 2)) (sI 2147483647)) (sV 0) (sI 4))))) sNx) g) [some (.ref 0),some (.int m),none,none] [so cells (j:Nat) 0 c s])=toR (g [some (.ref 0),some (.int m),some (.int cells[j]),none] [o']):=λ{o' g} e=>by
   refine etr (jj (u3 rfl)) ?_;refine aP toR (jj (aw (ifT tt) ?_));refine aw (o6 (qm (a1u rfl x0) (a1u rfl x1) gx)) ?_;exact aw (jj (u1 rfl)) e
  generalize cells[j]=x at *
  by_cases hB:(1000000000000000000:Int)<=x
  ·refine⟨x%m,_,(go (o':=so cells ((j:Nat)+1) x (c+1) s) (aw (ifT (t2s (bj rfl) (qm ckk ckk p18) (azg hB))) (a8q (bj rfl) (bj rfl) ckk rfl))).trans (e1 (by omega)),el _ (by omega),dC _ m0,⟨cells,(j:Int)+1,x / m,c+1,s,rfl,by omega,Int.ediv_nonneg (by omega) (by omega),s0,s1,by omega,by omega⟩⟩
  ·obtain⟨r,r0,r1,e⟩:=e2 (a:=(j:Nat)+1) (t2:=some (.int x)) s2' s3;exact⟨r,_,(go (o':=so cells ((j:Nat)+1) 0 (c+1) ((s*31+x)%2147483647)) (aw (ifF (t2s (bj rfl) (qm ckk ckk p18) (azh hB))) (a8q (qm (qm (qm (a1u rfl x4) ckk (a7c.trans (aT (.inr ⟨by decide,by decide⟩)))) (bj rfl) a0d) ckk (a9a (by decide))) (bj rfl) ckk rfl))).trans e,r0,r1,⟨cells,(j:Int)+1,0,c+1,_,rfl,by omega,by omega,s2',s3,by omega,by omega⟩⟩
 ·have tt:a6j (sT (s2 hEq (s2 gIx (sV 0) (sI 2)) (sI 0))) (sT (s2 gLt (s2 gIx (sV 0) (sI 1)) (sA uf (ak (s2 gIx (sV 0) (sI 0)) bw)))) [some (.ref 0),some (.int m),none,none] [so cells a l (c+1) s]=.ok false [so cells a l (c+1) s]:=by
   by_cases hl:l=0
   ·exact abv (t2s (a1u rfl x2) ckk (a5t hl)) (t2s (a1u rfl x1) (ye (a1u rfl x0) (a3t.trans (by rw[ay]))) (am5 λz=>hA ⟨hl,z⟩))
   ·exact aik (t2s (a1u rfl x2) ckk (a6z hl))
  by_cases hC:0<l
  ·exact⟨l%m,_,(aP toR (jj (u3 rfl))).trans ((aP toR (ifN tt)).trans (e1 hC)),el _ (by omega),dC _ m0,⟨cells,a,l / m,c+1,s,rfl,a0,Int.ediv_nonneg (by omega) (by omega),s0,s1,by omega,by omega⟩⟩
  ·have:l=0:=by omega
   subst this;obtain⟨r,r0,r1,e⟩:=e2 (a:=a) (t2:=none) s0 s1;exact⟨r,_,(aP toR (jj (u3 rfl))).trans ((aP toR (ifN tt)).trans e),r0,r1,⟨cells,a,0,c+1,s,rfl,a0,by omega,s0,s1,by omega,by omega⟩⟩
theorem ju(P:Src o N)(hN:N<=1000000000)(m0:0<m)(m1:m<1073741824):∃r o',Dr aa 2 [.int m] o (.int r) o'/\0<=r/\r<m/\Src o' (N+1):=by
 obtain⟨r,o',e,r0,r1,P'⟩:=air P hN m0 m1;refine⟨r,o',Dr.of rfl (by simp[dh]) P.clo e (o7 (dh _) ?_) (dh _) P'.clo,r0,r1,P'⟩
 intro u hu
 simp at hu
 subst hu;exact jm (by omega) P'.clo
end SRC
namespace EVX
open L2 MI
section
variable{i:Nat}{cs:Str->Bool}{fb fs p g:SS}{τ τ1 τ2:Sd}{h h1 h2:Hd}{c:Str}{f:SE}{ka:SA}{ds:List D}{F:SF}{n:Nat}
theorem awg(e:f τ h=.ok (.bl b) h1):a9r f τ h=.ok (.bl (!b)) h1:=by unfold a9r;rw[e];rfl
theorem a8d(e:f τ h=.ok d h1)(e2:ka τ h1=.ok ds h2):ak f ka τ h=.ok (d::ds) h2:=by
 unfold ak;rw[e,di,e2];rfl
theorem b0t:MI.a1c [a] h=.ok (.tup [a]) h:=by unfold MI.a1c;rw[aT (g8 (by simp))]
theorem axu{G:List D->Hd->R D}{f1 f2 f3 f4:SE}{h3 h4 h5:Hd}{a b c d v:D}(e1:f1 τ h=.ok a h1)(e2:f2 τ h1=.ok b h2)(e3:f3 τ h2=.ok c h3)(e4:f4 τ h3=.ok d h4)(e5:G [a,b,c,d] h4=.ok v h5):sA G (ak f1 (ak f2 (ak f3 (ak f4 bw)))) τ h=.ok v h5:=by
 have:ak f1 (ak f2 (ak f3 (ak f4 bw))) τ h=.ok [a,b,c,d] h4:=by unfold ak;rw[e1,di,e2,di,e3,di,e4];rfl
 unfold sA;rw[this,di,e5]
end
end EVX
namespace SRC
open L2 MI AT HND EVX
noncomputable def iz:SF:=m8 a1g 2
theorem ints_map:∀l:List Int,a9v (l.map D.int)=some l
 |[]=>rfl
 |a::l=>by rw[br];simp only[a9v,ints_map l,fU]
theorem b2y(e:k τ h=.ok ds h1)(eg:g ds h1=.ok d h2):sA g k τ h=.ok d h2:=by
 unfold sA;rw[e,di,eg]
def cell(x:Int):Int:=2*b0a x+(if decide (x<0)=true then 1 else 0)
theorem ais(ns:List Int)(h:Hd):∃o,Src o 0/\ik true 1 iz [.scr (ns.map D.int)] h=.ok (.ref h.length) (h++[o]):=by
 have cl:clos 0 ((ns.take 63).map D.int):=gj λx _=>dh x;have z1:sZ (a3l (sV 0) oN (oS (sI 63))) [some (.scr (ns.map D.int)),none] []=.ok (.rol ((ns.take 63).map D.int)) []:=by
  refine a4j (by
   show gSl (.scr (ns.map D.int)) none (some ((63:Nat):Int)) []=_;unfold gSl;simp only[ahf,List.map_take]) cl (by simp)
 have z2:sZ (mq (sIt (sZ (a3l (sV 0) oN (oS (sI 63))))) t1 a0s []) [some (.scr (ns.map D.int)),none] []=.ok (.rol ((ns.take 63).map λx=>D.int (cell x))) []:=by
  refine a4j (xf D.int (λx=>D.int (cell x)) (ns.take 63) (a99 z1 rfl) (g8 (by simp;omega)) λx _=>?_) (gj λx _=>dh _) (by simp)
  rw[vz];unfold a0s;exact qm (qm ckk (ye (bj rfl) (aii _ _)) (a7c.trans (aT (.inl ⟨by decide,by decide⟩)))) (ye (a1u rfl rfl) rfl) a0d
 have em:((ns.take 63).map λx=>D.int (cell x))=((ns.take 63).map cell).map D.int:=by rw[cI];rfl
 rw[em]at z2
 generalize (ns.take 63).map cell=cs at z2
 have e:iz [.scr (ns.map D.int)] []=.ok (.ref 0) [.lst [.rol (cs.map D.int),.int 0,.int 0,.int 0,.int (cs.sum%2147483647)]]:=by
  unfold iz;rw[dm];show toR (a1g [some (.scr (ns.map D.int)),none] [])=_;unfold a1g;refine etr (o6 z2) ?_;have su:aum [.rol (cs.map D.int)] []=.ok (.int cs.sum) []:=by unfold aum;simp only[ints_map]
  exact aP toR (u9 (b2y (a8d (bj rfl) (a8d ckk (a8d ckk (a8d ckk (a8d (qm (ye (bj rfl) su) ckk (a9a (by decide))) rfl))))) rfl))
 have P:Src (.lst [.rol (cs.map D.int),.int 0,.int 0,.int 0,.int (cs.sum%2147483647)]) 0:=⟨cs,0,0,0,_,rfl,by decide,by decide,el _ (by decide),dC _ (by decide),by decide,by decide⟩
 exact⟨_,P,anp rfl (by simpa[MI.clo] using (gj λx _=>dh x:clos 0 (ns.map D.int))) e rfl P.clo h⟩
noncomputable def o9:SF:=m8 a0t 1
theorem aaj:Pu o9 0 [] (.str (S sig)):=HND.aaj
noncomputable def jf:SF:=m8 (a1h aa o9) 5
theorem ait{a b:List Nat}(l:a.length+b.length<=LINE):a1r (.str (S a)) (.str (S b)) h=.ok (.str (S (a++b))) h:=by
 have:=abu (h:=h) l
 simpa[a1r,my,b1m] using this
theorem awh(e:f τ h=.ok (.int i) h1):oS f τ h=.ok (some i) h1:=by unfold oS;rw[e];rfl
theorem awi(e:f τ h=.ok d h1)(e1:lo τ h1=.ok a h2)(e2:hi τ h2=.ok b h3)(e3:afp d a b h3=.ok v h4):a3l f lo hi τ h=.ok v h4:=by
 unfold a3l;rw[e,di,e1,di,e2,di,e3]
theorem aiu(P:Src o N)(hN:N<=999999000):∃l o',Tongue l/\Dr jf 1 [] o (.str (S l)) o'/\Src o' (N+7):=by
 obtain⟨r0,o1,e1,r0a,r0b,P1⟩:=ju (m:=6) P (by omega) (by decide) (by decide)
 have lo:=rm (g:=kN 3) (b:=a0u aa o9) (λi:Nat=>D.int (0+(i:Nat)))
  (λpre τ h=>∃(aG told:List Nat) (u:O) (t3 t4:Option D),τ=[some (.ref 0),some (.str (S aG)),some (.str (S told)),t3,t4]/\h=[u]/\Src u (N+1+pre.length)/\told.length=pre.length/\(told++aG).length=95/\(told++aG).Nodup/\∀c∈told++aG,c∈sig)
  (List.range (1+r0).toNat) [some (.ref 0),some (.str (S sig)),some (.str (S [])),none,none] [o1] ?_
  ⟨sig,[],o1,none,none,rfl,rfl,P1,rfl,by simp[aqy],by simpa using awf,by simp⟩
 ·obtain⟨τ',h',e2,aG,told,u,t3,t4,rfl,rfl,P2,l1,l2,nd,sb⟩:=lo;rw[aZ]at P2 l1;have T:Tongue told:=⟨by omega,by omega,(bM.mp nd).1,λc hc=>sb c (cq _ hc)⟩
  refine⟨told,u,T,Dr.of rfl (by simp) P.clo (r:=.ok (.str (S told)) [u]) ?_ (o7 (fu _) (by simpa using jm (by omega) P2.clo)) (fu _) P2.clo,P2.up (by omega)⟩
  unfold jf;rw[dm];show toR (a1h aa o9 [some (.ref 0),none,none,none,none] [o])=_;unfold a1h;have c2:ik false 2 aa [.ref 0,.int 6] [o]=.ok (.int r0) [o1]:=e1 0 [o] rfl;have bd:B62 (1+r0):=by unfold B62;omega
  refine ets (b1v (aaj _)) ?_;refine etr (o6 ckk) ?_;have it:sRg vq (ak (s2 my (sI 1) (sA (ik false 2 aa) (ak (sV 0) (ak (sI 6) bw)))) bw) [some (.ref 0),some (.str (S sig)),some (.str ""),none,none] [o]=.ok ⟨rng 0 (1+r0).toNat,λ_=>True⟩ [o1]:=by
   unfold sRg;rw[arg1 (qm ckk (wg (bj rfl) ckk c2) a0d),di];exact aT bd
  refine etr (a4k it) ?_;refine aw (aP (λz=>toR (MI.thn z _)) e2) ?_;exact aP toR (u9 (bj rfl))
 ·rintro pre i post τ h all ⟨aG,told,u,t3,t4,rfl,rfl,P2,l1,l2,nd,sb⟩
  have aH:pre.length<(1+r0).toNat:=by
   have:=aP List.length all
   simp at this;omega
  rw[ai]at l2;obtain⟨r,u',e2,ra,rb,P3⟩:=ju (m:=(aG.length:Nat)) P2 (by omega) (by omega) (by omega)
  obtain⟨j,rfl⟩:=aU ra;have hj:j<aG.length:=by omega
  have gx:aG[j]? = some aG[j]:=af hj;have pp:=aip told aG j aG[j] gx;refine⟨_,_,rfl,_,_,?_,aG.take j++aG.drop (j+1),told++[aG[j]],u',some (.int (0+(i:Nat))),some (.int (j:Nat)),rfl,rfl,by simpa[Nat.add_assoc] using P3,by simp[l1],?_,pp.nodup_iff.mp nd,λc hc=>sb c (pp.mem_iff.mpr hc)⟩
  ·unfold a0u;have L:∀n:Nat,n<=95->n<=LINE:=λn hn=>by show n<=16777216;omega
   have c2:=e2 0 [u] rfl;have x1:∀h,gIx (.str (S aG)) (.int (j:Nat)) h=.ok (.str (S [aG[j]])) h:=λh=>as7 (L _ (by omega)) gx
   have x2:∀h,uf [.str (S aG)] h=.ok (.int aG.length) h:=λh=>a6w (L _ (by omega))
   have x3:∀h,a1r (.str (S told)) (.str (S [aG[j]])) h=.ok (.str (S (told++[aG[j]]))) h:=λh=>ait (L _ (by simp;omega))
   have x4:∀h,afp (.str (S aG)) none (some (j:Int)) h=.ok (.str (S (aG.take j))) h:=λh=>as8 j (L _ (by omega))
   have x5:∀h,afp (.str (S aG)) (some ((j:Int)+1)) none h=.ok (.str (S (aG.drop (j+1)))) h:=λh=>aem (j+1) (L _ (by omega))
   have x6:∀h,my (.str (S (aG.take j))) (.str (S (aG.drop (j+1)))) h=.ok (.str (S (aG.take j++aG.drop (j+1)))) h:=λh=>abu (L _ (by simp;omega))
   have c2:ik false 2 aa [.ref 0,.int (aG.length:Nat)] [u]=.ok (.int (j:Nat)) [u']:=c2;refine aw (o6 (wg (bj rfl) (ye (bj rfl) (x2 _)) c2)) ?_;refine aw (jj (am4 rfl (qm (bj rfl) (bj rfl) (x1 _)) (x3 _))) ?_;exact aeo (qm (awi (bj rfl) rfl (awh (bj rfl)) (x4 _)) (awi (bj rfl) (awh (a1u rfl a0d)) rfl (x5 _)) (x6 _))
  ·rw[<-pp.length_eq];simpa using l2
end SRC
namespace HND
open L2 MI AT
theorem aak{ck:Hd->Prop}{g:SG}{b:SS}{α:Type}(f:α->D)(I:List α->Sd->Hd->Prop)(c:∀pre τ h,I pre τ h->ck h):∀(xs pre:List α) (τ:Sd) (h:Hd),
  (∀pre' x post τ h,pre++xs=pre'++x::post->I pre' τ h->∃τ1 h1,g (f x) τ h=.nx τ1 h1/\∃τ2 h2,b τ1 h1=.nx τ2 h2/\I (pre'++[x]) τ2 h2)->I pre τ h->∃τ' h',forL ck g b (xs.map f) τ h=.nx τ' h'/\I (pre++xs) τ' h'
 |[],pre,τ,h,_,i0=>⟨τ,h,by rw[dQ,forL,aT (c _ _ _ i0)],by simpa using i0⟩
 |x::xs,pre,τ,h,st,i0=>by
  obtain⟨τ1,h1,e1,τ2,h2,e2,i2⟩:=st pre x xs τ h rfl i0;obtain⟨τ',h',e3,i3⟩:=aak f I c xs (pre++[x]) τ2 h2 (λpre' y post τ h e=>st pre' y post τ h (by simpa using e)) i2
  refine⟨τ',h',?_,by simpa using i3⟩
  rw[br,forL,aT (c _ _ _ i0),e1];dsimp only;rw[e2];exact e3
theorem p7(h:List.range k=pre++i::post):i=pre.length/\i<k:=by
 have h1:=aP (λl=>l[pre.length]?) h;have h2:=aP List.length h;simp at h1 h2;have:pre.length<k:=by omega
 rw[dv this]at h1;simp at h1;omega
abbrev KOk(k:Int):Prop := -1<=k/\k<=5
abbrev cj(i:Nat):D:=.int (i:Nat)
theorem p8(l:List Nat):clos k (l.map cj):=gj λx _=>dh _
abbrev aax(r:List Nat):D:=.tup (r.map cj)
abbrev acl(s n:Nat)(r:List Nat):Prop:=r.length=s/\∀x∈r,x<n
structure Table where
 tg:List Nat
 go:List (List Nat)
 ks:List Int
def Table.d(T:Table):D:=.tup [.str (S T.tg),.tup (T.go.map aax),.tup (T.ks.map D.int)]
structure Table.Ok (T:Table):Prop where
 tong:Tongue T.tg
 n1:1<=T.go.length
 n32:T.go.length<=32
 row:∀r∈T.go,acl T.tg.length T.go.length r
 kl:T.ks.length=T.go.length
 k0:T.ks[0]? = some (-1)
 kk:∀k∈T.ks,KOk k
theorem Table.clo{T:Table}:clo 0 T.d:=qx (bf (fu _) (bf (qx (gj λx _=>qx (p8 _))) (bf (qx (gj λx _=>dh x)) jy)))
end HND
namespace PAP
open L2 MI AT HND
theorem anq(l:List Nat)(h:Hd):ahj (.str (S l)) h=.ok ⟨l.map λc=>.str (S [c]),λ_=>True⟩ h:=by
 show R.ok (⟨a0p (S l),λ_=>True⟩:Itm) _=_;unfold a0p;rw[a5s]
theorem ak4(e:f τ h=.ok (.int i) h1):oS f τ h=.ok (some i) h1:=by unfold oS;rw[e];rfl
theorem ak5(e:f τ h=.ok d h1)(e1:lo τ h1=.ok a h2)(e2:hi τ h2=.ok b h3)(e3:afp d a b h3=.ok v h4):a3l f lo hi τ h=.ok v h4:=by
 unfold a3l;rw[e,di,e1,di,e2,di,e3]
theorem a8d(e:f τ h=.ok d h1)(e2:k τ h1=.ok ds h2):ak f k τ h=.ok (d::ds) h2:=by
 unfold ak;rw[e,di,e2,di]
theorem aof(e:k τ h=.ok ds h1)(e2:G ds h1=.ok v h2):sA G k τ h=.ok v h2:=by
 unfold sA;rw[e,di,e2]
theorem awj{h h':Hd}(hl:h'.length=h.length)(e:f τ h=.ok (.ref h'.length) (h'++[.lst xs]))(cx:clos h.length xs)(c:∀o∈h',vy h.length o):sZ f τ h=.ok (.rol xs) h':=by
 unfold sZ;rw[e,a2t (by omega) (by simp) cx (by rw[<-hl];simpa[hl] using c)]
 rw[<-hl];simp
end PAP
def cns:=@PAP.a8d
namespace SRC
open L2 MI AT HND EVX
theorem b2z(c:x<=y):gLe (.int x) (.int y) h=.ok (.bl true) h:=by
 show R.ok (D.bl (decide (x<=y))) h=_;rw[cW c]
theorem b30(c:¬ x<=y):gLe (.int x) (.int y) h=.ok (.bl false) h:=by
 show R.ok (D.bl (decide (x<=y))) h=_;rw[bL c]
theorem asd(e1:c τ h=.ok true h1)(e2:f τ h1=r):aat c f g τ h=r:=by unfold aat;rw[e1,di,aT rfl];exact e2
theorem am9(e1:c τ h=.ok false h1)(e2:g τ h1=r):aat c f g τ h=r:=by unfold aat;rw[e1,di,bA (by simp)];exact e2
abbrev a2b(r:List Nat):D:=.rol (r.map cj)
abbrev HR(u:O)(ks:List Int)(rows:List (List Nat)):Hd:=[u,.lst (ks.map D.int),.lst (rows.map a2b)]
abbrev τR(tg:List Nat)(n:Nat)(i m:Option D)(r:Option D):Sd:=[some (.ref 0),some (.str (S tg)),some (cj n),some (.ref 1),i,m,some (.ref 2),r]
theorem anr(P:Src u N)(k:Nat):∀o∈HR u ks rows,vy k o:=by
 intro o ho
 simp only[aR,bo,cF]at ho
 rcases ho with rfl|rfl|rfl
 ·exact jm (aW _) P.clo
 ·exact jm (aW _) (gj λx _=>dh x)
 ·exact jm (aW _) (gj λx _=>km (p8 _))
theorem aiv{tg:List Nat}(P:Src u N)(hN:N<=999999000)(t6:tg.length<=6)(n1:1<=n)(n32:n<=32) :
  ∃(u':O) (row:List Nat),acl tg.length n row/\Src u' (N+6)/\sZ (mq (sIt (sV 1)) t1 (uv aa) [0,2]) (τR tg n i m r) (HR u ks rows)=.ok (a2b row) (HR u' ks rows):=by
 have mp:=a7j (f:=a82 t1 (uv aa) (frs' [0,2] (τR tg n i m r))) (λc:Nat=>D.str (S [c]))
  (λpre ys h=>∃(u':O) (row:List Nat),h=HR u' ks rows/\Src u' (N+pre.length)/\ys=row.map cj/\row.length=pre.length/\∀x∈row,x<n)
  tg [] [] (HR u ks rows) ?_ ⟨u,[],rfl,P,rfl,rfl,by simp⟩
 ·obtain⟨zs,h',em,u',row,rfl,P',ez,rl,rx⟩:=mp;rw[cE]at ez rl P';subst ez;refine⟨u',row,⟨rl,rx⟩,P'.up (by omega),?_⟩
  refine PAP.awj rfl ?_ (p8 _) (anr P' _);unfold mq;rw[a99 (bj rfl) (PAP.anq tg _),di];dsimp only;rw[aT (by rw[ay];exact g8 (by omega)),em]
  rfl
 ·rintro pre c post ys h all ⟨u',row,rfl,P',rfl,rl,rx⟩
  rw[cE]at all;have pl:pre.length<tg.length:=by rw[all];simp
  obtain⟨x,u2,e,x0,x1,P2⟩:=ju (m:=(n:Nat)) P' (by omega) (by omega) (by omega)
  obtain⟨j,rfl⟩:=aU x0;have c1:ik false 2 aa [.ref 0,cj n] (HR u' ks rows)=.ok (cj j) (HR u2 ks rows):=e 0 _ rfl;refine⟨cj j,HR u2 ks rows,?_,u2,row++[j],rfl,P2.up (by rw[ai,aI];omega),by rw[bB];rfl,by rw[ai,ai,aI,aI,rl],λy hy=>?_⟩
  ·rw[vz];unfold uv;exact wg (bj rfl) (bj rfl) c1
  ·rcases aS.mp hy with z|z
   ·exact rx y z
   ·rw[ar]at z;subst z;omega
theorem aiw{row:List Nat}(P:Src u N)(rl:row.length<=100)(fx:∀x,x∈row->fe (some (cj x)::frs' ix (τR tg n i m (some (a2b row)))) (HR u ks rows)=.ok (cj (f x)) (HR u ks rows)) :
  sZ (mq (sIt (sV 7)) t1 fe ix) (τR tg n i m (some (a2b row))) (HR u ks rows)=.ok (a2b (row.map f)) (HR u ks rows):=by
 unfold a2b;rw[cI];refine a4j (xf cj (cj ∘ f) row (a99 (bj rfl) rfl) (g8 (by omega)) λx hx=>?_) (gj λy _=>dh _) (anr P _)
 rw[vz];exact fx x hx
theorem ag2{tg:List Nat}{ks:List Int}{rows:List (List Nat)}(P:Src u N)(hN:N<=999999000)(t6:tg.length<=6)(n1:1<=n)(n32:n<=32)(lk:ks.length=n)(hi:i<n)(lr:rows.length<=100) :
  ∃(u':O) (row:List Nat) (r':Option D),acl tg.length n row/\Src u' (N+6)/\uw aa (τR tg n (some (cj i)) (some (.int m)) r) (HR u ks rows)=.nx (τR tg n (some (cj i)) (some (.int m)) r') (HR u' ks (rows++[row])):=by
 obtain⟨u',row,⟨l1,x1⟩,P',e1⟩:=aiv (i:=some (cj i)) (m:=some (.int m)) (r:=r) (ks:=ks) (rows:=rows) P hN t6 n1 n32;have fin:∀row:List Nat,ue (sML a5k (sV 6) (ak (sV 7) bw)) (τR tg n (some (cj i)) (some (.int m)) (some (a2b row))) (HR u' ks rows)=.nx (τR tg n (some (cj i)) (some (.int m)) (some (a2b row))) (HR u' ks (rows++[row])):=λrow=>by
  unfold HR;rw[bB];exact a0g (bj rfl) rfl (arg1 (bj rfl)) (a1i (xs:=rows.map a2b) rfl (by rw[ay];exact a0w (by omega)))
 have third:∀row:List Nat,acl tg.length n row->∃row',acl tg.length n row'/\dw (sIf (a6j (sT (s2 hEq (sV 5) (sI 1))) (sT (s2 hEq (sV 4) (s2 ack (sV 2) (sI 1)))))
   (m7 7 (sZ (mq (sIt (sV 7)) t1 (ww aa) [4]))) sNx) (ue (sML a5k (sV 6) (ak (sV 7) bw))) (τR tg n (some (cj i)) (some (.int m)) (some (a2b row))) (HR u' ks rows)=.nx (τR tg n (some (cj i)) (some (.int m)) (some (a2b row'))) (HR u' ks (rows++[row'])):=λrow ⟨l2,x2⟩=>by
  by_cases h1:m=1
  ·by_cases h2:(i:Int)=(n:Int)-1
   ·refine⟨row.map λ_=>i,⟨by rw[ay,l2],λx hx=>by obtain⟨_,_,rfl⟩:=bX.mp hx;exact hi⟩,?_⟩
    refine aw (jj (aw (ifT (abv (tvc rfl (a5t h1)) (t2s (bj rfl) (a1u rfl (aeq _ _)) (a5t h2)))) (aeo (aiw (f:=λ_=>i) P' (by omega) λx _=>by unfold ww;exact bj rfl)))) ?_
    exact fin _
   ·refine⟨row,⟨l2,x2⟩,?_⟩;refine aw (ifN (abv (tvc rfl (a5t h1)) (t2s (bj rfl) (a1u rfl (aeq _ _)) (a6z h2)))) ?_;exact fin _
  ·refine⟨row,⟨l2,x2⟩,?_⟩;refine aw (ifN (aik (tvc rfl (a6z h1)))) ?_;exact fin _
 unfold uw
 by_cases h0:0<m
 ·let g:Nat->Nat:=λx=>if (ks[x]?).getD 0<0/\x<=i then n-1 else x
  have gl:acl tg.length n (row.map g):=⟨by rw[ay,l1],λx hx=>by
   obtain⟨y,hy,rfl⟩:=bX.mp hx;have:=x1 y hy;show(if _ then n-1 else y)<n
   split
   ·exact Nat.sub_lt (by omega) (by decide)
   ·exact this⟩
  obtain⟨row',q,e3⟩:=third _ gl;refine⟨u',row',some (a2b row'),q,P',?_⟩;refine aw (o6 e1) ?_;refine aw (jj (aw (ifT (tvc rfl (aza h0))) (aeo (aiw (f:=g) P' (by omega) λx hx=>?_)))) ?_
  ·unfold a06;have hx':=x1 x hx;have kx:ks[x]? = some ((ks[x]?).getD 0):=by rw[af (by omega)];rfl
   have ki:∀h:Hd,h[1]? = some (.lst (ks.map D.int))->gIx (.ref 1) (cj x) h=.ok (.int ((ks[x]?).getD 0)) h:=λh hh=>v7 hh (by rw[aO,kx];rfl)
   have sb:s2 ack (sV 1) (sI 1) (some (cj x)::frs' [2,3,4] (τR tg n (some (cj i)) (some (.int m)) (some (a2b row)))) (HR u' ks rows)=.ok (cj (n-1)) (HR u' ks rows) :=
    (a1u rfl (aeq _ _)).trans (by show R.ok (D.int ((n:Int)-1)) _=R.ok (D.int ((n-1:Nat):Int)) _;congr 2;omega)
   by_cases hk:(ks[x]?).getD 0<0
   ·by_cases hx:x<=i
    ·show _=R.ok (cj (if _ then n-1 else x)) _
     rw[aT ⟨hk,hx⟩];exact asd (abv (t2s (qm (bj rfl) (bj rfl) (ki _ rfl)) ckk (agb hk)) (t2s (bj rfl) (bj rfl) (b2z (by omega)))) sb
    ·show _=R.ok (cj (if _ then n-1 else x)) _
     rw[bA λz=>hx z.2];exact am9 (abv (t2s (qm (bj rfl) (bj rfl) (ki _ rfl)) ckk (agb hk)) (t2s (bj rfl) (bj rfl) (b30 (by omega)))) (bj rfl)
   ·show _=R.ok (cj (if _ then n-1 else x)) _
    rw[bA λz=>hk z.1];exact am9 (aik (t2s (qm (bj rfl) (bj rfl) (ki _ rfl)) ckk (am5 hk))) (bj rfl)
  ·exact e3
 ·obtain⟨row',q,e3⟩:=third _ ⟨l1,x1⟩;refine⟨u',row',some (a2b row'),q,P',?_⟩;refine aw (o6 e1) ?_;refine aw (ifN (tvc rfl (azb h0))) ?_;exact e3
theorem aix:a4h 1 (HR u ks rows) FU (.tup [.ref 2,.ref 1])=some (.tup [.rol (rows.map a2b),.rol (ks.map D.int)]):=by
 have oc:∀{k:Nat} {d d':D} {ds ds':List D},a4h 1 (HR u ks rows) k d=some d'->a0m (a4h 1 (HR u ks rows) k) ds=some ds'->a0m (a4h 1 (HR u ks rows) k) (d::ds)=some (d'::ds'):=λe1 e2=>by unfold a0m;rw[e1,e2]
 refine aa9 (k:=19) (oc (a5q (k:=17) (by omega) rfl (gj λx _=>km (p8 _))) (oc (a5q (k:=17) (by omega) rfl (gj λx _=>dh x)) rfl)) ?_
 intro z
 have:=xj.mp z (.ref 2) bt
 simp only[MI.clo]at this;omega
noncomputable abbrev ant(L0:SS):SS :=
 (dw (m7 3 (sA a3f (ak (s1 a8l (sI 1)) bw)))
 (dw (a3k (sRg a8p (ak (sI 1) (ak (sV 2) bw))) (kN 4) L0)
 (dw (m7 5 (sA (ik false 2 aa) (ak (sV 0) (ak (sI 3) bw))))
 (dw (m7 6 (sA a3f bw))
 (dw (a3k (sRg vq (ak (sV 2) bw)) (kN 4) (uw aa))
 (uo (sA a1c (ak (sV 6) (ak (sV 3) bw)))))))))
theorem aiy{L0:SS}{tg:List Nat}(hk0:∀{u:O} {ks:List Int} {M:Nat} (x:Option D),Src u M->M<=999999000->ks.length<=100->∃(u':O) (k:Int),L0 [some (.ref 0),some (.str (S tg)),some (cj n),some (.ref 1),x,none,none,none] [u,.lst (ks.map D.int)]=.nx [some (.ref 0),some (.str (S tg)),some (cj n),some (.ref 1),x,none,none,none] [u',.lst ((ks++[k]).map D.int)]/\Src u' (M+2)/\KOk k)(P:Src o N)(hN:N<=999990000)(t6:tg.length<=6)(n1:1<=n)(n32:n<=32) :
  ∃(ks:List Int) (rows:List (List Nat)) (o':O),ks.length=n/\ks[0]? = some (-1)/\(∀k∈ks,KOk k)/\rows.length=n/\(∀r∈rows,acl tg.length n r) /\
   Dr (m8 (ant L0) 8) 3 [.str (S tg),cj n] o (.tup [.rol (rows.map a2b),.rol (ks.map D.int)]) o'/\Src o' (N+300):=by
 have lo:=rm (g:=kN 4) (b:=L0) (λi:Nat=>D.int ((1+i:Nat)))
  (λpre τ h=>∃(u:O) (ks:List Int) (t4:Option D),τ=[some (.ref 0),some (.str (S tg)),some (cj n),some (.ref 1),t4,none,none,none]/\h=[u,.lst (ks.map D.int)]/\Src u (N+2*pre.length)/\ks.length=1+pre.length/\ks[0]? = some (-1)/\∀k∈ks,KOk k)
  (List.range (n-1)) [some (.ref 0),some (.str (S tg)),some (cj n),some (.ref 1),none,none,none,none] [o,.lst ([-1].map D.int)] ?_
  ⟨o,[-1],none,rfl,rfl,P,rfl,rfl,by intro k hk;rw[ar]at hk;subst hk;decide⟩
 ·obtain⟨τ',h',e1,u,ks,t4,rfl,rfl,P1,l1,k0,kk⟩:=lo;rw[aZ]at P1 l1;obtain⟨m,u1,e2,m0,m1,P2⟩:=ju (m:=3) P1 (by omega) (by omega) (by omega)
  have c2:ik false 2 aa [.ref 0,.int 3] [u,.lst (ks.map D.int)]=.ok (.int m) [u1,.lst (ks.map D.int)]:=e2 0 _ rfl;have lp:=rm (g:=kN 4) (b:=uw aa) (λi:Nat=>D.int (i:Nat))
   (λpre τ h=>∃(u':O) (rows:List (List Nat)) (i r:Option D),τ=τR tg n i (some (.int m)) r/\h=HR u' ks rows/\Src u' (N+100+6*pre.length)/\rows.length=pre.length/\∀r∈rows,acl tg.length n r)
   (List.range n) (τR tg n t4 (some (.int m)) none) (HR u1 ks []) ?_ ⟨u1,[],_,_,rfl,rfl,P2.up (by omega),rfl,by simp⟩
  ·obtain⟨τ',h',e3,u',rows,i,r,rfl,rfl,P3,lr,rr⟩:=lp;rw[aZ]at P3 lr;have ca:MI.clo 0 (.tup [.rol (rows.map a2b),.rol (ks.map D.int)]):=qx (bf (km (gj λx _=>km (p8 _))) (bf (km (gj λy _=>dh y)) jy));refine⟨ks,rows,u',by omega,k0,kk,lr,rr,Dr.of rfl ?_ P.clo (r:=.ok (.tup [.ref 2,.ref 1]) (HR u' ks rows)) ?_ (a88 aix (by intro x hx;rw[show List.take 1 (HR u' ks rows)=[u'] from rfl,ar]at hx;subst hx;exact jm (by omega) P3.clo)) ca P3.clo,P3.up (by omega)⟩
   ·intro x hx
    simp only[aR,bo,cF]at hx
    rcases hx with rfl|rfl
    ·exact fu _
    ·exact dh _
   ·rw[dm];show toR (ant L0 [some (.ref 0),some (.str (S tg)),some (cj n),none,none,none,none,none] [o])=_;refine etr (o6 (d:=.ref 1) (h1:=[o,.lst ([-1].map D.int)]) rfl) ?_;refine etr (a4k (aij (a:=1) (n:=n) ckk (bj rfl) (g8 (by omega)) (g8 (by omega)))) ?_
    refine aw (aP (λz=>toR (MI.thn z _)) e1) ?_;rw[zg];refine ets (wg (bj rfl) ckk c2) ?_;refine etr (o6 (d:=.ref 2) (h1:=HR u1 ks []) rfl) ?_;refine etr (a4k (a8a (n:=n) (bj rfl) (g8 (by omega)))) ?_
    refine aw (aP (λz=>toR (MI.thn z _)) e3) ?_;rw[zg];exact aP toR (u9 (wg (bj rfl) (bj rfl) aqo))
  ·rintro pre i post τ h all ⟨u',rows,i',r,rfl,rfl,P3,lr,rr⟩
   obtain⟨hi,hk⟩:=p7 all;obtain⟨u2,row,r',q,P4,e4⟩:=ag2 (i:=i) (m:=m) (r:=r) (ks:=ks) (rows:=rows) P3 (by omega) t6 n1 n32 (by omega) hk (by omega)
   refine⟨_,_,rfl,_,_,e4,u2,rows++[row],_,_,rfl,rfl,P4.up (by rw[ai,aI];omega),by rw[ai,ai,aI,aI,lr],λx hx=>?_⟩
   rcases aS.mp hx with z|z
   ·exact rr x z
   ·rw[ar]at z;subst z;exact q
 ·rintro pre i post τ h all ⟨u,ks,t4,rfl,rfl,P2,l1,k0,kk⟩
  obtain⟨hi,hk⟩:=p7 all;obtain⟨u',k,e3,P3,hk3⟩:=hk0 (ks:=ks) (some (.int ((1+i:Nat):Int))) P2 (by omega) (by omega)
  refine⟨_,_,rfl,_,_,e3,u',ks++[k],_,rfl,rfl,P3.up (by rw[ai,aI];omega),by rw[ai,ai,aI,aI];omega,?_,λq hq=>?_⟩
  ·rw[aM (by omega)];exact k0
  ·rcases aS.mp hq with h|h
   ·exact kk q h
   ·rw[ar]at h;subst h;exact hk3
end SRC
namespace BF
def num(s:Nat):List Nat->Nat
 |[]=>0
 |c::p=>num s p*s+c+1
def walk(step:Nat->Nat->Nat)(r:Nat):List Nat->Nat
 |[]=>r
 |c::p=>step (walk step r p) c
def Ok(s:Nat)(w:List Nat):Prop:=∀c∈w,c<s
theorem Ok.nil:Ok s []:=λ_ h=>by simp at h
theorem Ok.cons{s c:Nat}{p:List Nat}(hc:c<s)(h:Ok s p):Ok s (c::p):=λd hd=>by
 rcases aR.mp hd with rfl|hd
 ·exact hc
 ·exact h d hd
theorem Ok.head(h:Ok s (c::p)):c<s:=h c bt
theorem Ok.tail(h:Ok s (c::p)):Ok s p:=λd hd=>h d (ba _ hd)
theorem anu{s a b:Nat}(h:a<b):a*s+s<=b*s:=by
 have:(a+1)*s<=b*s:=bZ s h
 rw[fV,gT]at this;exact this
theorem aiz{s a b c d:Nat}(h:a<b)(hc:c<s):a*s+c+1<b*s+d+1:=by
 have:=anu (s:=s) h
 omega
theorem aal:∀{u v:List Nat},Ok s u->Ok s v->num s u=num s v->u=v
 |[],[],_,_,_=>rfl
 |[],_::_,_,_,e=>by simp[num]at e
 |_::_,[],_,_,e=>by simp[num]at e
 |c::p,d::q,hu,hv,e=>by
  simp only[num]at e;have h1:=hu.head;have h2:=hv.head
  rcases fk (num s p) (num s q) with h|h|h
  ·have:=aiz (d:=d) h h1;omega
  ·have:=aal hu.tail hv.tail h
   subst this;have:c=d:=by omega
   rw[this]
  ·have:=aiz (d:=c) h h2;omega
section
variable{s:Nat}{step:Nat->Nat->Nat}{r0:Nat}{hit:List Nat->Prop}
structure St (s:Nat) (step:Nat->Nat->Nat) (r0:Nat) (hit:List Nat->Prop) (found:List (List Nat)) (F:Nat):Prop where
 ok:∀w∈found,Ok s w
 inc:found.Pairwise λu v=>num s u<num s v
 dis:found.Pairwise λu v=>walk step r0 u≠walk step r0 v
 com:∀w,Ok s w->num s w<F->¬ hit w/\∃v∈found,walk step r0 v=walk step r0 w/\num s v<=num s w
 low:∀w∈found,num s w<F
 len:∀(j:Nat) w,found[j]? = some w->w.length<=j
theorem St.start(h0:¬ hit []):St s step r0 hit [[]] 1:=by
 refine⟨by simp[Ok.nil],by simp,by simp,λw hw hn=>?_,by simp[num],λj w e=>?_⟩
 rotate_left
 ·cases j with
  |zero=>simp at e;subst e;exact aJ _
  |succ j=>simp at e
 cases w with
 |nil=>exact⟨h0,[],by simp,rfl,aJ _⟩
 |cons c p=>simp only[num]at hn;omega
theorem St.seen(S:St s step r0 hit found F)(hw:Ok s w)(e:num s w=F)(nh:¬ hit w)(h:∃v∈found,walk step r0 v=walk step r0 w):St s step r0 hit found (F+1):=by
 refine⟨S.ok,S.inc,S.dis,λu hu hn=>?_,λu hu=>Nat.lt_succ_of_lt (S.low u hu),S.len⟩
 rcases fY (num s u) F with h1|h1
 ·exact S.com u hu h1
 ·have:u=w:=aal hu hw (by omega)
  subst this;obtain⟨v,hv,e2⟩:=h;exact⟨nh,v,hv,e2,eK (by rw[e];exact S.low v hv)⟩
theorem St.add(S:St s step r0 hit found F)(hw:Ok s w)(e:num s w=F)(nh:¬ hit w)(h:∀v∈found,walk step r0 v≠walk step r0 w)(aH:w.length<=found.length):St s step r0 hit (found++[w]) (F+1):=by
 refine⟨λu hu=>?_,?_,?_,λu hu hn=>?_,λu hu=>?_,λj u e=>?_⟩
 ·rcases aS.mp hu with hu|hu
  ·exact S.ok u hu
  ·rw[ar.mp hu];exact hw
 ·refine List.pairwise_append.mpr ⟨S.inc,by simp,λu hu v hv=>?_⟩
  rw[ar.mp hv,e];exact S.low u hu
 ·refine List.pairwise_append.mpr ⟨S.dis,by simp,λu hu v hv=>?_⟩
  rw[ar.mp hv];exact h u hu
 ·rcases fY (num s u) F with h1|h1
  ·obtain⟨a,v,hv,b⟩:=S.com u hu h1;exact⟨a,v,cq _ hv,b⟩
  ·have:u=w:=aal hu hw (by omega)
   subst this;exact⟨nh,u,by simp,rfl,aJ _⟩
 ·rcases aS.mp hu with hu|hu
  ·exact Nat.lt_succ_of_lt (S.low u hu)
  ·rw[ar.mp hu];omega
 ·by_cases hj:j<found.length
  ·rw[aM hj]at e;exact S.len j u e
  ·rw[aN (by omega)]at e
   have:j-found.length=0:=by
    have:=(ag.mp e).1
    simp at this;omega
   rw[this]at e;simp at e;subst e;omega
theorem St.least(S:St s step r0 hit found F)(hv:Ok s v)(hh:hit v):F<=num s v :=
 eG λz=>(S.com v hv z).1 hh
theorem St.next{l:Nat}(hs:0<s)(hl:found[l]? = some w)(hl':found[l+1]? = some w')(S:St s step r0 hit found (num s w*s+s+1))(a2y:∀c p q,walk step r0 p=walk step r0 q->(hit (c::p)↔hit (c::q))):St s step r0 hit found (num s w'*s+1):=by
 obtain⟨h1,e1⟩:=ag.mp hl;obtain⟨h2,e2⟩:=ag.mp hl';have lt:num s w<num s w':=by rw[<-e1,<-e2];exact bS.mp S.inc l (l+1) h1 h2 (by omega)
 have up:=anu (s:=s) lt;refine⟨S.ok,S.inc,S.dis,λu hu hn=>?_,λu hu=>bq (S.low u hu) (by omega),S.len⟩
 rcases fY (num s u) (num s w*s+s+1) with h3|h3
 ·exact S.com u hu h3
 ·cases u with
  |nil=>simp only[num]at h3;omega
  |cons c p =>
   simp only[num]at hn h3 ⊢;have hc:=hu.head;have p1:num s p<num s w':=by
    refine Nat.lt_of_not_le λz=>?_;have:=bZ s z;omega
   have p0:num s w<num s p:=by
    refine Nat.lt_of_not_le λz=>?_;have:=bZ s z;omega
   have pw:num s p<num s w*s+s+1:=by
    have:=S.low w' (by rw[<-e2];exact bF h2)
    omega
   obtain⟨_,v,hv,ev,lv⟩:=S.com p hu.tail pw;obtain⟨j,hj⟩:=bY hv;obtain⟨h4,e4⟩:=ag.mp hj;have jl:j<=l:=by
    refine eG λz=>?_;have:num s w'<=num s v:=by
     rcases fZ (show l+1<=j from z) with q|q
     ·rw[<-e2,<-e4];exact eK (bS.mp S.inc (l+1) j h2 h4 q)
     ·subst q;rw[<-e2,<-e4];exact aJ _
    omega
   have vw:num s v<=num s w:=by
    rcases fZ jl with q|q
    ·rw[<-e1,<-e4];exact eK (bS.mp S.inc j l h4 h1 q)
    ·subst q;rw[<-e1,<-e4];exact aJ _
   have cv:num s (c::v)<num s w*s+s+1:=by
    simp only[num];have:=bZ s vw;omega
   obtain⟨nh,v',hv',ev',lv'⟩:=S.com (c::v) (Ok.cons hc (S.ok v hv)) cv;refine⟨λz=>nh ((a2y c v p ev).mpr z),v',hv',?_,?_⟩
   ·rw[ev'];simp only[walk,ev]
   ·simp only[num]at lv';have:=bZ s lv;omega
theorem St.all(hl:found[l]? = some w)(hn:found.length=l+1)(S:St s step r0 hit found (num s w*s+s+1))(h0:¬ hit [])(hz:[]∈found)(a2y:∀c p q,walk step r0 p=walk step r0 q->(hit (c::p)↔hit (c::q))) :
  ∀u,Ok s u->¬ hit u/\∃v∈found,walk step r0 v=walk step r0 u/\num s v<=num s u
 |[],_=>⟨h0,[],hz,rfl,aJ _⟩
 |c::p,hu=>by
  obtain⟨_,v,hv,ev,lv⟩:=St.all hl hn S h0 hz a2y p hu.tail;have hc:=hu.head;obtain⟨h1,e1⟩:=ag.mp hl;obtain⟨j,hj⟩:=bY hv;obtain⟨h4,e4⟩:=ag.mp hj;have vw:num s v<=num s w:=by
   rcases fZ (show j<=l by omega) with q|q
   ·rw[<-e1,<-e4];exact eK (bS.mp S.inc j l h4 h1 q)
   ·subst q;rw[<-e1,<-e4];exact aJ _
  have cv:num s (c::v)<num s w*s+s+1:=by
   simp only[num];have:=bZ s vw;omega
  obtain⟨nh,v',hv',ev',lv'⟩:=S.com (c::v) (Ok.cons hc (S.ok v hv)) cv;refine⟨λz=>nh ((a2y c v p ev).mpr z),v',hv',?_,?_⟩
  ·rw[ev'];simp only[walk,ev]
  ·simp only[num]at lv' ⊢;have:=bZ s lv;omega
end
theorem aam(s c:Nat):∀x:List Nat,num s (x++[c])=(c+1)*s^x.length+num s x
 |[]=>by simp[num]
 |a::x=>by
  show num s (x++[c])*s+a+1=_;rw[aam s c x,aY,Nat.pow_succ,<-Nat.mul_assoc,num,fV];omega
theorem aes:∀{x y:List Nat},x.length=y.length->Ok s x->Ok s y->num s x<num s y+s^x.length
 |[],[],_,_,_=>by simp[num]
 |a::x,b::y,l,hx,hy=>by
  have ih:=aes (x:=x) (y:=y) (by simpa using l) hx.tail hy.tail
  have ha:=hx.head;simp only[num,aY,Nat.pow_succ];have:=bZ s (show num s x+1<=num s y+s^x.length from ih)
  rw[fV,fV,gT]at this;omega
theorem a9c(hs:0<s):∀{x y:List Nat},x.length<y.length->Ok s x->num s x<num s y
 |[],b::y,_,_=>by simp[num]
 |a::x,b::y,l,hx=>by
  have:=a9c hs (x:=x) (y:=y) (by simpa using l) hx.tail
  exact aiz this hx.head
theorem a6g(step:Nat->Nat->Nat)(r c:Nat):∀x:List Nat,walk step r (x++[c])=walk step (step r c) x
 |[]=>rfl
 |a::x=>by show step (walk step r (x++[c])) a=_;rw[a6g step r c x];rfl
section
variable(s:Nat)(step:Nat->Nat->Nat)(K:Nat->Bool)
def fl:Nat->Nat->Bool
 |0,r=>K r
 |k+1,r=>(List.range s).any λc=>fl k (step r c)
def fst(k r:Nat):Nat:=((List.range s).find? λc=>fl s step K k (step r c)).getD 0
def gre:Nat->Nat->List Nat
 |0,_=>[]
 |k+1,r=>fst s step K k r::gre k (step r (fst s step K k r))
variable{s step K}
theorem anv(h:fl s step K (k+1) r=true):fst s step K k r<s/\fl s step K k (step r (fst s step K k r))=true/\∀d,d<fst s step K k r->fl s step K k (step r d)=false:=by
 unfold fst
 cases e:(List.range s).find? λc=>fl s step K k (step r c) with
 |none =>
  rw[eW]at e;simp only[fl,eI]at h;obtain⟨c,hc,h⟩:=h;exact absurd h (e c hc)
 |some c =>
  simp only[cQ];have h1:=List.find?_some e;have h2:=List.mem_of_find?_eq_some e;refine⟨bR.mp h2,h1,λd hd=>?_⟩;rw[dO]at e;simpa using e.2.2 d hd
theorem ac2:∀{k r:Nat},fl s step K k r=true->(gre s step K k r).length=k/\Ok s (gre s step K k r).reverse/\K (walk step r (gre s step K k r).reverse)=true
 |0,r,h=>⟨rfl,Ok.nil,h⟩
 |k+1,r,h=>by
  obtain⟨h1,h2,_⟩:=anv h;obtain⟨l,o,w⟩:=ac2 h2;refine⟨by simp[gre,l],λc hc=>?_,?_⟩
  ·simp only[gre,dP,aS,ar]at hc
   rcases hc with hc|rfl
   ·exact o c hc
   ·exact h1
  ·rw[gre,dP,a6g];exact w
theorem ama:∀{u:List Nat} {r:Nat},Ok s u.reverse->K (walk step r u.reverse)=true->fl s step K u.length r=true
 |[],r,_,h=>h
 |c::u,r,o,h=>by
  rw[dP]at o h;rw[a6g]at h;simp only[aY,fl,eI];exact⟨c,bR.mpr (o c (by simp)),ama (λd hd=>o d (by simp[List.mem_reverse.mp hd])) h⟩
theorem ac3:∀{u:List Nat} {r:Nat},Ok s u.reverse->K (walk step r u.reverse)=true->num s (gre s step K u.length r).reverse<=num s u.reverse
 |[],r,_,_=>aJ _
 |c::u,r,o,h=>by
  have hf:=ama o h;obtain⟨h1,h2,h3⟩:=anv (show fl s step K (u.length+1) r=true from hf)
  rw[dP]at o h;rw[a6g]at h;have ou:Ok s u.reverse:=λd hd=>o d (by simp[List.mem_reverse.mp hd])
  have hc:fl s step K u.length (step r c)=true:=ama ou h;rw[aY,gre,dP,dP,aam,aam];obtain⟨gl,go,_⟩:=ac2 h2
  rcases fk c (fst s step K u.length r) with q|q|q
  ·rw[h3 c q]at hc;cases hc
  ·rw[<-q]at gl ⊢;have:=ac3 ou h;simp only[dU,gl]at this ⊢;omega
  ·have n:=aes (s:=s) (x:=(gre s step K u.length (step r (fst s step K u.length r))).reverse) (y:=u.reverse) (by simp[gl]) go ou
   simp only[dU,gl]at n ⊢;have:=bZ (s^u.length) (show fst s step K u.length r+1+1<=c+1 by omega)
   rw[fV _ 1,gT]at this;omega
end
theorem aan:∀(n:Nat) (l:List Nat),l.Nodup->(∀x∈l,x<n)->l.length<=n
 |0,l,_,h=>by
  cases l with
  |nil=>exact aJ _
  |cons x l=>exact absurd (h x bt) (by omega)
 |n+1,l,nd,h=>by
  have:=aan n (l.erase n) (nd.erase n) λx hx=>by
   have h1:=h x (List.mem_of_mem_erase hx);have h2:x≠n:=λz=>by subst z;exact(List.Nodup.not_mem_erase nd) hx
   omega
  have:=List.length_erase (a:=n) (l:=l)
  split at this<;>omega
end BF
namespace SRC
open L2 MI AT HND EVX
theorem b0u{ck:Hd->Prop}{f:D->Hd->R D}{α:Type}(g F:α->D){h:Hd}(c:ck h):∀{xs:List α},(∀x∈xs,f (g x) h=.ok (F x) h)->mapR ck f (xs.map g) h=.ok (xs.map F) h
 |[],_=>by rw[dQ,mapR,aT c];rfl
 |x::xs,st=>by
  rw[br,mapR,aT c,st x bt];show(mapR _ f (xs.map g) h).bind _=_;rw[b0u g F c λy hy=>st y (ba _ hy)];rfl
theorem amb{fi:SI}{t:D->Option Sd}{fe:SE}{ix:List Nat}{τ:Sd}{h:Hd}{α:Type}{ck:Hd->Prop}(g F:α->D)(xs:List α)(c:ck h)(e:fi τ h=.ok ⟨xs.map g,ck⟩ h)(z:xs.length<=LINE)
  (st:∀x∈xs,a82 t fe (frs' ix τ) (g x) h=.ok (F x) h):mq fi t fe ix τ h=.ok (.ref h.length) (h++[.lst (xs.map F)]):=by
 unfold mq;rw[e,di];dsimp only;rw[aT (by rw[ay];exact z),b0u g F c st]
 rfl
theorem aqz{l:List Nat}:inD (cj x) (l.map cj)=decide (x∈l):=by
 unfold inD;rw[List.any_map]
 by_cases h:x∈l
 ·rw[cW h,eI];exact⟨x,h,by show((x:Int) == (x:Int))=true;simp⟩
 ·rw[bL h,List.any_eq_false]
  intro y hy
  have:x≠y:=λe=>h (e ▸ hy)
  show ¬ ((y:Int) == (x:Int))=true;rw[fg];omega
theorem aet{l:List Nat}(e:h[i]? = some (.lst (l.map cj))):gIn true (cj x) (.ref i) h=.ok (.bl (!decide (x∈l))) h:=by
 have fl:a2g (cj x)=true/\(l.map cj).all a2g=true:=⟨rfl,by
  rw[cp]
  intro y hy
  obtain⟨n,_,rfl⟩:=bX.mp hy
  rfl⟩
 unfold gIn a2p;simp only[e,aT fl,de,aqz]
abbrev cst(l:List Nat):List Int:=l.map λx:Nat=>(x:Int)
theorem aj0(l:List Nat):l.map cj=(cst l).map D.int:=by unfold cst;rw[cI];rfl
theorem a9d{l:List Nat}(e:h[i]? = some (.lst (l.map cj))):a94 (.ref i) h=some (cst l):=by
 unfold a94;simp only[e];rw[aj0,ints_map]
theorem ag3(l:List Nat):∃m:List Nat,PySem.W.sortI (cst l)=cst m/\m.Perm l/\m.Pairwise (·<=·):=by
 have p:=PySem.W.sortI_perm (cst l);have s:=PySem.W.sortI_rises (cst l);refine⟨(PySem.W.sortI (cst l)).map Int.toNat,?_,?_,?_⟩
 ·unfold cst;rw[cI];have:∀x∈PySem.W.sortI (l.map λx:Nat=>(x:Int)),((λx:Nat=>(x:Int)) ∘ Int.toNat) x=x:=λx hx=>by
   have:=p.mem_iff.mp hx
   obtain⟨y,_,rfl⟩:=bX.mp this;simp
  rw[eJ this];simp
 ·have:=p.map Int.toNat
  have e:(cst l).map Int.toNat=l:=by
   unfold cst;rw[cI];exact(eJ λx _=>by simp).trans (List.map_id l)
  rwa[e]at this
 ·rw[List.pairwise_map];exact s.imp λh=>by omega
def pos(m:List Nat)(x:Nat):Nat:=(ixI (x:Int) (cst m)).getD 0
theorem aj1{m:List Nat}{x:Nat}(h:x∈m):ixI (x:Int) (cst m)=some (pos m x)/\pos m x<m.length:=by
 obtain⟨j,hj⟩:=aei (n:=(x:Int)) (l:=cst m) (bX.mpr ⟨x,h,rfl⟩);unfold pos;rw[hj];refine⟨rfl,?_⟩;have:=(ag.mp (aeh hj).1).1;simpa using this
structure Met (n:Nat) (met:List Nat):Prop where
 nd:met.Nodup
 lt:∀x∈met,x<n
 z:0∈met
theorem Met.len(M:Met n met):met.length<=n:=BF.aan n met M.nd M.lt
theorem Met.add(M:Met n met)(hx:x<n)(h:x∉met):Met n (met++[x]):=by
 refine⟨?_,λy hy=>?_,cq _ M.z⟩
 ·rw[bM];refine⟨M.nd,by simp,λa ha b hb=>?_⟩
  rw[ar]at hb;subst hb;exact λe=>h (e ▸ ha)
 ·rcases aS.mp hy with z|z
  ·exact M.lt y z
  ·rw[ar]at z;subst z;exact hx
section
variable{A B C:SF}{most n:Nat}{tg:List Nat}{many:Int}{rows:List (List Nat)}{ks:List Int}
def Done(rows:List (List Nat))(met:List Nat)(i:Nat):Prop:=∀j,j<i->∀r,met[j]? = some r->∀x∈(rows[r]?).getD [],x∈met
end
theorem aj2{l:List Nat}(e:h[i]? = some (.lst (l.map cj)))(z:l.length<64)(em:PySem.W.sortI (cst l)=cst m):a4z [.ref i] h=.ok (.ref h.length) (h++[.lst (m.map cj)]):=by
 have q:=a9d e;unfold a4z;simp only[q];rw[aT (by unfold cst;rw[ay];exact z),em,<-aj0]
theorem aj3{m:List Nat}(e:h[i]? = some (.lst (m.map cj)))(hx:x∈m):a87 (.ref i) [cj x] h=.ok (cj (pos m x)) h:=by
 have q:=a9d e;unfold a87;simp only[q,(aj1 hx).1]
section
variable{A B C:SF}{most n:Nat}{tg:List Nat}{many:Int}{rows:List (List Nat)}{ks:List Int}
abbrev aao(rows:List (List Nat))(m:List Nat):List (List Nat):=m.map λr=>((rows[r]?).getD []).map (pos m)
abbrev a9e(ks:List Int)(m:List Nat):List Int:=m.map λr=>(ks[r]?).getD 0
end
end SRC
namespace K21
open L2 MI
noncomputable def a0c:SE :=
 (s2 (gIn false) (sV 0) (sV 1))
noncomputable def wz:SS :=
 (uo (a6p (sA a0r (ak (sV 1) (ak (sC (.ty "str")) bw))) (sA anc (ak (sZ (mq (sIt (sV 1)) t1 a0c [0])) bw))))
end K21
namespace K23
open L2 MI
noncomputable def a0c:SE :=
 (s2 (gIn false) (sV 0) (sV 1))
noncomputable def wz:SS :=
 (uo (a6p (sA a0r (ak (sV 1) (ak (sC (.ty "str")) bw))) (sA anc (ak (sZ (mq (sIt (sV 1)) t1 a0c [0])) bw))))
noncomputable def a02(n6:SF):SS :=
 (uo (s2 gIx (sA (ik false 3 n6) (ak (sV 0) (ak (sV 1) (ak (sV 2) bw)))) (s1 a8l (sI 1))))
noncomputable def uq:SS :=
 (ue (sML a5k (sV 6) (ak (s2 gIx (s2 gIx (sV 4) (s2 gIx (sV 6) (s1 a8l (sI 1)))) (sMS abh (sV 3) (ak (sV 7) bw))) bw)))
noncomputable def vf:SS :=
 (dw (a77 (sV 0) (a4g 3 (iy (kN 3) (iy (kN 4) (iy (kN 5) a4x)))))
 (dw (m7 6 (sA a3f (ak (sV 1) bw)))
 (dw (a3k (sIt (sV 2)) (kN 7) uq)
 (uo (sV 6)))))
end K23
namespace K22
open L2 MI
noncomputable def yq(jb:SF):SE :=
 (sA (ik false 2 jb) (ak (sV 1) (ak (sV 0) bw)))
noncomputable def xu(jb:SF):SS :=
 (uo (sA xq (ak (sZ (mq (sRg vq (ak (sA uf (ak (s2 gIx (sV 0) (sI 1)) bw)) bw)) t1 (yq jb) [0])) bw)))
noncomputable def kh:SS :=
 (dw (sIf (sT (s2 hNe (s2 gIx (sV 4) (sV 11)) (s1 a8l (sI 1))))
 (uo (s2 my (sV 9) (sV 10)))
 sNx)
 (sIf (sT (s2 (as5 true) (sV 11) (sV 6)))
 (dw (aa8 (sC (.bl true)) (sV 6) (sV 11))
 (ue (sML a5k (sV 5) (ak (sA a1c (ak (sV 11) (ak (s2 my (sV 9) (sV 10)) bw))) bw))))
 sNx))
noncomputable def wy:ST :=
 (sT (s2 gLt (sV 7) (sA uf (ak (sV 5) bw))))
noncomputable def qy:SS :=
 (dw (a77 (s2 gIx (sV 5) (sV 7)) (a4g 2 (iy (kN 8) (iy (kN 9) a4x))))
 (dw (a3k (ai1 (sV 2) (s2 gIx (sV 3) (sV 8))) (a4g 2 (iy (kN 10) (iy (kN 11) a4x))) kh)
 (afl 7 a1r (sI 1))))
noncomputable def a01:SS :=
 (dw (a77 (sV 0) (a4g 3 (iy (kN 2) (iy (kN 3) (iy (kN 4) a4x)))))
 (dw (m7 5 (sA a3f (ak (sA a1c (ak (sV 1) (ak (sC (.str "")) bw))) bw)))
 (dw (m7 6 (s2 gD1 (sV 1) (sC (.bl true))))
 (dw (m7 7 (sI 0))
 (dw (sWh wy qy 100000)
 (uo (sC .non)))))))
noncomputable def a4d(iu:SF):SE :=
 (s2 a79 (sV 0) (sC .non))
noncomputable def a6v(iu:SF):SS :=
 (uo (sA xq (ak (sZ (mq (sIt (sA (ik false 1 iu) (ak (sV 0) bw))) t1 (a4d iu) [])) bw)))
end K22
namespace K22
open L2 MI AT HND
section
variable(T:Table)
def stp(r c:Nat):Nat:=(((T.go[r]?).getD [])[c]?).getD 0
def knd(r:Nat):Bool:=decide ((T.ks[r]?).getD (-1) ≠ -1)
def tgA(c:Nat):Nat:=(T.tg[c]?).getD 0
def sgn(w:List Nat):List Nat:=(w.reverse).map (tgA T)
def hit(r0:Nat)(w:List Nat):Prop:=w≠[]/\knd T (BF.walk (stp T) r0 w)=true
end
theorem amc(T:Table)(c:Nat)(w:List Nat):sgn T (c::w)=sgn T w++[tgA T c]:=by simp[sgn]
theorem ar0(T:Table)(w:List Nat):(sgn T w).length=w.length:=by simp[sgn]
section
variable{T:Table}(h:T.Ok)
theorem a8e(h:T.Ok)(r c:Nat):stp T r c<T.go.length:=by
 have h1:=h.n1;unfold stp
 cases e:T.go[r]? with
 |none=>simp;omega
 |some row =>
  simp only[cQ]
  cases e2:row[c]? with
  |none=>simp;omega
  |some x=>simp only[cQ];exact(h.row row (aQ e)).2 x (aQ e2)
theorem adf(h:T.Ok)(hr:r<T.go.length):∀w:List Nat,BF.walk (stp T) r w<T.go.length
 |[]=>hr
 |c::w=>a8e h _ c
theorem a8f(h:T.Ok)(hr:r<T.go.length):∃row:List Nat,T.go[r]? = some row/\row.length=T.tg.length/\(∀x∈row,x<T.go.length)/\∀c,c<T.tg.length->row[c]? = some (stp T r c):=by
 refine⟨T.go[r],af hr,(h.row _ (bF hr)).1,(h.row _ (bF hr)).2,λc hc=>?_⟩;have l:=(h.row _ (bF hr)).1;unfold stp;rw[af hr,cQ,af (by omega),cQ]
theorem aj4(h:T.Ok)(hr:r<T.go.length):∃k:Int,T.ks[r]? = some k /\ -1<=k/\knd T r=decide (k ≠ -1):=by
 have l:r<T.ks.length:=by rw[h.kl];exact hr
 refine⟨T.ks[r],af l,(h.kk _ (bF l)).1,?_⟩;unfold knd;rw[af l,cQ]
theorem azi(hc:c<T.tg.length):T.tg[c]? = some (tgA T c):=by
 unfold tgA;rw[af hc,cQ]
theorem a2y(r0 c:Nat)(p q:List Nat)(e:BF.walk (stp T) r0 p=BF.walk (stp T) r0 q):hit T r0 (c::p)↔hit T r0 (c::q):=by
 unfold hit;simp only[BF.walk,e,ne_eq,List.cons_ne_nil,not_false_eq_true,true_and]
theorem aj5(r0:Nat):¬ hit T r0 []:=λz=>z.1 rfl
end
def fnd(T:Table)(r0:Nat)(ws:List (List Nat)):List D:=ws.map λw=>.tup [cj (BF.walk (stp T) r0 w),.str (S (sgn T w))]
def snn(T:Table)(r0:Nat)(ws:List (List Nat)):List (Key×D):=ws.map λw=>(.inl ((BF.walk (stp T) r0 w:Nat):Int),.bl true)
theorem ar3(h:∃v∈ws,BF.walk (stp T) r0 v=to):∃d,abo (snn T r0 ws) (.inl (to:Int))=some d:=by
 obtain⟨v,hv,e⟩:=h;unfold abo
 cases e2:(snn T r0 ws).find? λkv=>decide (kv.1=(.inl (to:Int):Key)) with
 |some kv=>exact⟨kv.2,rfl⟩
 |none =>
  rw[eW]at e2;exact absurd (by rw[decide_eq_true_iff,e]) (e2 _ (bX.mpr ⟨v,hv,rfl⟩))
theorem awk(h:∀v∈ws,BF.walk (stp T) r0 v≠to):abo (snn T r0 ws) (.inl (to:Int))=none/\putD (snn T r0 ws) (.inl (to:Int)) (.bl true)=snn T r0 ws++[(.inl (to:Int),.bl true)]:=by
 have no:∀kv∈snn T r0 ws,¬ decide (kv.1=(.inl (to:Int):Key))=true:=λkv hkv=>by
  obtain⟨v,hv,rfl⟩:=bX.mp hkv;rw[decide_eq_true_iff]
  intro z
  have:=Sum.inl.inj z
  exact h v hv (by omega)
 constructor
 ·unfold abo;rw[eW.mpr no];rfl
 ·unfold putD;rw[bA]
  intro z
  obtain⟨kv,hkv,e⟩:=eI.mp z;exact no kv hkv e
abbrev tau(T:Table)(r0 l:Nat)(t8 t9 t10 t11:Option D):Sd:=[some T.d,some (cj r0),some (.str (S T.tg)),some (.tup (T.go.map aax)),some (.tup (T.ks.map D.int)),some (.ref 0),some (.ref 1),some (cj l),t8,t9,t10,t11]
abbrev hp(T:Table)(r0:Nat)(ws:List (List Nat)):Hd:=[.lst (fnd T r0 ws),.dK (snn T r0 ws)]
theorem few(T:Table)(h:T.Ok)(hr:r0<T.go.length)(St:BF.St T.tg.length (stp T) r0 (hit T r0) ws F):ws.length<=T.go.length:=by
 have:=BF.aan T.go.length (ws.map λw=>BF.walk (stp T) r0 w) (List.pairwise_map.mpr St.dis) λx hx=>by
  obtain⟨w,_,rfl⟩:=bX.mp hx;exact adf h hr w
 simpa using this
def Won(T:Table)(r0:Nat)(d:D):Prop:=∃w,BF.Ok T.tg.length w/\hit T r0 w/\(∀v,BF.Ok T.tg.length v->hit T r0 v->BF.num T.tg.length w<=BF.num T.tg.length v)/\w.length<=T.go.length/\d=.str (S (sgn T w))
theorem aj6{T:Table}(h:T.Ok)(hr:r0<T.go.length)(hl:ws[l]? = some w)(hc:c<T.tg.length)(St:BF.St T.tg.length (stp T) r0 (hit T r0) ws (BF.num T.tg.length w*T.tg.length+c+1))(τ:Sd)
  (hτ:τ=tau T r0 l (some (cj (BF.walk (stp T) r0 w))) (some (.str (S (sgn T w)))) (some (.str (S [tgA T c]))) (some (cj (stp T (BF.walk (stp T) r0 w) c)))) :
  (∃ws',kh τ (hp T r0 ws)=.nx τ (hp T r0 ws')/\(∀v∈ws,v∈ws')/\ws'[l]? = some w/\BF.St T.tg.length (stp T) r0 (hit T r0) ws' (BF.num T.tg.length w*T.tg.length+(c+1)+1)) \/
  ∃d h',kh τ (hp T r0 ws)=.rt d h'/\Won T r0 d:=by
 have n32:=h.n32;have fw:=few T h hr St;have ll:=(ag.mp hl).1;have wl:=St.len l w hl;have rl:=adf h hr w;have wo:BF.Ok T.tg.length (c::w):=BF.Ok.cons hc (St.ok w (aQ hl));have sl:=a8e h (BF.walk (stp T) r0 w) c;obtain⟨k,hk,k1,kd⟩:=aj4 h sl;have add:∀hh,my (.str (S (sgn T w))) (.str (S [tgA T c])) hh=.ok (.str (S (sgn T (c::w)))) hh:=λhh=>by
  rw[amc];exact abu (g8 (by rw[ar0];simp;omega))
 have ki:∀hh,gIx (.tup (T.ks.map D.int)) (cj (stp T (BF.walk (stp T) r0 w) c)) hh=.ok (.int k) hh:=λhh=>a8r (by rw[aO,hk];rfl)
 by_cases hz:k = -1
 ·have nh:¬ hit T r0 (c::w):=λz=>by
   have:=z.2
   rw[BF.walk,kd,hz]at this;simp at this
  have s1:∀g:SS,dw (sIf (sT (s2 hNe (s2 gIx (sV 4) (sV 11)) (s1 a8l (sI 1)))) (uo (s2 my (sV 9) (sV 10))) sNx) g τ (hp T r0 ws)=g τ (hp T r0 ws):=λg=>by
   subst hτ;exact ifN (t2s (qm (bj rfl) (bj rfl) (ki _)) (yw ckk (a8b _)) (aim hz))
  refine .inl ?_
  by_cases sn:∃v∈ws,BF.walk (stp T) r0 v=stp T (BF.walk (stp T) r0 w) c
  ·obtain⟨d,hd⟩:=ar3 sn;refine⟨ws,?_,λv hv=>hv,hl,St.seen wo rfl nh sn⟩;unfold kh;rw[s1];have q:as5 true (cj (stp T (BF.walk (stp T) r0 w) c)) (.ref 1) (hp T r0 ws)=.ok (.bl false) (hp T r0 ws):=by
    show(match (some (abo (snn T r0 ws) (.inl ((stp T (BF.walk (stp T) r0 w) c:Nat):Int))):Option (Option D)) with|some r=>R.ok (D.bl (if true then !r.isSome else r.isSome)) (hp T r0 ws)|none=>.no)=_
    rw[hd];rfl
   subst hτ;exact ifF (t2s (bj rfl) (bj rfl) q)
  ·have sn':∀v∈ws,BF.walk (stp T) r0 v≠stp T (BF.walk (stp T) r0 w) c:=λv hv z=>sn ⟨v,hv,z⟩;obtain⟨d1,d2⟩:=awk sn';refine⟨ws++[c::w],?_,λv hv=>cq _ hv,by rw[aM ll];exact hl,St.add wo rfl nh sn' (by rw[aY];omega)⟩
   unfold kh;rw[s1];have q:as5 true (cj (stp T (BF.walk (stp T) r0 w) c)) (.ref 1) (hp T r0 ws)=.ok (.bl true) (hp T r0 ws):=by
    show(match (some (abo (snn T r0 ws) (.inl ((stp T (BF.walk (stp T) r0 w) c:Nat):Int))):Option (Option D)) with|some r=>R.ok (D.bl (if true then !r.isSome else r.isSome)) (hp T r0 ws)|none=>.no)=_
    rw[d1];rfl
   have p:as6 (.ref 1) (cj (stp T (BF.walk (stp T) r0 w) c)) (.bl true) (hp T r0 ws)=some [.lst (fnd T r0 ws),.dK (snn T r0 (ws++[c::w]))]:=by
    have lt:(snn T r0 ws).length<LINE:=a0w (by unfold snn;rw[ay];omega)
    show(if (snn T r0 ws).length<LINE then some [O.lst (fnd T r0 ws),O.dK (putD (snn T r0 ws) (.inl ((stp T (BF.walk (stp T) r0 w) c:Nat):Int)) (.bl true))] else none)=_
    rw[aT lt,d2];unfold snn;rw[bB];rfl
   subst hτ;refine aw (ifT (t2s (bj rfl) (bj rfl) q)) ?_;refine aw (jj (ava ckk (bj rfl) (bj rfl) p)) ?_;refine aw (a0g (bj rfl) rfl (arg1 (wg (bj rfl) (qm (bj rfl) (bj rfl) (add _)) aqo)) (a1i (xs:=fnd T r0 ws) rfl (a0w (by unfold fnd;rw[ay];omega)))) ?_
   unfold hp fnd;rw[bB];rfl
 ·refine .inr ⟨_,hp T r0 ws,?_,c::w,wo,⟨by simp,by rw[BF.walk,kd];simpa using hz⟩,λv ov hv=>?_,by rw[aY];omega,rfl⟩
  ·subst hτ;unfold kh;exact aaf (ifr (t2s (qm (bj rfl) (bj rfl) (ki _)) (yw ckk (a8b _)) (avb hz)) (qm (bj rfl) (bj rfl) (add _)))
  ·exact St.least ov hv
theorem ar4{T:Table}{row:List Nat}(l:row.length=T.tg.length)(at':∀c,c<T.tg.length->row[c]? = some (stp T r c)) :
  ((a0p (S T.tg)).zip (row.map cj)).map (λp=>D.tup [p.1,p.2])=(List.range T.tg.length).map λc=>.tup [.str (S [tgA T c]),cj (stp T r c)]:=by
 refine fq λi=>?_;unfold a0p;rw[a5s]
 by_cases hi:i<T.tg.length
 ·have hx:=at' i hi;have ht:=azi (T:=T) hi;rw[aO,aO,dv hi,eE (z:=(D.str (S [tgA T i]),cj (stp T r i))).mpr ⟨by rw[aO,ht];rfl,by rw[aO,hx];rfl⟩]
  rfl
 ·rw[cN (by simp;omega),cN (by simp;omega)]
noncomputable def jb:SF:=m8 a01 12
theorem a6h{T:Table}(h:T.Ok)(hr:r0<T.go.length):∃d h',jb [T.d,cj r0] []=.ok d h'/\(Won T r0 d\/(d=.non/\∀v,BF.Ok T.tg.length v->¬ hit T r0 v)):=by
 have n32:=h.n32;have s1:=h.tong.lo;have s6:=h.tong.hi;have wh:=aih (c:=wy) (f:=qy)
  (λm τ hh=>∃(ws:List (List Nat)) (l:Nat) (t8 t9 t10 t11:Option D),τ=tau T r0 l t8 t9 t10 t11/\hh=hp T r0 ws/\[]∈ws/\m=T.go.length-l/\ws.length<=T.go.length/\((∃w,ws[l]? = some w/\BF.St T.tg.length (stp T) r0 (hit T r0) ws (BF.num T.tg.length w*T.tg.length+1))\/(l=ws.length/\∀v,BF.Ok T.tg.length v->¬ hit T r0 v)))
  (λ_ _=>∀v,BF.Ok T.tg.length v->¬ hit T r0 v) (λd _=>Won T r0 d) ?_ T.go.length 100000 (tau T r0 0 none none none none) (hp T r0 [[]]) (by omega)
  ⟨[[]],0,none,none,none,none,rfl,rfl,by simp,by simp,by simpa using h.n1,.inl ⟨[],rfl,by simpa[BF.num] using BF.St.start (aj5 r0)⟩⟩
 ·have e0:jb [T.d,cj r0] []=toR (dw (sWh wy qy 100000) (uo (sC .non)) (tau T r0 0 none none none none) (hp T r0 [[]])):=by
   unfold jb;rw[dm];show toR (a01 [some T.d,some (cj r0),none,none,none,none,none,none,none,none,none,none] [])=_;unfold a01;refine aP toR ?_;refine aw (jj (a6y (bj rfl) rfl)) ?_;refine aw (o6 (ye (wg (bj rfl) ckk aqo) rfl)) ?_;refine aw (o6 (a1u rfl rfl)) ?_;exact aw (o6 ckk) rfl
  rcases wh with⟨τ',h',e,no⟩|⟨d,h',e,won⟩
  ·exact⟨.non,h',by rw[e0,jj e];rfl,.inr ⟨rfl,no⟩⟩
  ·exact⟨d,h',by rw[e0,aaf e];rfl,.inl won⟩
 ·rintro m τ hh ⟨ws,l,t8,t9,t10,t11,rfl,rfl,em,rfl,wn,q⟩
  have ln:uf [.ref 0] (hp T r0 ws)=.ok (.int (ws.length:Nat)) (hp T r0 ws):=by
   have:=a0v (h:=hp T r0 ws) (i:=0) (xs:=fnd T r0 ws) rfl
   rwa[show(fnd T r0 ws).length=ws.length from by simp[fnd]]at this
  rcases q with⟨w,hw,St⟩|⟨rfl,no⟩
  ·have ll:=(ag.mp hw).1;refine .inr ⟨_,t2s (bj rfl) (ye (bj rfl) ln) (agb (by omega)),?_⟩
   obtain⟨row,er,lr,lx,at'⟩:=a8f h (adf h hr w);have lo:=aaa (g:=a4g 2 (iy (kN 10) (iy (kN 11) a4x))) (b:=kh) (λc:Nat=>D.tup [.str (S [tgA T c]),cj (stp T (BF.walk (stp T) r0 w) c)])
    (λpre τ hh=>∃(ws:List (List Nat)) (t10 t11:Option D),τ=tau T r0 l (some (cj (BF.walk (stp T) r0 w))) (some (.str (S (sgn T w)))) t10 t11/\hh=hp T r0 ws/\[]∈ws/\ws[l]? = some w/\BF.St T.tg.length (stp T) r0 (hit T r0) ws (BF.num T.tg.length w*T.tg.length+pre.length+1))
    (λd _=>Won T r0 d) (List.range T.tg.length) [] (tau T r0 l (some (cj (BF.walk (stp T) r0 w))) (some (.str (S (sgn T w)))) t10 t11) (hp T r0 ws) ?_ ⟨ws,t10,t11,rfl,rfl,em,hw,St⟩
   ·have fx:gIx (.ref 0) (cj l) (hp T r0 ws)=.ok (.tup [cj (BF.walk (stp T) r0 w),.str (S (sgn T w))]) (hp T r0 ws):=v7 (xs:=fnd T r0 ws) rfl (by unfold fnd;rw[aO,hw];rfl)
    have zi:ai1 (sV 2) (s2 gIx (sV 3) (sV 8)) (tau T r0 l (some (cj (BF.walk (stp T) r0 w))) (some (.str (S (sgn T w)))) t10 t11) (hp T r0 ws)=.ok ⟨(List.range T.tg.length).map λc=>.tup [.str (S [tgA T c]),cj (stp T (BF.walk (stp T) r0 w) c)],λ_=>True⟩ (hp T r0 ws):=by
     unfold ai1;rw[bj rfl,di,qm (bj rfl) (bj rfl) (a8r (by rw[aO,er];rfl)),di,<-ar4 lr at']
     unfold aur;simp only[srcOf,and_self]
    have e1:∀g:SS,dw (a77 (s2 gIx (sV 5) (sV 7)) (a4g 2 (iy (kN 8) (iy (kN 9) a4x)))) (dw (a3k (ai1 (sV 2) (s2 gIx (sV 3) (sV 8))) (a4g 2 (iy (kN 10) (iy (kN 11) a4x))) kh) g) (tau T r0 l t8 t9 t10 t11) (hp T r0 ws)=thn (forL (λ_=>True) (a4g 2 (iy (kN 10) (iy (kN 11) a4x))) kh ((List.range T.tg.length).map λc=>.tup [.str (S [tgA T c]),cj (stp T (BF.walk (stp T) r0 w) c)]) (tau T r0 l (some (cj (BF.walk (stp T) r0 w))) (some (.str (S (sgn T w)))) t10 t11) (hp T r0 ws)) g:=λg=>by
     refine aw (jj (a6y (qm (bj rfl) (bj rfl) fx) rfl)) ?_;exact a4k zi
    rcases lo with⟨τ',h',e2,ws',t10',t11',rfl,rfl,em',hw',St'⟩|⟨d,h',e2,won⟩
    ·rw[cE,aZ]at St';have wn':=few T h hr St';have ll':=(ag.mp hw').1;refine .inl ⟨tau T r0 (l+1) (some (cj (BF.walk (stp T) r0 w))) (some (.str (S (sgn T w)))) t10' t11',hp T r0 ws',T.go.length-(l+1),?_,by omega,ws',l+1,_,_,_,_,rfl,rfl,em',rfl,wn',?_⟩
     ·unfold qy;rw[e1,e2,zg];exact am4 rfl ckk a1t
     ·by_cases more:l+1<ws'.length
      ·exact .inl ⟨ws'[l+1],af more,St'.next (by omega) hw' (af more) (a2y r0)⟩
      ·exact .inr ⟨by omega,λv ov=>(St'.all hw' (by omega) (aj5 r0) em' (a2y r0) v ov).1⟩
    ·refine .inr ⟨d,h',?_,won⟩;unfold qy;rw[e1,e2,abp]
   ·rintro pre c post τ hh all ⟨ws,t10,t11,rfl,rfl,em,hw,St⟩
    rw[cE]at all;obtain⟨hi,hc⟩:=p7 all;rw[<-hi]at St;refine⟨_,_,rfl,?_⟩
    rcases aj6 h hr hw hc St _ rfl with⟨ws',e3,sb,hw',St'⟩|⟨d,h',e3,won⟩
    ·refine .inl ⟨_,_,e3,ws',_,_,rfl,rfl,sb _ em,hw',by rw[ai,aI,<-hi];exact St'⟩
    ·exact .inr ⟨d,h',e3,won⟩
  ·refine .inl ⟨_,t2s (bj rfl) (ye (bj rfl) ln) (am5 (by omega)),no⟩
section
variable{T:Table}
abbrev FL(T:Table)(k r:Nat):Bool:=BF.fl T.tg.length (stp T) (knd T) k r
theorem awl(h:T.Ok)(hr:r<T.go.length):T.go[r]? = some ((List.range T.tg.length).map (stp T r)):=by
 obtain⟨row,e,l,_,at'⟩:=a8f h hr;rw[e]
 congr 1
 refine fq λi=>?_
 by_cases hi:i<T.tg.length
 ·rw[at' i hi,aO,dv hi];rfl
 ·rw[cN (by omega),cN (by simp;omega)]
def kI(T:Table)(r:Nat):Int:=(T.ks[r]?).getD (-1)
abbrev b0v(T:Table)(r:Nat):D:=aax ((List.range T.tg.length).map (stp T r))
theorem aj7{α:Type}(l:List α)(x:α):atI (l++[x]) (-1)=some x:=by
 have:ixN (l++[x]).length (-1)=some l.length:=by
  unfold ixN;rw[bA (by decide),ai,aI]
  rw[aT (by omega)]
  congr 1
  omega
 unfold atI;rw[this];simp
end
section
variable{T:Table}
def amd(T:Table)(r:Nat):Option Nat:=(List.range T.go.length).find? λi=>FL T (1+i) r
def gtx(T:Table)(k r:Nat):List Nat:=(BF.gre T.tg.length (stp T) (knd T) k r).map (tgA T)
def A(T:Table)(r:Nat):D:=match amd T r with|none=>.non|some i=>.str (S (gtx T (1+i) r))
theorem anw(h:T.Ok)(w:Won T r d\/(d=.non/\∀v,BF.Ok T.tg.length v->¬ hit T r v)):d=A T r:=by
 have s1:=h.tong.lo;unfold A
 rcases w with⟨w,wo,wh,wl,wn,rfl⟩|⟨rfl,no⟩
 ·have w1:w.length≠0:=λz=>wh.1 (gE.mp z);have fw:FL T w.length r=true:=by
   have:=BF.ama (s:=T.tg.length) (step:=stp T) (K:=knd T) (u:=w.reverse) (r:=r) (by rw[cU];exact wo) (by rw[cU];exact wh.2)
   rwa[dU]at this
  cases e:amd T r with
  |none =>
   unfold amd at e;rw[eW]at e;have:=e (w.length-1) (by rw[bR];omega)
   rw[show 1+(w.length-1)=w.length by omega]at this
   exact absurd fw this
  |some i =>
   unfold amd at e;obtain⟨fi,hi,lo⟩:=dO.mp e;obtain⟨gl,go,gh⟩:=BF.ac2 fi;have ghit:hit T r (BF.gre T.tg.length (stp T) (knd T) (1+i) r).reverse:=⟨λz=>by
    have:=aP List.length z
    simp[gl]at this,gh⟩
   have le:1+i<=w.length:=by
    refine eG λz=>?_;have:=lo (w.length-1) (by omega)
    rw[show 1+(w.length-1)=w.length by omega,fw]at this
    simp at this
   have n1:=wl _ go ghit;have eq:w.length=1+i:=by
    refine Nat.le_antisymm (eG λz=>?_) le;have:=BF.a9c (s:=T.tg.length) (by omega) (x:=(BF.gre T.tg.length (stp T) (knd T) (1+i) r).reverse) (y:=w) (by rw[dU,gl];exact z) go
    omega
   have n2:=BF.ac3 (s:=T.tg.length) (step:=stp T) (K:=knd T) (u:=w.reverse) (r:=r) (by rw[cU];exact wo) (by rw[cU];exact wh.2)
   rw[dU,cU,eq]at n2;have:=BF.aal wo go (by omega)
   dsimp only;unfold gtx sgn
   conv=>lhs;rw[this,cU]
 ·cases e:amd T r with
  |none=>rfl
  |some i =>
   unfold amd at e;obtain⟨fi,hi,lo⟩:=dO.mp e;obtain⟨gl,go,gh⟩:=BF.ac2 fi;exact(no _ go ⟨λz=>by
    have:=aP List.length z
    simp[gl]at this,gh⟩).elim
theorem ar5(n r:Nat):clo n (A T r):=by
 unfold A
 cases amd T r with
 |none=>exact a0q
 |some i=>exact fu _
theorem awm{n:Nat}(d:D)(hd:clo 0 d):∀x∈[T.d,d],clo 0 x:=by
 intro x hx
 simp only[aR,bo,cF]at hx
 rcases hx with rfl|rfl
 ·exact Table.clo
 ·exact hd
theorem ac4(h:T.Ok)(hr:r<T.go.length):Pu jb 2 [T.d,cj r] (A T r):=by
 obtain⟨d,h',e,q⟩:=a6h h hr;have:=anw h q;subst this;exact Pu.of rfl (awm (n:=0) _ (dh _)) e (o7 (ar5 _ _) (by simp)) (ar5 _ _)
theorem anx(h:T.Ok)(hr:r<T.go.length)(hh:Hd):gIx (.tup (T.go.map aax)) (cj r) hh=.ok (b0v T r) hh:=a8r (by rw[aO,awl h hr];rfl)
end
end K22
namespace K23
open L2 MI AT HND K22
section
variable{T:Table}
def Pln:D->Prop
 |.non=>True|.bl _=>True|.int _=>True|.str x=>x.cps.toList.length<=1000|.tup xs=>clos 0 xs|.rol xs=>clos 0 xs|.rod _ xs=>clos 0 xs|_=>False
theorem Pln.clo(p:Pln d):clo 0 d:=by
 cases d<;>first|(simp only[Pln]at p;done)|(simp only[Pln]at p;simpa[MI.clo] using p)|simp[MI.clo]
def isStr:D->Bool|.str _=>true|_=>false
theorem awn(p:Pln d):a0r [d,.ty "str"] h=.ok (.bl (isStr d)) h:=by
 cases d<;>first|(simp only[Pln]at p;done)|simp[a0r,al4,tyD,aht,isStr]
def psn(T:Table)(c:Nat):Nat:=(a5e (S T.tg) c).toNat
def ldw(T:Table)(r:Nat):List Nat->Nat
 |[]=>r
 |c::l=>ldw T (stp T r (psn T c)) l
theorem ac6(hc:c∈T.tg):a5e (S T.tg) c=(psn T c:Nat)/\psn T c<T.tg.length:=by
 obtain⟨i,e1,e2,_⟩:=ady (T:=S T.tg) (c:=c) (by rw[a5s];exact hc)
 rw[a5s]at e2;unfold psn;rw[e1];exact⟨by simp,by simpa using (ag.mp e2).1⟩
theorem anz(h:T.Ok):∀(l:List Nat) {r:Nat},r<T.go.length->ldw T r l<T.go.length
 |[],_,hr=>hr
 |c::l,r,_=>anz h l (a8e h r _)
theorem aeu(c:Nat):∀(l:List Nat) (r:Nat),ldw T r (l++[c])=stp T (ldw T r l) (psn T c)
 |[],_=>rfl
 |d::l,r=>aeu c l _
theorem anq(l:List Nat)(h:Hd):ahj (.str (S l)) h=.ok ⟨l.map λc=>.str (S [c]),λ_=>True⟩ h:=by
 show R.ok (⟨a0p (S l),λ_=>True⟩:Itm) _=_;unfold a0p;rw[a5s]
theorem ao0(hc:c∈T.tg)(h:Hd):ad3 (.str (S T.tg)) [.str (S [c])] h=.ok (cj (psn T c)) h:=by
 show R.ok (D.int (a5e (S T.tg) c)) h=_;rw[(ac6 hc).1]
theorem ar6(hc:c∈T.tg)(h:Hd):abh (.str (S T.tg)) [.str (S [c])] h=.ok (cj (psn T c)) h:=by
 show(if c∈(S T.tg).cps.toList then R.ok (D.int (a5e (S T.tg) c)) h else .no)=_
 rw[aT (by rw[a5s];exact hc),(ac6 hc).1]
theorem awo(e1:f τ h=.ok (.str z) h1)(e2:k τ h1=.ok ds h2)(e3:g (.str z) ds h2=.ok v h3):sMS g f k τ h=.ok v h3:=by
 unfold sMS;rw[e1,di];dsimp only;rw[e2,di,e3]
theorem awp(h:T.Ok)(hc:c<T.tg.length)(hh:Hd):gIx (b0v T r) (cj c) hh=.ok (cj (stp T r c)) hh:=a8r (by rw[aO,aO,dv hc];rfl)
theorem awq(hd:clo 0 d)(he:clo 0 e):∀x∈[T.d,d,e],clo 0 x:=by
 intro x hx
 simp only[aR,bo,cF]at hx
 rcases hx with rfl|rfl|rfl
 ·exact Table.clo
 ·exact hd
 ·exact he
noncomputable def n6:SF:=m8 vf 8
noncomputable def oh:SF:=m8 (a02 n6) 3
def rms(T:Table)(r:Nat)(l:List Nat):List Nat:=(List.range (l.length+1)).map λi=>ldw T r (l.take i)
theorem ame(r c:Nat)(l:List Nat):rms T r (l++[c])=rms T r l++[ldw T r (l++[c])]:=by
 unfold rms;rw[ai,aI,fR (n:=l.length+1),bB,eX]
 congr 1
 ·refine eJ λi hi=>?_;rw[bR]at hi;rw[List.take_append_of_le_length (by omega)]
 ·rw[cy (by simp)]
theorem aev(r:Nat)(l:List Nat):∃p,rms T r l=p++[ldw T r l]:=by
 unfold rms;rw[fR,bB,eX];exact⟨_,by rw[cy (aJ _)]⟩
theorem aap(h:T.Ok)(hr:r<T.go.length)(hl:∀c∈l,c∈T.tg)(ll:l.length<=1000):Pu n6 3 [T.d,cj r,.str (S l)] (.rol ((rms T r l).map cj)):=by
 refine Pu.of rfl (awq (dh _) (fu _)) (r:=.ok (.ref 0) [.lst ((rms T r l).map cj)]) ?_ (a2t (aJ _) rfl (p8 _) (by simp)) (km (p8 _))
 unfold n6;rw[dm];show toR (vf [some T.d,some (cj r),some (.str (S l)),none,none,none,none,none] [])=_;unfold vf;refine etr (jj (a6y (bj rfl) rfl)) ?_;refine etr (o6 (d:=.ref 0) (h1:=[.lst ((rms T r []).map cj)]) rfl) ?_;refine etr (a4k (a99 (bj rfl) (anq l _))) ?_;have lp:=rm (g:=kN 7) (b:=uq) (λc:Nat=>D.str (S [c]))
  (λpre τ hh=>∃t7:Option D,τ=[some T.d,some (cj r),some (.str (S l)),some (.str (S T.tg)),some (.tup (T.go.map aax)),some (.tup (T.ks.map D.int)),some (.ref 0),t7]/\hh=[.lst ((rms T r pre).map cj)]) l
  [some T.d,some (cj r),some (.str (S l)),some (.str (S T.tg)),some (.tup (T.go.map aax)),some (.tup (T.ks.map D.int)),some (.ref 0),none] [.lst ((rms T r []).map cj)] ?_ ⟨none,rfl,rfl⟩
 ·obtain⟨τ',h',e,t7,rfl,rfl⟩:=lp;refine aw (aP (λz=>toR (thn z _)) e) ?_;rfl
 ·rintro pre c post τ hh all ⟨t7,rfl,rfl⟩
  have hc:=hl c (by rw[all];simp)
  have pl:pre.length<=l.length:=by rw[all];simp
  refine⟨_,_,rfl,[some T.d,some (cj r),some (.str (S l)),some (.str (S T.tg)),some (.tup (T.go.map aax)),some (.tup (T.ks.map D.int)),some (.ref 0),some (.str (S [c]))],[.lst ((rms T r (pre++[c])).map cj)],?_,_,rfl,rfl⟩;unfold uq;obtain⟨p,ep⟩:=aev (T:=T) r pre;have last:∀hh:Hd,hh[0]? = some (.lst ((rms T r pre).map cj))->gIx (.ref 0) (.int (-1)) hh=.ok (cj (ldw T r pre)) hh:=λhh e0=>by
   rw[a97];unfold a2p;simp only[e0];rw[ep,bB,eX,aj7]
  refine aw (a0g (v:=.non) (bj rfl) rfl (arg1 (qm (qm (bj rfl) (qm (bj rfl) (yw ckk (a8b _)) (last _ rfl)) (anx h (anz h pre hr) _)) (awo (bj rfl) (arg1 (bj rfl)) (ar6 hc _)) (awp h (ac6 hc).2 _))) (a1i (xs:=(rms T r pre).map cj) rfl (a0w (by simp[rms];omega)))) ?_
  rw[ame,bB,aeu];rfl
theorem ar7(h:T.Ok)(hr:r<T.go.length)(hl:∀c∈l,c∈T.tg)(ll:l.length<=1000):Pu oh 3 [T.d,cj r,.str (S l)] (cj (ldw T r l)):=by
 refine Pu.of rfl (awq (dh _) (fu _)) (r:=.ok (cj (ldw T r l)) []) ?_ (o7 (dh _) (by simp)) (dh _)
 unfold oh;rw[dm];show toR (a02 n6 [some T.d,some (cj r),some (.str (S l))] [])=_;unfold a02;obtain⟨p,ep⟩:=aev (T:=T) r l;refine aP toR (u9 (qm (aga (bj rfl) (bj rfl) (bj rfl) (aap h hr hl ll _)) (yw ckk (a8b _)) ?_));rw[a96,ep,bB,eX,aj7]
noncomputable def ud:SF:=m8 wz 2
def inT(T:Table)(l:List Nat):Bool:=l.all λc=>decide (c∈T.tg)
theorem awr(bs:List Bool)(h:Hd):anc [.rol (bs.map D.bl)] h=.ok (.bl (bs.all id)) h:=by
 unfold anc;simp only[al5]
theorem amf{l:List Nat}(ll:l.length<=1000)(hce:∀c:Nat,ce [some (.str (S [c])),some (.str (S T.tg))] []=.ok (.bl (decide (c∈T.tg))) [])(h1:τ[1]? = some (some (.str (S l))))(h0:τ[0]? = some (some (.str (S T.tg)))) :
  sA anc (ak (sZ (mq (sIt (sV 1)) t1 ce [0])) bw) τ []=.ok (.bl (inT T l)) []:=by
 have cz:sZ (mq (sIt (sV 1)) t1 ce [0]) τ []=.ok (.rol ((l.map λc=>decide (c∈T.tg)).map D.bl)) []:=by
  rw[cI];refine a4j (xf (λc:Nat=>D.str (S [c])) (λc=>.bl (decide (c∈T.tg))) l (a99 (bj h1) (anq l _)) (g8 (by omega)) λc _=>?_) (gj λc _=>zj _) (by simp)
  rw[vz,am3,aqn,h0];exact hce c
 refine ye cz ?_;rw[awr]
 congr 2
 unfold inT;rw[List.all_map];rfl
theorem ar8(c:Nat)(h:Hd):gIn false (.str (S [c])) (.str (S T.tg)) h=.ok (.bl (decide (c∈T.tg))) h:=by
 show R.ok (D.bl (decide (c∈(S T.tg).cps.toList))) h=_;rw[a5s]
theorem aj8{l:List Nat}(ll:l.length<=1000):Pu ud 2 [.str (S T.tg),.str (S l)] (.bl (inT T l)):=by
 refine Pu.of rfl (by intro x hx;simp only[aR,bo,cF]at hx;rcases hx with rfl|rfl<;>exact fu _) (r:=.ok (.bl (inT T l)) []) ?_ (o7 (zj _) (by simp)) (zj _)
 unfold ud;rw[dm];show toR (wz [some (.str (S T.tg)),some (.str (S l))] [])=_;unfold wz;exact aP toR (u9 (av9 (wg (bj rfl) ckk (awn (d:=.str (S l)) (by simp only[Pln,a5s];exact ll))) (amf ll (λc=>qm (bj rfl) (bj rfl) (ar8 c _)) rfl rfl)))
theorem azj(e:f τ h=.ok (.bl false) h1):a6p f k τ h=.ok (.bl false) h1:=by unfold a6p;rw[e,di]
theorem aj9(p:Pln d)(ns:isStr d=false):Pu ud 2 [.str (S T.tg),d] (.bl false):=by
 refine Pu.of rfl (by intro x hx;simp only[aR,bo,cF]at hx;rcases hx with rfl|rfl;exact fu _;exact p.clo) (r:=.ok (.bl false) []) ?_ (o7 (zj _) (by simp)) (zj _)
 unfold ud;rw[dm];show toR (wz [some (.str (S T.tg)),some d] [])=_;unfold wz;exact aP toR (u9 (azj (wg (bj rfl) ckk (by rw[awn p,ns]))))
end
end K23
namespace K21
open L2 MI AT HND K22 K23 EVX
section
variable{T:Table}
noncomputable def ud:SF:=m8 wz 2
def txt(T:Table):D->Bool
 |.str x=>inT T x.cps.toList
 |_=>false
theorem aws(l:List Nat):txt T (.str (S l))=inT T l:=by simp only[txt,a5s]
theorem ag4(p:Pln d):Pu ud 2 [.str (S T.tg),d] (.bl (txt T d)):=by
 by_cases sd:isStr d=true
 ·obtain⟨x,rfl⟩:∃x,d=.str x:=by cases d<;>first|exact⟨_,rfl⟩|(simp[isStr]at sd)
  have ll:x.cps.toList.length<=1000:=p;rw[<-alz x]at ll ⊢;rw[a5s]at ll;rw[aws];exact K23.aj8 ll
 ·have sd':isStr d=false:=by simpa using sd
  have:txt T d=false:=by cases d<;>first|rfl|(simp[isStr]at sd)
  rw[this];exact K23.aj9 p sd'
theorem afy(ha:MI.clo 0 a)(hb:MI.clo 0 b):∀x∈[a,b],MI.clo 0 x:=by
 intro x hx
 simp only[aR,bo,cF]at hx
 rcases hx with rfl|rfl
 ·exact ha
 ·exact hb
theorem ar9(h:Hd):gIx T.d (.int 0) h=.ok (.str (S T.tg)) h:=a8r (j:=0) rfl
theorem ara(h:Hd):gIx T.d (.int 2) h=.ok (.tup (T.ks.map D.int)) h:=a8r (j:=2) rfl
theorem aja(h:T.Ok)(hr:r<T.go.length)(hh:Hd):gIx (.tup (T.ks.map D.int)) (cj r) hh=.ok (.int (kI T r)) hh:=by
 obtain⟨k,e,_⟩:=aj4 h hr;exact a8r (by rw[aO,e];simp[kI,e])
end
section
variable{T:Table}
abbrev ones(t:List Nat):List D:=t.map λc=>.str (S [c])
theorem join_ones:∀t:List Nat,Txt.join (S []) (t.map λc=>S [c])=S t:=by
 have e:∀zs:List Str,Txt.join (S []) zs=Str.join (S []) zs:=PySem.StrLaws.glued_eq_join (S []);have st:∀(x y:Str) (r:List Str),Str.join (S []) (x::y::r)=x++S []++Str.join (S []) (y::r):=λ_ _ _=>rfl
 intro t
 rw[e]
 induction t with
 |nil=>rfl
 |cons a t ih =>
  cases t with
  |nil=>rfl
  |cons b t =>
   rw[br,br,st,show S [b]::t.map (λc=>S [c])=(b::t).map (λc=>S [c]) from rfl,ih,aqm,aqm]
   rfl
theorem ac8:∀t:List Nat,ad4 (ones t)=some (t.map λc=>S [c])
 |[]=>rfl
 |a::t=>by
  show(ad4 (ones t)).map _=_;rw[ac8 t];rfl
theorem amg(t:List Nat):((t.map λc=>S [c]).map (·.length)).sum=t.length:=by
 induction t with
 |nil=>rfl
 |cons a t ih=>rw[br,br,List.sum_cons,ih,abt,aY];simp;omega
theorem aca{t:List Nat}(z:t.length<=1000000):a9t (.str (S [])) [.rol (ones t)] h=.ok (.str (S t)) h:=by
 unfold a9t;simp only[ac8,amg,abt,eQ,Nat.mul_zero,Nat.add_zero,join_ones];rw[aT (by omega)]
theorem b0w{h h':Hd}(hl:h'.length=h.length)(e:f τ h=.ok (.ref h'.length) (h'++[.lst xs]))(cx:clos h.length xs)(c:∀o∈h',vy h.length o):sZ f τ h=.ok (.rol xs) h':=by
 unfold sZ;rw[e,a2t (by omega) (by simp) cx (by rw[<-hl];simpa[hl] using c)]
 rw[<-hl];simp
end
end K21
namespace SRC
open L2 MI AT HND EVX K22 K23 K21
section
variable{T:Table}
noncomputable def jc:SF:=m8 SRC.a0k 3
theorem a70{xs:List Int}(xl:xs.length<=10):Pu SRC.jc 2 [.tup (xs.map D.int),cj xs.length] (.bl true):=by
 refine Pu.of rfl (afy (qx (gj λx _=>dh x)) (dh _)) (r:=.ok (.bl true) []) ?_ (o7 (zj _) (by simp)) (zj _)
 unfold SRC.jc;rw[dm];show toR (SRC.a0k [some (.tup (xs.map D.int)),some (cj xs.length),none] [])=_;unfold SRC.a0k;have it:∀h:Hd,a0r [.tup (xs.map D.int),.ty "tuple"] h=.ok (.bl true) h:=λh=>by simp[a0r,al4,tyD,aht]
 refine eti (orF (aep (a03 (wg (bj rfl) ckk (it _)) (qj _))) (t2s (ye (bj rfl) a6x) (bj rfl) (aim (by rw[ay])))) ?_
 refine etr (a4k (a99 (bj rfl) rfl)) ?_;have lp:=rm (g:=kN 2) (b:=SRC.a0e) D.int
  (λpre τ hh=>∃t2:Option D,τ=[some (.tup (xs.map D.int)),some (cj xs.length),t2]/\hh=[]) xs [some (.tup (xs.map D.int)),some (cj xs.length),none] [] ?_ ⟨none,rfl,rfl⟩
 ·obtain⟨τ',h',e,t2,rfl,rfl⟩:=lp;refine aw (aP (λz=>toR (MI.thn z _)) e) ?_;rfl
 ·rintro pre x post τ hh all ⟨t2,rfl,rfl⟩
  refine⟨_,_,rfl,[some (.tup (xs.map D.int)),some (cj xs.length),some (.int x)],[],?_,_,rfl,rfl⟩;unfold SRC.a0e;have ii:∀h:Hd,a0r [.int x,.ty "int"] h=.ok (.bl true) h:=λh=>by simp[a0r,al4,tyD,aht]
  have ib:∀h:Hd,a0r [.int x,.ty "bool"] h=.ok (.bl false) h:=λh=>by simp[a0r,al4,tyD,aht]
  exact aw (ifF (orF (aep (a03 (wg (bj rfl) ckk (ii _)) (qj _))) (a03 (wg (bj rfl) ckk (ib _)) (qj _)))) rfl
end
end SRC
namespace K40
open L2 MI AT HND EVX K22 K23 K21
section
variable{τ:Sd}{h h1 h2:Hd}{c1 c2:ST}{f g k:SE}{p q:SS}
theorem orB(e1:c1 τ h=.ok a h)(e2:a=false->c2 τ h=.ok b h):sOr c1 c2 τ h=.ok (a || b) h:=by
 cases a with
 |true=>rw[orT e1];rfl
 |false=>rw[orF e1 (e2 rfl)];rfl
theorem b31(x y:Int):gGe (.int x) (.int y) h=.ok (.bl (decide (y<=x))) h:=rfl
end
section
variable{T:Table}
def rw'(T:Table)(r:Nat):List Nat:=(T.go[r]?).getD []
theorem arb(h:T.Ok)(hr:r<T.go.length):T.go[r]? = some (rw' T r)/\(rw' T r).length<=6/\∀x∈rw' T r,x<T.go.length:=by
 have e:T.go[r]? = some (rw' T r):=by unfold rw';rw[af hr];rfl
 obtain⟨a,b⟩:=h.row _ (aQ e);exact⟨e,by have:=h.tong.hi;omega,b⟩
theorem azk(h:T.Ok)(hr:r<T.go.length)(hh:Hd):gIx (.tup (T.go.map aax)) (cj r) hh=.ok (aax (rw' T r)) hh:=a8r (by rw[aO,(arb h hr).1];rfl)
theorem go1(h:Hd):gIx T.d (.int 1) h=.ok (.tup (T.go.map aax)) h:=a8r (j:=1) rfl
theorem awt(h:T.Ok)(hr:r<T.go.length) : -1<=kI T r:=by
 obtain⟨k,e,k1,_⟩:=aj4 h hr;unfold kI;rw[e];exact k1
end
section
variable{T:Table}
theorem azl(ha:MI.clo 0 a):∀x∈[a],MI.clo 0 x:=by intro x hx;rw[ar]at hx;subst hx;exact ha
end
theorem b0x(e:fi τ h=.ok ⟨xs,ck⟩ h1):a3k fi G b τ h=forL ck G b xs τ h1:=by
 unfold a3k;rw[e];rfl
section
variable{T:Table}
def bg(bs:List Bool)(i:Nat):Bool:=(bs[i]?).getD false
theorem awu{bs:List Bool}(hi:i<bs.length):(bs.map D.bl)[i]? = some (.bl (bg bs i)):=by unfold bg;rw[aO,af hi];rfl
abbrev HB(bs:List Bool):Hd:=[.lst (bs.map D.bl)]
theorem awv(bs:List Bool)(i:Nat):(bs.map D.bl).set i (.bl true)=(bs.set i true).map D.bl:=by rw[g7]
theorem kge(h:T.Ok)(hp:Hd)(h0:τ[0]? = some (some T.d))(hj:τ[j]? = some (some (cj t)))(ht:t<T.go.length):s2 gIx (s2 gIx (sV 0) (sI 2)) (sV j) τ hp=.ok (.int (kI T t)) hp:=qm (qm (bj h0) ckk (ara _)) (bj hj) (aja h ht _)
theorem aww(h:T.Ok)(hp:Hd)(h0:τ[0]? = some (some T.d))(hj:τ[j]? = some (some (cj r)))(hr:r<T.go.length):sIt (s2 gIx (s2 gIx (sV 0) (sI 1)) (sV j)) τ hp=.ok ⟨(rw' T r).map cj,λ_=>True⟩ hp:=a99 (qm (qm (bj h0) ckk (go1 _)) (bj hj) (azk h hr _)) rfl
end
end K40
namespace K22
open L2 MI AT HND
section
variable{T:Table}
noncomputable def iu:SF:=m8 (xu jb) 1
noncomputable def a2z:SF:=m8 (a6v iu) 1
abbrev aew(T:Table):List D:=(List.range T.go.length).map (A T)
abbrev aex(T:Table):List D:=(List.range T.go.length).map λr=>.bl (!a5i (A T r))
theorem a8g(n:Nat):clos n (aew T):=gj λr _=>ar5 _ _
theorem a71(n:Nat):clos n (aex T):=gj λr _=>zj _
theorem awx:∀x∈[T.d],clo 0 x:=by
 intro x hx
 rw[ar]at hx;subst hx;exact Table.clo
theorem T1(hh:Hd):gIx T.d (.int 1) hh=.ok (.tup (T.go.map aax)) hh:=a8r (j:=1) rfl
theorem b32(hh:Hd):uf [.tup (T.go.map aax)] hh=.ok (.int (T.go.length:Nat)) hh:=by rw[a6x,ay]
theorem aaq(h:T.Ok):Pu iu 1 [T.d] (.tup (aew T)):=by
 have n32:=h.n32;refine Pu.of rfl awx (r:=.ok (.tup (aew T)) []) ?_ (o7 (qx (a8g _)) (by simp)) (qx (a8g _))
 unfold iu;rw[dm];show toR (xu jb [some T.d] [])=_;unfold xu;have cz:sZ (mq (sRg vq (ak (sA uf (ak (s2 gIx (sV 0) (sI 1)) bw)) bw)) t1 (yq jb) [0]) [some T.d] []=.ok (.rol (aew T)) []:=by
  refine a4j (xf (λr:Nat=>D.int (r:Nat)) (A T) (List.range T.go.length) (a8a (ye (a1u rfl (T1 _)) (b32 _)) (g8 (by omega))) (g8 (by rw[aZ];omega)) λr hr=>?_) (a8g _) (by simp)
  rw[vz];exact wg (bj rfl) (bj rfl) (ac4 h (bR.mp hr) _)
 exact aP toR (u9 (ye cz rfl))
theorem a7m(h:T.Ok):Pu a2z 1 [T.d] (.tup (aex T)):=by
 have n32:=h.n32;refine Pu.of rfl awx (r:=.ok (.tup (aex T)) []) ?_ (o7 (qx (a71 _)) (by simp)) (qx (a71 _))
 unfold a2z;rw[dm];show toR (a6v iu [some T.d] [])=_;unfold a6v;have cz:sZ (mq (sIt (sA (ik false 1 iu) (ak (sV 0) bw))) t1 (a4d iu) []) [some T.d] []=.ok (.rol (aex T)) []:=by
  refine a4j (xf (A T) (λr=>.bl (!a5i (A T r))) (List.range T.go.length) (a99 (ye (bj rfl) (aaq h _)) rfl) (g8 (by rw[aZ];omega)) λr hr=>?_) (a71 _) (by simp)
  rw[vz];exact a1u rfl (a3u _)
 exact aP toR (u9 (ye cz rfl))
end
end K22
namespace RCH
open L2 MI AT HND EVX K22 K23 K21 K40
def cnt(n:Nat)(p:Nat->Bool):Nat:=((List.range n).filter p).length
theorem acb:∀{l:List Nat},(∀x∈l,p x=true->q x=true)->(∃x∈l,q x=true/\p x=false)->(l.filter p).length<(l.filter q).length
 |[],_,⟨_,h,_⟩=>by simp at h
 |x::l,h,⟨y,hy,q1,p1⟩=>by
  have le:(l.filter p).length<=(l.filter q).length:=by
   clear hy q1 p1 y
   induction l with
   |nil=>simp
   |cons z l ih =>
    have ih:=ih λy hy=>h y (by simp only[aR]at hy ⊢;rcases hy with e|e<;>simp[e])
    have hz:=h z (by simp)
    rw[fI,fI]
    cases e1:p z with
    |true=>rw[hz e1];simp only[de,aY];omega
    |false=>cases q z<;>simp<;>omega
  rw[fI,fI]
  rcases aR.mp hy with rfl|hy
  ·rw[q1,p1];simp only[de,cP,ft,aY];omega
  ·have lt:=acb (l:=l) (λz hz=>h z (ba _ hz)) ⟨y,hy,q1,p1⟩
   cases e1:p x with
   |true=>rw[h x bt e1];simp only[de,aY];omega
   |false=>cases q x<;>simp<;>omega
theorem aG{n:Nat}{P:Nat->Nat->Bool}(anti:∀k x,x<n->P (k+1) x=true->P k x=true)(det:∀k,(∀x,x<n->P k x=P (k+1) x)->∀x,x<n->P (k+1) x=P (k+2) x):∀k x,x<n->P n x=true->P (n+k) x=true:=by
 have key:∀k,cnt n (P k)<=n-k\/∃j,j<=k/\∀x,x<n->P j x=P (j+1) x:=by
  intro k
  induction k with
  |zero=>exact .inl (by unfold cnt;exact cA (List.length_filter_le _ _) (by simp))
  |succ k ih =>
   rcases ih with ih|⟨j,hj,e⟩
   ·by_cases c:∃x∈List.range n,P k x=true/\P (k+1) x=false
    ·have:=acb (p:=P (k+1)) (q:=P k) (l:=List.range n) (λx hx=>anti k x (bR.mp hx)) c
     exact .inl (by unfold cnt at ih ⊢;omega)
    ·refine .inr ⟨k,gC _,λx hx=>?_⟩
     cases e1:P k x with
     |true =>
      cases e2:P (k+1) x with
      |true=>rfl
      |false=>exact(c ⟨x,bR.mpr hx,e1,e2⟩).elim
     |false =>
      cases e2:P (k+1) x with
      |true=>rw[anti k x hx e2]at e1;cases e1
      |false=>rfl
   ·exact .inr ⟨j,Nat.le_succ_of_le hj,e⟩
 have stay:∀j,(∀x,x<n->P j x=P (j+1) x)->∀k x,x<n->P (j+k) x=P j x:=by
  intro j e k
  have step:∀k x,x<n->P (j+k) x=P (j+k+1) x:=by
   intro k
   induction k with
   |zero=>exact e
   |succ k ih=>exact det _ ih
  induction k with
  |zero=>intro x _;rfl
  |succ k ih=>intro x hx;rw[<-ih x hx];exact(step k x hx).symm
 intro k x hx h
 rcases key n with z|⟨j,hj,e⟩
 ·have:x∈(List.range n).filter (P n):=gK.mpr ⟨bR.mpr hx,h⟩
  have:=List.length_pos_of_mem this
  unfold cnt at z;omega
 ·have e1:=stay j e (n-j) x hx;have e2:=stay j e (n-j+k) x hx;rw[show j+(n-j)=n by omega]at e1
  rw[show j+(n-j+k)=n+k by omega]at e2
  rw[e2,<-e1];exact h
section
variable{T:Table}
def hp(T:Table)(x:Nat):Bool := !a5i (A T x)
theorem awy(h:T.Ok)(hr:r<T.go.length):rw' T r=(List.range T.tg.length).map (stp T r):=by unfold rw';rw[awl h hr];rfl
theorem ajb(h:T.Ok)(hr:r<T.go.length):x∈rw' T r↔∃c,c<T.tg.length/\stp T r c=x:=by
 rw[awy h hr,bX];exact⟨λ⟨c,hc,e⟩=>⟨c,bR.mp hc,e⟩,λ⟨c,hc,e⟩=>⟨c,bR.mpr hc,e⟩⟩
theorem aar(h:T.Ok)(hr:r<T.go.length):FL T (k+1) r=true↔∃x∈rw' T r,FL T k x=true:=by
 show((List.range T.tg.length).any λc=>FL T k (stp T r c))=true↔_;rw[eI]
 constructor
 ·rintro⟨c,hc,e⟩;exact⟨_,(ajb h hr).mpr ⟨c,bR.mp hc,rfl⟩,e⟩
 ·rintro⟨x,hx,e⟩
  obtain⟨c,hc,rfl⟩:=(ajb h hr).mp hx;exact⟨c,bR.mpr hc,e⟩
theorem adg(e:hp T r=true):∃k,k<T.go.length/\FL T (k+1) r=true:=by
 unfold hp A at e
 cases q:amd T r with
 |none=>rw[q]at e;simp[a5i]at e
 |some i =>
  unfold amd at q;obtain⟨fi,hi,_⟩:=dO.mp q;exact⟨i,by simpa using hi,by rw[gO];exact fi⟩
theorem arc(h:T.Ok)(hr:r<T.go.length)(f:FL T (k+1) r=true):hp T r=true:=by
 obtain⟨d,_,_,q⟩:=a6h h hr;have e:=anw h q
 rcases q with⟨w,_,_,_,_,ew⟩|⟨_,no⟩
 ·unfold hp;rw[<-e,ew];rfl
 ·obtain⟨gl,go,gh⟩:=BF.ac2 f;exact(no _ go ⟨λz=>by
   have:=aP List.length z
   simp[gl]at this,gh⟩).elim
theorem adh(h:T.Ok)(hr:r<T.go.length):FL T 0 r=true↔kI T r ≠ -1:=by
 show knd T r=true↔_;obtain⟨k,e,_,kd⟩:=aj4 h hr;unfold kI;rw[kd,e];simp
theorem ard(h:T.Ok)(hr:r<T.go.length):hp T r=true↔∃x∈rw' T r,kI T x ≠ -1\/hp T x=true:=by
 obtain⟨_,_,rx⟩:=arb h hr
 constructor
 ·intro e
  obtain⟨k,_,f⟩:=adg e;obtain⟨x,hx,fx⟩:=(aar h hr).mp f
  cases k with
  |zero=>exact⟨x,hx,.inl ((adh h (rx x hx)).mp fx)⟩
  |succ k=>exact⟨x,hx,.inr (arc h (rx x hx) fx)⟩
 ·rintro⟨x,hx,e|e⟩
  ·exact arc (k:=0) h hr ((aar h hr).mpr ⟨x,hx,(adh h (rx x hx)).mpr e⟩)
  ·obtain⟨k,_,f⟩:=adg e;exact arc (k:=k+1) h hr ((aar h hr).mpr ⟨x,hx,f⟩)
end
section
variable{T:Table}
theorem aey{bs:List Bool}(hr:r<bs.length):bg (bs.set r true) x=(decide (x=r) || bg bs x):=by
 unfold bg
 by_cases e:r=x
 ·subst e;rw[bE hr];simp
 ·rw[cw e,bL (λz=>e z.symm)];simp
structure Mk (T:Table) (j:Nat) (bs:List Bool):Prop where
 len:bs.length=T.go.length
 snd:∀r,r<T.go.length->bg bs r=true->hp T r=true
 all:∀r,r<T.go.length->∀k,k<j->FL T (k+1) r=true->bg bs r=true
theorem Mk.set(M:Mk T j bs)(hr:r<T.go.length)(e:hp T r=true):Mk T j (bs.set r true):=by
 have l:=M.len;refine⟨by rw[cG];exact l,λx hx q=>?_,λx hx k hk f=>?_⟩
 ·rw[aey (by omega),eS]at q
  rcases q with q|q
  ·rw[of_decide_eq_true q];exact e
  ·exact M.snd x hx q
 ·rw[aey (by omega),M.all x hx k hk f,Bool.or_true]
theorem lit{T:Table}(h:T.Ok)(hr:r<T.go.length)(hx:x∈rw' T r)(e:kI T x ≠ -1\/hp T x=true):hp T r=true:=(ard h hr).mpr ⟨x,hx,e⟩
noncomputable def jh:SF:=m8 a0n 5
abbrev hpD(T:Table):List D:=(List.range T.go.length).map λr=>D.bl (hp T r)
theorem a2c(n:Nat):clos n (hpD T):=gj λ_ _=>zj _
theorem ajc(hr:r<T.go.length):(hpD T)[r]? = some (.bl (hp T r)):=by rw[aO,dv hr];rfl
theorem adi(h:T.Ok):Pu jh 1 [T.d] (.rol (hpD T)):=by
 have n32:=h.n32;have ln:∀(τ:Sd) (bs:List Bool),τ[1]? = some (some (.ref 0))->bs.length=T.go.length->sRg vq (ak (sA uf (ak (sV 1) bw)) bw) τ (HB bs)=.ok ⟨(List.range T.go.length).map cj,λ_=>True⟩ (HB bs):=λτ bs h1 bl =>
  a8a (n:=T.go.length) (ye (bj h1) ((a0v (xs:=bs.map D.bl) rfl).trans (by rw[ay,bl]))) (g8 (by omega))
 have L2:∀(j:Nat) (bs:List Bool) (t2 t4:Option D) (r:Nat),Mk T j bs->r<T.go.length->∃(bs':List Bool) (t4':Option D),v8 [some T.d,some (.ref 0),t2,some (cj r),t4] (HB bs)=.nx [some T.d,some (.ref 0),t2,some (cj r),t4'] (HB bs')/\Mk T j bs'/\(∀x,bg bs x=true->bg bs' x=true)/\(∀k,k<j+1->FL T (k+1) r=true->bg bs' r=true):=λj bs t2 t4 r M hr=>by
  obtain⟨_,_,rx⟩:=arb h hr;have lp:=rm (g:=kN 4) (b:=yu) cj (λpre τ hp'=>∃(bs':List Bool) (t4:Option D),τ=[some T.d,some (.ref 0),t2,some (cj r),t4]/\hp'=HB bs'/\Mk T j bs'/\(∀x,bg bs x=true->bg bs' x=true)/\((∃t∈pre,kI T t ≠ -1\/∃k,k<j/\FL T (k+1) t=true)->bg bs' r=true)) (rw' T r) [some T.d,some (.ref 0),t2,some (cj r),t4] (HB bs) ?_ ⟨bs,t4,rfl,rfl,M,λ_ z=>z,λ⟨_,z,_⟩=>by simp at z⟩
  ·obtain⟨τ',h',e,bs',t4',rfl,rfl,M',up,all⟩:=lp;refine⟨bs',t4',?_,M',up,λk hk f=>?_⟩
   ·unfold v8;exact(b0x (aww h _ rfl rfl hr)).trans e
   ·obtain⟨x,hx,fx⟩:=(aar h hr).mp f;refine all ⟨x,hx,?_⟩
    cases k with
    |zero=>exact .inl ((adh h (rx x hx)).mp fx)
    |succ k=>exact .inr ⟨k,by omega,fx⟩
  ·rintro pre t post τ hp' al ⟨bs',t4,rfl,rfl,M',up,all⟩
   have tin:t∈rw' T r:=by rw[al];simp
   have tl:=rx t tin;have l':=M'.len;have tst:sOr (sT (s2 gGe (s2 gIx (s2 gIx (sV 0) (sI 2)) (sV 4)) (sI 0))) (a4f (s2 gIx (sV 1) (sV 4))) [some T.d,some (.ref 0),t2,some (cj r),some (cj t)] (HB bs')=.ok (decide (0<=kI T t) || bg bs' t) (HB bs') :=
    orB (t2s (kge h _ rfl rfl tl) ckk (b31 _ _)) λ_=>a03 (qm (bj rfl) (bj rfl) (v7 (xs:=bs'.map D.bl) rfl (awu (by omega)))) (qj _)
   have kk:=awt h tl;unfold yu
   cases v:(decide (0<=kI T t) || bg bs' t) with
   |true =>
    rw[v]at tst;have lt':hp T r=true:=lit h hr tin (by
     rw[eS]at v
     rcases v with v|v
     ·exact .inl (by have:=of_decide_eq_true v;omega)
     ·exact .inr (M'.snd t tl v))
    refine⟨_,_,rfl,_,HB (bs'.set r true),?_,bs'.set r true,some (cj t),rfl,rfl,M'.set hr lt',λx q=>?_,λ_=>?_⟩
    ·refine aw (ifT tst) (a8q ckk (bj rfl) (bj rfl) ((abw (xs:=bs'.map D.bl) rfl (by rw[ay];omega)).trans ?_))
     rw[awv];rfl
    ·rw[aey (by omega),up x q,Bool.or_true]
    ·rw[aey (by omega),cW rfl];rfl
   |false =>
    rw[v]at tst;rw[Bool.or_eq_false_iff]at v;refine⟨_,_,rfl,_,_,aw (ifF tst) rfl,bs',_,rfl,rfl,M',up,?_⟩
    rintro⟨x,hx,q⟩
    rcases aS.mp hx with z|z
    ·exact all ⟨x,z,q⟩
    ·rw[ar]at z;subst z
     rcases q with q|⟨k,hk,f⟩
     ·have:=of_decide_eq_false v.1;omega
     ·rw[M'.all _ tl k hk f]at v;cases v.2
 have L3:∀(j:Nat) (bs:List Bool) (t2 t3 t4:Option D),Mk T j bs->∃(bs':List Bool) (t3' t4':Option D),v9 [some T.d,some (.ref 0),t2,t3,t4] (HB bs)=.nx [some T.d,some (.ref 0),t2,t3',t4'] (HB bs')/\Mk T (j+1) bs':=λj bs t2 t3 t4 M=>by
  have lp:=rm (g:=kN 3) (b:=v8) cj (λpre τ hp'=>∃(bs':List Bool) (t3 t4:Option D),τ=[some T.d,some (.ref 0),t2,t3,t4]/\hp'=HB bs'/\Mk T j bs'/\∀r∈pre,∀k,k<j+1->FL T (k+1) r=true->bg bs' r=true) (List.range T.go.length) [some T.d,some (.ref 0),t2,t3,t4] (HB bs) ?_ ⟨bs,t3,t4,rfl,rfl,M,by simp⟩
  ·obtain⟨τ',h',e,bs',t3',t4',rfl,rfl,M',all⟩:=lp;refine⟨bs',t3',t4',?_,M'.len,M'.snd,λr hr=>all r (bR.mpr hr)⟩;unfold v9;exact(b0x (ln _ bs rfl M.len)).trans e
  ·rintro pre r post τ hp' al ⟨bs',t3,t4,rfl,rfl,M',all⟩
   obtain⟨bs2,t4',e,M2,up,al2⟩:=L2 j bs' t2 t4 r M' (bR.mp (by rw[al];simp))
   refine⟨_,_,rfl,_,_,e,bs2,_,t4',rfl,rfl,M2,λx hx k hk f=>?_⟩
   rcases aS.mp hx with z|z
   ·exact up x (all x z k hk f)
   ·rw[ar]at z;subst z;exact al2 k hk f
 let b0:List Bool:=T.go.map λ_=>false
 have b0l:b0.length=T.go.length:=ay _;have M0:Mk T 0 b0:=by
  refine⟨b0l,λr _ q=>?_,λ_ _ k hk=>by omega⟩
  unfold bg at q;rw[aO]at q
  cases z:T.go[r]? with
  |none=>rw[z]at q;exact absurd q (by simp)
  |some y=>rw[z]at q;exact absurd q (by simp)
 have lp:=rm (g:=kN 2) (b:=v9) cj (λpre τ hp'=>∃(bs':List Bool) (t2 t3 t4:Option D),τ=[some T.d,some (.ref 0),t2,t3,t4]/\hp'=HB bs'/\Mk T pre.length bs') (List.range T.go.length) [some T.d,some (.ref 0),none,none,none] (HB b0) ?_ ⟨b0,none,none,none,rfl,rfl,M0⟩
 ·obtain⟨τ',h',e,bs,t2,t3,t4,rfl,rfl,M⟩:=lp;rw[aZ]at M;have eq:bs.map D.bl=hpD T:=by
   refine fq λi=>?_
   by_cases hi:i<T.go.length
   ·rw[awu (by rw[M.len];exact hi),ajc hi]
    congr 2
    rw[Bool.eq_iff_iff];refine⟨M.snd i hi,λq=>?_⟩;obtain⟨k,hk,f⟩:=adg q;exact M.all i hi k hk f
   ·have:=M.len
    rw[cN (by rw[ay];omega),cN (by rw[ay,aZ];omega)]
  refine Pu.of rfl (azl Table.clo) (r:=.ok (.ref 0) (HB bs)) ?_ (a2t (aJ _) (aP (λz=>some (O.lst z)) eq) (a2c _) (by simp)) (km (a2c _))
  unfold jh;rw[dm];show toR (a0n [some T.d,none,none,none,none] [])=_;unfold a0n;have cm:mq (sIt (s2 gIx (sV 0) (sI 1))) t1 yr [] [some T.d,none,none,none,none] []=.ok (.ref 0) (HB b0):=by
   have:=xf (fi:=sIt (s2 gIx (sV 0) (sI 1))) (t:=t1) (fe:=yr) (ix:=[]) (τ:=[some T.d,none,none,none,none]) (h:=[]) aax (λ_=>D.bl false) T.go (a99 (a1u rfl (go1 _)) rfl) (g8 (by omega)) λx _=>rfl
   rw[this];show R.ok (D.ref 0) [O.lst _]=R.ok (D.ref 0) [O.lst ((T.go.map λ_=>false).map D.bl)];rw[cI];rfl
  refine etr (o6 cm) ?_;refine etr (a4k (ln _ b0 rfl b0l)) ?_;refine aw (aP (λz=>toR (MI.thn z _)) e) ?_;rfl
 ·rintro pre k post τ hp' al ⟨bs,t2,t3,t4,rfl,rfl,M⟩
  obtain⟨bs',t3',t4',e,M'⟩:=L3 pre.length bs (some (cj k)) t3 t4 M;exact⟨_,_,rfl,_,_,e,bs',_,t3',t4',rfl,rfl,by rw[ai];exact M'⟩
end
section
variable{T:Table}
noncomputable def jb:SF:=m8 a01 12
noncomputable def iu:SF:=m8 (xu jb) 1
noncomputable def a2z:SF:=m8 (a6v iu) 1
theorem a7m(h:T.Ok):Pu a2z 1 [T.d] (.tup (hpD T)):=K22.a7m h
end
end RCH
namespace K35
open L2 MI AT HND EVX K22 K23 K21
section
variable{T:Table}
abbrev Pc:=Int×Nat×Nat
abbrev pcD(p:Pc):D:=.tup [.int p.1,cj p.2.1,cj p.2.2]
theorem a3y(n:Nat)(ps:List Pc):clos n (ps.map pcD):=gj λp _=>qx (bf (dh _) (bf (dh _) (bf (dh _) jy)))
end
end K35
namespace STM
open L2 MI AT HND K23 K21
open RCH
open K22 hiding hp
abbrev Bst:=Option (Int×Nat)
def al(T:Table):Nat->Bst->Nat->List Nat->Bool×Bst×Nat
 |r,b,_,[]=>(false,b,r)
 |r,b,a,c::l =>
  if hp T (stp T r (psn T c))=true then al T (stp T r (psn T c)) (if kI T (stp T r (psn T c)) = -1 then b else some (kI T (stp T r (psn T c)),a+1)) (a+1) l
  else (true,(if kI T (stp T r (psn T c)) = -1 then b else some (kI T (stp T r (psn T c)),a+1)),stp T r (psn T c))
def nb(T:Table)(r:Nat)(b:Bst)(a c:Nat):Bst:=if kI T (stp T r (psn T c)) = -1 then b else some (kI T (stp T r (psn T c)),a+1)
theorem a8h(e:hp T (stp T r (psn T c))=true):al T r b a (c::l)=al T (stp T r (psn T c)) (nb T r b a c) (a+1) l:=by rw[al,aT e];rfl
theorem acd(e:hp T (stp T r (psn T c))=false):al T r b a (c::l)=(true,nb T r b a c,stp T r (psn T c)):=by rw[al,bA (by simp[e])];rfl
theorem ao1:∀{l:List Nat} {r:Nat} {b:Bst} {a:Nat},al T r b a l=(false,b',r')->al T r b a (l++m)=al T r' b' (a+l.length) m
 |[],r,b,a,e=>by cases e;rfl
 |c::l,r,b,a,e=>by
  rw[fJ]
  cases h:hp T (stp T r (psn T c)) with
  |true =>
   rw[a8h h]at e ⊢;rw[ao1 e,aY,show a+1+l.length=a+(l.length+1) by omega]
  |false=>rw[acd h]at e;cases e
theorem ajd:∀{l:List Nat} {r:Nat} {b:Bst} {a:Nat},al T r b a l=(true,b',r')->al T r b a (l++m)=(true,b',r')
 |[],r,b,a,e=>by cases e
 |c::l,r,b,a,e=>by
  rw[fJ]
  cases h:hp T (stp T r (psn T c)) with
  |true=>rw[a8h h]at e ⊢;exact ajd e
  |false=>rw[acd h]at e ⊢;exact e
theorem azm:nb T r b a c=b\/nb T r b a c=some (kI T (stp T r (psn T c)),a+1):=by unfold nb;split<;>simp
theorem b0y:∀{l:List Nat} {r:Nat} {b:Bst} {a:Nat},al T r b a l=(f,some (k,e),r')->b=some (k,e)\/(a<e/\e<=a+l.length)
 |[],r,b,a,h=>by cases h;exact .inl rfl
 |c::l,r,b,a,h=>by
  have st:nb T r b a c=some (k,e)->b=some (k,e)\/(a<e/\e<=a+(c::l).length):=λz=>by
   rcases azm (T:=T) (r:=r) (b:=b) (a:=a) (c:=c) with q|q
   ·rw[q]at z;exact .inl z
   ·rw[q]at z;cases z;exact .inr ⟨by omega,by simp⟩
  cases hh:hp T (stp T r (psn T c)) with
  |true =>
   rw[a8h hh]at h
   rcases b0y h with q|q
   ·exact st q
   ·exact .inr ⟨by omega,by simp;omega⟩
  |false=>rw[acd hh]at h;exact st (Prod.mk.inj (Prod.mk.inj h).2).1
inductive Ph where|op|st|cl
abbrev Pc:=K35.Pc
abbrev Res:=List Pc×Ph×Nat×Nat×Bst
def rn(T:Table)(x:List Nat)(f:Bool):Nat->Nat->List Pc->Res
 |0,s,acc=>(acc,.op,s,0,none)
 |n+1,s,acc =>
  if s<x.length/\((al T 0 none s (x.drop s)).1=true\/f=true) then
   match (al T 0 none s (x.drop s)).2.1 with
   |none=>(acc,.st,s,0,none)
   |some (k,e)=>rn T x f n e (acc++[(k,s,e)])
  else if f=true then (acc,.cl,s,0,none) else (acc,.op,s,(al T 0 none s (x.drop s)).2.2,(al T 0 none s (x.drop s)).2.1)
section
variable{T:Table}{x:List Nat}
theorem a5a(hs:s<x.length)(ha:al T 0 none s (x.drop s)=(g,some (k,e),r))(hf:g=true\/f=true):rn T x f (n+1) s acc=rn T x f n e (acc++[(k,s,e)]):=by
 rw[rn,ha,aT ⟨hs,hf⟩]
theorem a72(hs:s<x.length)(ha:al T 0 none s (x.drop s)=(g,none,r))(hf:g=true\/f=true):rn T x f (n+1) s acc=(acc,.st,s,0,none):=by
 rw[rn,ha,aT ⟨hs,hf⟩]
theorem a8i(ha:al T 0 none s (x.drop s)=(false,b,r)):rn T x false (n+1) s acc=(acc,.op,s,r,b):=by
 rw[rn,ha,bA (by simp),bA (by simp)]
theorem adk(hs:¬ s<x.length):rn T x true (n+1) s acc=(acc,.cl,s,0,none):=by
 rw[rn,bA (λz=>hs z.1),aT rfl]
theorem aas(ha:al T 0 none s (x.drop s)=(g,some (k,e),r))(hs:s<=x.length):s<e/\e<=x.length:=by
 rcases b0y ha with z|z
 ·cases z
 ·rw[bK]at z;omega
theorem arf:∀{n n' s:Nat} {acc:List Pc},rn T x false n s acc=(acc',.op,s',r',b')->s<=x.length->x.length+1<=n+s->(x++p).length+1<=n'+s->
  ∃m,(x++p).length+1<=m+s'/\rn T (x++p) f n' s acc=rn T (x++p) f m s' acc'/\al T 0 none s' (x.drop s')=(false,b',r')/\s'<=x.length
 |0,n',s,acc,e,h1,h2,h3=>by omega
 |n+1,0,s,acc,e,h1,h2,h3=>by rw[ai]at h3;omega
 |n+1,n'+1,s,acc,e,h1,h2,h3=>by
  have xl:(x++p).length=x.length+p.length:=ai;obtain⟨g,b,r,ha⟩:∃g b r,al T 0 none s (x.drop s)=(g,b,r):=⟨_,_,_,rfl⟩
  by_cases hs:s<x.length/\g=true
  ·obtain⟨hs,rfl⟩:=hs;have hb:al T 0 none s ((x++p).drop s)=(true,b,r):=by rw[cS h1];exact ajd ha
   cases b with
   |none=>rw[a72 hs ha (.inl rfl)]at e;cases e
   |some q =>
    obtain⟨k,z⟩:=q;obtain⟨b1,b2⟩:=aas ha h1;rw[a5a hs ha (.inl rfl)]at e;rw[a5a (by omega) hb (.inl rfl)]
    exact arf e b2 (by omega) (by omega)
  ·have gf:g=false:=by
    cases g with
    |false=>rfl
    |true =>
     have:x.drop s=[]:=bU (by
      rcases fY s x.length with z|z
      ·exact absurd ⟨z,rfl⟩ hs
      ·exact z)
     rw[this]at ha;cases ha
   subst gf;rw[a8i ha]at e;cases e
   exact⟨n'+1,h3,rfl,ha,h1⟩
end
end STM
namespace PN
open L2 MI AT HND EVX
end PN
namespace PN
open L2 MI AT HND EVX K22 K23 K21
section
variable{g:Hd}{n tu:Nat}{tg:List Nat}{rows:List (List Nat)}{ks:List Int}
def Rch(rows:List (List Nat))(r:Nat):Prop:=∀Q:Nat->Prop,Q 0->(∀r,Q r->∀x∈(rows[r]?).getD [],Q x)->Q r
theorem Rch.zero(rows:List (List Nat)):Rch rows 0:=λ_ q _=>q
theorem Rch.step(h:Rch rows r)(hx:x∈(rows[r]?).getD []):Rch rows x:=λQ q0 qs=>qs r (h Q q0 qs) x hx
theorem ao2(h:x∈m):m[SRC.pos m x]? = some x:=by
 have e:=(aeh (SRC.aj1 h).1).1;unfold SRC.cst at e;rw[aO]at e
 cases q:m[SRC.pos m x]? with
 |none=>rw[q]at e;cases e
 |some y =>
  rw[q]at e;have e:(y:Int)=(x:Int):=by simpa using e
  congr 1
  omega
theorem ao3{m:List Nat}(nd:m.Nodup)(h:m[i]? = some x):SRC.pos m x=i:=by
 have h1:=ao2 (aQ h);obtain⟨a,ea⟩:=ag.mp h;obtain⟨b,eb⟩:=ag.mp h1;have pw:=bS.mp nd
 rcases fk (SRC.pos m x) i with z|z|z
 ·exact absurd (eb.trans ea.symm) (pw _ _ b a z)
 ·exact z
 ·exact absurd (ea.trans eb.symm) (pw _ _ a b z)
theorem arh{m:List Nat}(nd:m.Nodup)(m0:m[0]? = some 0)(cl:∀r∈m,∀x∈(rows[r]?).getD [],x∈m)(rc:∀r∈m,Rch rows r):∀r,r<(SRC.aao rows m).length->Rch (SRC.aao rows m) r:=by
 intro r hr Q q0 qs
 have hr':r<m.length:=by simpa using hr
 have er:m[r]? = some m[r]:=af hr';have key:=(rc m[r] (bF hr') (λx=>x∈m/\Q (SRC.pos m x)) ⟨aQ m0,by rw[ao3 nd m0];exact q0⟩ λa ⟨ha,qa⟩ x hx=>⟨cl a ha x hx,qs _ qa _ (by
  rw[aO,ao2 ha];exact bX.mpr ⟨x,hx,rfl⟩)⟩).2
 rwa[ao3 nd er]at key
end
end PN
namespace SRC
open L2 MI AT HND EVX
structure MetQ (rows:List (List Nat)) (n:Nat) (met:List Nat):Prop extends Met n met where
 q:∀x∈met,PN.Rch rows x
theorem MetQ.len(M:MetQ rows n met):met.length<=n:=M.toMet.len
theorem MetQ.add(M:MetQ rows n met)(hx:x<n)(hq:PN.Rch rows x)(h:x∉met):MetQ rows n (met++[x]) :=
 ⟨M.toMet.add hx h,λy hy=>(aS.mp hy).elim (M.q y) λz=>by rw[ar]at z;subst z;exact hq⟩
end SRC
namespace STP
open L2 MI AT HND EVX K23 K21 RCH
open K22 hiding hp a2z jb iu a7m
open K40
section
variable{T:Table}
noncomputable def ud:SF:=m8 wz 2
noncomputable def n6:SF:=m8 vf 8
noncomputable def oh:SF:=m8 (a02 STP.n6) 3
theorem amh(p:Pln d):Pu STP.ud 2 [.str (S T.tg),d] (.bl (txt T d)):=K21.ag4 p
theorem ami(h:T.Ok)(hr:r<T.go.length)(hl:∀c∈l,c∈T.tg)(ll:l.length<=1000):Pu STP.oh 3 [T.d,cj r,.str (S l)] (cj (ldw T r l)):=K23.ar7 h hr hl ll
abbrev Ent:=Nat×List Nat
variable{ps:Nat->Bool}{s:Nat}{es:List Ent}
end
end STP
namespace STM
open L2 MI AT HND K23 K21
open RCH
open K22 hiding hp
abbrev sD(l:List Nat):D:=.str (S l)
theorem a7d(e1:fo τ h=.ok d h1)(hi:asb c m d h1=true)(e2:ka τ h1=.ok ds h2)(e3:ik b n F (d::ds) h2=.ok v h3):sMe b c m n F fo ka τ h=.ok v h3:=by
 unfold sMe;rw[e1,di,aT hi,e2,di,e3]
theorem a7e(e:f τ h=.ok d h1):ue f τ h=.nx τ h1:=by unfold ue;rw[e];rfl
theorem ug(e:h[i]? = some (.ins "Stream" fs))(l:fs.lookup m=none):asb "Stream" m (.ref i) h=true:=by
 simp only[asb,e,l,gS,Option.isNone_none,Bool.and_self]
theorem ji{fs:List (Str×D)}(e:h[i]? = some (.ins "Stream" fs))(l:fs.lookup k=some d):a1y "Stream" k (.ref i) h=.ok d h:=by
 simp only[a1y,axr,e,de,l]
theorem xg{fs:List (Str×D)}(e1:fe τ h=.ok y h1)(e2:fo τ h1=.ok (.ref i) h1)(e3:h1[i]? = some (.ins "Stream" fs))(z:fs.length<1000):a2k "Stream" k fo fe τ h=.nx τ (h1.set i (.ins "Stream" (ain k y fs))):=by
 unfold a2k;rw[e1];show(fo τ h1).fl _=_;rw[e2];show(match h1[i]? with|some (.ins c' fs)=>if c' = "Stream"/\fs.length<1000 then Fl.nx τ (h1.set i (.ins "Stream" (ain k y fs))) else .no|_=>.no)=_
 rw[e3];exact aT ⟨rfl,z⟩
theorem aje{fs:List (Str×D)}(e2:fo τ h=.ok (.ref i) h)(e3:h[i]? = some (.ins "Stream" fs))(l:fs.lookup k=some v)(e1:fe τ h=.ok y h)(eg:gg v y h=.ok w h)(z:fs.length<1000):afz "Stream" k gg fo fe τ h=.nx τ (h.set i (.ins "Stream" (ain k w fs))):=by
 unfold afz;rw[e2];have q:avf "Stream" k (.ref i) h=some v:=by
  simp only[avf,e3,de,l]
 show(match avf "Stream" k (.ref i) h with|some v=>_|none=>_)=_
 rw[q];show(fe τ h).fl _=_;rw[e1];show(gg v y h).fl _=_;rw[eg];show(match ak3 "Stream" k w (.ref i) h with|some h4=>Fl.nx τ h4|none=>.no)=_
 have q2:ak3 "Stream" k w (.ref i) h=some (h.set i (.ins "Stream" (ain k w fs))):=by
  simp only[ak3,e3,z,and_self,de]
 rw[q2]
abbrev phS:Ph->Str
 |.op => "open"
 |.st => "stopped"
 |.cl => "closed"
def bD:Bst->D
 |none=>.non
 |some (k,e)=>.tup [.int k,cj e]
theorem ace(b:Bst)(n:Nat):MI.clo n (bD b):=by
 cases b with
 |none=>exact a0q
 |some q=>exact qx (bf (dh _) (bf (dh _) jy))
abbrev fsO(T:Table)(p:Ph)(s f a r:Nat)(b:Bst)(w:List Nat):List (Str×D):=[("table",T.d),("hope",.tup (hpD T)),("phase",.str (phS p)),("start",cj s),("fed",cj f),("at",cj a),("room",cj r),("last",bD b),("rest",sD w)]
abbrev Ob(T:Table)(p:Ph)(s f a r:Nat)(b:Bst)(w:List Nat):O:=.ins "Stream" (fsO T p s f a r b w)
theorem ut{T:Table}{p:Ph}{s f a r:Nat}{b:Bst}{w:List Nat}:vy 0 (Ob T p s f a r b w):=by
 show clos 0 [T.d,.tup (hpD T),.str (phS p),cj s,cj f,cj a,cj r,bD b,sD w];exact bf Table.clo (bf (qx (a2c _)) (bf (fu _) (bf (dh _) (bf (dh _) (bf (dh _) (bf (dh _) (bf (ace _ _) (bf (fu _) jy))))))))
section
variable{T:Table}{p:Ph}{s f a r:Nat}{b:Bst}{w:List Nat}
theorem lt9:(fsO T p s f a r b w).length<1000:=by show 9<1000;omega
theorem awz:∀o∈List.take 1 [Ob T p s f a r b w],vy 1 o:=by
 intro o ho
 rw[show List.take 1 [Ob T p s f a r b w]=[Ob T p s f a r b w] from rfl,ar]at ho
 subst ho;exact jm (aW _) ut
theorem Dr.ob{ds:List D}(hn:ds.length+1=n)(cd:∀x∈ds,MI.clo 0 x)(e:F (.ref 0::ds) [Ob T p s f a r b w]=.ok d [Ob T p' s' f' a' r' b' w'])(c:MI.clo 0 d):Dr F n ds (Ob T p s f a r b w) d (Ob T p' s' f' a' r' b' w') :=
 Dr.of hn cd ut e (o7 (a7b (aW 1) c) awz) c ut
theorem a1a:∀x∈([]:List D),MI.clo 0 x:=λx hx=>by cases hx
theorem a2d(c:MI.clo 0 d):∀x∈[d],MI.clo 0 x:=λx hx=>by rw[ar]at hx;subst hx;exact c
noncomputable def cu:SF:=m8 STM.a4q 1
noncomputable def pq:SF:=m8 STM.a65 1
noncomputable def nj:SF:=m8 STM.a0x 1
noncomputable def bz:SF:=m8 STM.a0y 1
noncomputable def iw:SF:=m8 STM.a4r 2
noncomputable def qb:SF:=m8 STM.a6a 1
noncomputable def mj:SF:=m8 (STM.a4s STM.nj) 1
noncomputable def jw:SF:=m8 (STM.a2w STP.oh) 3
noncomputable def o8:SF:=m8 (STM.a1n STM.iw) 4
noncomputable def vh:SF:=m8 (STM.a69 STM.iw) 1
noncomputable def bx:SF:=m8 (STM.a3x STM.o8 STM.vh) 4
theorem aez:Dr STM.cu 1 [] (Ob T p s f a r b w) (.str (phS p)) (Ob T p s f a r b w):=by
 refine Dr.ob rfl a1a ?_ (fu _);unfold STM.cu;rw[dm];refine aw (aP toR (u9 (yw (bj rfl) (ji rfl rfl)))) rfl
theorem ari:Dr STM.pq 1 [] (Ob T p s f a r b w) (cj f) (Ob T p s f a r b w):=by
 refine Dr.ob rfl a1a ?_ (dh _);unfold STM.pq;rw[dm];refine aw (aP toR (u9 (yw (bj rfl) (ji rfl rfl)))) rfl
theorem arj:Dr STM.qb 1 [] (Ob T p s f a r b w) (sD w) (Ob T p s f a r b w):=by
 refine Dr.ob rfl a1a ?_ (fu _);unfold STM.qb;rw[dm];refine aw (aP toR (u9 (yw (bj rfl) (ji rfl rfl)))) rfl
def ftD(p:Ph)(s:Nat):D:=match p with|.st=>cj s|_=>.non
theorem ajf:MI.clo 0 (ftD p s):=by cases p<;>first|exact a0q|exact dh _
theorem a4l(p:Ph)(x:Str)(b:Bool)(e:(phS p == x)=b){h:Hd}:hEq (.str (phS p)) (.str x) h=.ok (.bl b) h:=by rw[<-e];rfl
theorem ag5:Dr STM.nj 1 [] (Ob T p s f a r b w) (ftD p s) (Ob T p s f a r b w):=by
 refine Dr.ob rfl a1a ?_ ajf;unfold STM.nj;rw[dm]
 cases p with
 |st=>refine aw (aP toR (u9 (SRC.asd (t2s (yw (bj rfl) (ji rfl rfl)) ckk (a4l .st _ true (by decide +kernel))) (yw (bj rfl) (ji rfl rfl))))) rfl
 |op=>refine aw (aP toR (u9 (SRC.am9 (t2s (yw (bj rfl) (ji rfl rfl)) ckk (a4l .op _ false (by decide +kernel))) ckk))) rfl
 |cl=>refine aw (aP toR (u9 (SRC.am9 (t2s (yw (bj rfl) (ji rfl rfl)) ckk (a4l .cl _ false (by decide +kernel))) ckk))) rfl
theorem amj:Dr STM.mj 1 [] (Ob T p s f a r b w) (ftD p s) (Ob T p s f a r b w):=by
 refine Dr.ob rfl a1a ?_ ajf;unfold STM.mj;rw[dm];refine aw (aP toR (u9 (a7d (bj rfl) (ug rfl rfl) rfl (ag5 0 _ rfl)))) rfl
theorem af0:Dr STM.bz 1 [] (Ob T .op s f a r b w) .non (Ob T .op s f a r b w):=by
 refine Dr.ob rfl a1a ?_ a0q;unfold STM.bz;rw[dm];refine eti (t2s (yw (bj rfl) (ji rfl rfl)) ckk (a4l .op _ false (by decide +kernel))) ?_
 refine aw (aP toR (ifF (t2s (yw (bj rfl) (ji rfl rfl)) ckk (a4l .op _ false (by decide +kernel))))) rfl
theorem af1(e:Nat):Dr STM.iw 2 [cj e] (Ob T p s f a r b w) .non (Ob T p e f e 0 none []):=by
 refine Dr.ob rfl (a2d (dh _)) ?_ a0q;unfold STM.iw;rw[dm];refine etr (jj (xg (bj rfl) (bj rfl) rfl lt9)) ?_;refine etr (jj (xg (bj rfl) (bj rfl) rfl (by show 9<1000;omega))) ?_
 refine etr (jj (xg ckk (bj rfl) rfl (by show 9<1000;omega))) ?_
 refine etr (jj (xg ckk (bj rfl) rfl (by show 9<1000;omega))) ?_
 refine aw (aP toR (xg ckk (bj rfl) rfl (by show 9<1000;omega))) rfl
def nw(T:Table)(r:Nat)(b:Bst)(c:Nat)(w:List Nat):List Nat:=if kI T (stp T r (psn T c)) = -1 then (if b.isNone=true then w else w++[c]) else []
theorem azn(h:T.Ok)(hr:r<T.go.length)(hc:c∈T.tg)(wl:w.length<=1000):Dr STM.jw 2 [sD [c]] (Ob T p s f a r b w) .non (Ob T p s f (a+1) (stp T r (psn T c)) (nb T r b a c) (nw T r b c w)):=by
 have hr':stp T r (psn T c)<T.go.length:=a8e h _ _;have fr:STP.oh=STP.oh:=rfl;have c1:∀hh:Hd,ik false 3 STP.oh [T.d,cj r,sD [c]] hh=.ok (cj (stp T r (psn T c))) hh:=λhh=>STP.ami h hr (λx hx=>by rw[ar]at hx;subst hx;exact hc) (by simp) hh
 refine Dr.ob rfl (a2d (fu _)) ?_ a0q;unfold STM.jw;rw[dm];show toR (STM.a2w STP.oh [some (.ref 0),some (sD [c]),none] [Ob T p s f a r b w])=_;unfold STM.a2w;refine etr (jj (aje (bj rfl) rfl rfl ckk a1t lt9)) ?_;refine etr (jj (xg (aga (yw (bj rfl) (ji rfl rfl)) (yw (bj rfl) (ji rfl rfl)) (bj rfl) (c1 _)) (bj rfl) rfl (by show 9<1000;omega))) ?_
 refine etr (o6 (d:=.int (kI T (stp T r (psn T c)))) (h1:=[Ob T p s f (a+1) (stp T r (psn T c)) b w]) (qm (qm (yw (bj rfl) (ji rfl rfl)) ckk (ara _)) (yw (bj rfl) (ji rfl rfl)) (aja h hr' _))) ?_
 by_cases hk:kI T (stp T r (psn T c)) = -1
 ·refine etr (ifF (t2s (bj rfl) (yw ckk (a8b _)) (aim hk))) ?_;unfold nb nw;rw[aT hk,aT hk]
  cases b with
  |none=>refine aw (aP toR (ifF (t2s (yw (bj rfl) (ji rfl rfl)) ckk rfl))) rfl
  |some q =>
   refine etr (ifT (t2s (yw (bj rfl) (ji rfl rfl)) ckk rfl)) ?_;refine aw (aP toR (aje (bj rfl) rfl rfl (bj rfl) (SRC.ait (g8 (by simp;omega))) (by show 9<1000;omega))) rfl
 ·refine etr (ifT (t2s (bj rfl) (yw ckk (a8b _)) (avb hk))) ?_;unfold nb nw;rw[bA hk,bA hk];refine etr (jj (xg (wg (bj rfl) (yw (bj rfl) (ji rfl rfl)) aqo) (bj rfl) rfl (by show 9<1000;omega))) ?_
  refine aw (aP toR (xg ckk (bj rfl) rfl (by show 9<1000;omega))) rfl
theorem ajg(k:Int)(e:Nat):Dr STM.o8 1 [] (Ob T p s f a r (some (k,e)) w) (sD w) (Ob T p e f e 0 none []):=by
 refine Dr.ob rfl a1a ?_ (fu _);unfold STM.o8;rw[dm];refine etr (jj (a6y (yw (bj rfl) (ji rfl rfl)) rfl)) ?_;refine ets (yw (bj rfl) (ji rfl rfl)) ?_;refine etr (jj (a7e (a7d (bj rfl) (ug rfl rfl) (arg1 (bj rfl)) (af1 e 0 _ rfl)))) ?_;refine aw (aP toR (u9 (bj rfl))) rfl
theorem ad6:Dr STM.vh 1 [] (Ob T p s f a r b w) (sD []) (Ob T .st s f s 0 none []):=by
 refine Dr.ob rfl a1a ?_ (fu _);unfold STM.vh;rw[dm];refine etr (jj (xg ckk (bj rfl) rfl lt9)) ?_;refine etr (jj (a7e (a7d (bj rfl) (ug (fs:=fsO T .st s f a r b w) rfl rfl) (arg1 (yw (bj rfl) (ji rfl rfl))) (af1 (p:=.st) s 0 _ rfl)))) ?_;refine aw (aP toR (u9 ckk)) rfl
theorem b0z{o t o' t':O}(co:vy 0 o)(ct:vy 0 t)(e:F [.ref 0,.ref 1] [o,t]=.ok d [o',t'])(cd:MI.clo 0 d)(co':vy 0 o')(ct':vy 0 t'):ik false 2 F [.ref 0,.ref 1] [o,t]=.ok d [o',t']:=by
 have z:ad7 2 (.ok d [o',t'])=.ok d [o',t']:=o7 (a7b (aW _) cd) (by
  intro u hu
  simp only[List.take,aR,bo,cF]at hu
  rcases hu with rfl|rfl
  ·exact jm (aW _) co'
  ·exact jm (aW _) ct')
 have all:∀x∈[D.ref 0,D.ref 1],MI.clo 0 x\/isRef x:=λx hx=>by
  simp only[aR,bo,cF]at hx
  rcases hx with rfl|rfl
  ·exact .inr ⟨0,rfl⟩
  ·exact .inr ⟨1,rfl⟩
 have two:∀{a b:O},vy 0 a->vy 0 b->∀u∈[a,b],vy 0 u:=λha hb u hu=>by
  simp only[aR,bo,cF]at hu
  rcases hu with rfl|rfl<;>assumption
 unfold ik;rw[aT (show[D.ref 0,D.ref 1].length=2 from rfl)]
 unfold aq4;rw[show a2r [D.ref 0,D.ref 1]=[0,1] from rfl,show a0m (λi=>([o,t]:Hd)[i]?) [0,1]=some [o,t] from rfl]
 simp only[cP,ft];rw[aT ⟨by decide,all,two co ct⟩,show a1s 0 [D.ref 0,D.ref 1]=[.ref 0,.ref 1] from rfl,e,show([o,t]:Hd).length=2 from rfl,z]
 simp[cd,co',ct',xr]
abbrev tD(ps:List Pc):O:=.lst (ps.map K35.pcD)
theorem a6i(ps:List Pc):vy 0 (tD ps):=K35.a3y 0 ps
theorem a8j{ps:List Pc}:ik false 2 STM.bx [.ref 0,.ref 1] [Ob T .op s f a r none w,tD ps]=.ok (sD []) [Ob T .st s f s 0 none [],tD ps]:=by
 refine b0z ut (a6i ps) ?_ (fu _) ut (a6i ps);unfold STM.bx;rw[dm];refine aw (aP toR (aaf (d:=sD []) (h1:=[Ob T .st s f s 0 none [],tD ps]) (aw (ifT (t2s (yw (bj rfl) (ji rfl rfl)) ckk rfl)) ?_))) rfl;exact u9 (a7d (bj rfl) (ug rfl rfl) rfl (ad6 0 _ rfl))
theorem a8k{ps:List Pc}(k:Int)(e:Nat)(pl:ps.length<=1000):ik false 2 STM.bx [.ref 0,.ref 1] [Ob T .op s f a r (some (k,e)) w,tD ps]=.ok (sD w) [Ob T .op e f e 0 none [],tD (ps++[(k,s,e)])]:=by
 refine b0z ut (a6i ps) ?_ (fu _) ut (a6i _);unfold STM.bx;rw[dm];refine eti (t2s (yw (bj rfl) (ji rfl rfl)) ckk rfl) ?_;refine etr (jj (a6y (yw (bj rfl) (ji rfl rfl)) rfl)) ?_;refine etr (jj (a0g (bj rfl) rfl (arg1 (aga (bj rfl) (yw (bj rfl) (ji rfl rfl)) (bj rfl) asa)) (a1i (xs:=ps.map K35.pcD) rfl (by rw[ay];exact a0w (by omega))))) ?_
 refine aP toR (u9 (a7d (bj rfl) (ug rfl rfl) rfl ((ajg k e 0 _ rfl).trans ?_)));show R.ok _ [Ob T .op e f e 0 none [],.lst (ps.map K35.pcD++[K35.pcD (k,s,e)])]=R.ok _ [_,.lst ((ps++[(k,s,e)]).map K35.pcD)];rw[bB];rfl
end
end STM
namespace STM
open L2 MI AT HND K23 K21
open RCH
open K22 hiding hp
noncomputable def vm:SF:=m8 (STM.a5y STP.ud) 2
noncomputable def vo:SF:=m8 (STM.a66 STM.bz STM.vm) 2
noncomputable def gk:SF:=m8 (STM.vg STM.bx STM.jw) 4
def Kp(x:List Nat)(s a:Nat):Bst->List Nat->Prop
 |none,w=>w=[]
 |some (_,e),w=>s<e/\e<=a/\w=(x.take a).drop e
structure V (T:Table) (x:List Nat) (s a r:Nat) (b:Bst) (w:List Nat):Prop where
 sa:s<=a
 ax:a<=x.length
 eq:al T 0 none s (x.drop s)=al T r b a (x.drop a)
 rl:r<T.go.length
 kp:Kp x s a b w
section
variable{T:Table}{x:List Nat}
theorem V.wl(v:V T x s a r b w):w.length<=x.length:=by
 have:=v.kp
 cases b with
 |none=>rw[show w=[] from this];simp
 |some q=>rw[this.2.2];simp;omega
theorem V.zero(h:T.Ok)(hs:s<=x.length):V T x s s 0 none []:=⟨aJ _,hs,rfl,h.n1,rfl⟩
theorem a2l(ha:a<x.length):x.drop a=x[a]::x.drop (a+1):=dF ha
theorem V.go(h:T.Ok)(v:V T x s a r b w)(ha:a<x.length)(e:hp T (stp T r (psn T x[a]))=true):V T x s (a+1) (stp T r (psn T x[a])) (nb T r b a x[a]) (nw T r b x[a] w):=by
 refine⟨by have:=v.sa;omega,ha,by rw[v.eq,a2l ha,a8h e],a8e h _ _,?_⟩
 have kp:=v.kp;unfold nb nw
 by_cases hk:kI T (stp T r (psn T x[a])) = -1
 ·rw[aT hk,aT hk]
  cases b with
  |none=>exact kp
  |some q =>
   obtain⟨k1,k2,k3⟩:=kp;refine⟨k1,by omega,?_⟩
   show w++[x[a]]=_;rw[k3,List.take_succ_eq_append_getElem ha,cS (by simp;omega)]
 ·rw[bA hk,bA hk];refine⟨by have:=v.sa;omega,aJ _,?_⟩
  rw[bU (by rw[bV];omega)]
theorem V.done(v:V T x s a r b w)(ha:a<x.length)(e:hp T (stp T r (psn T x[a]))=false):al T 0 none s (x.drop s)=(true,nb T r b a x[a],stp T r (psn T x[a])):=by rw[v.eq,a2l ha,acd e]
theorem V.left(v:V T x s a r b w)(ha:a<x.length)(e:nb T r b a x[a]=some (k,z)):s<z/\z<=a+1/\nw T r b x[a] w++x.drop (a+1)=x.drop z:=by
 have kp:=v.kp;unfold nb at e;unfold nw
 by_cases hk:kI T (stp T r (psn T x[a])) = -1
 ·rw[aT hk]at e ⊢;subst e;obtain⟨k1,k2,k3⟩:=kp;refine⟨k1,by omega,?_⟩
  show(w++[x[a]])++x.drop (a+1)=_;rw[k3,bO,fA,<-a2l ha]
  conv=>rhs;rw[<-List.take_append_drop a x]
  rw[cS (by simp;omega)]
 ·rw[bA hk]at e ⊢;cases e
  exact⟨by have:=v.sa;omega,aJ _,rfl⟩
theorem ajh{l:List Nat}(hl:∀c∈l,c∈T.tg)(ll:l.length<=1000):Pu STM.vm 2 [sD T.tg,sD l] (sD l):=by
 have p:Pln (sD l):=by show(S l).cps.toList.length<=1000;rw[a5s];exact ll
 have t:txt T (sD l)=true:=by rw[aws];unfold inT;rw[cp];exact λc hc=>by simpa using hl c hc
 have c1:∀hh:Hd,ik false 2 STP.ud [sD T.tg,sD l] hh=.ok (.bl true) hh:=λhh=>by rw[<-t];exact STP.amh p hh
 refine Pu.of rfl (K21.afy (fu _) (fu _)) (r:=.ok (sD l) []) ?_ (o7 (fu _) (by simp)) (fu _)
 unfold STM.vm;rw[dm];refine eti (aep (a03 (wg (bj rfl) (bj rfl) (c1 _)) (qj _))) ?_;refine aw (aP toR (u9 (bj rfl))) rfl
theorem ark{l:List Nat}(hl:∀c∈l,c∈T.tg)(ll:l.length<=1000):Dr STM.vo 2 [sD l] (Ob T .op s f a r b w) .non (Ob T .op s (f+l.length) a r b w):=by
 refine Dr.ob rfl (a2d (fu _)) ?_ a0q;unfold STM.vo;rw[dm];refine etr (jj (a7e (a7d (bj rfl) (ug rfl rfl) rfl (af0 0 _ rfl)))) ?_;refine aw (aP toR (aje (bj rfl) rfl rfl (ye (wg (qm (yw (bj rfl) (ji rfl rfl)) ckk (K21.ar9 _)) (bj rfl) (ajh hl ll _)) (a6w (g8 (by omega)))) a1t lt9)) rfl
def Rd(T:Table)(x:List Nat)(s:Nat)(ps:List Pc)(p:Ph)(s' a' r':Nat)(b':Bst)(w':List Nat):Prop :=
 (p=.op/\V T x s' a' r' b' w'/\∀ff n acc,x.length+1<=n+s->∃m,x.length+1<=m+s'/\rn T x ff n s acc=rn T x ff m s' (acc++ps)) \/
 (p=.st/\a'=s'/\r'=0/\b'=none/\w'=[]/\∀ff n acc,x.length+1<=n+s->rn T x ff n s acc=(acc++ps,.st,s',0,none))
theorem ax0(l:List Nat)(h:Hd):hNe (sD l) (.str "") h=.ok (.bl (!decide (l=[]))) h:=by
 show R.ok (D.bl (!(S l == S []))) h=_;rw[az4]
theorem af2(h:T.Ok)(hx:∀c∈x,c∈T.tg)(xl:x.length<=300)(v:V T x s a r b w)(f:Nat) :
  ∃(ps:List Pc) (p:Ph) (s' a' r':Nat) (b':Bst) (w':List Nat),STM.gk [.ref 0,sD (x.drop a)] [Ob T .op s f a r b w]=.ok (.ref 1) [Ob T p s' f a' r' b' w',tD ps]/\Rd T x s ps p s' a' r' b' w'/\(p=.op->a'=x.length)/\ps.length+s<=s'/\s'<=x.length:=by
 let L:=x.length
 have wb:=aih (c:=STM.a0f STM.bx STM.jw) (f:=STM.ur STM.bx STM.jw)
  (λm τ hh=>∃(ps:List Pc) (p:Ph) (s' a' r':Nat) (b':Bst) (w':List Nat) (l:List Nat),τ=[some (.ref 0),some (sD (x.drop a)),some (.ref 1),some (sD l)]/\hh=[Ob T p s' f a' r' b' w',tD ps]/\Rd T x s ps p s' a' r' b' w'/\(p=.op->l=x.drop a'/\m=(L-s')*(L+1)+(L-a'))/\l.length<=1000/\ps.length+s<=s'/\s'<=L)
  (λτ hh=>∃(ps:List Pc) (p:Ph) (s' a' r':Nat) (b':Bst) (w':List Nat) (l:List Nat),τ=[some (.ref 0),some (sD (x.drop a)),some (.ref 1),some (sD l)]/\hh=[Ob T p s' f a' r' b' w',tD ps]/\Rd T x s ps p s' a' r' b' w'/\(p=.op->a'=x.length)/\ps.length+s<=s'/\s'<=x.length)
  (λ_ _=>False) ?_ ((L-s)*(L+1)+(L-a)) 100000 [some (.ref 0),some (sD (x.drop a)),some (.ref 1),some (sD (x.drop a))] [Ob T .op s f a r b w,tD []] ?_
  ⟨[],.op,s,a,r,b,w,x.drop a,rfl,rfl,.inl ⟨rfl,v,λff n acc hn=>⟨n,hn,by rw[bT]⟩⟩,λ_=>⟨rfl,rfl⟩,by rw[bK];omega,by simp,cA v.sa v.ax⟩
 ·rcases wb with⟨τ',h',e,ps,p,s',a',r',b',w',l,rfl,rfl,R,pa,pl⟩|⟨_,_,_,z⟩
  ·refine⟨ps,p,s',a',r',b',w',?_,R,pa,pl⟩;unfold STM.gk;rw[dm];show toR (STM.vg STM.bx STM.jw [some (.ref 0),some (sD (x.drop a)),none,none] [Ob T .op s f a r b w])=_;unfold STM.vg;refine etr (o6 (d:=.ref 1) (h1:=[Ob T .op s f a r b w,tD []]) rfl) ?_;refine ets (bj rfl) ?_;refine etr (jj e) ?_;exact aw (aP toR (u9 (bj rfl))) rfl
  ·exact z.elim
 ·rintro m τ hh ⟨ps,p,s',a',r',b',w',l,rfl,rfl,R,pm,ll,pl,sl⟩
  unfold STM.a0f
  rcases R with⟨rfl,v',ch⟩|⟨rfl,rfl,rfl,rfl,rfl,ch⟩
  ·obtain⟨rfl,rfl⟩:=pm rfl;have lx:(x.drop a').length=L-a':=bK
   by_cases ha:a'<x.length
   ·have nn:∀hh:Hd,hNe (sD (x.drop a')) (.str "") hh=.ok (.bl true) hh:=λhh=>by rw[ax0,bL (λz=>by rw[a2l ha]at z;cases z)];rfl
    refine .inr ⟨[Ob T .op s' f a' r' b' w',tD ps],abv (tvc rfl (nn _)) (t2s (yw (bj rfl) (ji rfl rfl)) ckk (a4l .op _ true (by decide +kernel))),.inl ?_⟩
    have hc:x[a']∈T.tg:=hx _ (bF ha);have hr2:stp T r' (psn T x[a'])<T.go.length:=a8e h _ _;have wl:=v'.wl;have g0:∀tl:Hd,ik false 2 STM.jw [.ref 0,sD [x[a']]] (Ob T .op s' f a' r' b' w'::tl)=.ok .non (Ob T .op s' f (a'+1) (stp T r' (psn T x[a'])) (nb T r' b' a' x[a']) (nw T r' b' x[a'] w')::tl):=λtl=>azn h v'.rl hc (by omega) 0 _ rfl
    have i0:gIx (sD (x.drop a')) (.int 0) [Ob T .op s' f a' r' b' w',tD ps]=.ok (sD [x[a']]) [Ob T .op s' f a' r' b' w',tD ps]:=as7 (i:=0) (g8 (by omega)) (by rw[a2l ha];rfl)
    have d1:∀hh:Hd,afp (sD (x.drop a')) (some 1) none hh=.ok (sD (x.drop (a'+1))) hh:=λhh=>by
     have:=aem (h:=hh) (l:=x.drop a') 1 (g8 (by omega))
     rw[List.drop_drop]at this;exact this
    have sz:(L-s')*(L+1)+(L-(a'+1))<(L-s')*(L+1)+(L-a'):=by omega
    have pre:∀g:SS,dw (ue (sMe false "Stream" "go" 2 STM.jw (sV 0) (ak (s2 gIx (sV 3) (sI 0)) bw))) (dw (m7 3 (a3l (sV 3) (oS (sI 1)) oN)) g) [some (.ref 0),some (sD (x.drop a)),some (.ref 1),some (sD (x.drop a'))] [Ob T .op s' f a' r' b' w',tD ps]=g [some (.ref 0),some (sD (x.drop a)),some (.ref 1),some (sD (x.drop (a'+1)))] [Ob T .op s' f (a'+1) (stp T r' (psn T x[a'])) (nb T r' b' a' x[a']) (nw T r' b' x[a'] w'),tD ps]:=λg=>by
     refine aw (jj (a7e (a7d (bj rfl) (ug rfl rfl) (arg1 (a1u rfl i0)) (g0 _)))) ?_;exact o6 (PAP.ak5 (bj rfl) (PAP.ak4 ckk) rfl (d1 _))
    have hix:∀hh:Hd,gIx (.tup (hpD T)) (cj (stp T r' (psn T x[a']))) hh=.ok (.bl (hp T (stp T r' (psn T x[a'])))) hh:=λhh=>a8r (ajc hr2)
    cases hh:hp T (stp T r' (psn T x[a'])) with
    |true =>
     refine⟨_,_,(L-s')*(L+1)+(L-(a'+1)),?_,sz,ps,.op,s',a'+1,stp T r' (psn T x[a']),nb T r' b' a' x[a'],nw T r' b' x[a'] w',x.drop (a'+1),rfl,rfl,.inl ⟨rfl,v'.go h ha hh,ch⟩,λ_=>⟨rfl,rfl⟩,by rw[bK];omega,pl,sl⟩
     unfold STM.ur;refine aw (pre _) ?_;exact ifF (aep (a03 (qm (yw (bj rfl) (ji rfl rfl)) (yw (bj rfl) (ji rfl rfl)) ((hix _).trans (by rw[hh]))) (qj _)))
    |false =>
     have da:=v'.done ha hh;have sl':s'<x.length:=by have:=v'.sa;omega
     cases hb:nb T r' b' a' x[a'] with
     |none =>
      rw[hb]at da pre;refine⟨[some (.ref 0),some (sD (x.drop a)),some (.ref 1),some (sD (x.drop (a'+1)))],[Ob T .st s' f s' 0 none [],tD ps],(L-s')*(L+1)+(L-(a'+1)),?_,sz,ps,.st,s',s',0,none,[],x.drop (a'+1),rfl,rfl,.inr ⟨rfl,rfl,rfl,rfl,rfl,λff n acc hn=>?_⟩,(λz=>by cases z),by rw[bK];omega,pl,sl⟩
      ·unfold STM.ur;refine aw (pre _) ?_;refine aw (ifT (az8 (a03 (qm (yw (bj rfl) (ji rfl rfl)) (yw (bj rfl) (ji rfl rfl)) ((hix _).trans (by rw[hh]))) (qj _)))) ?_
       exact aeo (qm (a7d (bj rfl) (ug rfl rfl) (arg1 (bj rfl)) a8j) (bj rfl) (abu (g8 (by simp;omega))))
      ·obtain⟨m,hm,e⟩:=ch ff n acc hn;rw[e]
       cases m with
       |zero=>omega
       |succ m=>exact a72 sl' da (.inl rfl)
     |some q =>
      obtain⟨k,z⟩:=q;obtain⟨z1,z2,z3⟩:=v'.left ha hb;rw[hb]at da pre;refine⟨[some (.ref 0),some (sD (x.drop a)),some (.ref 1),some (sD (x.drop z))],[Ob T .op z f z 0 none [],tD (ps++[(k,s',z)])],(L-z)*(L+1)+(L-z),?_,?_,ps++[(k,s',z)],.op,z,z,0,none,[],x.drop z,rfl,rfl,.inl ⟨rfl,V.zero h (by omega),λff n acc hn=>?_⟩,λ_=>⟨rfl,rfl⟩,by rw[bK];omega,by rw[ai,aI];omega,by omega⟩
      ·unfold STM.ur;refine aw (pre _) ?_;refine aw (ifT (az8 (a03 (qm (yw (bj rfl) (ji rfl rfl)) (yw (bj rfl) (ji rfl rfl)) ((hix _).trans (by rw[hh]))) (qj _)))) ?_
       refine aeo (qm (a7d (bj rfl) (ug rfl rfl) (arg1 (bj rfl)) (a8k k z (by omega))) (bj rfl) ((abu (g8 ?_)).trans (by rw[z3])))
       have:=aP List.length z3
       rw[ai,bK,bK]at this;rw[bK];omega
      ·have q1:(L-z+1)*(L+1)<=(L-s')*(L+1):=bZ _ (by omega)
       rw[fV,gT]at q1;omega
      ·obtain⟨m,hm,e⟩:=ch ff n acc hn
       cases m with
       |zero=>omega
       |succ m=>exact⟨m,by omega,by rw[e,a5a sl' da (.inl rfl),bO]⟩
   ·have aL:a'=x.length:=by have:=v'.ax;omega
    refine .inl ⟨_,aik (tvc rfl ((ax0 _ _).trans (by rw[bU (by omega)];rfl))),ps,.op,s',a',r',b',w',_,rfl,rfl,.inl ⟨rfl,v',ch⟩,λ_=>aL,pl,sl⟩
  ·refine .inl ?_;have N:∃(ps':List Pc) (p:Ph) (s2 a2 r':Nat) (b':Bst) (w':List Nat) (l':List Nat),[some (.ref 0),some (sD (x.drop a)),some (.ref 1),some (sD l)]=[some (.ref 0),some (sD (x.drop a)),some (.ref 1),some (sD l')]/\[Ob T .st a' f a' 0 none [],tD ps]=[Ob T p s2 f a2 r' b' w',tD ps']/\Rd T x s ps' p s2 a2 r' b' w'/\(p=.op->a2=x.length)/\ps'.length+s<=s2/\s2<=x.length:=⟨ps,.st,a',a',0,none,[],l,rfl,rfl,.inr ⟨rfl,rfl,rfl,rfl,rfl,ch⟩,(λz=>by cases z),pl,sl⟩
   have t2:sT (s2 hEq (s1 (a1y "Stream" "phase") (sV 0)) (sC (.str "open"))) [some (.ref 0),some (sD (x.drop a)),some (.ref 1),some (sD l)] [Ob T .st a' f a' 0 none [],tD ps]=.ok false [Ob T .st a' f a' 0 none [],tD ps]:=t2s (yw (bj rfl) (ji rfl rfl)) ckk (a4l .st _ false (by decide +kernel))
   by_cases hl:l=[]
   ·exact⟨_,aik (tvc rfl ((ax0 _ _).trans (by rw[cW hl];rfl))),N⟩
   ·exact⟨_,abv (tvc rfl ((ax0 _ _).trans (by rw[bL hl];rfl))) t2,N⟩
 ·have q1:(L-s)*(L+1)<=300*301:=Nat.mul_le_mul (by omega) (by omega)
  omega
end
end STM
namespace STM
open L2 MI AT HND K23 K21
open RCH
open K22 hiding hp
theorem azo(e:c τ h=.ok false h1):sWh c f (n+1) τ h=.nx τ h1:=by rw[sWh,e];rfl
def Nw(F:SF)(n:Nat)(ds:List D)(o o' t:O):Prop:=∀p h,h[p]? = some o->ik true n F (.ref p::ds) h=.ok (.ref h.length) (h.set p o'++[t])
theorem Nw.of{ds:List D}{o o' t:O}(hn:ds.length+1=n)(cd:∀x∈ds,MI.clo 0 x)(co:vy 0 o)(e:F (.ref 0::ds) [o]=.ok (.ref 1) [o',t])(co':vy 0 o')(ct:vy 0 t):Nw F n ds o o' t:=λp h hp=>by
 obtain⟨p1,_,p3⟩:=a5r cd;have e1:a2r (.ref p::ds)=[p]:=by
  have:a2r (.ref p::ds)=p::a2r ds:=rfl
  rw[this,p1]
 have e2:a1s 0 (.ref p::ds)=.ref 0::ds:=by
  have:a1s 0 (.ref p::ds)=.ref 0::a1s 1 ds:=rfl
  rw[this,p3]
 have all:∀x∈(D.ref p::ds),MI.clo 0 x\/isRef x:=λx hx=>by
  rcases aR.mp hx with rfl|hx
  ·exact .inr ⟨p,rfl⟩
  ·exact .inl (cd x hx)
 have z:anl 1 (.ok (.ref 1) [o',t])=.ok (.ref 1) [o',t]:=by
  unfold anl;simp only[gF,eR];rw[aT ⟨aJ _,jm (aW _) ct,λu hu=>by rw[show List.take 1 [o',t]=[o'] from rfl,ar]at hu;subst hu;exact jm (aW _) co'⟩]
  rfl
 unfold ik;rw[aT (by simpa using hn)]
 unfold aq4;rw[e1];simp only[a0m,hp,aI,de];rw[aT ⟨by simp,all,λu hu=>by rw[ar.mp hu];exact co⟩,e2,e,z]
 simp[co',ct,xr]
def Tel(F:SF)(ds:List D)(o o':O)(ps:List Pc):Prop:=F (.ref 0::ds) [o]=.ok (.ref 1) [o',tD ps]
theorem Tel.nw{ds:List D}(e:Tel F ds o o' ps)(hn:ds.length+1=n)(cd:∀x∈ds,MI.clo 0 x)(co:vy 0 o)(co':vy 0 o'):Nw F n ds o o' (tD ps):=Nw.of hn cd co e co' (a6i ps)
theorem Tel.dr{ds:List D}(e:Tel F ds o o' ps)(hn:ds.length+1=n)(cd:∀x∈ds,MI.clo 0 x)(co:vy 0 o)(co':vy 0 o'):Dr F n ds o (.rol (ps.map K35.pcD)) o':=by
 refine Dr.of hn cd co e ?_ (km (K35.a3y 0 ps)) co';exact a2t (i:=1) (aJ _) rfl (K35.a3y 1 ps) (by intro u hu;rw[show List.take 1 [o',tD ps]=[o'] from rfl,ar]at hu;subst hu;exact jm (aW _) co')
noncomputable def nu:SF:=m8 (STM.a68 STM.vo STM.gk) 2
noncomputable def kj:SF:=m8 (STM.a0a STM.bz STM.bx STM.gk) 3
noncomputable def vp:SF:=m8 (STM.a5z RCH.a2z) 2
noncomputable def fj:SF:=m8 (STM.a67 STM.vp STM.iw) 2
section
variable{T:Table}{x:List Nat}
theorem V.end(v:V T x s x.length r b w):al T 0 none s (x.drop s)=(false,b,r):=by rw[v.eq,gI];rfl
theorem V.ext(v:V T x s x.length r b w)(l:List Nat):V T (x++l) s x.length r b w:=by
 refine⟨v.sa,by simp,?_,v.rl,?_⟩
 ·rw[cS v.sa,ao1 v.end,List.drop_left,bK,show s+(x.length-s)=x.length by have:=v.sa;omega]
 ·have kp:=v.kp
  cases b with
  |none=>exact kp
  |some q=>exact⟨kp.1,kp.2.1,by rw[kp.2.2,List.take_left,gJ]⟩
theorem arl(h:T.Ok){l:List Nat}(hx:∀c∈x++l,c∈T.tg)(xl:(x++l).length<=300)(v:V T x s x.length r b w) :
  ∃(ps:List Pc) (p:Ph) (s' a' r':Nat) (b':Bst) (w':List Nat),Tel STM.nu [sD l] (Ob T .op s x.length x.length r b w) (Ob T p s' (x++l).length a' r' b' w') ps/\Rd T (x++l) s ps p s' a' r' b' w'/\(p=.op->a'=(x++l).length)/\ps.length+s<=s'/\s'<=(x++l).length:=by
 obtain⟨ps,p,s',a',r',b',w',e,q⟩:=af2 h hx xl (v.ext l) (x++l).length;rw[List.drop_left]at e;have e:=Tel.nw e rfl (a2d (fu _)) ut ut;have ll:l.length<=300:=by rw[ai]at xl;omega
 refine⟨ps,p,s',a',r',b',w',?_,q⟩;unfold Tel STM.nu;rw[dm];refine etr (jj (a7e (a7d (bj rfl) (ug rfl rfl) (arg1 (bj rfl)) (ark (λc hc=>hx c (by simp[hc])) (by omega) 0 _ rfl)))) ?_
 rw[<-ai];refine aw (aP toR (u9 (a7d (bj rfl) (ug rfl rfl) (arg1 (bj rfl)) (e 0 _ rfl)))) rfl
theorem acf:Dr STM.gk 2 [sD []] (Ob T .st s f a r b w) (.rol []) (Ob T .st s f a r b w):=by
 refine Dr.of rfl (a2d (fu _)) ut (r:=.ok (.ref 1) [Ob T .st s f a r b w,tD []]) ?_ (a2t (i:=1) (xs:=[]) (aJ _) rfl jy (by intro o ho;rw[show List.take 1 [Ob T .st s f a r b w,tD []]=[Ob T .st s f a r b w] from rfl,ar]at ho;subst ho;exact jm (aW _) ut)) (km jy) ut
 unfold STM.gk;rw[dm];show toR (STM.vg STM.bx STM.jw [some (.ref 0),some (sD []),none,none] [Ob T .st s f a r b w])=_;unfold STM.vg;refine etr (o6 (d:=.ref 1) (h1:=[Ob T .st s f a r b w,tD []]) rfl) ?_;refine ets (bj rfl) ?_;refine aw (aP toR (jj (τ1:=[some (.ref 0),some (sD []),some (.ref 1),some (sD [])]) (h1:=[Ob T .st s f a r b w,tD []]) ?_)) (aw (aP toR (u9 (bj rfl))) rfl);exact azo (aik (tvc rfl (ax0 _ _)))
theorem aji(h:T.Ok)(hh:Hd):aby "Stream" 1 STM.fj [T.d] hh=.ok (.ref hh.length) (hh++[Ob T .op 0 0 0 0 none []]):=by
 let o5:O:=.ins "Stream" [("table",T.d),("hope",.tup (hpD T)),("phase",.str "open"),("start",cj 0),("fed",cj 0)]
 have c5:vy 0 o5:=by
  show clos 0 [T.d,.tup (hpD T),.str "open",cj 0,cj 0];exact bf Table.clo (bf (qx (a2c _)) (bf (fu _) (bf (dh _) (bf (dh _) jy))))
 have c0:vy 0 (.ins "Stream" []):=by show clos 0 [];exact jy
 have one:∀{o:O},vy 0 o->∀u∈List.take 1 [o],vy 1 u:=λc u hu=>by rw[show ∀o:O,List.take 1 [o]=[o] from λ_=>rfl,ar]at hu;subst hu;exact jm (aW _) c
 have d1:Dr STM.vp 2 [T.d] (.ins "Stream" []) .non o5:=by
  refine Dr.of rfl (a2d Table.clo) c0 (r:=.ok .non [o5]) ?_ (o7 a0q (one c5)) a0q c5;unfold STM.vp;rw[dm];refine etr (jj (xg (bj rfl) (bj rfl) rfl (by show 0<1000;omega))) ?_
  refine etr (jj (xg (ye (bj rfl) (RCH.a7m h _)) (bj rfl) rfl (by show 1<1000;omega))) ?_
  refine etr (jj (xg ckk (bj rfl) rfl (by show 2<1000;omega))) ?_
  refine etr (jj (xg ckk (bj rfl) rfl (by show 3<1000;omega))) ?_
  refine aw (aP toR (xg ckk (bj rfl) rfl (by show 4<1000;omega))) rfl
 have d2:Dr STM.iw 2 [cj 0] o5 .non (Ob T .op 0 0 0 0 none []):=by
  refine Dr.of rfl (a2d (dh _)) c5 (r:=.ok .non [Ob T .op 0 0 0 0 none []]) ?_ (o7 a0q (one ut)) a0q ut;unfold STM.iw;rw[dm];refine etr (jj (xg (bj rfl) (bj rfl) rfl (by show 5<1000;omega))) ?_
  refine etr (jj (xg (bj rfl) (bj rfl) rfl (by show 5<1000;omega))) ?_
  refine etr (jj (xg ckk (bj rfl) rfl (by show 6<1000;omega))) ?_
  refine etr (jj (xg ckk (bj rfl) rfl (by show 7<1000;omega))) ?_
  refine aw (aP toR (xg ckk (bj rfl) rfl (by show 8<1000;omega))) rfl
 have ls:∀a b:O,(hh++[a]).set hh.length b=hh++[b]:=λa b=>by simp
 have lg:∀a:O,(hh++[a])[hh.length]? = some a:=λa=>by simp
 have run:STM.fj [.ref hh.length,T.d] (hh++[.ins "Stream" []])=.ok .non (hh++[Ob T .op 0 0 0 0 none []]):=by
  unfold STM.fj;rw[dm];refine etr (jj (a7e (wg (bj rfl) (bj rfl) (d1 hh.length _ (lg _))))) ?_;rw[ls];refine etr (a7e (a7d (bj rfl) (ug (lg _) rfl) (arg1 ckk) (d2 hh.length _ (lg _)))) ?_;rw[ls];rfl
 unfold aby;rw[aT (show[T.d].length=1 from rfl),run]
end
end STM
namespace STM
open L2 MI AT HND K23 K21
open RCH
open K22 hiding hp
theorem ax1{i:Nat}{h:Hd}{xs ys:List D}(e:h[i]? = some (.lst xs))(z:xs.length+ys.length<=1000000):ai7 (.ref i) [.rol ys] h=.ok .non (h.set i (.lst (xs++ys))):=by
 show(match h[i]?,yc (.rol ys) h with|some (.lst xs),some ys=>if xs.length+ys.length<=LINE then R.ok D.non (h.set i (.lst (xs++ys))) else .no|_,_=>.no)=_
 rw[e];show(if xs.length+ys.length<=LINE then R.ok D.non (h.set i (.lst (xs++ys))) else .no)=_
 rw[aT (g8 z)]
section
variable{T:Table}{x:List Nat}
theorem V.all(v:V T x x.length a r b w):a=x.length/\r=0/\b=none/\w=[]:=by
 have sa:=v.sa;have ax:=v.ax;obtain rfl:a=x.length:=by omega
 have e:=v.end;rw[gI]at e;cases e
 exact⟨rfl,rfl,rfl,v.kp⟩
def Rc(T:Table)(x:List Nat)(s:Nat)(ps:List Pc)(p:Ph)(s' a' r':Nat)(b':Bst)(w':List Nat):Prop :=
 (p=.op/\a'=x.length/\V T x s' a' r' b' w'/\∀n acc,x.length+1<=n+s->∃m,x.length+1<=m+s'/\rn T x true n s acc=rn T x true m s' (acc++ps)) \/
 (p=.st/\a'=s'/\r'=0/\b'=none/\w'=[]/\∀n acc,x.length+1<=n+s->rn T x true n s acc=(acc++ps,.st,s',0,none))
theorem ao4(ps qs:List Pc)(z:ps.length+qs.length<=1000000){o:O}:ai7 (.ref 1) [.rol (qs.map K35.pcD)] [o,tD ps]=.ok .non [o,tD (ps++qs)]:=by
 rw[ax1 (xs:=ps.map K35.pcD) rfl (by rw[ay,ay];exact z)]
 show R.ok D.non [o,.lst (ps.map K35.pcD++qs.map K35.pcD)]=_;rw[<-bB]
theorem amk(h:T.Ok)(hx:∀c∈x,c∈T.tg)(xl:x.length<=300)(v:V T x s x.length r b w) :
  ∃(ps:List Pc) (p:Ph) (s' a':Nat),Tel STM.kj [] (Ob T .op s x.length x.length r b w) (Ob T p s' x.length a' 0 none []) ps/\ps.length<=x.length/\∀n acc,x.length+1<=n+s->rn T x true n s acc=(acc++ps,p,s',0,none):=by
 have wb:=aih (c:=STM.a04 STM.bz STM.bx STM.gk) (f:=STM.uc STM.bz STM.bx STM.gk)
  (λm τ hh=>(∃(ps:List Pc) (p:Ph) (s' a' r':Nat) (b':Bst) (w':List Nat) (t2:Option D),τ=[some (.ref 0),some (.ref 1),t2]/\hh=[Ob T p s' x.length a' r' b' w',tD ps]/\Rc T x s ps p s' a' r' b' w'/\m=x.length+1-s'/\ps.length+s<=s'/\s'<=x.length)\/∃(ps:List Pc) (s':Nat) (t2:Option D),τ=[some (.ref 0),some (.ref 1),t2]/\hh=[Ob T .st s' x.length s' 0 none [],tD ps]/\Rc T x s ps .st s' s' 0 none []/\ps.length+s<=s'/\s'<=x.length)
  (λτ hh=>∃(ps:List Pc) (p:Ph) (s' a' r':Nat) (b':Bst) (w':List Nat) (t2:Option D),τ=[some (.ref 0),some (.ref 1),t2]/\hh=[Ob T p s' x.length a' r' b' w',tD ps]/\Rc T x s ps p s' a' r' b' w'/\(p=.op->s'=x.length)/\ps.length<=x.length)
  (λ_ _=>False) ?_ (x.length+1-s) 100000 [some (.ref 0),some (.ref 1),none] [Ob T .op s x.length x.length r b w,tD []] (by omega)
  (.inl ⟨[],.op,s,x.length,r,b,w,none,rfl,rfl,.inl ⟨rfl,rfl,v,λn acc hn=>⟨n,hn,by rw[bT]⟩⟩,rfl,by simp,v.sa⟩)
 ·rcases wb with⟨τ',h',e,ps,p,s',a',r',b',w',t2,rfl,rfl,R,pa,pl⟩|⟨_,_,_,z⟩
  ·have pre:∀g:SS,STM.a0a STM.bz STM.bx STM.gk [some (.ref 0),none,none] [Ob T .op s x.length x.length r b w]=dw (sIf (sT (s2 hEq (s1 (a1y "Stream" "phase") (sV 0)) (sC (.str "open")))) (a2k "Stream" "phase" (sV 0) (sC (.str "closed"))) sNx) (uo (sV 1)) [some (.ref 0),some (.ref 1),t2] [Ob T p s' x.length a' r' b' w',tD ps]:=λg=>by
    unfold STM.a0a;refine aw (jj (a7e (a7d (bj rfl) (ug rfl rfl) rfl (af0 0 _ rfl)))) ?_;refine aw (o6 (d:=.ref 1) (h1:=[Ob T .op s x.length x.length r b w,tD []]) rfl) ?_;exact jj e
   rcases R with⟨rfl,rfl,v',ch⟩|⟨rfl,rfl,rfl,rfl,rfl,ch⟩
   ·obtain rfl:=pa rfl
    obtain⟨-,rfl,rfl,rfl⟩:=v'.all;refine⟨ps,.cl,x.length,x.length,?_,pl,λn acc hn=>?_⟩
    ·unfold Tel STM.kj;rw[dm];refine etr (pre sNx) ?_;refine etr (jj (aw (ifT (t2s (yw (bj rfl) (ji rfl rfl)) ckk (a4l .op _ true (by decide +kernel)))) (xg ckk (bj rfl) rfl lt9))) ?_
     exact aw (aP toR (u9 (bj rfl))) rfl
    ·obtain⟨m,hm,e⟩:=ch n acc hn;rw[e]
     cases m with
     |zero=>omega
     |succ m=>exact adk (cJ _)
   ·refine⟨ps,.st,a',a',?_,pl,ch⟩;unfold Tel STM.kj;rw[dm];refine etr (pre sNx) ?_;refine eti (t2s (yw (bj rfl) (ji rfl rfl)) ckk (a4l .st _ false (by decide +kernel))) ?_
    exact aw (aP toR (u9 (bj rfl))) rfl
  ·exact z.elim
 ·have stopped:∀(ps:List Pc) (s':Nat) (t2:Option D),Rc T x s ps .st s' s' 0 none []->ps.length+s<=s'->s'<=x.length->(∃h1,STM.a04 STM.bz STM.bx STM.gk [some (.ref 0),some (.ref 1),t2] [Ob T .st s' x.length s' 0 none [],tD ps]=.ok false h1/\∃(ps':List Pc) (p:Ph) (s2 a' r':Nat) (b':Bst) (w':List Nat) (t3:Option D),[some (.ref 0),some (.ref 1),t2]=[some (.ref 0),some (.ref 1),t3]/\h1=[Ob T p s2 x.length a' r' b' w',tD ps']/\Rc T x s ps' p s2 a' r' b' w'/\(p=.op->s2=x.length)/\ps'.length<=x.length):=λps s' t2 R pl sl =>
   ⟨_,aik (t2s (yw (bj rfl) (ji rfl rfl)) ckk (a4l .st _ false (by decide +kernel))),ps,.st,s',s',0,none,[],t2,rfl,rfl,R,(λz=>by cases z),by omega⟩
  rintro m τ hh (⟨ps,p,s',a',r',b',w',t2,rfl,rfl,R,rfl,pl,sl⟩|⟨ps,s',t2,rfl,rfl,R,pl,sl⟩)
  ·rcases R with⟨rfl,rfl,v',ch⟩|⟨rfl,rfl,rfl,rfl,rfl,ch⟩
   ·have t1:∀{τ:Sd},τ[0]? = some (some (.ref 0))->sT (s2 hEq (s1 (a1y "Stream" "phase") (sV 0)) (sC (.str "open"))) τ [Ob T .op s' x.length x.length r' b' w',tD ps]=.ok true [Ob T .op s' x.length x.length r' b' w',tD ps]:=λh0=>t2s (yw (bj h0) (ji rfl rfl)) ckk (a4l .op _ true (by decide +kernel))
    by_cases lt:s'<x.length
    ·refine .inr ⟨[Ob T .op s' x.length x.length r' b' w',tD ps],abv (t1 rfl) (t2s (yw (bj rfl) (ji rfl rfl)) (yw (bj rfl) (ji rfl rfl)) (agb (by omega))),.inl ?_⟩
     have da:=v'.end
     cases b' with
     |none =>
      refine⟨[some (.ref 0),some (.ref 1),some (sD [])],[Ob T .st s' x.length s' 0 none [],tD ps],0,?_,by omega,.inr ⟨ps,s',_,rfl,rfl,.inr ⟨rfl,rfl,rfl,rfl,rfl,λn acc hn=>?_⟩,pl,sl⟩⟩
      ·unfold STM.uc;refine aw (o6 (a7d (bj rfl) (ug rfl rfl) (arg1 (bj rfl)) a8j)) ?_;refine aw (a0g (bj rfl) rfl (arg1 (a7d (bj rfl) (ug rfl rfl) (arg1 (bj rfl)) (acf 0 _ rfl))) (ao4 ps [] (by simp;omega))) ?_
       rw[bT];rfl
      ·obtain⟨m,hm,e⟩:=ch n acc hn;rw[e]
       cases m with
       |zero=>omega
       |succ m=>exact a72 lt da (.inr rfl)
     |some q =>
      obtain⟨k,z⟩:=q;obtain⟨z1,z2,z3⟩:=v'.kp;rw[gJ]at z3;subst z3;obtain⟨qs,p2,s2,a2,r2,b2,w2,er,R2,pa2,pl2,sl2⟩:=af2 h hx xl (V.zero h (s:=z) z2) x.length;have dr:=Tel.dr (n:=2) er rfl (a2d (fu _)) ut ut;have body:STM.uc STM.bz STM.bx STM.gk [some (.ref 0),some (.ref 1),t2] [Ob T .op s' x.length x.length r' (some (k,z)) (x.drop z),tD ps]=.nx [some (.ref 0),some (.ref 1),some (sD (x.drop z))] [Ob T p2 s2 x.length a2 r2 b2 w2,tD (ps++[(k,s',z)]++qs)]:=by
       unfold STM.uc;refine aw (o6 (a7d (bj rfl) (ug rfl rfl) (arg1 (bj rfl)) (a8k k z (by omega)))) ?_
       exact a0g (bj rfl) rfl (arg1 (a7d (bj rfl) (ug rfl rfl) (arg1 (bj rfl)) (dr 0 _ rfl))) (ao4 _ qs (by simp;omega))
      have pl3:(ps++[(k,s',z)]++qs).length+s<=s2:=by simp;omega
      have stp:∀n acc,x.length+1<=n+s->∃m,x.length+1<=m+z/\rn T x true n s acc=rn T x true m z (acc++(ps++[(k,s',z)])):=λn acc hn=>by
       obtain⟨m,hm,e⟩:=ch n acc hn
       cases m with
       |zero=>omega
       |succ m=>exact⟨m,by omega,by rw[e,a5a lt da (.inr rfl),bO]⟩
      rcases R2 with⟨rfl,v2,ch2⟩|⟨rfl,rfl,rfl,rfl,rfl,ch2⟩
      ·obtain rfl:=pa2 rfl
       refine⟨_,_,x.length+1-s2,body,by omega,.inl ⟨_,.op,s2,x.length,r2,b2,w2,_,rfl,rfl,.inl ⟨rfl,rfl,v2,λn acc hn=>?_⟩,rfl,pl3,sl2⟩⟩
       obtain⟨m,hm,e⟩:=stp n acc hn;obtain⟨m2,hm2,e2⟩:=ch2 true m (acc++(ps++[(k,s',z)])) hm;exact⟨m2,hm2,by rw[e,e2,bO,bO]⟩
      ·refine⟨_,_,0,body,by omega,.inr ⟨_,a2,_,rfl,rfl,.inr ⟨rfl,rfl,rfl,rfl,rfl,λn acc hn=>?_⟩,pl3,sl2⟩⟩
       obtain⟨m,hm,e⟩:=stp n acc hn;rw[e,ch2 true m (acc++(ps++[(k,s',z)])) hm,bO]
    ·refine .inl ⟨_,abv (t1 rfl) (t2s (yw (bj rfl) (ji rfl rfl)) (yw (bj rfl) (ji rfl rfl)) (am5 (by omega))),ps,.op,s',x.length,r',b',w',t2,rfl,rfl,.inl ⟨rfl,rfl,v',ch⟩,λ_=>by omega,by omega⟩
   ·exact .inl (stopped ps _ t2 (.inr ⟨rfl,rfl,rfl,rfl,rfl,ch⟩) pl sl)
  ·exact .inl (stopped ps s' t2 R pl sl)
end
end STM
namespace STM
open L2 MI AT HND K23 K21
open RCH
open K22 hiding hp
noncomputable def jh:SF:=m8 STM.a0n 5
noncomputable def jn:SF:=m8 STM.a2x 8
noncomputable def ig:SF:=m8 (STM.a6b STM.jn) 9
noncomputable def qe:SF:=m8 (STM.a1q SRC.jc) 4
section
variable{T:Table}{x:List Nat}
theorem arn(h:T.Ok):Pu STM.jh 1 [T.d] (.rol (hpD T)):=RCH.adi h
abbrev alD(q:Bool×Bst×Nat):D:=.tup [.bl q.1,bD q.2.1,cj q.2.2]
theorem ajj(q:Bool×Bst×Nat):MI.clo 0 (alD q):=qx (bf (zj _) (bf (ace _ _) (bf (dh _) jy)))
theorem ax2(ha:MI.clo 0 a)(hb:MI.clo 0 b)(hc:MI.clo 0 c)(hd:MI.clo 0 d):∀x∈[a,b,c,d],MI.clo 0 x:=by
 intro x hx
 simp only[aR,bo,cF]at hx
 rcases hx with rfl|rfl|rfl|rfl<;>assumption
theorem aap(h:T.Ok)(hx:∀c∈x,c∈T.tg)(xl:x.length<=1000)(hs:s<=x.length):Pu STM.jn 4 [T.d,.rol (hpD T),sD x,cj s] (alD (al T 0 none s (x.drop s))):=by
 refine Pu.of rfl (ax2 Table.clo (km (a2c _)) (fu _) (dh _)) (r:=.ok (alD (al T 0 none s (x.drop s))) []) ?_ (o7 (ajj _) (by simp)) (ajj _)
 unfold STM.jn;rw[dm];show toR (STM.a2x [some T.d,some (.rol (hpD T)),some (sD x),some (cj s),none,none,none,none] [])=_;unfold STM.a2x;refine etr (o6 ckk) ?_;refine etr (o6 ckk) ?_;refine etr (o6 ckk) ?_;refine etr (a4k (aij (a:=s) (n:=x.length) (bj rfl) (ye (bj rfl) (a6w (g8 (by omega)))) (g8 (by omega)) (g8 (by omega)))) ?_
 have lp:=rm (g:=kN 7) (b:=STM.a2a) (λi:Nat=>D.int ((s+i:Nat)))
  (λpre τ hh=>∃(r:Nat) (b:Bst) (g:Bool) (t7:Option D),τ=[some T.d,some (.rol (hpD T)),some (sD x),some (cj s),some (cj r),some (bD b),some (.bl g),t7]/\hh=[]/\r<T.go.length/\al T 0 none s (x.drop s)=(if g=true then (true,b,r) else al T r b (s+pre.length) (x.drop (s+pre.length))))
  (List.range (x.length-s)) [some T.d,some (.rol (hpD T)),some (sD x),some (cj s),some (cj 0),some .non,some (.bl false),none] [] ?_ ⟨0,none,false,none,rfl,rfl,h.n1,rfl⟩
 ·obtain⟨τ',h',e,r,b,g,t7,rfl,rfl,hr,ea⟩:=lp;refine aw (aP (λz=>toR (MI.thn z _)) e) ?_;rw[zg];have:al T 0 none s (x.drop s)=(g,b,r):=by
   rw[ea]
   cases g with
   |true=>rfl
   |false =>
    rw[bA (by simp),aZ,show s+(x.length-s)=x.length by omega,gI]
    rfl
  rw[this];exact aw (aP toR (u9 (aga (bj rfl) (bj rfl) (bj rfl) asa))) rfl
 ·rintro pre i post τ hh all ⟨r,b,g,t7,rfl,rfl,hr,ea⟩
  obtain⟨hi,hk⟩:=p7 all;rw[ai,aI];unfold STM.a2a
  cases g with
  |true=>exact⟨_,_,rfl,_,_,ifF (aep (a03 (bj rfl) (qj _))),r,b,true,_,rfl,rfl,hr,ea⟩
  |false =>
   rw[bA (by simp)]at ea
   have sl:s+i<x.length:=by omega
   rw[<-hi,a2l sl]at ea;have ec:x[s+i]? = some x[s+i]:=af sl;have hc:=hx _ (bF sl)
   generalize x[s+i]=c at ea ec hc
   have r2:stp T r (psn T c)<T.go.length:=a8e h _ _
   let R:=stp T r (psn T c)
   have st:s2 gIx (s2 gIx (s2 gIx (sV 0) (sI 1)) (sV 4)) (sMS ad3 (s2 gIx (sV 0) (sI 0)) (ak (s2 gIx (sV 2) (sV 7)) bw)) [some T.d,some (.rol (hpD T)),some (sD x),some (cj s),some (cj r),some (bD b),some (.bl false),some (.int ((s+i:Nat)))] []=.ok (cj R) [] :=
    qm (qm (a1u rfl (a8r (j:=1) rfl)) (bj rfl) (anx h hr _)) (awo (a1u rfl (a8r (j:=0) rfl)) (arg1 (qm (bj rfl) (bj rfl) (as7 (g8 (by omega)) ec))) (ao0 hc _)) (awp h (ac6 hc).2 _)
   have kg:∀τ:Sd,τ[0]? = some (some T.d)->τ[4]? = some (some (cj R))->s2 gIx (s2 gIx (sV 0) (sI 2)) (sV 4) τ []=.ok (.int (kI T R)) []:=λτ h0 h3=>qm (qm (bj h0) ckk (ara _)) (bj h3) (aja h r2 _);have last:∀b':Bst,b'=nb T r b (s+i) c->m7 6 (a9r (s2 gIx (sV 1) (sV 4))) [some T.d,some (.rol (hpD T)),some (sD x),some (cj s),some (cj R),some (bD b'),some (.bl false),some (.int ((s+i:Nat)))] []=.nx [some T.d,some (.rol (hpD T)),some (sD x),some (cj s),some (cj R),some (bD (nb T r b (s+i) c)),some (.bl (!hp T R)),some (.int ((s+i:Nat)))] []:=λb' hb=>by
    subst hb;exact aeo (EVX.awg (qm (bj rfl) (bj rfl) (as9 (ajc r2))))
   refine⟨_,_,rfl,[some T.d,some (.rol (hpD T)),some (sD x),some (cj s),some (cj R),some (bD (nb T r b (s+i) c)),some (.bl (!hp T R)),some (.int ((s+i:Nat)))],[],?_,R,nb T r b (s+i) c, !hp T R,_,rfl,rfl,r2,?_⟩
   ·refine aw (ifT (az8 (a03 (bj rfl) (qj _)))) ?_;refine aw (o6 st) ?_;obtain⟨kv,ke,k1,k2⟩:=aj4 h r2;have kx:kI T R=kv:=by unfold kI;rw[ke];rfl
    by_cases hm:kI T R = -1
    ·refine aw (ifN (t2s (kg _ rfl rfl) ckk (SRC.azh (by omega)))) ?_
     exact last b (by unfold nb;rw[aT hm])
    ·refine aw (jj (aw (ifT (t2s (kg _ rfl rfl) ckk (SRC.azg (by omega)))) (aeo (wg (kg _ rfl rfl) (a1u rfl a0d) aqo)))) ?_
     exact last (some (kI T R,s+i+1)) (by unfold nb;rw[bA hm])
   ·rw[ea]
    cases hh:hp T R with
    |true=>rw[bA (by simp),a8h hh,hi];rfl
    |false=>rw[aT (by simp),acd hh]
abbrev rsD(q:Res):D:=.tup [.rol (q.1.map K35.pcD),.str (phS q.2.1),cj q.2.2.1,cj q.2.2.2.1,bD q.2.2.2.2]
theorem ajk(q:Res):MI.clo 0 (rsD q):=qx (bf (km (K35.a3y _ _)) (bf (fu _) (bf (dh _) (bf (dh _) (bf (ace _ _) jy)))))
theorem ax3(ps:List Pc){a b c d:D}(ca:MI.clo 0 a)(cb:MI.clo 0 b)(cc:MI.clo 0 c)(cd:MI.clo 0 d):ad7 0 (.ok (.tup [.ref 0,a,b,c,d]) [tD ps])=.ok (.tup [.rol (ps.map K35.pcD),a,b,c,d]) []:=by
 refine a88 ?_ (λo ho=>by cases ho)
 refine aa9 (k:=19) (a3s (a5q (k:=17) (by omega) rfl (K35.a3y 0 ps)) (a3s (a1f ca) (a3s (a1f cb) (a3s (a1f cc) (a3s (a1f cd) rfl))))) ?_
 intro z
 have:=xj.mp z (.ref 0) bt
 simp only[MI.clo]at this;omega
theorem azp{a b c d e:D}{h:Hd}:MI.a1c [a,b,c,d,e] h=.ok (.tup [a,b,c,d,e]) h:=by unfold MI.a1c;rw[aT (g8 (by simp))]
theorem azq{G:List D->Hd->R D}(e1:f1 τ h=.ok a h)(e2:f2 τ h=.ok b h)(e3:f3 τ h=.ok c h)(e4:f4 τ h=.ok d h)(e5:f5 τ h=.ok e h)(eg:G [a,b,c,d,e] h=.ok v h):sA G (ak f1 (ak f2 (ak f3 (ak f4 (ak f5 bw))))) τ h=.ok v h :=
 PAP.aof (cns e1 (cns e2 (cns e3 (cns e4 (cns e5 (show bw τ h=.ok [] h from rfl)))))) eg
theorem ao5(h:T.Ok)(hx:∀c∈x,c∈T.tg)(xl:x.length<=1000)(f:Bool):Pu STM.ig 4 [T.d,.rol (hpD T),sD x,.bl f] (rsD (rn T x f (x.length+1) 0 [])):=by
 have ah:∀{s:Nat},s<=x.length->∀hh:Hd,ik false 4 STM.jn [T.d,.rol (hpD T),sD x,cj s] hh=.ok (alD (al T 0 none s (x.drop s))) hh:=λhs hh=>aap h hx xl hs hh
 let RES:=rn T x f (x.length+1) 0 []
 have main:∃(q:Res),q=RES/\STM.ig [T.d,.rol (hpD T),sD x,.bl f] []=.ok (.tup [.ref 0,.str (phS q.2.1),cj q.2.2.1,cj q.2.2.2.1,bD q.2.2.2.2]) [tD q.1]:=by
  have wb:=aih (c:=STM.a1o STM.jn) (f:=STM.a1p STM.jn)
   (λm τ hh=>∃(s:Nat) (acc:List Pc) (g:Bool) (b:Bst) (r n:Nat),τ=[some T.d,some (.rol (hpD T)),some (sD x),some (.bl f),some (.ref 0),some (cj s),some (.bl g),some (bD b),some (cj r)]/\hh=[tD acc]/\al T 0 none s (x.drop s)=(g,b,r)/\rn T x f n s acc=RES/\x.length+1<=n+s/\s<=x.length/\acc.length<=s/\m=x.length-s)
   (λτ hh=>∃(s:Nat) (acc:List Pc) (g:Bool) (b:Bst) (r n:Nat),τ=[some T.d,some (.rol (hpD T)),some (sD x),some (.bl f),some (.ref 0),some (cj s),some (.bl g),some (bD b),some (cj r)]/\hh=[tD acc]/\al T 0 none s (x.drop s)=(g,b,r)/\rn T x f (n+1) s acc=RES/\¬ (s<x.length/\(g=true\/f=true)))
   (λd hh=>∃(acc:List Pc) (s:Nat),RES=(acc,.st,s,0,none)/\d=.tup [.ref 0,.str "stopped",cj s,cj 0,.non]/\hh=[tD acc])
   ?_ x.length 100000 [some T.d,some (.rol (hpD T)),some (sD x),some (.bl f),some (.ref 0),some (cj 0),some (.bl (al T 0 none 0 (x.drop 0)).1),some (bD (al T 0 none 0 (x.drop 0)).2.1),some (cj (al T 0 none 0 (x.drop 0)).2.2)] [tD []] (by omega)
   ⟨0,[],_,_,_,x.length+1,rfl,rfl,rfl,rfl,by omega,by omega,by simp,rfl⟩
  ·have pre:∀r:R D,(∀z,sWh (STM.a1o STM.jn) (STM.a1p STM.jn) 100000 [some T.d,some (.rol (hpD T)),some (sD x),some (.bl f),some (.ref 0),some (cj 0),some (.bl (al T 0 none 0 (x.drop 0)).1),some (bD (al T 0 none 0 (x.drop 0)).2.1),some (cj (al T 0 none 0 (x.drop 0)).2.2)] [tD []]=z->toR (MI.thn z (dw (sIf (a4f (sV 3)) (uo (sA a1c (ak (sV 4) (ak (sC (.str "closed")) (ak (sV 5) (ak (sI 0) (ak (sC .non) bw))))))) sNx) (uo (sA a1c (ak (sV 4) (ak (sC (.str "open")) (ak (sV 5) (ak (sV 8) (ak (sV 7) bw)))))))))=r)->STM.ig [T.d,.rol (hpD T),sD x,.bl f] []=r:=λr hr=>by
    unfold STM.ig;rw[dm];show toR (STM.a6b STM.jn [some T.d,some (.rol (hpD T)),some (sD x),some (.bl f),none,none,none,none,none] [])=_;unfold STM.a6b;refine etr (o6 (d:=.ref 0) (h1:=[tD []]) rfl) ?_;refine etr (o6 ckk) ?_;refine etr (jj (a6y (EVX.axu (bj rfl) (bj rfl) (bj rfl) (bj rfl) (ah (s:=0) (by omega) _)) rfl)) ?_
    rw[yp];exact hr _ rfl
   rcases wb with⟨τ',h',e,s,acc,g,b,r,n,rfl,rfl,ea,er,nc⟩|⟨d,h',e,acc,s,er,rfl,rfl⟩
   ·refine⟨RES,rfl,pre _ λz hz=>?_⟩;rw[<-hz,e,zg]
    cases f with
    |true =>
     have:¬ s<x.length:=λz=>nc ⟨z,.inr rfl⟩
     rw[<-er,adk this];refine aw (aP toR (aaf (ifr (a03 (bj rfl) (qj _)) (azq (bj rfl) ckk (bj rfl) ckk ckk azp)))) rfl
    |false =>
     have gf:g=false:=by
      cases g with
      |false=>rfl
      |true =>
       have:¬ s<x.length:=λz=>nc ⟨z,.inl rfl⟩
       rw[bU (by omega)]at ea;cases ea
     subst gf;rw[<-er,a8i ea];refine eti (a03 (bj rfl) (qj _)) ?_;exact aw (aP toR (u9 (azq (bj rfl) ckk (bj rfl) (bj rfl) (bj rfl) azp))) rfl
   ·refine⟨(acc,.st,s,0,none),er.symm,pre _ λz hz=>?_⟩;rw[<-hz,e];rfl
  ·rintro m τ hh ⟨s,acc,g,b,r,n,rfl,rfl,ea,er,hn,hs,al',rfl⟩
   cases n with
   |zero=>omega
   |succ n =>
    unfold STM.a1o;have ls:∀{τ:Sd} {hh:Hd},τ[2]? = some (some (sD x))->sA uf (ak (sV 2) bw) τ hh=.ok (cj x.length) hh:=λh2=>ye (bj h2) (a6w (g8 (by omega)))
    by_cases lt:s<x.length
    ·by_cases gf:g=true\/f=true
     ·refine .inr ⟨[tD acc],abv (t2s (bj rfl) (ls rfl) (agb (by omega))) ?_,?_⟩
      ·rcases gf with rfl|rfl
       ·exact orT (a03 (bj rfl) (qj _))
       ·cases g with
        |true=>exact orT (a03 (bj rfl) (qj _))
        |false=>exact orF (a03 (bj rfl) (qj _)) (a03 (bj rfl) (qj _))
      ·unfold STM.a1p
       cases b with
       |none =>
        refine .inr ⟨_,_,aaf (ifr (tvc rfl rfl) (azq (bj rfl) ckk (bj rfl) ckk ckk azp)),acc,s,?_,rfl,rfl⟩;rw[<-er];exact a72 lt ea gf
       |some q =>
        obtain⟨k,z⟩:=q;obtain⟨z1,z2⟩:=aas ea hs;refine .inl ⟨[some T.d,some (.rol (hpD T)),some (sD x),some (.bl f),some (.ref 0),some (cj z),some (.bl (al T 0 none z (x.drop z)).1),some (bD (al T 0 none z (x.drop z)).2.1),some (cj (al T 0 none z (x.drop z)).2.2)],[tD (acc++[(k,s,z)])],x.length-z,?_,by omega,z,acc++[(k,s,z)],_,_,_,n,rfl,rfl,rfl,by rw[<-er];exact(a5a lt ea gf).symm,by omega,z2,by simp;omega,rfl⟩
        refine aw (ifN (tvc rfl rfl)) ?_;refine aw (jj (a0g (bj rfl) rfl (arg1 (aga (a1u rfl (a8r (j:=0) rfl)) (bj rfl) (a1u rfl (a8r (j:=1) rfl)) asa)) (a1i (xs:=acc.map K35.pcD) rfl (by rw[ay];exact a0w (by omega))))) ?_
        refine aw (o6 (a1u rfl (a8r (j:=1) rfl))) ?_;refine aw (a6y (EVX.axu (bj rfl) (bj rfl) (bj rfl) (bj rfl) (ah z2 _)) rfl) ?_;show Fl.nx _ [.lst (acc.map K35.pcD++[K35.pcD (k,s,z)])]=Fl.nx _ [.lst ((acc++[(k,s,z)]).map K35.pcD)];rw[bB];rfl
     ·have g0:g=false:=by cases g<;>simp_all
      have f0:f=false:=by cases f<;>simp_all
      subst g0 f0;exact .inl ⟨_,abv (t2s (bj rfl) (ls rfl) (agb (by omega))) (orF (a03 (bj rfl) (qj _)) (a03 (bj rfl) (qj _))),s,acc,_,b,r,n,rfl,rfl,ea,er,λz=>gf z.2⟩
    ·exact .inl ⟨_,aik (t2s (bj rfl) (ls rfl) (am5 (by omega))),s,acc,g,b,r,n,rfl,rfl,ea,er,λz=>lt z.1⟩
 obtain⟨q,rfl,e⟩:=main;exact Pu.of rfl (ax2 Table.clo (km (a2c _)) (fu _) (zj _)) e (ax3 _ (fu _) (dh _) (dh _) (ace _ _)) (ajk _)
end
end STM
namespace STM
open L2 MI AT HND K23 K21
open RCH
open K22 hiding hp
theorem nn3(a b c:Int)(h:Hd):hNe (.tup [.int a,.int b,.int c]) (.tup [.int a,.int b,.int c]) h=.ok (.bl false) h:=by
 unfold hNe;rw[aT ⟨rfl,rfl⟩];simp[eqD,abi]
theorem aml{α β:Type}(f:α×α->β)(l:List α):(l.zip l).map f=l.map λx=>f (x,x):=by
 induction l with
 |nil=>rfl
 |cons a l ih=>rw[List.zip_cons_cons,br,br,ih]
theorem azr{xs:List D}(e:h[i]? = some (.lst xs)):a0r [.ref i,.ty "list"] h=.ok (.bl true) h:=by
 simp[a0r,al4,tyD,e,aht]
theorem ajl(ps:List Pc)(pl:ps.length<=1000):Dr STM.qe 2 [.rol (ps.map K35.pcD)] (tD ps) (.bl true) (tD ps):=by
 refine Dr.of rfl (a2d (km (K35.a3y 0 ps))) (a6i ps) (r:=.ok (.bl true) [tD ps]) ?_ (o7 (zj _) (by intro o ho;rw[show List.take 1 [tD ps]=[tD ps] from rfl,ar]at ho;subst ho;exact jm (aW _) (a6i ps))) (zj _) (a6i ps)
 unfold STM.qe;rw[dm];show toR (STM.a1q SRC.jc [some (.ref 0),some (.rol (ps.map K35.pcD)),none,none] [tD ps])=_;unfold STM.a1q;refine eti (orF (aep (a03 (wg (bj rfl) ckk (azr rfl)) (qj _))) (t2s (ye (bj rfl) (a0v (xs:=ps.map K35.pcD) rfl)) (ye (bj rfl) a3t) (aim rfl))) ?_;have ez:ai1 (sV 0) (sV 1) [some (.ref 0),some (.rol (ps.map K35.pcD)),none,none] [tD ps]=.ok ⟨ps.map λp=>D.tup [K35.pcD p,K35.pcD p],λh=>h[0]? = some (tD ps)/\True⟩ [tD ps]:=by
  unfold ai1;rw[bj (i:=0) rfl,di,bj (i:=1) rfl,di];show R.ok (⟨((ps.map K35.pcD).zip (ps.map K35.pcD)).map λp=>.tup [p.1,p.2],λh=>h[0]? = some (tD ps)/\True⟩:Itm) [tD ps]=_;rw[aml,cI];rfl
 refine etr (a4k ez) ?_;have lp:=aak (ck:=λh=>h[0]? = some (tD ps)/\True) (g:=a4g 2 (iy (kN 2) (iy (kN 3) a4x))) (b:=STM.a0z SRC.jc) (λp=>D.tup [K35.pcD p,K35.pcD p])
  (λpre τ hh=>∃t2 t3:Option D,τ=[some (.ref 0),some (.rol (ps.map K35.pcD)),t2,t3]/\hh=[tD ps]) (λpre τ h ⟨_,_,_,e⟩=>by subst e;exact⟨rfl,trivial⟩)
  ps [] [some (.ref 0),some (.rol (ps.map K35.pcD)),none,none] [tD ps] ?_ ⟨none,none,rfl,rfl⟩
 ·obtain⟨τ',h',e,t2,t3,rfl,rfl⟩:=lp;refine aw (aP (λz=>toR (MI.thn z _)) e) ?_;rw[zg];exact aw (aP toR (u9 ckk)) rfl
 ·rintro pre p post τ hh all ⟨t2,t3,rfl,rfl⟩
  refine⟨_,_,rfl,[some (.ref 0),some (.rol (ps.map K35.pcD)),some (K35.pcD p),some (K35.pcD p)],[tD ps],?_,_,_,rfl,rfl⟩;unfold STM.a0z;exact ifF (orF (aep (a03 (wg (bj rfl) ckk (SRC.a70 (xs:=[p.1,(p.2.1:Int),(p.2.2:Int)]) (by simp) _)) (qj _))) (t2s (bj rfl) (bj rfl) (nn3 _ _ _ _)))
noncomputable def dq:SF:=m8 (STM.yz STM.pq STM.cu STM.mj STM.qb SRC.jc) 10
def tl(x:List Nat):Bst->List Nat
 |none=>[]
 |some (_,e)=>x.drop e
section
variable{T:Table}{x:List Nat}
theorem V.tl(v:V T x s x.length r b w):w=STM.tl x b:=by
 have:=v.kp
 cases b with
 |none=>exact this
 |some q=>rw[this.2.2,gJ];rfl
theorem ajm(y:Str)(h:Hd):a0r [.str y,.ty "str"] h=.ok (.bl true) h:=by simp[a0r,al4,tyD,aht]
theorem azs(p:Ph)(h:Hd):hNe (.str (phS p)) (.str (phS p)) h=.ok (.bl false) h:=by rw[av6,dX];rfl
theorem azt(y:List Nat)(h:Hd):hNe (sD y) (sD y) h=.ok (.bl false) h:=by rw[av6,dX];rfl
theorem ajn(xl:x.length<=1000){q:Res}{s' a' r':Nat}{b':Bst}(hs:q.2.1=.st->s'=q.2.2.1):Dr STM.dq 3 [rsD q,sD x] (Ob T q.2.1 s' x.length a' r' b' (STM.tl x q.2.2.2.2)) (.bl true) (Ob T q.2.1 s' x.length a' r' b' (STM.tl x q.2.2.2.2)):=by
 obtain⟨acc,p,s,r,b⟩:=q;simp only at hs
 let o:O:=Ob T p s' x.length a' r' b' (STM.tl x b)
 show Dr STM.dq 3 [rsD (acc,p,s,r,b),sD x] o (.bl true) o;refine Dr.ob rfl (by intro d hd;simp only[aR,bo,cF]at hd;rcases hd with rfl|rfl;exact ajk _;exact fu _) ?_ (zj _)
 unfold STM.dq;rw[dm];show toR (STM.yz STM.pq STM.cu STM.mj STM.qb SRC.jc [some (.ref 0),some (rsD (acc,p,s,r,b)),some (sD x),none,none,none,none,none,none,none] [o])=_;unfold STM.yz;have mst:∀{τ:Sd},τ[0]? = some (some (.ref 0))->sMe false "Stream" "state" 1 STM.cu (sV 0) bw τ [o]=.ok (.str (phS p)) [o]:=λh0=>a7d (bj h0) (ug rfl rfl) rfl (aez 0 _ rfl);have mse:∀{τ:Sd},τ[0]? = some (some (.ref 0))->sMe false "Stream" "seen" 1 STM.pq (sV 0) bw τ [o]=.ok (cj x.length) [o]:=λh0=>a7d (bj h0) (ug rfl rfl) rfl (ari 0 _ rfl)
 have mke:∀{τ:Sd},τ[0]? = some (some (.ref 0))->sMe false "Stream" "kept" 1 STM.qb (sV 0) bw τ [o]=.ok (sD (STM.tl x b)) [o]:=λh0=>a7d (bj h0) (ug rfl rfl) rfl (arj 0 _ rfl);have mfa:∀{τ:Sd},τ[0]? = some (some (.ref 0))->sMe false "Stream" "fault" 1 STM.mj (sV 0) bw τ [o]=.ok (ftD p s') [o]:=λh0=>a7d (bj h0) (ug rfl rfl) rfl (amj 0 _ rfl);refine etr (jj (a6y (bj rfl) rfl)) ?_;have t8:aat (sT (s2 a79 (sV 7) (sC .non))) (a3l (sV 2) (oS (s2 gIx (sV 7) (sI 1))) oN) (sC (.str "")) [some (.ref 0),some (rsD (acc,p,s,r,b)),some (sD x),some (.rol (acc.map K35.pcD)),some (.str (phS p)),some (cj s),some (cj r),some (bD b),none,none] [o]=.ok (sD (STM.tl x b)) [o]:=by
  cases b with
  |none=>exact SRC.am9 (tvc rfl rfl) ckk
  |some q=>exact SRC.asd (tvc rfl rfl) (PAP.ak5 (bj rfl) (PAP.ak4 (a1u rfl (a8r (j:=1) rfl))) rfl (aem q.2 (g8 (by omega))))
 refine etr (o6 t8) ?_;have t9:aat (sT (s2 hEq (sV 4) (sC (.str "stopped")))) (sV 5) (sC .non) [some (.ref 0),some (rsD (acc,p,s,r,b)),some (sD x),some (.rol (acc.map K35.pcD)),some (.str (phS p)),some (cj s),some (cj r),some (bD b),some (sD (STM.tl x b)),none] [o]=.ok (ftD p s) [o]:=by
  cases p with
  |st=>exact SRC.asd (tvc rfl (a4l .st _ true (by decide +kernel))) (bj rfl)
  |op=>exact SRC.am9 (tvc rfl (a4l .op _ false (by decide +kernel))) ckk
  |cl=>exact SRC.am9 (tvc rfl (a4l .cl _ false (by decide +kernel))) ckk
 refine etr (o6 t9) ?_;refine eti (orF (aep (a03 (wg (mst rfl) ckk (ajm _ _)) (qj _))) (t2s (mst rfl) (bj rfl) (azs p _))) ?_;refine eti (orF (aep (a03 (wg (ye (mse rfl) EVX.b0t) ckk (SRC.a70 (xs:=[(x.length:Int)]) (by simp) _)) (qj _))) (t2s (mse rfl) (ye (bj rfl) (a6w (g8 (by omega)))) (aim rfl))) ?_
 refine eti (orF (aep (a03 (wg (mke rfl) ckk (ajm _ _)) (qj _))) (t2s (mke rfl) (bj rfl) (azt _ _))) ?_
 cases p with
 |st =>
  obtain rfl:=hs rfl
  refine eti (tvc rfl rfl) ?_;exact aw (aP toR (u9 (av9 (wg (ye (mfa rfl) EVX.b0t) ckk (SRC.a70 (xs:=[(s':Int)]) (by simp) _)) (qm (mfa rfl) (bj rfl) (a5t rfl))))) rfl
 |op=>exact aw (aP toR (aaf (ifr (tvc rfl rfl) (qm (mfa rfl) ckk rfl)))) rfl
 |cl=>exact aw (aP toR (aaf (ifr (tvc rfl rfl) (qm (mfa rfl) ckk rfl)))) rfl
end
end STM
namespace STM
open L2 MI AT HND K23 K21
open RCH
open K22 hiding hp
noncomputable def uz:SF:=m8 TWN.a4t 1
noncomputable def a1b:SF:=m8 (TWN.a6d STM.fj) 3
noncomputable def ie:SF:=m8 (TWN.a6c STM.uz STM.a1b) 1
abbrev stD(p:Ph)(s f r:Nat)(b:Bst)(w:List Nat):D:=.tup [.str (phS p),cj s,cj f,cj r,bD b,sD w]
theorem ajo(p:Ph)(s f r:Nat)(b:Bst)(w:List Nat):MI.clo 0 (stD p s f r b w):=qx (bf (fu _) (bf (dh _) (bf (dh _) (bf (dh _) (bf (ace _ _) (bf (fu _) jy))))))
theorem b33{a b c d e f:D}{h:Hd}:MI.a1c [a,b,c,d,e,f] h=.ok (.tup [a,b,c,d,e,f]) h:=by unfold MI.a1c;rw[aT (g8 (by simp))]
theorem b34{G:List D->Hd->R D}(e1:f1 τ h=.ok a h)(e2:f2 τ h=.ok b h)(e3:f3 τ h=.ok c h)(e4:f4 τ h=.ok d h)(e5:f5 τ h=.ok e h)(e6:f6 τ h=.ok f h)(eg:G [a,b,c,d,e,f] h=.ok v h):sA G (ak f1 (ak f2 (ak f3 (ak f4 (ak f5 (ak f6 bw)))))) τ h=.ok v h :=
 PAP.aof (cns e1 (cns e2 (cns e3 (cns e4 (cns e5 (cns e6 (show bw τ h=.ok [] h from rfl))))))) eg
section
variable{T:Table}{p:Ph}{s f a r:Nat}{b:Bst}{w:List Nat}
theorem amm:Dr STM.uz 1 [] (Ob T p s f a r b w) (stD p s f r b w) (Ob T p s f a r b w):=by
 refine Dr.ob rfl a1a ?_ (ajo _ _ _ _ _ _);unfold STM.uz;rw[dm];refine aw (aP toR (u9 (b34 (yw (bj rfl) (ji rfl rfl)) (yw (bj rfl) (ji rfl rfl)) (yw (bj rfl) (ji rfl rfl)) (yw (bj rfl) (ji rfl rfl)) (yw (bj rfl) (ji rfl rfl)) (yw (bj rfl) (ji rfl rfl)) b33))) rfl
theorem ase{fs:List (Str×D)}(e:fo τ h=.ok (.ref i) h)(e3:h[i]? = some (.ins "Stream" fs))(z:fs.length<1000):kF "Stream" k fo y τ h=.nx τ (h.set i (.ins "Stream" (ain k y fs))):=by
 unfold kF;rw[e];show(match ak3 "Stream" k y (.ref i) h with|some h2=>Fl.nx τ h2|none=>.no)=_
 rw[show ak3 "Stream" k y (.ref i) h=some (h.set i (.ins "Stream" (ain k y fs))) by simp only[ak3,e3,z,and_self,de]]
theorem b35{k:SGs}{ds:List D}{z:Fl}(hl:ds.length=n)(e:k ds τ h=z):a4g n k (.tup ds) τ h=z:=by
 unfold a4g;simp only[hl,de,e]
theorem asf{g:SG}{ks:SGs}{z:Fl}(e:g d τ h=.nx τ1 h1)(e2:ks ds τ1 h1=z):iy g ks (d::ds) τ h=z:=by
 simp only[iy,e,e2]
theorem adl(h:T.Ok):STM.a1b [T.d,stD p s f r b w] []=.ok (.ref 0) [Ob T p s f f r b w]:=by
 unfold STM.a1b;rw[dm];show toR (TWN.a6d STM.fj [some T.d,some (stD p s f r b w),none] [])=_;unfold TWN.a6d;refine ets (ye (bj rfl) (STM.aji h _)) ?_;refine aw (aP toR (jj (a6y (bj rfl) (b35 rfl (asf (ase (bj rfl) rfl (by show 9<1000;omega)) (asf (ase (bj rfl) rfl (by show 9<1000;omega)) (asf (ase (bj rfl) rfl (by show 9<1000;omega)) (asf (ase (bj rfl) rfl (by show 9<1000;omega)) (asf (ase (bj rfl) rfl (by show 9<1000;omega)) (asf (ase (bj rfl) rfl (by show 9<1000;omega)) rfl))))))))))  ?_
 refine etr (jj (xg (yw (bj rfl) (ji rfl rfl)) (bj rfl) rfl (by show 9<1000;omega))) ?_
 exact aw (aP toR (u9 (bj rfl))) rfl
theorem ag6(h:T.Ok)(hh:Hd):ik true 2 STM.a1b [T.d,stD p s f r b w] hh=.ok (.ref hh.length) (hh++[Ob T p s f f r b w]):=anp rfl (K21.afy Table.clo (ajo _ _ _ _ _ _)) (adl h) rfl ut hh
theorem aro(h:T.Ok):Nw STM.ie 1 [] (Ob T p s f a r b w) (Ob T p s f a r b w) (Ob T p s f f r b w):=by
 refine Nw.of rfl a1a ut ?_ ut ut;unfold STM.ie;rw[dm];refine aw (aP toR (u9 (wg (yw (bj rfl) (ji rfl rfl)) (a7d (bj rfl) (ug rfl rfl) rfl (amm 0 _ rfl)) (ag6 h _)))) rfl
end
end STM
namespace STM
open L2 MI AT HND K23 K21
open RCH
open K22 hiding hp
theorem ax4(xs:List D)(k:Nat){h:Hd}:afp (.rol xs) (some (k:Int)) none h=.ok (.ref h.length) (h++[.lst (xs.drop k)]):=by
 show R.ok (D.ref h.length) (h++[.lst (a8n xs (some (k:Int)) none)])=_;rw[a7z]
theorem azu{α:Type}(A l:List α)(x:α):(A++x::l)[A.length]? = some x:=by simp
theorem b11{α:Type}(A l:List α)(x y:α):(A++x::y::l)[A.length+1]? = some y:=by simp
theorem b36{α:Type}(A l:List α)(x y z:α):(A++x::y::z::l)[A.length+2]? = some z:=by simp
end STM
namespace STM
open L2 MI AT HND K23 K21
open RCH
open K22 hiding hp
theorem a7n{h:Hd}{k:Nat}{o:O}(e:h[k]? = some o):h.set k o=h:=by
 apply fq
 intro n
 by_cases z:k=n
 ·subst z;rw[bE (ag.mp e).1,e]
 ·rw[cw z]
structure St (T:Table) (x:List Nat) (acc:List Pc) (p:Ph) (s a r:Nat) (b:Bst):Prop where
 rn:STM.rn T x false (x.length+1) 0 []=(acc,p,s,r,b)
 op:p=.op->a=x.length/\V T x s x.length r b (STM.tl x b)
 nc:p≠.cl
 al:acc.length<=x.length
section
variable{T:Table}{x:List Nat}
theorem St.zero(h:T.Ok):St T [] [] .op 0 0 0 none:=⟨a8i rfl,λ_=>⟨rfl,V.zero h (s:=0) (aJ _)⟩,(λz=>by cases z),aJ _⟩
theorem St.feed(h:T.Ok){l:List Nat}(hx:∀c∈x++l,c∈T.tg)(xl:(x++l).length<=300)(z:St T x acc .op s a r b) :
  ∃(ps:List Pc) (p:Ph) (s' a' r':Nat) (b':Bst),Tel STM.nu [sD l] (Ob T .op s x.length x.length r b (STM.tl x b)) (Ob T p s' (x++l).length a' r' b' (STM.tl (x++l) b')) ps/\St T (x++l) (acc++ps) p s' a' r' b'/\ps.length<=300:=by
 obtain⟨-,v⟩:=z.op rfl;have as:acc.length<=s:=by
  have:=z.rn
  have g:∀{n s0:Nat} {acc0:List Pc},STM.rn T x false n s0 acc0=(acc,.op,s,r,b)->s0<=x.length->acc0.length<=s0->acc.length<=s:=by
   intro n
   induction n with
   |zero=>intro s0 acc0 e _ q;cases e;exact q
   |succ n ih =>
    intro s0 acc0 e h0 q
    obtain⟨g,b1,r1,ha⟩:∃g b1 r1,STM.al T 0 none s0 (x.drop s0)=(g,b1,r1):=⟨_,_,_,rfl⟩
    by_cases hs:s0<x.length/\g=true
    ·obtain⟨hs,rfl⟩:=hs
     cases b1 with
     |none=>rw[a72 hs ha (.inl rfl)]at e;cases e
     |some q1 =>
      obtain⟨k,w⟩:=q1;obtain⟨b1,b2⟩:=aas ha h0;rw[a5a hs ha (.inl rfl)]at e;exact ih e b2 (by simp;omega)
    ·have gf:g=false:=by
      cases g with
      |false=>rfl
      |true =>
       have:x.drop s0=[]:=bU (by
        rcases fY s0 x.length with z|z
        ·exact absurd ⟨z,rfl⟩ hs
        ·exact z)
       rw[this]at ha;cases ha
     subst gf;rw[a8i ha]at e
     cases e;exact q
  exact g this (aW _) (aJ _)
 obtain⟨ps,p,s',a',r',b',w',e,R,pa,pl,sl⟩:=arl h hx xl v;obtain⟨m,hm,em,-,-⟩:=arf (f:=false) (p:=l) (n':=(x++l).length+1) z.rn (aW _) (by omega) (by omega)
 refine⟨ps,p,s',a',r',b',?_,?_,by omega⟩
 ·rcases R with⟨rfl,v',ch⟩|⟨rfl,rfl,rfl,rfl,rfl,ch⟩
  ·obtain rfl:=pa rfl
   rw[v'.tl]at e;exact e
  ·exact e
 ·rcases R with⟨rfl,v',ch⟩|⟨rfl,rfl,rfl,rfl,rfl,ch⟩
  ·obtain rfl:=pa rfl
   obtain⟨m2,hm2,e2⟩:=ch false m acc hm;refine⟨?_,λ_=>⟨rfl,by have:=v';rw[v'.tl]at this;exact this⟩,(λz=>by cases z),by rw[show(acc++ps).length=acc.length+ps.length from ai];omega⟩
   rw[em,e2]
   cases m2 with
   |zero=>omega
   |succ m2=>exact a8i v'.end
  ·exact⟨by rw[em,ch false m acc hm],(λz=>by cases z),(λz=>by cases z),by rw[show(acc++ps).length=acc.length+ps.length from ai];omega⟩
theorem St.close(h:T.Ok)(hx:∀c∈x,c∈T.tg)(xl:x.length<=300)(z:St T x acc .op s a r b) :
  ∃(ps:List Pc) (p:Ph) (s' a':Nat),Tel STM.kj [] (Ob T .op s x.length x.length r b (STM.tl x b)) (Ob T p s' x.length a' 0 none []) ps/\STM.rn T x true (x.length+1) 0 []=(acc++ps,p,s',0,none)/\ps.length<=300:=by
 obtain⟨-,v⟩:=z.op rfl;obtain⟨ps,p,s',a',e,pl,ch⟩:=amk h hx xl v;obtain⟨m,hm,em,-,-⟩:=arf (f:=true) (p:=[]) (n':=x.length+1) z.rn (aW _) (by omega) (by simp)
 rw[bT]at hm em;exact⟨ps,p,s',a',e,by rw[em,ch m acc hm],by omega⟩
end
end STM
namespace CAS
open L2 MI AT HND EVX SRC
noncomputable def jx:SF:=m8 (CAS.a8c aa) 8
theorem ag7{ks:List Int}(P:Src o N)(hN:N<=999999000)(l:ks.length<=100) :
  ∃(u:O) (k:Int),CAS.a07 aa [some (.ref 0),some t,some n,some (.ref 1),x,y,none,none] [o,.lst (ks.map D.int)]=.nx [some (.ref 0),some t,some n,some (.ref 1),x,y,none,none] [u,.lst ((ks++[k]).map D.int)]/\Src u (N+2)/\KOk k:=by
 obtain⟨a,o1,e1,a0,a1,P1⟩:=ju (m:=3) P (by omega) (by omega) (by omega)
 obtain⟨b,o2,e2,b0,b1,P2⟩:=ju (m:=6) P1 (by omega) (by omega) (by omega)
 have c1:ik false 2 aa [.ref 0,.int 3] [o,.lst (ks.map D.int)]=.ok (.int a) [o1,.lst (ks.map D.int)]:=e1 0 _ rfl;have c2:ik false 2 aa [.ref 0,.int 6] [o1,.lst (ks.map D.int)]=.ok (.int b) [o2,.lst (ks.map D.int)]:=e2 0 _ rfl;unfold CAS.a07
 by_cases ha:a=0
 ·refine⟨o2,b,?_,P2,by omega⟩
  rw[bB];exact a0g (bj rfl) rfl (arg1 (asd (t2s (wg (bj rfl) ckk c1) ckk (a5t ha)) (wg (bj rfl) ckk c2))) (a1i (xs:=ks.map D.int) rfl (by rw[ay];exact a0w (by omega)))
 ·refine⟨o1,-1,?_,P1.up (by omega),by decide⟩
  rw[bB];exact a0g (bj rfl) rfl (arg1 (am9 (t2s (wg (bj rfl) ckk c1) ckk (a6z ha)) (yw ckk (a8b _)))) (a1i (xs:=ks.map D.int) rfl (by rw[ay];exact a0w (by omega)))
theorem ajp{tg:List Nat}(P:Src o N)(hN:N<=999990000)(t6:tg.length<=6)(n1:1<=n)(n32:n<=32) :
  ∃(ks:List Int) (rows:List (List Nat)) (o':O),ks.length=n/\ks[0]? = some (-1)/\(∀k∈ks,KOk k)/\rows.length=n/\(∀r∈rows,acl tg.length n r) /\
   Dr CAS.jx 3 [.str (S tg),cj n] o (.tup [.rol (rows.map a2b),.rol (ks.map D.int)]) o'/\Src o' (N+300) :=
 aiy (L0:=CAS.a07 aa) (λx P h l=>CAS.ag7 P h l) P hN t6 n1 n32
noncomputable def qp:SF:=m8 CAS.a5u 7
abbrev τM(tg:List Nat)(rows:List (List Nat))(ks:List Int)(m:D)(i:Nat)(t5 t6:Option D):Sd:=[some (.str (S tg)),some (.rol (rows.map a2b)),some (.rol (ks.map D.int)),some m,some (cj i),t5,t6]
section
variable{n:Nat}{tg:List Nat}{rows:List (List Nat)}{ks:List Int}
theorem amn{i:Nat}{met row:List Nat}(n32:n<=32)(M:MetQ rows n met)(rx:∀x∈row,x<n)(rq:∀x∈row,PN.Rch rows x) :
  ∃(met':List Nat) (t5':Option D),forL (λ_=>True) (kN 5) CAS.a1j (row.map cj) (τM tg rows ks (.ref 0) i t5 none) [.lst (met.map cj)]=.nx (τM tg rows ks (.ref 0) i t5' none) [.lst (met'.map cj)]/\MetQ rows n met'/\(∃add,met'=met++add)/\∀x∈row,x∈met':=by
 have lp:=rm (g:=kN 5) (b:=CAS.a1j) cj
  (λpre τ h=>∃(met':List Nat) (t5:Option D),τ=τM tg rows ks (.ref 0) i t5 none/\h=[.lst (met'.map cj)]/\MetQ rows n met'/\(∃add,met'=met++add)/\∀x∈pre,x∈met')
  row (τM tg rows ks (.ref 0) i t5 none) [.lst (met.map cj)] ?_ ⟨met,t5,rfl,rfl,M,⟨[],by simp⟩,by simp⟩
 ·obtain⟨τ',h',e,met',t5',rfl,rfl,M',ad,al⟩:=lp;exact⟨met',t5',e,M',ad,al⟩
 ·rintro pre x post τ h all ⟨met',t5,rfl,rfl,M',⟨add,rfl⟩,al⟩
  have hx:x<n:=rx x (by rw[all];simp)
  have hq:PN.Rch rows x:=rq x (by rw[all];simp)
  unfold CAS.a1j
  by_cases h:x∈met++add
  ·refine⟨_,_,rfl,τM tg rows ks (.ref 0) i (some (cj x)) none,[.lst ((met++add).map cj)],?_,met++add,_,rfl,rfl,M',⟨add,rfl⟩,λy hy=>?_⟩
   ·refine aw (ifF (t2s (bj rfl) (bj rfl) ((aet (l:=met++add) rfl).trans (by rw[cW h];rfl)))) rfl
   ·rcases aS.mp hy with z|z
    ·exact al y z
    ·rw[ar]at z;subst z;exact h
  ·refine⟨_,_,rfl,τM tg rows ks (.ref 0) i (some (cj x)) none,[.lst ((met++add++[x]).map cj)],?_,met++add++[x],_,rfl,rfl,M'.add hx hq h,⟨add++[x],by simp⟩,λy hy=>?_⟩
   ·have ln:=M'.len;refine aw (ifT (t2s (bj rfl) (bj rfl) ((aet (l:=met++add) rfl).trans (by rw[bL h];rfl)))) ?_
    rw[bB (l₁:=met++add)];exact a0g (bj rfl) rfl (arg1 (bj rfl)) (a1i (xs:=(met++add).map cj) rfl (by rw[ay];exact a0w (by omega)))
   ·rcases aS.mp hy with z|z
    ·exact cq _ (al y z)
    ·rw[ar]at z;subst z;simp
theorem arp{s:Nat}(n1:1<=n)(n32:n<=32)(lr:rows.length=n)(rr:∀r∈rows,acl s n r) :
  ∃(met:List Nat) (i:Nat) (t5:Option D),sWh CAS.a3v CAS.a1k 100000 (τM tg rows ks (.ref 0) 0 none none) [.lst ([0].map cj)]=.nx (τM tg rows ks (.ref 0) i t5 none) [.lst (met.map cj)]/\MetQ rows n met/\∀r∈met,∀x∈(rows[r]?).getD [],x∈met:=by
 have w:=aih (c:=CAS.a3v) (f:=CAS.a1k)
  (λm τ h=>∃(met:List Nat) (i:Nat) (t5:Option D),τ=τM tg rows ks (.ref 0) i t5 none/\h=[.lst (met.map cj)]/\m=32-i/\i<=met.length/\MetQ rows n met/\Done rows met i)
  (λτ h=>∃(met:List Nat) (i:Nat) (t5:Option D),τ=τM tg rows ks (.ref 0) i t5 none/\h=[.lst (met.map cj)]/\MetQ rows n met/\Done rows met met.length)
  (λ_ _=>False) ?_ 32 100000 (τM tg rows ks (.ref 0) 0 none none) [.lst ([0].map cj)] (by omega)
  ⟨[0],0,none,rfl,rfl,rfl,by simp,⟨⟨by simp,by simp;omega,by simp⟩,λx hx=>by rw[ar]at hx;subst hx;exact PN.Rch.zero rows⟩,λj hj=>absurd hj (Nat.not_lt_zero j)⟩
 ·rcases w with⟨τ',h',e,met,i,t5,rfl,rfl,M,D⟩|⟨_,_,_,z⟩
  ·refine⟨met,i,t5,e,M,λr hr x hx=>?_⟩;obtain⟨j,hj,rfl⟩:=List.getElem_of_mem hr;exact D j hj _ (af hj) x hx
  ·exact z.elim
 ·rintro m τ h ⟨met,i,t5,rfl,rfl,rfl,il,M,D⟩
  have ln:=M.len;have lm:∀h:Hd,h[0]? = some (.lst (met.map cj))->uf [.ref 0] h=.ok (cj met.length) h:=λh e=>by rw[a0v e,ay]
  by_cases lt:i<met.length
  ·refine .inr ⟨_,t2s (bj rfl) (ye (bj rfl) (lm _ rfl)) (agb (by omega)),.inl ?_⟩
   have rl:met[i]<n:=M.lt _ (bF lt);have gm:met[i]? = some met[i]:=af lt
   generalize met[i]=r at rl gm
   have gr:rows[r]? = some ((rows[r]?).getD []):=by rw[af (by omega)];rfl
   have rn:=rr _ (aQ gr);obtain⟨met',t5',e,M',⟨add,ea⟩,al⟩:=amn (i:=i) (t5:=t5) (tg:=tg) (rows:=rows) (ks:=ks) n32 M rn.2 (λx hx=>(M.q r (aQ gm)).step hx);refine⟨τM tg rows ks (.ref 0) (i+1) t5' none,[.lst (met'.map cj)],32-(i+1),?_,by omega,met',i+1,t5',rfl,rfl,rfl,by rw[ea,ai];omega,M',λj hj q hq x hx=>?_⟩
   ·unfold CAS.a1k;refine aw (a4k (a99 (qm (bj rfl) (qm (bj rfl) (bj rfl) (v7 (xs:=met.map cj) rfl (y:=cj r) (by rw[aO,gm];rfl))) (as9 (y:=a2b ((rows[r]?).getD [])) (by rw[aO,gr];rfl))) rfl)) ?_
    refine aw (aP (λz=>MI.thn z _) e) ?_;rw[zg];exact am4 rfl ckk a1t
   ·by_cases je:j=i
    ·subst je;rw[ea,aM lt,gm]at hq;cases hq
     exact al x hx
    ·have jl:j<met.length:=by omega
     rw[ea,aM jl]at hq;rw[ea];exact cq _ (D j (by omega) q hq x hx)
  ·refine .inl ⟨_,t2s (bj rfl) (ye (bj rfl) (lm _ rfl)) (am5 (by omega)),met,i,t5,rfl,rfl,M,?_⟩
   rw[show met.length=i by omega];exact D
end
section
variable{n:Nat}{tg:List Nat}{rows:List (List Nat)}{ks:List Int}
theorem arq(n32:n<=32)(lr:rows.length=n)(lk:ks.length=n)(t6:tg.length<=6)(rr:∀r∈rows,acl tg.length n r)(M:Met n met)(cl:∀r∈met,∀x∈(rows[r]?).getD [],x∈met) :
  ∃m:List Nat,m.Perm met/\m.Pairwise (·<=·)/\∃h:Hd,toR (dw (m7 3 (sA a4z (ak (sV 3) bw)))
   (dw (m7 6 (sA xq (ak (sZ (mq (sIt (sV 3)) t1 CAS.a1l [1,3])) bw)))
   (uo (sA a1c (ak (sV 0) (ak (sV 6) (ak (sA xq (ak (sZ (mq (sIt (sV 3)) t1 CAS.a1m [2])) bw)) bw)))))) (τM tg rows ks (.ref 0) i t5 none) [.lst (met.map cj)])=.ok (.tup [.str (S tg),.tup ((aao rows m).map aax),.tup ((a9e ks m).map D.int)]) h:=by
 obtain⟨m,em,pm,sm⟩:=ag3 met;have ln:=M.len;have lm:m.length=met.length:=pm.length_eq
 let H:Hd:=[.lst (met.map cj),.lst (m.map cj)]
 have hc:∀o∈H,vy H.length o:=by
  intro o ho
  simp only[H,aR,bo,cF]at ho
  rcases ho with rfl|rfl
  ·exact jm (aW _) (p8 _)
  ·exact jm (aW _) (p8 _)
 have so:a4z [.ref 0] [.lst (met.map cj)]=.ok (.ref 1) H:=by
  exact aj2 (l:=met) rfl (by omega) em
 have rw':∀r∈m,rows[r]? = some ((rows[r]?).getD [])/\acl tg.length n ((rows[r]?).getD [])/\∀x∈(rows[r]?).getD [],x∈m:=λr hr=>by
  have h1:=M.lt r (pm.mem_iff.mp hr);have e:rows[r]? = some ((rows[r]?).getD []):=by rw[af (by omega)];rfl
  exact⟨e,rr _ (aQ e),λx hx=>pm.mem_iff.mpr (cl r (pm.mem_iff.mp hr) x hx)⟩
 have z1:sZ (mq (sIt (sV 3)) t1 CAS.a1l [1,3]) (τM tg rows ks (.ref 1) i t5 none) H=.ok (.rol ((aao rows m).map aax)) H:=by
  rw[cI];refine a4j (amb (ck:=λh=>h[1]? = some (.lst (m.map cj))) cj (aax ∘ λr=>((rows[r]?).getD []).map (pos m)) m rfl (a99 (bj rfl) rfl) (g8 (by omega)) λr hr=>?_) (gj λx _=>qx (p8 _)) hc
  obtain⟨e1,⟨e2,_⟩,e3⟩:=rw' r hr;rw[vz];unfold CAS.a1l;have z2:sZ (mq (sIt (s2 gIx (sV 1) (sV 0))) t1 CAS.a3w [2]) (some (cj r)::frs' [1,3] (τM tg rows ks (.ref 1) i t5 none)) H=.ok (.rol ((((rows[r]?).getD []).map (pos m)).map cj)) H:=by
   rw[cI];refine a4j (xf cj (cj ∘ pos m) ((rows[r]?).getD []) (a99 (qm (bj rfl) (bj rfl) (as9 (y:=a2b ((rows[r]?).getD [])) (by rw[aO,e1];rfl))) rfl) (g8 (by omega)) λx hx=>?_) (gj λx _=>dh _) hc
   rw[vz];unfold CAS.a3w;exact az9 (bj rfl) rfl (arg1 (bj rfl)) (aj3 rfl (e3 x hx))
  exact ye z2 rfl
 have z3:∀t6:Option D,sZ (mq (sIt (sV 3)) t1 CAS.a1m [2]) (τM tg rows ks (.ref 1) i t5 t6) H=.ok (.rol ((a9e ks m).map D.int)) H:=λt6=>by
  rw[cI];refine a4j (amb (ck:=λh=>h[1]? = some (.lst (m.map cj))) cj (D.int ∘ λr=>(ks[r]?).getD 0) m rfl (a99 (bj rfl) rfl) (g8 (by omega)) λr hr=>?_) (gj λx _=>dh _) hc
  have h1:=M.lt r (pm.mem_iff.mp hr);have e:ks[r]? = some ((ks[r]?).getD 0):=by rw[af (by omega)];rfl
  rw[vz];unfold CAS.a1m;exact qm (bj rfl) (bj rfl) (as9 (by rw[aO,e];rfl))
 refine⟨m,pm,sm,H,?_⟩;refine ets (ye (bj rfl) so) ?_;refine ets (ye z1 (show xq [.rol ((aao rows m).map aax)] H=.ok (.tup ((aao rows m).map aax)) H from rfl)) ?_
 exact aP toR (u9 (aga (bj rfl) (bj rfl) (ye (z3 _) (show xq [.rol ((a9e ks m).map D.int)] H=.ok (.tup ((a9e ks m).map D.int)) H from rfl)) asa))
theorem ax5(T1:Tongue tg)(hn1:1<=n)(hn2:n<=32)(lr:rows.length=n)(lk:ks.length=n)(rr:∀r∈rows,acl tg.length n r)(k0:ks[0]? = some (-1))(kk:∀k∈ks,KOk k) :
  ∃T:Table,T.Ok/\T.tg=tg/\(∀r,r<T.go.length->PN.Rch T.go r)/\Pu CAS.qp 3 [.str (S tg),.rol (rows.map a2b),.rol (ks.map D.int)] T.d:=by
 obtain⟨met,i,t5,ew,M,cl⟩:=CAS.arp (tg:=tg) (ks:=ks) hn1 hn2 lr rr;obtain⟨m,pm,sm,H,ee⟩:=CAS.arq (i:=i) (t5:=t5) hn2 lr lk T1.hi rr M.toMet cl;have lm:m.length=met.length:=pm.length_eq;have ln:=M.len;have zm:0∈m:=pm.mem_iff.mpr M.z;have m0:m[0]? = some 0:=by
  cases m with
  |nil=>cases zm
  |cons a l =>
   rcases aR.mp zm with q|q
   ·rw[<-q];rfl
   ·have:=(List.pairwise_cons.mp sm).1 0 q
    rw[show a=0 by omega];rfl
 let T:Table:=⟨tg,aao rows m,a9e ks m⟩
 have ml:1<=m.length:=by cases m with|nil=>cases zm|cons _ _=>simp
 have ok:T.Ok:=by
  refine⟨T1,by simpa[T] using ml,by show(aao rows m).length<=32;rw[ay];omega,λr hr=>?_,by simp[T],?_,λk hk=>?_⟩
  ·obtain⟨q,hq,rfl⟩:=bX.mp hr;have h1:=M.lt q (pm.mem_iff.mp hq);have e:rows[q]? = some ((rows[q]?).getD []):=by rw[af (by omega)];rfl
   obtain⟨a,b⟩:=rr _ (aQ e);refine⟨by rw[ay];exact a,λx hx=>?_⟩
   obtain⟨v,hv,rfl⟩:=bX.mp hx;show pos m v<(aao rows m).length;rw[ay];exact(aj1 (pm.mem_iff.mpr (cl q (pm.mem_iff.mp hq) v hv))).2
  ·show(a9e ks m)[0]? = _;rw[aO,m0];show some ((ks[0]?).getD 0)=_;rw[k0];rfl
  ·obtain⟨q,hq,rfl⟩:=bX.mp hk;have h1:=M.lt q (pm.mem_iff.mp hq);have e:ks[q]? = some ((ks[q]?).getD 0):=by rw[af (by omega)];rfl
   exact kk _ (aQ e)
 have ca:∀d∈[.str (S tg),.rol (rows.map a2b),.rol (ks.map D.int)],MI.clo 0 d:=by
  intro d hd
  simp only[aR,bo,cF]at hd
  rcases hd with rfl|rfl|rfl
  ·exact fu _
  ·exact km (gj λx _=>km (p8 _))
  ·exact km (gj λx _=>dh x)
 refine⟨T,ok,rfl,PN.arh (pm.nodup_iff.mpr M.nd) m0 (λr hr x hx=>pm.mem_iff.mpr (cl r (pm.mem_iff.mp hr) x hx)) (λr hr=>M.q r (pm.mem_iff.mp hr)),Pu.of rfl ca (r:=.ok T.d H) ?_ (o7 Table.clo (by intro x hx;cases hx)) Table.clo⟩
 unfold CAS.qp;rw[dm];show toR (CAS.a5u [some (.str (S tg)),some (.rol (rows.map a2b)),some (.rol (ks.map D.int)),none,none,none,none] [])=_;unfold CAS.a5u;refine etr (o6 (d:=.ref 0) (h1:=[.lst ([0].map cj)]) rfl) ?_;refine etr (o6 ckk) ?_;refine etr (jj ew) ?_;exact ee
end
end CAS
namespace CAS
open L2 MI AT HND EVX K22 K23 K21 SRC
abbrev sD(l:List Nat):D:=.str (S l)
abbrev rI(r:List Int):O:=.lst (r.map D.int)
def adm:Nat->D
 |0=>.ref 2
 |k+1=>.ref (5+k)
abbrev HG(u:O)(ws:List (List Nat))(r0:List Int)(rs:List (List Int))(ks:List Int):Hd :=
 u::.lst (ws.map sD)::rI r0::.lst ((List.range (rs.length+1)).map adm)::rI ks::rs.map rI
theorem amo(k n:Nat)(h:k<n):MI.clo (n+4) (adm k):=by
 cases k with
 |zero=>show 2<n+4;omega
 |succ k=>show 5+k<n+4;omega
theorem acg{ws:List (List Nat)}{ks:List Int}(P:Src u N):∀o∈HG u ws r0 rs ks,vy (HG u ws r0 rs ks).length o:=by
 have ln:(HG u ws r0 rs ks).length=(rs.length+1)+4:=by simp[HG]
 rw[ln]
 intro o ho
 simp only[HG,aR,bX]at ho
 rcases ho with rfl|rfl|rfl|rfl|rfl|⟨r,_,rfl⟩
 ·exact jm (aW _) P.clo
 ·exact jm (aW _) (gj λx _=>fu _)
 ·exact jm (aW _) (gj λx _=>dh x)
 ·exact gj λk hk=>amo k _ (bR.mp hk)
 ·exact jm (aW _) (gj λx _=>dh x)
 ·exact jm (aW _) (gj λx _=>dh x)
theorem a8f{ws:List (List Nat)}{ks:List Int}{k:Nat}(e:(r0::rs)[k]? = some r):∃j,adm k=.ref j/\(HG u ws r0 rs ks)[j]? = some (rI r)/\∀r',∃r0' rs',r0'::rs'=(r0::rs).set k r'/\(HG u ws r0 rs ks).set j (rI r')=HG u ws r0' rs' ks:=by
 cases k with
 |zero =>
  cases e
  exact⟨2,rfl,rfl,λr'=>⟨r',rs,rfl,rfl⟩⟩
 |succ k =>
  have e':rs[k]? = some r:=by simpa using e
  refine⟨5+k,rfl,?_,λr'=>⟨r0,rs.set k r',rfl,?_⟩⟩
  ·show(u::O.lst (ws.map sD)::rI r0::O.lst ((List.range (rs.length+1)).map adm)::rI ks::rs.map rI)[5+k]? = _;rw[show 5+k=k+1+1+1+1+1 from gO 5 k]
   simp only[gF,aO,e',fU]
  ·show(u::O.lst (ws.map sD)::rI r0::O.lst ((List.range (rs.length+1)).map adm)::rI ks::rs.map rI).set (5+k) (rI r')=_;rw[show 5+k=k+1+1+1+1+1 from gO 5 k]
   simp only[List.set_cons_succ,HG,cG,g7]
theorem ars{ws:List (List Nat)}{ks:List Int}{k:Nat}(h:k<rs.length+1):gIx (.ref 3) (cj k) (HG u ws r0 rs ks)=.ok (adm k) (HG u ws r0 rs ks) :=
 v7 (xs:=(List.range (rs.length+1)).map adm) rfl (by rw[aO,dv h];rfl)
structure Gro (tg:List Nat) (rows:List (List Int)) (ks:List Int):Prop where
 rl:∀r∈rows,r.length=tg.length
 rx:∀r∈rows,∀x∈r,x = -1\/(1<=x/\x<(rows.length:Nat))
 lk:ks.length=rows.length
 k0:ks[0]? = some (-1)
 kk:∀k∈ks,KOk k
theorem Gro.set(G:Gro tg rows ks){r:List Int}{x:Int}(e:rows[k]? = some r)(hx:1<=x/\x<(rows.length:Nat)):Gro tg (rows.set k (r.set i x)) ks:=by
 have hr:=aQ e;refine⟨λq hq=>?_,λq hq y hy=>?_,by rw[cG];exact G.lk,G.k0,G.kk⟩
 ·rcases bJ hq with z|z
  ·exact G.rl q z
  ·subst z;rw[cG];exact G.rl r hr
 ·rw[cG]
  rcases bJ hq with z|z
  ·exact G.rx q z y hy
  ·subst z
   rcases bJ hy with w|w
   ·exact G.rx r hr y w
   ·subst w;exact .inr hx
theorem Gro.grow(G:Gro tg rows ks){r:List Int}(e:rows[k]? = some r):Gro tg (rows.set k (r.set i (rows.length:Nat))++[List.replicate tg.length (-1)]) (ks++[-1]):=by
 have hr:=aQ e;have kl:k<rows.length:=(ag.mp e).1;refine⟨λq hq=>?_,λq hq y hy=>?_,by simp[G.lk],?_,λq hq=>?_⟩
 ·rcases aS.mp hq with z|z
  ·rcases bJ z with z|z
   ·exact G.rl q z
   ·subst z;rw[cG];exact G.rl r hr
  ·rw[ar]at z;subst z;simp
 ·have ln:(rows.set k (r.set i (rows.length:Nat))++[List.replicate tg.length (-1)]).length=rows.length+1:=by simp
  rw[ln];have up:∀y:Int,(y = -1\/(1<=y/\y<(rows.length:Nat)))->(y = -1\/(1<=y/\y<((rows.length+1:Nat):Int))):=λy h=>by omega
  rcases aS.mp hq with z|z
  ·rcases bJ z with z|z
   ·exact up y (G.rx q z y hy)
   ·subst z
    rcases bJ hy with w|w
    ·exact up y (G.rx r hr y w)
    ·subst w;omega
  ·rw[ar]at z;subst z;exact .inl (eN hy)
 ·have:0<ks.length:=by rw[G.lk];omega
  rw[aM this];exact G.k0
 ·rcases aS.mp hq with z|z
  ·exact G.kk q z
  ·rw[ar]at z;subst z;decide
abbrev τG(tg:List Nat)(a5 a6 a7 a8 a9:Option D):Sd:=[some (.ref 0),some (sD tg),some (.ref 1),some (.ref 3),some (.ref 4),a5,a6,a7,a8,a9,none]
abbrev ps(tg:List Nat)(c:Nat):Nat:=psn ⟨tg,[],[]⟩ c
theorem int_at{r:List Int}(e:h[j]? = some (rI r))(ex:r[i]? = some x):gIx (.ref j) (cj i) h=.ok (.int x) h:=v7 e (by rw[aO,ex];rfl)
theorem a73{ws:List (List Nat)}{ks:List Int}{τ:Sd}(h3:τ[3]? = some (some (.ref 3)))(h7:τ[7]? = some (some (cj k)))(h9:τ[9]? = some (some (cj i)))(e:(r0::rs)[k]? = some r)(ex:r[i]? = some x):s2 gIx (s2 gIx (sV 3) (sV 7)) (sV 9) τ (HG u ws r0 rs ks)=.ok (.int x) (HG u ws r0 rs ks):=by
 obtain⟨j,ej,ea,_⟩:=a8f (u:=u) (ws:=ws) (ks:=ks) e;have hk:k<rs.length+1:=by simpa using (ag.mp e).1
 exact qm (qm (bj h3) (bj h7) ((ars hk).trans (by rw[ej]))) (bj h9) (int_at ea ex)
theorem ajq{tg:List Nat}{ws:List (List Nat)}{ks:List Int}(G:Gro tg (r0::rs) ks)(t6:tg.length<=6)(hk:k<rs.length+1)(hc:c∈tg)(rl:rs.length<=100) :
  ∃(r0':List Int) (rs':List (List Int)) (ks':List Int) (k':Nat) (a9':Option D),CAS.ux aa (τG tg a5 a6 (some (cj k)) (some (sD [c])) a9) (HG u ws r0 rs ks)=.nx (τG tg a5 a6 (some (cj k')) (some (sD [c])) a9') (HG u ws r0' rs' ks')/\Gro tg (r0'::rs') ks'/\1<=k'/\k'<rs'.length+1/\rs'.length<=rs.length+1:=by
 obtain⟨r,e⟩:∃r,(r0::rs)[k]? = some r:=⟨_,af (by simpa using hk)⟩
 have hr:=aQ e;have lr:=G.rl r hr;have hp:=(ac6 (T:=⟨tg,[],[]⟩) hc).2;have hf:=ao0 (T:=⟨tg,[],[]⟩) hc (HG u ws r0 rs ks);obtain⟨x,ex⟩:∃x,r[ps tg c]? = some x:=⟨_,af (by rw[lr];exact hp)⟩
 have xx:=G.rx r hr x (aQ ex);have fnd:sMS ad3 (sV 1) (ak (sV 8) bw) (τG tg a5 a6 (some (cj k)) (some (sD [c])) a9) (HG u ws r0 rs ks)=.ok (cj (ps tg c)) (HG u ws r0 rs ks):=awo (bj rfl) (arg1 (bj rfl)) hf;have lg:∀{h:Hd},h[3]? = some (.lst ((List.range (rs.length+1)).map adm))->uf [.ref 3] h=.ok (cj (rs.length+1)) h:=λe=>by rw[a0v e,ay,aZ]
 unfold CAS.ux
 by_cases x0:x<0
 ·obtain⟨j,ej,ea,st⟩:=a8f (u:=u) (ws:=ws) (ks:=ks) e;obtain⟨q0,qs,eq,es⟩:=st (r.set (ps tg c) ((rs.length+1:Nat):Int));have ql:qs.length=rs.length:=by simpa using aP List.length eq
  have g2:=G.grow (k:=k) (i:=ps tg c) e;have en:(r0::rs).length=rs.length+1:=aY;rw[en,<-eq,fJ]at g2;have nr:(q0::(qs++[List.replicate tg.length (-1)]))[k]? = some (r.set (ps tg c) ((rs.length+1:Nat):Int)):=by
   have:(q0::qs)[k]? = some (r.set (ps tg c) ((rs.length+1:Nat):Int)):=by rw[eq,bE (by simpa using hk)]
   rw[<-fJ,aM (by rw[aY,ql];exact hk)]
   exact this
  refine⟨q0,qs++[List.replicate tg.length (-1)],ks++[-1],rs.length+1,some (cj (ps tg c)),?_,g2,by omega,by simp[ql],by simp[ql]⟩
  refine aw (o6 fnd) ?_;refine aw (jj (τ1:=τG tg a5 a6 (some (cj k)) (some (sD [c])) (some (cj (ps tg c)))) (h1:=HG u ws q0 (qs++[List.replicate tg.length (-1)]) (ks++[-1])) (aw (ifT (t2s (a73 rfl rfl rfl e ex) ckk (agb x0))) ?_)) (aeo (a73 rfl rfl rfl nr (by rw[bE (by rw[lr];exact hp)])))
  refine aw (jj (a8q (h4:=HG u ws q0 qs ks) (ye (bj rfl) (lg rfl)) (qm (bj rfl) (bj rfl) ((ars hk).trans (by rw[ej]))) (bj rfl) ?_)) ?_
  ·rw[abw (xs:=r.map D.int) ea (by rw[ay,lr];exact hp),<-es]
   unfold rI;rw[g7]
  ·have nw:mq (sIt (sV 1)) t1 (CAS.a1w aa) [] (τG tg a5 a6 (some (cj k)) (some (sD [c])) (some (cj (ps tg c)))) (HG u ws q0 qs ks)=.ok (.ref (5+rs.length)) (HG u ws q0 qs ks++[rI (List.replicate tg.length (-1))]):=by
    refine(xf (λc:Nat=>D.str (S [c])) (λ_=>D.int (-1)) tg (a99 (bj rfl) (PAP.anq tg _)) (g8 (by omega)) λc _=>?_).trans ?_
    ·rw[vz];unfold CAS.a1w;exact yw ckk (a8b _)
    ·have ln:(HG u ws q0 qs ks).length=5+rs.length:=by simp[HG,ql];omega
     rw[ln]
     congr 2
     unfold rI;rw[g9,<-List.map_const']
   refine aw (jj (a0g (bj rfl) rfl (arg1 nw) (a1i (xs:=(List.range (qs.length+1)).map adm) rfl (by rw[ay,aZ];exact a0w (by omega))))) ?_
   refine aw (a0g (bj rfl) rfl (arg1 (yw ckk (a8b _))) (a1i (xs:=ks.map D.int) rfl (by rw[ay,G.lk,en];exact a0w (by omega)))) ?_
   congr 1
   show u::.lst (ws.map sD)::rI q0::.lst ((List.range (qs.length+1)).map adm++[.ref (5+rs.length)])::.lst (ks.map D.int++[.int (-1)])::(qs.map rI++[rI (List.replicate tg.length (-1))])=_;unfold HG;rw[ai,aI,fR (n:=qs.length+1),bB,bB,ql];unfold rI;rw[bB];rfl
 ·have x1:1<=x/\x<((rs.length+1:Nat):Int):=by rcases xx with z|z<;>omega
  obtain⟨y,rfl⟩:=aU (show 0<=x by omega)
  refine⟨r0,rs,ks,y,some (cj (ps tg c)),?_,G,by omega,by omega,by omega⟩
  refine aw (o6 fnd) ?_;refine aw (ifN (t2s (a73 rfl rfl rfl e ex) ckk (am5 x0))) ?_;exact aeo (a73 rfl rfl rfl e ex)
noncomputable abbrev azv:SE:=s2 gIx (sV 2) (sA (ik false 2 aa) (ak (sV 1) (ak (sA uf (ak (sV 2) bw)) bw)))
theorem drawn{tg:List Nat}{τ:Sd}{hs:Hd}{u0 u:O}{ix:List Nat}(P:Src u N)(hN:N<=999990000)(t1':1<=tg.length)(t6:tg.length<=6)(hc:∀u':O,vy 0 u'->∀o∈u'::hs,vy (hs.length+1) o)(hm:fm τ (u0::hs)=.ok (cj m) (u::hs))(m3:m<=300)(hf:frs' ix τ=[some (.ref 0),some (sD tg)]) :
  ∃t u',t.length=m/\(∀c∈t,c∈tg)/\Src u' (N+m)/\sMS a9t (sC (.str "")) (ak (sZ (mq (sRg vq (ak fm bw)) t1 azv ix)) bw) τ (u0::hs)=.ok (sD t) (u'::hs):=by
 have mp:=a7j (f:=a82 t1 azv (frs' ix τ)) (λi:Nat=>D.int (i:Nat))
  (λpre ys h=>∃(u:O) (t:List Nat),h=u::hs/\Src u (N+pre.length)/\ys=ones t/\t.length=pre.length/\∀c∈t,c∈tg)
  (List.range m) [] [] (u::hs) ?_ ⟨u,[],rfl,P,rfl,rfl,by simp⟩
 ·obtain⟨zs,h',em,u',t,rfl,P5,ez,tl,tt⟩:=mp;rw[cE]at ez tl P5;rw[aZ]at tl P5;subst ez;refine⟨t,u',tl,tt,P5,?_⟩;have cz:sZ (mq (sRg vq (ak fm bw)) t1 azv ix) τ (u0::hs)=.ok (.rol (ones t)) (u'::hs):=by
   refine b0w rfl ?_ (gj λl _=>fu _) (hc u' P5.clo);unfold mq sRg;rw[arg1 hm,di,a98 _ (g8 (by omega)),di]
   dsimp only;rw[aT (by rw[ay,aZ];exact g8 (by omega)),em]
   rfl
  exact awo (z:=S []) ckk (arg1 cz) (aca (by omega))
 ·rintro pre i post ys h all ⟨u,t,rfl,Pu,rfl,tl,tt⟩
  rw[cE]at all;have hi:pre.length<m:=by
   have:=aP List.length all
   simp at this
   omega
  obtain⟨x,u',e5,x0,x1,P5⟩:=ju (m:=(tg.length:Nat)) Pu (by omega) (by omega) (by omega)
  obtain⟨j,rfl⟩:=aU x0;have hj:j<tg.length:=by omega
  have c5:ik false 2 SRC.aa [.ref 0,.int (tg.length:Nat)] (u::hs)=.ok (.int (j:Nat)) (u'::hs):=e5 0 _ rfl;refine⟨.str (S [tg[j]]),u'::hs,?_,u',t++[tg[j]],rfl,by rw[ai,aI];exact P5,by simp[ones],by rw[ai,ai,tl];rfl,λq hq=>?_⟩
  ·rw[vz,hf];exact qm (bj rfl) (wg (bj rfl) (ye (bj rfl) (a6w (g8 (by omega)))) c5) (as7 (g8 (by omega)) (af hj))
  ·rcases aS.mp hq with h|h
   ·exact tt q h
   ·rw[ar]at h;subst h;exact bF hj
theorem ajr{tg w:List Nat}{ws:List (List Nat)}{ks:List Int}(G:Gro tg (r0::rs) ks)(t6:tg.length<=6)(hw:∀c∈w,c∈tg)(w1:1<=w.length)(rl:rs.length+w.length<=100) :
  ∃(r0':List Int) (rs':List (List Int)) (ks':List Int) (k':Nat) (a8' a9':Option D),forL (λ_=>True) (kN 8) (CAS.ux aa) (w.map λc=>sD [c]) (τG tg a5 a6 (some (cj 0)) a8 a9) (HG u ws r0 rs ks)=.nx (τG tg a5 a6 (some (cj k')) a8' a9') (HG u ws r0' rs' ks')/\Gro tg (r0'::rs') ks'/\1<=k'/\k'<rs'.length+1/\rs'.length<=rs.length+w.length:=by
 have lp:=rm (g:=kN 8) (b:=CAS.ux aa) (λc=>sD [c])
  (λpre τ h=>∃(r0':List Int) (rs':List (List Int)) (ks':List Int) (k':Nat) (a8' a9':Option D),τ=τG tg a5 a6 (some (cj k')) a8' a9'/\h=HG u ws r0' rs' ks'/\Gro tg (r0'::rs') ks'/\(pre≠[]->1<=k')/\k'<rs'.length+1/\rs'.length<=rs.length+pre.length)
  w (τG tg a5 a6 (some (cj 0)) a8 a9) (HG u ws r0 rs ks) ?_ ⟨r0,rs,ks,0,a8,a9,rfl,rfl,G,λz=>absurd rfl z,by omega,by simp⟩
 ·obtain⟨τ',h',e,r0',rs',ks',k',a8',a9',rfl,rfl,G',q1,q2,q3⟩:=lp;exact⟨r0',rs',ks',k',a8',a9',e,G',q1 (by intro z;rw[z]at w1;simp at w1),q2,q3⟩
 ·rintro pre c post τ h all ⟨r1,rs1,ks1,k1,b8,b9,rfl,rfl,G1,q1,q2,q3⟩
  have pl:pre.length<w.length:=by rw[all];simp
  obtain⟨r2,rs2,ks2,k2,b9',e,G2,p1,p2,p3⟩:=ajq (a5:=a5) (a6:=a6) (a9:=b9) (u:=u) (ws:=ws) G1 t6 q2 (hw c (by rw[all];simp)) (by omega)
  exact⟨_,_,rfl,_,_,e,r2,rs2,ks2,k2,_,_,rfl,rfl,G2,λ_=>p1,p2,by rw[ai,aI];omega⟩
theorem art{xs:List D}(e:h[i]? = some (.lst xs))(p:xs.all (pur 59)=true):aqi true (.ref i) (.rol []) h=.ok (.bl (!xs.isEmpty)) h:=by
 unfold aqi;have:yc (.ref i) h=some xs:=by unfold yc;simp only[e]
 rw[this];show(if xs.all (pur 59)=true/\([]:List D).all (pur 59)=true then R.ok (D.bl (!abi xs [])) h else .no)=_
 rw[aT ⟨p,rfl⟩]
 cases xs with
 |nil=>rfl
 |cons a l=>simp[abi]
theorem azw(c:∀o∈h,vy h.length o):sZ (sA MI.a3f bw) τ h=.ok (.rol []) h:=a4j rfl jy c
theorem Gro.kput(G:Gro tg rows ks)(hk:1<=k)(hv:KOk v):Gro tg rows (ks.set k v):=by
 refine⟨G.rl,G.rx,by rw[cG];exact G.lk,by rw[cw (by omega)];exact G.k0,λq hq=>?_⟩
 rcases bJ hq with z|z
 ·exact G.kk q z
 ·subst z;exact hv
def Wok(tg:List Nat)(ws:List (List Nat)):Prop:=∀w∈ws,1<=w.length/\w.length<=6/\∀c∈w,c∈tg
theorem ax6(ws:List (List Nat)):(ws.map sD).all (pur 59)=true:=by
 rw[cp]
 intro d hd
 obtain⟨w,_,rfl⟩:=bX.mp hd;rfl
theorem ajs{tg:List Nat}{ws:List (List Nat)}{ks:List Int}(P:Src u N)(hN:N<=999980000)(G:Gro tg (r0::rs) ks)(W:Wok tg ws)(t1':1<=tg.length)(t6:tg.length<=6)(rl:rs.length<=50)(wl:ws.length<=50) :
  ∃(u':O) (w:List Nat) (r0':List Int) (rs':List (List Int)) (ks':List Int) (b6 b7 b8 b9:Option D),CAS.a08 aa (τG tg a5 a6 a7 a8 a9) (HG u ws r0 rs ks)=.nx (τG tg a5 b6 b7 b8 b9) (HG u' (ws++[w]) r0' rs' ks')/\Src u' (N+20)/\Wok tg (ws++[w])/\Gro tg (r0'::rs') ks'/\1<=rs'.length/\rs'.length<=rs.length+6:=by
 obtain⟨x,u1,e1,x0,x1,P1⟩:=ju (m:=4) P (by omega) (by omega) (by omega)
 obtain⟨x,rfl⟩:=aU x0;have c1:ik false 2 aa [.ref 0,.int 4] (HG u ws r0 rs ks)=.ok (cj x) (HG u1 ws r0 rs ks):=e1 0 _ rfl;have hcl:∀u':O,vy 0 u'->∀o∈HG u' ws r0 rs ks,vy ((HG u' ws r0 rs ks).tail.length+1) o:=λu' hu o ho=>by
  rcases aR.mp ho with z|z
  ·subst z;exact jm (aW _) hu
  ·have:=acg (ws:=ws) (r0:=r0) (rs:=rs) (ks:=ks) P o (ba _ z)
   simpa[HG] using this
 obtain⟨w,u2,wl1,wt,P2,ew⟩:=drawn (tg:=tg) (τ:=τG tg a5 a6 a7 a8 a9) (hs:=(HG u ws r0 rs ks).tail) (u0:=u) (ix:=[0,1]) (fm:=s2 my (sI 1) (sA (ik false 2 aa) (ak (sV 0) (ak (sI 4) bw)))) (m:=1+x) P1 (by omega) t1' t6 hcl
  ((qm ckk (wg (bj rfl) ckk c1) a0d).trans (by congr 2)) (by omega) rfl
 obtain⟨w2,u3,w21,w26,wt2,P3,eu⟩:∃(w2:List Nat) (u3:O),1<=w2.length/\w2.length<=6/\(∀c∈w2,c∈tg)/\Src u3 (N+12)/\∀g:SS,dw (sIf (a6j (sT (s2 (aqi true) (sV 2) (sZ (sA a3f bw)))) (sT (s2 hEq (sA (ik false 2 aa) (ak (sV 0) (ak (sI 2) bw))) (sI 0))))
   (m7 6 (a3l (s2 my (s2 gIx (sV 2) (sA (ik false 2 aa) (ak (sV 0) (ak (sA uf (ak (sV 2) bw)) bw)))) (sV 6)) oN (oS (sI 6)))) sNx) g (τG tg a5 (some (sD w)) a7 a8 a9) (HG u2 ws r0 rs ks)=g (τG tg a5 (some (sD w2)) a7 a8 a9) (HG u3 ws r0 rs ks):=by
  have t0:∀{τ:Sd},τ[2]? = some (some (.ref 1))->s2 (aqi true) (sV 2) (sZ (sA MI.a3f bw)) τ (HG u2 ws r0 rs ks)=.ok (.bl (!(ws.map sD).isEmpty)) (HG u2 ws r0 rs ks):=λh2=>qm (bj h2) (azw (acg P2)) (art rfl (ax6 ws))
  cases hws:ws with
  |nil =>
   subst hws;exact⟨w,u2,by omega,by omega,wt,P2.up (by omega),λg=>ifN (aik (tof (t0 rfl)))⟩
  |cons w0 wr =>
   rw[<-hws];have wp:1<=ws.length:=by rw[hws];simp
   have ne:(!(ws.map sD).isEmpty)=true:=by rw[hws];rfl
   obtain⟨y,u3,e3,y0,y1,P3⟩:=ju (m:=2) P2 (by omega) (by omega) (by omega)
   have c3:ik false 2 aa [.ref 0,.int 2] (HG u2 ws r0 rs ks)=.ok (.int y) (HG u3 ws r0 rs ks):=e3 0 _ rfl
   by_cases hy:y=0
   ·obtain⟨z,u4,e4,z0,z1,P4⟩:=ju (m:=(ws.length:Nat)) P3 (by omega) (by omega) (by omega)
    obtain⟨z,rfl⟩:=aU z0;have c4:ik false 2 aa [.ref 0,cj ws.length] (HG u3 ws r0 rs ks)=.ok (cj z) (HG u4 ws r0 rs ks):=e4 0 _ rfl;have zl:z<ws.length:=by omega
    obtain⟨v1,v6,vt⟩:=W ws[z] (bF zl);have lw:uf [.ref 1] (HG u3 ws r0 rs ks)=.ok (cj ws.length) (HG u3 ws r0 rs ks):=by rw[a0v (xs:=ws.map sD) rfl,ay]
    refine⟨(ws[z]++w).take 6,u4,by rw[bV,ai];omega,by rw[bV];omega,λc hc=>?_,P4.up (by omega),λg=>?_⟩
    ·rcases aS.mp (cT hc) with q|q
     ·exact vt c q
     ·exact wt c q
    ·refine jj (aw (ifT (abv (tof ((t0 rfl).trans (by rw[ne]))) (t2s (wg (bj rfl) ckk c3) ckk (a5t hy)))) (aeo ?_))
     exact PAP.ak5 (qm (qm (bj rfl) (wg (bj rfl) (ye (bj rfl) lw) c4) (v7 (xs:=ws.map sD) rfl (y:=sD ws[z]) (by rw[aO,af zl];rfl))) (bj rfl) (abu (g8 (by omega)))) rfl (PAP.ak4 ckk) (as8 6 (g8 (by rw[ai];omega)))
   ·refine⟨w,u3,by omega,by omega,wt,P3.up (by omega),λg=>?_⟩
    exact ifN (abv (tof ((t0 rfl).trans (by rw[ne]))) (t2s (wg (bj rfl) ckk c3) ckk (a6z hy)))
 obtain⟨r0',rs',ks',k',a8',a9',e5,G',k1,k2,k3⟩:=ajr (a5:=a5) (a6:=some (sD w2)) (a8:=a8) (a9:=a9) (u:=u3) (ws:=ws++[w2]) G t6 wt2 w21 (by omega)
 obtain⟨v,u4,e6,v0,v1,P4⟩:=ju (m:=6) P3 (by omega) (by omega) (by omega)
 have c6:ik false 2 aa [.ref 0,.int 6] (HG u3 (ws++[w2]) r0' rs' ks')=.ok (.int v) (HG u4 (ws++[w2]) r0' rs' ks'):=e6 0 _ rfl;have lk:=G'.lk;rw[aY]at lk;refine⟨u4,w2,r0',rs',ks'.set k' v,some (sD w2),some (cj k'),a8',a9',?_,P4.up (by omega),λq hq=>?_,G'.kput k1 (by constructor<;>omega),by omega,by omega⟩
 ·unfold CAS.a08;refine aw (o6 ew) ?_;refine aw (eu _) ?_;refine aw (jj (a0g (bj rfl) rfl (arg1 (bj rfl)) (a1i (xs:=ws.map sD) rfl (by rw[ay];exact a0w (by omega))))) ?_
  refine aw (o6 ckk) ?_;refine aw (a4k (a99 (bj rfl) (PAP.anq w2 _))) ?_;refine aw (aP (λz=>MI.thn z _) (aw (aP (forL (λ_=>True) (kN 8) (CAS.ux aa) (w2.map λc=>sD [c]) (τG tg a5 (some (sD w2)) (some (cj 0)) a8 a9)) (show(_:Hd)=HG u3 (ws++[w2]) r0 rs ks by unfold HG;rw[bB];rfl)) e5)) ?_
  rw[zg];refine a8q (wg (bj rfl) ckk c6) (bj rfl) (bj rfl) ?_;rw[abw (xs:=ks'.map D.int) rfl (by rw[ay,lk];exact k2)]
  show some _=some _
  congr 1
  unfold HG rI;rw[g7];rfl
 ·rcases aS.mp hq with z|z
  ·exact W q z
  ·rw[ar]at z;subst z;exact⟨w21,w26,wt2⟩
end CAS
namespace CAS
open L2 MI AT HND EVX K22 K23 K21 SRC
theorem ajt{tg:List Nat}{ws:List (List Nat)}{ks:List Int}(P:Src u N)(hN:N<=999980000)(G:Gro tg (r0::rs) ks)(t1':1<=tg.length)(t6:tg.length<=6)(r1:1<=rs.length)(rl:rs.length<=50) :
  ∃(u':O) (r0':List Int) (rs':List (List Int)) (b7 b9:Option D),CAS.a09 aa (τG tg a5 a6 a7 a8 a9) (HG u ws r0 rs ks)=.nx (τG tg a5 a6 b7 a8 b9) (HG u' ws r0' rs' ks)/\Src u' (N+3)/\Gro tg (r0'::rs') ks/\rs'.length=rs.length:=by
 obtain⟨k,u1,e1,k0,k1,P1⟩:=ju (m:=((rs.length+1:Nat):Int)) P (by omega) (by omega) (by omega)
 obtain⟨k,rfl⟩:=aU k0;have hk:k<rs.length+1:=by omega
 obtain⟨i,u2,e2,i0,i1,P2⟩:=ju (m:=(tg.length:Nat)) P1 (by omega) (by omega) (by omega)
 obtain⟨i,rfl⟩:=aU i0;obtain⟨z,u3,e3,z0,z1,P3⟩:=ju (m:=((rs.length:Nat):Int)) P2 (by omega) (by omega) (by omega)
 have lg:∀u:O,uf [.ref 3] (HG u ws r0 rs ks)=.ok (cj (rs.length+1)) (HG u ws r0 rs ks):=λu=>by rw[a0v (xs:=(List.range (rs.length+1)).map adm) rfl,ay,aZ]
 have c1:ik false 2 aa [.ref 0,cj (rs.length+1)] (HG u ws r0 rs ks)=.ok (cj k) (HG u1 ws r0 rs ks):=e1 0 _ rfl;have c2:ik false 2 aa [.ref 0,cj tg.length] (HG u1 ws r0 rs ks)=.ok (cj i) (HG u2 ws r0 rs ks):=e2 0 _ rfl;have c3:ik false 2 aa [.ref 0,.int (((rs.length+1:Nat):Int)-1)] (HG u2 ws r0 rs ks)=.ok (.int z) (HG u3 ws r0 rs ks):=by
  rw[show((rs.length+1:Nat):Int)-1=(rs.length:Nat) by omega];exact e3 0 _ rfl
 obtain⟨r,e⟩:∃r,(r0::rs)[k]? = some r:=⟨_,af (by simpa using hk)⟩
 have lr:=G.rl r (aQ e);obtain⟨x,ex⟩:∃x,r[i]? = some x:=⟨_,af (by rw[lr];omega)⟩
 unfold CAS.a09
 by_cases x0:x<0
 ·obtain⟨j,ej,ea,st⟩:=a8f (u:=u3) (ws:=ws) (ks:=ks) e;obtain⟨q0,qs,eq,es⟩:=st (r.set i (1+z));have g2:=G.set (k:=k) (i:=i) (x:=1+z) e (by rw[aY];omega)
  rw[<-eq]at g2;refine⟨u3,q0,qs,some (cj k),some (cj i),?_,P3,g2,by simpa using aP List.length eq⟩
  refine aw (o6 (wg (bj rfl) (ye (bj rfl) (lg u)) c1)) ?_;refine aw (o6 (wg (bj rfl) (ye (bj rfl) (a6w (g8 (by omega)))) c2)) ?_
  refine aw (ifT (t2s (a73 rfl rfl rfl e ex) ckk (agb x0))) ?_;refine a8q (qm ckk (wg (bj rfl) (qm (ye (bj rfl) (lg u2)) ckk (aeq _ _)) c3) a0d) (qm (bj rfl) (bj rfl) ((ars hk).trans (by rw[ej]))) (bj rfl) ?_
  rw[abw (xs:=r.map D.int) ea (by rw[ay,lr];omega),<-es]
  unfold rI;rw[g7]
 ·refine⟨u2,r0,rs,some (cj k),some (cj i),?_,P2.up (by omega),G,rfl⟩
  refine aw (o6 (wg (bj rfl) (ye (bj rfl) (lg u)) c1)) ?_;refine aw (o6 (wg (bj rfl) (ye (bj rfl) (a6w (g8 (by omega)))) c2)) ?_
  exact ifF (t2s (a73 rfl rfl rfl e ex) ckk (am5 x0))
theorem ax7(e1:f τ h=.ok x h)(e2:g τ h=.ok y h)(l1:yc x h=some xs)(l2:yc y h=some ys)(cx:clos h.length (xs++ys))(c:∀o∈h,vy h.length o)(z:xs.length+ys.length<=1000000):sZ (s2 my f g) τ h=.ok (.rol (xs++ys)) h :=
 a4j (qm e1 e2 ((ad9 l1 l2).trans (aT (g8 z)))) cx c
theorem ax8(e:f τ h=.ok d h)(cd:MI.clo h.length d)(c:∀o∈h,vy h.length o):sZ (sA MI.a3f (ak f bw)) τ h=.ok (.rol [d]) h :=
 a4j (ye e (by unfold MI.a3f;rw[aT (g8 (by simp))])) (bf cd jy) c
theorem ao6{xs:List D}(e:h[i]? = some (.lst xs)):ahj (.ref i) h=.ok ⟨xs,λh'=>h'[i]? = some (.lst xs)⟩ h:=by unfold ahj;simp only[e]
def cv(n:Nat)(r:List Int):List Nat:=r.map λx=>if 0<=x then x.toNat else n
abbrev rws(r0:List Int)(rs:List (List Int)):List (List Nat):=(List.range (rs.length+1)).map λk=>cv (rs.length+1) (((r0::rs)[k]?).getD [])
theorem ax9{tg:List Nat}{ws:List (List Nat)}{ks:List Int}(P:Src u N)(G:Gro tg (r0::rs) ks)(t6:tg.length<=6)(rl:rs.length<=50) :
  sZ (mq (sIt (sV 3)) t1 (CAS.a1x aa) [3]) (τG tg a5 a6 a7 a8 a9) (HG u ws r0 rs ks)=.ok (.rol ((rws r0 rs).map a2b)) (HG u ws r0 rs ks):=by
 unfold rws;rw[cI];refine a4j (amb (ck:=λh=>h[3]? = some (.lst ((List.range (rs.length+1)).map adm))) adm (a2b ∘ λk=>cv (rs.length+1) (((r0::rs)[k]?).getD [])) (List.range (rs.length+1)) rfl (a99 (bj rfl) rfl) (by rw[aZ];exact g8 (by omega)) λk hk=>?_) (gj λx _=>km (p8 _)) (acg P)
 have hk:=bR.mp hk;obtain⟨r,e⟩:∃r,(r0::rs)[k]? = some r:=⟨_,af (by simpa using hk)⟩
 obtain⟨j,ej,ea,_⟩:=a8f (u:=u) (ws:=ws) (ks:=ks) e;have lr:=G.rl r (aQ e);have lg:uf [.ref 3] (HG u ws r0 rs ks)=.ok (cj (rs.length+1)) (HG u ws r0 rs ks):=by rw[a0v (xs:=(List.range (rs.length+1)).map adm) rfl,ay,aZ]
 rw[vz,ej];show _=R.ok (a2b (cv (rs.length+1) (((r0::rs)[k]?).getD []))) _;rw[e];unfold CAS.a1x cv;show _=R.ok (a2b ((r).map _)) _;unfold a2b;rw[cI];refine a4j (amb (ck:=λh=>h[j]? = some (rI r)) D.int (cj ∘ λx=>if 0<=x then x.toNat else rs.length+1) r ea (a99 (bj rfl) (ao6 ea)) (g8 (by omega)) λx hx=>?_) (gj λx _=>dh _) (acg P)
 rw[vz];unfold CAS.a4o
 by_cases x0:0<=x
 ·refine(SRC.asd (tvc rfl (SRC.azg x0)) (bj rfl)).trans ?_;show R.ok (D.int x) _=R.ok (D.int ((if 0<=x then x.toNat else rs.length+1:Nat):Int)) _
  rw[aT x0,Int.toNat_of_nonneg x0]
 ·refine(SRC.am9 (tvc rfl (SRC.azh x0)) (ye (bj rfl) lg)).trans ?_;show _=R.ok (D.int ((if 0<=x then x.toNat else rs.length+1:Nat):Int)) _
  rw[bA x0]
end CAS
namespace CAS
open L2 MI AT HND EVX K22 K23 K21 SRC
theorem axa(c1:clos i xs)(c2:clos i ys):clos i (xs++ys):=xj.mpr λx hx=>(aS.mp hx).elim (xj.mp c1 x) (xj.mp c2 x)
noncomputable def jo:SF:=m8 (CAS.a2v aa) 11
abbrev aju(tg:List Nat)(r0:List Int)(rs:List (List Int)):List (List Nat):=rws r0 rs++[tg.map λ_=>rs.length+1]
theorem amq{ks:List Int}(G:Gro tg (r0::rs) ks):∀r∈aju tg r0 rs,acl tg.length (rs.length+2) r:=by
 intro r hr
 rcases aS.mp hr with z|z
 ·obtain⟨k,hk,rfl⟩:=bX.mp z;have hk:=bR.mp hk;obtain⟨q,e⟩:∃q,(r0::rs)[k]? = some q:=⟨_,af (by simpa using hk)⟩
  rw[e];have hq:=aQ e;refine⟨by unfold cv;rw[ay];exact G.rl q hq,λx hx=>?_⟩
  obtain⟨y,hy,rfl⟩:=bX.mp hx;have:=G.rx q hq y hy;rw[aY]at this
  split<;>omega
 ·rw[ar]at z;subst z;refine⟨by rw[ay],λx hx=>?_⟩
  obtain⟨_,_,rfl⟩:=bX.mp hx;omega
theorem ajv{ws:List (List Nat)}{ks:List Int}{X Y:List D}(cX:clos 0 X)(cY:clos 0 Y):a4h 1 (HG u ws r0 rs ks) FU (.tup [.ref 1,.rol X,.rol Y])=some (.tup [.rol (ws.map sD),.rol X,.rol Y]):=by
 have oc:∀{k:Nat} {d d':D} {ds ds':List D},a4h 1 (HG u ws r0 rs ks) k d=some d'->a0m (a4h 1 (HG u ws r0 rs ks) k) ds=some ds'->a0m (a4h 1 (HG u ws r0 rs ks) k) (d::ds)=some (d'::ds'):=λe1 e2=>by unfold a0m;rw[e1,e2]
 refine aa9 (k:=19) (oc (a5q (k:=17) (by omega) rfl (gj λx _=>fu _)) (oc (a1f (km (a00 (aW _) cX))) (oc (a1f (km (a00 (aW _) cY))) rfl))) ?_
 intro z
 have:=xj.mp z (.ref 1) bt
 simp only[MI.clo]at this;omega
theorem amr{tg:List Nat}(P:Src o N)(hN:N<=999900000)(t1':1<=tg.length)(t6:tg.length<=6) :
  ∃(ws:List (List Nat)) (rows:List (List Nat)) (ks:List Int) (n:Nat) (o':O),1<=n/\n<=32/\1<=ws.length/\ws.length<=5/\Wok tg ws/\rows.length=n/\ks.length=n/\(∀r∈rows,acl tg.length n r)/\ks[0]? = some (-1)/\(∀k∈ks,KOk k) /\
   Dr CAS.jo 2 [sD tg] o (.tup [.rol (ws.map sD),.rol (rows.map a2b),.rol (ks.map D.int)]) o'/\Src o' (N+200):=by
 obtain⟨n1,u0,e0,n10,n11,P0⟩:=ju (m:=5) P (by omega) (by omega) (by omega)
 obtain⟨n1,rfl⟩:=aU n10
 let rm1:List Int:=List.replicate tg.length (-1)
 have c0:∀{o:O},ik false 2 aa [.ref 0,.int 5] (HG o [] rm1 [] [-1])=ik false 2 aa [.ref 0,.int 5] (HG o [] rm1 [] [-1]):=rfl;have c1:ik false 2 aa [.ref 0,.int 5] (HG o [] rm1 [] [-1])=.ok (cj n1) (HG u0 [] rm1 [] [-1]):=e0 0 _ rfl;have G0:Gro tg (rm1::[]) [-1]:=⟨λr hr=>by rw[ar]at hr;subst hr;simp[rm1],λr hr x hx=>by rw[ar]at hr;subst hr;exact .inl (eN hx),rfl,rfl,λk hk=>by rw[ar]at hk;subst hk;decide⟩
 have lp:=rm (g:=kN 5) (b:=CAS.a08 aa) (λi:Nat=>D.int (i:Nat))
  (λpre τ h=>∃(u:O) (ws:List (List Nat)) (r0:List Int) (rs:List (List Int)) (ks:List Int) (a5 a6 a7 a8 a9:Option D),τ=τG tg a5 a6 a7 a8 a9/\h=HG u ws r0 rs ks/\Src u (N+1+20*pre.length)/\Wok tg ws/\ws.length=pre.length/\Gro tg (r0::rs) ks/\rs.length<=6*pre.length/\(pre≠[]->1<=rs.length))
  (List.range (1+n1)) (τG tg none none none none none) (HG u0 [] rm1 [] [-1]) ?_ ⟨u0,[],rm1,[],[-1],none,none,none,none,none,rfl,rfl,P0,(λw hw=>by cases hw),rfl,G0,aW _,(λz=>absurd rfl z)⟩
 ·obtain⟨τ',h',e2,u,ws,r0,rs,ks,a5,a6,a7,a8,a9,rfl,rfl,P1,W,wl,G,rl,r1⟩:=lp;rw[aZ]at P1 wl rl;have r1:1<=rs.length:=r1 (by intro z;have:=aP List.length z;rw[aZ]at this;simp at this)
  obtain⟨n2,u2,e3,n20,n21,P2⟩:=ju (m:=3) P1 (by omega) (by omega) (by omega)
  obtain⟨n2,rfl⟩:=aU n20;have c3:ik false 2 aa [.ref 0,.int 3] (HG u ws r0 rs ks)=.ok (cj n2) (HG u2 ws r0 rs ks):=e3 0 _ rfl;have lq:=rm (g:=kN 5) (b:=CAS.a09 aa) (λi:Nat=>D.int (i:Nat))
   (λpre τ h=>∃(u:O) (q0:List Int) (qs:List (List Int)) (a5 a7 a9:Option D),τ=τG tg a5 a6 a7 a8 a9/\h=HG u ws q0 qs ks/\Src u (N+150+3*pre.length)/\Gro tg (q0::qs) ks/\qs.length=rs.length)
   (List.range n2) (τG tg a5 a6 a7 a8 a9) (HG u2 ws r0 rs ks) ?_ ⟨u2,r0,rs,a5,a7,a9,rfl,rfl,P2.up (by omega),G,rfl⟩
  ·obtain⟨τ',h',e4,u3,q0,qs,b5,b7,b9,rfl,rfl,P3,G3,ql⟩:=lq;rw[aZ]at P3;have lk:=G3.lk;rw[aY]at lk;have cR:clos 0 ((aju tg q0 qs).map a2b):=gj λx _=>km (p8 _);have cK:clos 0 ((ks++[-1]).map D.int):=gj λx _=>dh x;refine⟨ws,aju tg q0 qs,ks++[-1],qs.length+2,u3,by omega,by omega,by omega,by omega,W,by simp[rws],by simp[lk],amq G3,?_,?_,Dr.of rfl (by intro x hx;rw[ar]at hx;subst hx;exact fu _) P.clo (r:=.ok (.tup [.ref 1,.rol ((aju tg q0 qs).map a2b),.rol ((ks++[-1]).map D.int)]) (HG u3 ws q0 qs ks)) ?_ (a88 (ajv cR cK) (by intro x hx;rw[show List.take 1 (HG u3 ws q0 qs ks)=[u3] from rfl,ar]at hx;subst hx;exact jm (by omega) P3.clo)) (qx (bf (km (gj λx _=>fu _)) (bf (km cR) (bf (km cK) jy)))) P3.clo,P3.up (by omega)⟩
   ·rw[aM (by omega)];exact G3.k0
   ·intro k hk
    rcases aS.mp hk with z|z
    ·exact G3.kk k z
    ·rw[ar]at z;subst z;decide
   ·unfold CAS.jo;rw[dm];show toR (CAS.a2v aa [some (.ref 0),some (sD tg),none,none,none,none,none,none,none,none,none] [o])=_;unfold CAS.a2v;have nw:mq (sIt (sV 1)) t1 (CAS.a1v aa) [] [some (.ref 0),some (sD tg),some (.ref 1),none,none,none,none,none,none,none,none] [o,.lst []]=.ok (.ref 2) [o,.lst [],rI rm1]:=by
     refine(xf (λc:Nat=>D.str (S [c])) (λ_=>D.int (-1)) tg (a99 (bj rfl) (PAP.anq tg _)) (g8 (by omega)) λc _=>?_).trans ?_
     ·rw[vz];unfold CAS.a1v;exact yw ckk (a8b _)
     ·show R.ok (D.ref 2) [o,.lst [],.lst (tg.map λ_=>D.int (-1))]=_;rw[List.map_const'];show _=R.ok (D.ref 2) [o,.lst [],.lst ((List.replicate tg.length (-1:Int)).map D.int)];rw[g9]
    refine etr (o6 (d:=.ref 1) (h1:=[o,.lst []]) rfl) ?_;refine etr (o6 (d:=.ref 3) (h1:=[o,.lst [],rI rm1,.lst [.ref 2]]) (ye nw rfl)) ?_;refine etr (o6 (d:=.ref 4) (h1:=HG o [] rm1 [] [-1]) rfl) ?_;refine etr (a4k (h1:=HG u0 [] rm1 [] [-1]) (ck:=λ_=>True) (xs:=(List.range (1+n1)).map λi:Nat=>D.int (i:Nat)) ?_) ?_
    ·unfold sRg;rw[arg1 (qm ckk (wg (bj rfl) ckk c1) a0d),di];exact a98 (n:=1+n1) _ (g8 (by omega))
    refine aw (aP (λz=>toR (MI.thn z _)) e2) ?_;rw[zg];refine etr (a4k (h1:=HG u2 ws r0 rs ks) (ck:=λ_=>True) (xs:=(List.range n2).map λi:Nat=>D.int (i:Nat)) ?_) ?_
    ·unfold sRg;rw[arg1 (wg (bj rfl) ckk c3),di];exact a98 (n:=n2) _ (g8 (by omega))
    refine aw (aP (λz=>toR (MI.thn z _)) e4) ?_;rw[zg];have hg:=acg (ws:=ws) (r0:=q0) (rs:=qs) (ks:=ks) P3;have lg:uf [.ref 3] (HG u3 ws q0 qs ks)=.ok (cj (qs.length+1)) (HG u3 ws q0 qs ks):=by rw[a0v (xs:=(List.range (qs.length+1)).map adm) rfl,ay,aZ]
    refine ets (ax9 P3 G3 t6 (by omega)) ?_
    refine aP toR (u9 (aga (bj rfl) (ax7 (bj rfl) (ax8 (d:=a2b (tg.map λ_=>qs.length+1)) ?_ (km (p8 _)) hg) rfl rfl ?_ hg ?_) (ax7 (bj rfl) (ax8 (yw ckk (a8b _)) (dh _) hg) (x:=.ref 4) (xs:=ks.map D.int) rfl rfl ?_ hg ?_) (asa.trans ?_)))
    ·unfold a2b;rw[show(tg.map λ_=>qs.length+1).map cj=tg.map λ_=>cj (qs.length+1) from cI]
     refine a4j (xf (λc:Nat=>D.str (S [c])) (λ_=>cj (qs.length+1)) tg (a99 (bj rfl) (PAP.anq tg _)) (g8 (by omega)) λc _=>?_) (gj λx _=>dh _) hg
     rw[vz];unfold CAS.a4p;exact ye (bj rfl) lg
    ·exact CAS.axa (gj λx _=>km (p8 _)) (bf (km (p8 _)) jy)
    ·simp[rws];omega
    ·exact CAS.axa (gj λx _=>dh x) (bf (dh _) jy)
    ·rw[ay,lk];simp;omega
    ·unfold aju;rw[bB,bB];rfl
  ·rintro pre i post τ h all ⟨u,q0,qs,b5,b7,b9,rfl,rfl,P3,G3,ql⟩
   have pl:=(p7 all).1 ▸ (p7 all).2;obtain⟨u',p0,ps',c7,c9,e,P4,G4,l4⟩:=ajt (a5:=some (D.int (i:Nat))) (a6:=a6) (a7:=b7) (a8:=a8) (a9:=b9) (ws:=ws) P3 (by omega) G3 t1' t6 (by omega) (by omega)
   exact⟨_,_,rfl,_,_,e,u',p0,ps',_,c7,c9,rfl,rfl,P4.up (by rw[ai,aI];omega),G4,by omega⟩
 ·rintro pre i post τ h all ⟨u,ws,r0,rs,ks,a5,a6,a7,a8,a9,rfl,rfl,P1,W,wl,G,rl,r1⟩
  have pl:=(p7 all).1 ▸ (p7 all).2;obtain⟨u',w,q0,qs,ks',b6,b7,b8,b9,e,P2,W2,G2,l1,l2⟩:=ajs (a5:=some (D.int (i:Nat))) (a6:=a6) (a7:=a7) (a8:=a8) (a9:=a9) P1 (by omega) G W t1' t6 (by omega) (by omega)
  exact⟨_,_,rfl,_,_,e,u',ws++[w],q0,qs,ks',_,b6,b7,b8,b9,rfl,rfl,P2.up (by rw[ai,aI];omega),W2,by rw[ai,ai,aI,aI,wl],G2,by rw[ai,aI];omega,λ_=>l1⟩
end CAS
namespace CAS
open L2 MI AT HND EVX K22 K23 K21 SRC
noncomputable def lz:SF:=m8 (CAS.a4e aa CAS.jo CAS.qp CAS.jx SRC.jf) 11
abbrev τC(a b:Nat)(tg:List Nat)(g k t w i a9 a10:Option D):Sd:=[some (.ref 0),some (cj a),some (cj b),some (sD tg),g,k,t,w,i,a9,a10]
theorem ag8{tg t:List Nat}{ws:List (List Nat)}{A B C E':SF}(P:Src u N)(hN:N<=999900000)(W:Wok tg ws)(w1:1<=ws.length)(w5:ws.length<=5)(t1':1<=tg.length)(t6:tg.length<=6)(tl:t.length<=500)(tt:∀c∈t,c∈tg) :
  ∃(u':O) (t':List Nat) (b9 b10:Option D),CAS.yx aa A B C E' (τC a b tg g k (some (sD t)) (some (.rol (ws.map sD))) i a9 a10) [u]=.nx (τC a b tg g k (some (sD t')) (some (.rol (ws.map sD))) i b9 b10) [u']/\Src u' (N+4)/\t'.length<=t.length+6/\∀c∈t',c∈tg:=by
 obtain⟨x,u1,e1,x0,x1,P1⟩:=ju (m:=(ws.length:Nat)) P (by omega) (by omega) (by omega)
 obtain⟨x,rfl⟩:=aU x0;have c1:ik false 2 aa [.ref 0,cj ws.length] [u]=.ok (cj x) [u1]:=e1 0 _ rfl;have xl:x<ws.length:=by omega
 obtain⟨v1,v6,vt⟩:=W ws[x] (bF xl);obtain⟨y,u2,e2,y0,y1,P2⟩:=ju (m:=6) P1 (by omega) (by omega) (by omega)
 have c2:ik false 2 aa [.ref 0,.int 6] [u1]=.ok (.int y) [u2]:=e2 0 _ rfl;have lw:uf [.rol (ws.map sD)] [u]=.ok (cj ws.length) [u]:=by show R.ok (D.int ((ws.map sD).length:Nat)) [u]=_;rw[ay]
 obtain⟨w,u3,w6,wt,P3,eu⟩:∃(w:List Nat) (u3:O),w.length<=6/\(∀c∈w,c∈tg)/\Src u3 (N+4)/\∀g':SS,dw (sIf (sT (s2 hEq (sV 10) (sI 0))) (m7 9 (a3l (sV 9) oN (oS (sA (ik false 2 aa) (ak (sV 0) (ak (sA uf (ak (sV 9) bw)) bw)))))) sNx)
   (dw (sIf (sT (s2 hEq (sV 10) (sI 1))) (m7 9 (s2 gIx (sV 3) (sA (ik false 2 aa) (ak (sV 0) (ak (sA uf (ak (sV 3) bw)) bw))))) sNx) g') (τC a b tg g k (some (sD t)) (some (.rol (ws.map sD))) i (some (sD ws[x])) (some (.int y))) [u2]=g' (τC a b tg g k (some (sD t)) (some (.rol (ws.map sD))) i (some (sD w)) (some (.int y))) [u3]:=by
  by_cases h0:y=0
  ·obtain⟨z,u3,e3,z0,z1,P3⟩:=ju (m:=(ws[x].length:Nat)) P2 (by omega) (by omega) (by omega)
   obtain⟨z,rfl⟩:=aU z0;have c3:ik false 2 aa [.ref 0,cj ws[x].length] [u2]=.ok (cj z) [u3]:=e3 0 _ rfl;refine⟨ws[x].take z,u3,by rw[bV];omega,λc hc=>vt c (cT hc),P3.up (by omega),λg'=>?_⟩
   refine aw (jj (aw (ifT (tvc rfl (a5t h0))) (aeo (PAP.ak5 (bj rfl) rfl (PAP.ak4 (wg (bj rfl) (ye (bj rfl) (a6w (g8 (by omega)))) c3)) (as8 z (g8 (by omega))))))) ?_
   exact ifN (tvc rfl (a6z (by omega)))
  ·by_cases h1:y=1
   ·obtain⟨z,u3,e3,z0,z1,P3⟩:=ju (m:=(tg.length:Nat)) P2 (by omega) (by omega) (by omega)
    obtain⟨z,rfl⟩:=aU z0;have zl:z<tg.length:=by omega
    have c3:ik false 2 aa [.ref 0,cj tg.length] [u2]=.ok (cj z) [u3]:=e3 0 _ rfl;refine⟨[tg[z]],u3,by simp,λc hc=>by rw[ar]at hc;subst hc;exact bF zl,P3.up (by omega),λg'=>?_⟩
    refine aw (ifN (tvc rfl (a6z h0))) ?_;exact jj (aw (ifT (tvc rfl (a5t h1))) (aeo (qm (bj rfl) (wg (bj rfl) (ye (bj rfl) (a6w (g8 (by omega)))) c3) (as7 (g8 (by omega)) (af zl)))))
   ·refine⟨ws[x],u2,v6,vt,P2.up (by omega),λg'=>?_⟩
    refine aw (ifN (tvc rfl (a6z h0))) ?_;exact ifN (tvc rfl (a6z h1))
 refine⟨u3,t++w,some (sD w),some (.int y),?_,P3,by rw[ai];omega,λc hc=>?_⟩
 ·unfold CAS.yx;refine aw (o6 (qm (bj rfl) (wg (bj rfl) (ye (bj rfl) lw) c1) (as9 (y:=sD ws[x]) (by rw[aO,af xl];rfl)))) ?_
  refine aw (o6 (wg (bj rfl) ckk c2)) ?_;refine aw (eu _) ?_;exact am4 rfl (bj rfl) (SRC.ait (g8 (by omega)))
 ·rcases aS.mp hc with z|z
  ·exact tt c z
  ·exact wt c z
theorem ajw{u':O}(h:vy 0 u'):∀o∈u'::([]:Hd),vy (([]:Hd).length+1) o:=λo ho=>by rw[ar]at ho;subst ho;exact jm (aW _) h
theorem aru(P:Src o N)(hN:N<=999000000):∃(T:Table) (t:List Nat) (o':O),T.Ok/\(∀r,r<T.go.length->PN.Rch T.go r)/\t.length<=240/\(∀c∈t,c∈T.tg)/\Dr CAS.lz 1 [] o (.tup [T.d,sD t]) o'/\Src o' (N+1000):=by
 obtain⟨s,o1,e1,s0,s1,P1⟩:=ju (m:=4) P (by omega) (by omega) (by omega)
 obtain⟨s,rfl⟩:=aU s0;obtain⟨z,o2,e2,z0,z1,P2⟩:=ju (m:=8) P1 (by omega) (by omega) (by omega)
 obtain⟨z,rfl⟩:=aU z0;obtain⟨tg,o3,T1,e3,P3⟩:=aiu P2 (by omega)
 have t1':=T1.lo;have t6:=T1.hi;have c1:ik false 2 aa [.ref 0,.int 4] [o]=.ok (cj s) [o1]:=e1 0 _ rfl;have c2:ik false 2 aa [.ref 0,.int 8] [o1]=.ok (cj z) [o2]:=e2 0 _ rfl;have c3:ik false 1 SRC.jf [.ref 0] [o2]=.ok (sD tg) [o3]:=e3 0 _ rfl;obtain⟨rows,ks,n,t,o4,w,i,a9,a10,n1,n32,lr,lk,rr,k0,kk,tl,tt,P4,e4⟩:∃(rows:List (List Nat)) (ks:List Int) (n:Nat) (t:List Nat) (o4:O) (w i a9 a10:Option D),1<=n/\n<=32/\rows.length=n/\ks.length=n/\(∀r∈rows,acl tg.length n r)/\ks[0]? = some (-1)/\(∀k∈ks,KOk k)/\t.length<=100/\(∀c∈t,c∈tg)/\Src o4 (N+500) /\
   sIf (sT (s2 hEq (sV 1) (sI 0)))
     (dw (a77 (sA (ik false 3 CAS.jx) (ak (sV 0) (ak (sV 3) (ak (s2 my (sI 1) (sA (ik false 2 aa) (ak (sV 0) (ak (s2 gIx (sA a1c (ak (sI 8) (ak (sI 32) bw))) (s2 aau (sV 2) (sI 7))) bw)))) bw)))) (a4g 2 (iy (kN 4) (iy (kN 5) a4x))))
      (m7 6 (sMS a9t (sC (.str "")) (ak (sZ (mq (sRg vq (ak (sA (ik false 2 aa) (ak (sV 0) (ak (sI 25) bw))) bw)) t1 (CAS.a5v aa CAS.jo CAS.qp CAS.jx SRC.jf) [0,3])) bw))))
     (dw (a77 (sA (ik false 2 CAS.jo) (ak (sV 0) (ak (sV 3) bw))) (a4g 3 (iy (kN 7) (iy (kN 4) (iy (kN 5) a4x)))))
      (dw (m7 6 (sC (.str "")))
      (a3k (sRg vq (ak (sA (ik false 2 aa) (ak (sV 0) (ak (sI 12) bw))) bw)) (kN 8) (CAS.yx aa CAS.jo CAS.qp CAS.jx SRC.jf)))) (τC s z tg none none none none none none none) [o3]=.nx (τC s z tg (some (.rol (rows.map a2b))) (some (.rol (ks.map D.int))) (some (sD t)) w i a9 a10) [o4]:=by
  by_cases hs:s=0
  ·have mz:1<=(if z<7 then 8 else 32)/\(if z<7 then 8 else 32)<=32:=by split<;>omega
   obtain⟨x,u1,f1,x0,x1,Q1⟩:=ju (m:=((if z<7 then 8 else 32:Nat):Int)) P3 (by omega) (by omega) (by omega)
   obtain⟨x,rfl⟩:=aU x0;have d1:ik false 2 aa [.ref 0,cj (if z<7 then 8 else 32)] [o3]=.ok (cj x) [u1]:=f1 0 _ rfl
   obtain⟨ks,rows,u2,lk,k0,kk,lr,rr,f2,Q2⟩:=ajp (tg:=tg) (n:=1+x) Q1 (by omega) t6 (by omega) (by omega)
   have d2:ik false 3 CAS.jx [.ref 0,sD tg,cj (1+x)] [u1]=.ok (.tup [.rol (rows.map a2b),.rol (ks.map D.int)]) [u2]:=f2 0 _ rfl;obtain⟨y,u3,f3,y0,y1,Q3⟩:=ju (m:=25) Q2 (by omega) (by omega) (by omega)
   obtain⟨y,rfl⟩:=aU y0;have d3:ik false 2 aa [.ref 0,.int 25] [u2]=.ok (cj y) [u3]:=f3 0 _ rfl;obtain⟨t,u4,tl,tt,Q4,et⟩:=drawn (tg:=tg) (τ:=τC s z tg (some (.rol (rows.map a2b))) (some (.rol (ks.map D.int))) none none none none none) (hs:=[]) (u0:=u2) (ix:=[0,3]) (fm:=sA (ik false 2 aa) (ak (sV 0) (ak (sI 25) bw))) (m:=y) Q3 (by omega) t1' t6 (λu' hu=>ajw hu) (wg (bj rfl) ckk d3) (by omega) rfl
   refine⟨rows,ks,1+x,t,u4,none,none,none,none,by omega,by omega,lr,lk,rr,k0,kk,by omega,tt,Q4.up (by omega),?_⟩
   refine aw (ifT (tvc rfl (a5t (by omega)))) ?_
   have ix:gIx (.tup [.int 8,.int 32]) (.int ((z:Int) / 7)) [o3]=.ok (cj (if z<7 then 8 else 32)) [o3]:=by
    by_cases h7:z<7
    ·rw[aT h7,show(z:Int) / 7=((0:Nat):Int) by omega];exact a8r rfl
    ·rw[bA h7,show(z:Int) / 7=((1:Nat):Int) by omega];exact a8r rfl
   refine aw (jj (a6y (aga (bj rfl) (bj rfl) (qm ckk (wg (bj rfl) (qm (wg ckk ckk aqo) (a1u rfl (div_ii ⟨by decide,by decide⟩)) ix) d1) a0d) d2) rfl)) ?_
   exact aeo et
  ·obtain⟨ws,rows,ks,n,u1,n1,n32,w1,w5,W,lr,lk,rr,k0,kk,f1,Q1⟩:=amr (tg:=tg) P3 (by omega) t1' t6
   have d1:ik false 2 CAS.jo [.ref 0,sD tg] [o3]=.ok (.tup [.rol (ws.map sD),.rol (rows.map a2b),.rol (ks.map D.int)]) [u1]:=f1 0 _ rfl;obtain⟨y,u2,f2,y0,y1,Q2⟩:=ju (m:=12) Q1 (by omega) (by omega) (by omega)
   obtain⟨y,rfl⟩:=aU y0;have d2:ik false 2 aa [.ref 0,.int 12] [u1]=.ok (cj y) [u2]:=f2 0 _ rfl;have lp:=rm (g:=kN 8) (b:=CAS.yx aa CAS.jo CAS.qp CAS.jx SRC.jf) (λi:Nat=>D.int (i:Nat))
    (λpre τ h=>∃(u:O) (t:List Nat) (i a9 a10:Option D),τ=τC s z tg (some (.rol (rows.map a2b))) (some (.rol (ks.map D.int))) (some (sD t)) (some (.rol (ws.map sD))) i a9 a10/\h=[u]/\Src u (N+300+4*pre.length)/\t.length<=6*pre.length/\∀c∈t,c∈tg)
    (List.range y) (τC s z tg (some (.rol (rows.map a2b))) (some (.rol (ks.map D.int))) (some (sD [])) (some (.rol (ws.map sD))) none none none) [u2] ?_ ⟨u2,[],none,none,none,rfl,rfl,Q2.up (by omega),aW _,(λc hc=>by cases hc)⟩
   ·obtain⟨τ',h',e5,u,t,i,a9,a10,rfl,rfl,Q3,tl,tt⟩:=lp;rw[aZ]at tl Q3;refine⟨rows,ks,n,t,u,some (.rol (ws.map sD)),i,a9,a10,n1,n32,lr,lk,rr,k0,kk,by omega,tt,Q3.up (by omega),?_⟩
    refine aw (ifF (tvc rfl (a6z (by omega)))) ?_
    refine aw (jj (a6y (wg (bj rfl) (bj rfl) d1) rfl)) ?_;refine aw (o6 ckk) ?_;unfold a3k;refine aw (aP (λr=>R.fl r _) (show sRg vq _ _ [u1]=.ok ⟨(List.range y).map λi:Nat=>D.int (i:Nat),λ_=>True⟩ [u2] by unfold sRg;rw[arg1 (wg (bj rfl) ckk d2),di];exact a98 (n:=y) _ (g8 (by omega)))) ?_
    exact e5
   ·rintro pre i post τ h all ⟨u,t,i',a9,a10,rfl,rfl,Q3,tl,tt⟩
    have pl:=(p7 all).1 ▸ (p7 all).2;obtain⟨u',t',b9,b10,e,Q4,tl',tt'⟩:=ag8 (a:=s) (b:=z) (g:=some (.rol (rows.map a2b))) (k:=some (.rol (ks.map D.int))) (i:=some (D.int (i:Nat))) (a9:=a9) (a10:=a10) (A:=CAS.jo) (B:=CAS.qp) (C:=CAS.jx) (E':=SRC.jf) Q3 (by omega) W w1 w5 t1' t6 (by omega) tt
    exact⟨_,_,rfl,_,_,e,u',t',_,b9,b10,rfl,rfl,Q4.up (by rw[ai,aI];omega),by rw[ai,aI];omega,tt'⟩
 obtain⟨t',o5,tl',tt',P5,e5⟩:∃(t':List Nat) (o5:O),t'.length<=240/\(∀c∈t',c∈tg)/\Src o5 (N+600)/\∀g':SS,dw (sIf (sT (s2 hEq (sV 2) (sI 3))) (m7 6 (a3l (s2 abx (sV 6) (sI 240)) oN (oS (sA (ik false 2 aa) (ak (sV 0) (ak (sI 241) bw)))))) sNx) g' (τC s z tg (some (.rol (rows.map a2b))) (some (.rol (ks.map D.int))) (some (sD t)) w i a9 a10) [o4]=g' (τC s z tg (some (.rol (rows.map a2b))) (some (.rol (ks.map D.int))) (some (sD t')) w i a9 a10) [o5]:=by
  by_cases h3:z=3
  ·obtain⟨y,u2,f2,y0,y1,Q2⟩:=ju (m:=241) P4 (by omega) (by omega) (by omega)
   obtain⟨y,rfl⟩:=aU y0;have d2:ik false 2 aa [.ref 0,.int 241] [o4]=.ok (cj y) [u2]:=f2 0 _ rfl;have ln:(List.replicate 240 t).flatten.length<=1000000:=by rw[List.length_flatten,g9,List.sum_replicate_nat];omega
   refine⟨((List.replicate 240 t).flatten).take y,u2,by rw[bV];omega,λc hc=>?_,Q2.up (by omega),λg'=>?_⟩
   ·obtain⟨l,hl,hc⟩:=List.mem_flatten.mp (cT hc);rw[eN hl]at hc;exact tt c hc
   ·exact jj (aw (ifT (tvc rfl (a5t (by omega)))) (aeo (PAP.ak5 (a1u rfl (avd (k:=240) (by omega) (by omega))) rfl (PAP.ak4 (wg (bj rfl) ckk d2)) (as8 y (g8 ln)))))
  ·exact⟨t,o4,by omega,tt,P4.up (by omega),λg'=>ifN (tvc rfl (a6z (by omega)))⟩
 obtain⟨T,ok,et,rch,em⟩:=ax5 T1 n1 n32 lr lk rr k0 kk;have ca:MI.clo 0 (.tup [T.d,sD t']):=qx (bf Table.clo (bf (fu _) jy));refine⟨T,t',o5,ok,rch,tl',by rw[et];exact tt',Dr.of rfl (by intro x hx;cases hx) P.clo (r:=.ok (.tup [T.d,sD t']) [o5]) ?_ (o7 (a7b (aW 1) ca) (by intro x hx;rw[show List.take 1 [o5]=[o5] from rfl,ar]at hx;subst hx;exact jm (by omega) P5.clo)) ca P5.clo,P5.up (by omega)⟩
 unfold CAS.lz;rw[dm];show toR (CAS.a4e aa CAS.jo CAS.qp CAS.jx SRC.jf [some (.ref 0),none,none,none,none,none,none,none,none,none,none] [o])=_;unfold CAS.a4e;refine ets (wg (bj rfl) ckk c1) ?_;refine ets (wg (bj rfl) ckk c2) ?_;refine ets (ye (bj rfl) c3) ?_;refine etr (jj e4) ?_;refine etr (e5 _) ?_;exact aP toR (u9 (wg (aga (bj rfl) (bj rfl) (bj rfl) (em _)) (bj rfl) aqo))
end CAS
namespace K51
open L2 MI AT HND K23 K21 STM
open RCH
open K22 hiding hp
noncomputable def jq:SF:=m8 (K51.uy SRC.aa) 3
section
variable{T:Table}
theorem ajw{u':O}(h:vy 0 u'):∀o∈[u'],vy ([u']:Hd).length o:=λo ho=>by rw[ar]at ho;subst ho;exact jm (aW _) h
theorem arv(h:T.Ok){re:List Nat}(rt:∀c∈re,c∈T.tg)(rl:re.length<=300)(P:SRC.Src o N)(hN:N<=999900000) :
  ∃(l:List Nat) (o':O),Dr K51.jq 3 [T.d,STM.sD re] o (STM.sD l) o'/\SRC.Src o' (N+10)/\(∀c∈l,c∈T.tg)/\(l.length+(re.drop l.length).length<=re.length+5):=by
 have t6:=h.tong.hi;have t1':=h.tong.lo;obtain⟨z,o1,e1,z0,z1,P1⟩:=SRC.ju (m:=3) P (by omega) (by omega) (by omega)
 have c1:ik false 2 SRC.aa [.ref 0,.int 3] [o]=.ok (.int z) [o1]:=e1 0 _ rfl;have ca:∀d∈[T.d,STM.sD re],MI.clo 0 d:=K21.afy Table.clo (fu _);have fin:∀{u:O} {l:List Nat},SRC.Src u (N+10)->K51.jq [.ref 0,T.d,STM.sD re] [o]=.ok (STM.sD l) [u]->Dr K51.jq 3 [T.d,STM.sD re] o (STM.sD l) u:=λQ e=>Dr.of rfl ca P.clo e (o7 (fu _) (by intro x hx;rw[show ∀u:O,List.take 1 [u]=[u] from λ_=>rfl,ar]at hx;subst hx;exact jm (aW _) Q.clo)) (fu _) Q.clo
 by_cases hz:0<z
 ·obtain⟨k,o2,e2,k0,k1,P2⟩:=SRC.ju (m:=(if (30:Int)<(re.length:Int) then 30 else (re.length:Int))+1) P1 (by omega) (by split<;>omega) (by split<;>omega)
  obtain⟨k,rfl⟩:=aU k0;have c2:ik false 2 SRC.aa [.ref 0,.int ((if (30:Int)<(re.length:Int) then 30 else (re.length:Int))+1)] [o1]=.ok (cj k) [o2]:=e2 0 _ rfl
  have kl:k<=re.length:=by split at k1<;>omega
  refine⟨re.take k,o2,fin (P2.up (by omega)) ?_,P2.up (by omega),λc hc=>rt c (cT hc),by rw[bV,bK];omega⟩
  unfold K51.jq;rw[dm];show toR (K51.uy SRC.aa [some (.ref 0),some T.d,some (STM.sD re)] [o])=_;unfold K51.uy;exact aw (aP toR (aaf (ifr (t2s (wg (bj rfl) ckk c1) ckk (aza hz)) (PAP.ak5 (bj rfl) rfl (PAP.ak4 (wg (bj rfl) (qm (wg (ye (bj rfl) (a6w (g8 (by omega)))) ckk rfl) ckk a0d) c2)) (as8 k (g8 (by omega))))))) rfl
 ·obtain⟨m,o2,e2,m0,m1,P2⟩:=SRC.ju (m:=6) P1 (by omega) (by omega) (by omega)
  obtain⟨m,rfl⟩:=aU m0;have c2:ik false 2 SRC.aa [.ref 0,.int 6] [o1]=.ok (cj m) [o2]:=e2 0 _ rfl;have mp:=a7j (f:=a82 t1 (K51.a05 SRC.aa) (frs' [0,1] [some (.ref 0),some T.d,some (STM.sD re)])) (λi:Nat=>D.int (i:Nat))
   (λpre ys h=>∃(u:O) (t:List Nat),h=[u]/\SRC.Src u (N+2+pre.length)/\ys=ones t/\t.length=pre.length/\∀c∈t,c∈T.tg)
   (List.range m) [] [] [o2] ?_ ⟨o2,[],rfl,P2,rfl,rfl,by simp⟩
  ·obtain⟨zs,h',em,u',t,rfl,P5,ez,tl,tt⟩:=mp;rw[cE]at ez tl P5;rw[aZ]at tl P5;subst ez;have cz:sZ (mq (sRg vq (ak (sA (ik false 2 SRC.aa) (ak (sV 0) (ak (sI 6) bw))) bw)) t1 (K51.a05 SRC.aa) [0,1]) [some (.ref 0),some T.d,some (STM.sD re)] [o1]=.ok (.rol (ones t)) [u']:=by
    refine b0w rfl ?_ (gj λl _=>fu _) (ajw P5.clo);unfold mq sRg;rw[arg1 (wg (bj rfl) ckk c2),di,a98 _ (g8 (by omega)),di]
    dsimp only;rw[aT (by rw[ay,aZ];exact g8 (by omega)),em]
    rfl
   refine⟨t,u',fin (P5.up (by omega)) ?_,P5.up (by omega),tt,by rw[bK];omega⟩
   unfold K51.jq;rw[dm];show toR (K51.uy SRC.aa [some (.ref 0),some T.d,some (STM.sD re)] [o])=_;unfold K51.uy;refine eti (t2s (wg (bj rfl) ckk c1) ckk (azb hz)) ?_;exact aw (aP toR (u9 (awo (z:=S []) ckk (arg1 cz) (aca (by omega))))) rfl
  ·rintro pre i post ys h' all ⟨u,t,rfl,Pu,rfl,tl,tt⟩
   rw[cE]at all;have hi:=(p7 all).1 ▸ (p7 all).2;obtain⟨x,u',e5,x0,x1,P5⟩:=SRC.ju (m:=(T.tg.length:Nat)) Pu (by omega) (by omega) (by omega)
   obtain⟨j,rfl⟩:=aU x0;have hj:j<T.tg.length:=by omega
   have c5:ik false 2 SRC.aa [.ref 0,.int (T.tg.length:Nat)] [u]=.ok (.int (j:Nat)) [u']:=e5 0 _ rfl;refine⟨.str (S [T.tg[j]]),[u'],?_,u',t++[T.tg[j]],rfl,by rw[ai,aI];exact P5,by simp[ones],by rw[ai,ai,tl];rfl,λq hq=>?_⟩
   ·rw[vz];exact qm (a1u rfl (K21.ar9 _)) (wg (bj rfl) (ye (a1u rfl (K21.ar9 _)) (a6w (g8 (by omega)))) c5) (as7 (g8 (by omega)) (af hj))
   ·rcases aS.mp hq with h|h
    ·exact tt q h
    ·rw[ar]at h;subst h;exact bF hj
end
end K51
namespace K51
open L2 MI AT HND K23 K21 STM
open RCH
open K22 hiding hp
theorem ao7{T:Table}{x:List Nat}:∀{n s:Nat} {acc:List Pc},x.length+1<=n+s->s<=x.length->(rn T x true n s acc).2.1≠.op
 |0,s,acc,h,hs=>by omega
 |n+1,s,acc,h,hs=>by
  by_cases lt:s<x.length
  ·obtain⟨g,b,r,ha⟩:∃g b r,STM.al T 0 none s (x.drop s)=(g,b,r):=⟨_,_,_,rfl⟩
   cases b with
   |none=>rw[a72 lt ha (.inr rfl)];exact λz=>by cases z
   |some q =>
    obtain⟨b1,b2⟩:=aas ha hs;rw[a5a lt ha (.inr rfl)];exact ao7 (by omega) b2
  ·rw[adk lt];exact λz=>by cases z
structure Rc where
 i:Nat
 rd:Nat
 T:Table
 x:List Nat
 re:List Nat
 acc:List Pc
 p:Ph
 s:Nat
 a:Nat
 r:Nat
 b:Bst
 e:Bool
abbrev Rc.l(q:Rc):List D:=[.ref q.rd,q.T.d,.rol (hpD q.T),STM.sD q.re,STM.sD q.x,cj q.acc.length,.bl q.e]
abbrev Rc.ob(q:Rc):O:=Ob q.T q.p q.s q.x.length q.a q.r q.b (STM.tl q.x q.b)
structure Rc.Ok (q:Rc) (m:Nat):Prop where
 ok:q.T.Ok
 rn:STM.rn q.T q.x q.e (q.x.length+1) 0 []=(q.acc,q.p,q.s,q.r,q.b)
 op:q.p=.op->q.e=false/\St q.T q.x q.acc q.p q.s q.a q.r q.b
 xt:∀c∈q.x,c∈q.T.tg
 rt:∀c∈q.re,c∈q.T.tg
 ln:q.x.length+q.re.length<=80+5*m
theorem Rc.Ok.up{q:Rc}(k:q.Ok m)(h:m<=n):q.Ok n:=⟨k.ok,k.rn,k.op,k.xt,k.rt,by have:=k.ln;omega⟩
theorem obE{T:Table}{p:Ph}{s f a r:Nat}{b:Bst}{w:List Nat}{n:Nat}:vy n (Ob T p s f a r b w):=jm (aW _) ut
structure At (h:Hd) (q:Rc):Prop where
 i:h[q.i]? = some (.lst q.l)
 rd:h[q.rd]? = some q.ob
theorem a3a{h:Hd}{k:Nat}{o:O}(e:h[k]? = some o):k<h.length:=(ag.mp e).1
theorem ajx{q:Rc}(h:q.rd<n):vy n (.lst q.l):=by
 show clos n q.l;exact bf (show q.rd<n from h) (bf (a7b (aW _) Table.clo) (bf (km (a2c _)) (bf (fu _) (bf (fu _) (bf (dh _) (bf (zj _) jy))))))
theorem ktA{k:SGs}{L:List D}(e:h[i]? = some (.lst L))(hl:L.length=n):ade n k (.ref i) τ h=k L τ h:=by
 have:yc (.ref i) h=some L:=by unfold yc;simp only[e]
 simp only[ade,this,hl,de]
noncomputable def n8:SF:=m8 (K51.a6e STM.kj STM.nu SRC.aa K51.jq STM.qe STM.ig) 12
structure Dn2 (h h':Hd) (q q':Rc):Prop where
 len:h'.length=h.length+1
 i:q'.i=q.i
 rd:q'.rd=q.rd
 at_:At h' q'
 oth:∀k,k≠0->k≠q.i->k≠q.rd->k<h.length->h'[k]? = h[k]?
 cl:∀o∈h',vy h'.length o
theorem zc{h:Hd}{k m:Nat}{o:O}(e:k≠m):(h.set k o)[m]? = h[m]?:=cw e
theorem a3b{h l:Hd}{m:Nat}(e:m<h.length):(h++l)[m]? = h[m]?:=aM e
theorem ajy{q q':Rc}{u:O}{tl:Hd}{ps:List Pc}{m:Nat}(k:q.Ok m)(rn':STM.rn q'.T q'.x q'.e (q'.x.length+1) 0 []=(q'.acc,q'.p,q'.s,q'.r,q'.b))(eT:q'.T=q.T)(ea:q'.acc=q.acc++ps)(ei:q'.i=q.i)(erd:q'.rd=q.rd)(xt':∀c∈q'.x,c∈q'.T.tg)(xl':q'.x.length<=300)(pl:ps.length<=300)
  (A:At (u::tl) q) (i0:q.i≠0) (r0:q.rd≠0) (ir:q.i≠q.rd) (cl:∀o∈u::tl,vy (u::tl).length o) {t10:Option D} {t2 t5 t6 t8:Option D} :
  ∃(h':Hd) ,toR (dw (m7 11 (sA (ik false 4 STM.ig) (ak (sV 3) (ak (sV 4) (ak (s2 gIx (sV 1) (sI 4)) (ak (s2 gIx (sV 1) (sI 6)) bw))))))
   (dw (sIf (a6o (a4f (sA (ik false 2 STM.qe) (ak (sV 9) (ak (sZ (a3l (s2 gIx (sV 11) (sI 0)) (oS (sV 7)) oN)) bw))))) aaw sNx)
   (dw (a6s (sA uf (ak (s2 gIx (sV 11) (sI 0)) bw)) (sV 1) (sI 5))
   (dw (ue (sML a5k (sV 9) (ak (sA a1c (ak (sI 1) (ak (sI 1) (ak (sI 1) bw)))) bw)))
   (uo (sC (.bl true)))))) [some (.ref 0),some (.ref q.i),t2,some q.T.d,some (.rol (hpD q.T)),t5,t6,some (cj q.acc.length),t8,some (.ref (u::tl).length),t10,none] (((u::tl).set q.rd q'.ob++[tD ps]).set q.i (.lst [.ref q.rd,q.T.d,.rol (hpD q.T),STM.sD q'.re,STM.sD q'.x,cj q.acc.length,.bl q'.e])))=.ok (.bl true) h'/\Dn2 (u::tl) h' q q'/\h'[0]? = some u:=by
 let h:Hd:=u::tl
 let n:=h.length
 let L:List D:=[.ref q.rd,q.T.d,.rol (hpD q.T),STM.sD q'.re,STM.sD q'.x,cj q.acc.length,.bl q'.e]
 have il:q.i<n:=a3a A.i;have rl:q.rd<n:=a3a A.rd
 let H1:Hd:=(h.set q.rd q'.ob++[tD ps]).set q.i (.lst L)
 have l1:H1.length=n+1:=by simp[H1,n]
 have g1:H1[q.i]? = some (.lst L):=by
  show((h.set q.rd q'.ob++[tD ps]).set q.i (.lst L))[q.i]? = _;rw[bE (by simp;omega)]
 have gn:H1[n]? = some (tD ps):=by
  show((h.set q.rd q'.ob++[tD ps]).set q.i (.lst L))[n]? = _;rw[zc (by omega),aN (by simp[n]),show n-(h.set q.rd q'.ob).length=0 by simp[n]];rfl
 have gr:H1[q.rd]? = some q'.ob:=by
  show((h.set q.rd q'.ob++[tD ps]).set q.i (.lst L))[q.rd]? = _;rw[zc ir,a3b (by simpa using rl),bE rl]
 have go:∀k,k≠q.i->k≠q.rd->k<n->H1[k]? = h[k]?:=λk k1 k2 k3=>by
  show((h.set q.rd q'.ob++[tD ps]).set q.i (.lst L))[k]? = _;rw[zc (dG k1),a3b (by simpa using k3),zc (dG k2)]
 let Q:Res:=(q'.acc,q'.p,q'.s,q'.r,q'.b)
 have c1:∀hh:Hd,ik false 4 STM.ig [q.T.d,.rol (hpD q.T),STM.sD q'.x,.bl q'.e] hh=.ok (rsD Q) hh:=λhh=>by
  have:=ao5 (eT ▸ k.ok:q'.T.Ok) xt' (by omega) q'.e hh
  rw[rn',eT]at this;exact this
 have cH1:∀o∈H1,vy H1.length o:=by
  rw[l1]
  intro o ho
  rcases bJ ho with z|z
  ·rcases aS.mp z with z|z
   ·rcases bJ z with z|z
    ·exact jm (gC _) (cl o z)
    ·subst z;exact obE
   ·rw[ar]at z;subst z;exact jm (aW _) (a6i ps)
  ·subst z;show clos (n+1) L;exact bf (show q.rd<n+1 by omega) (bf (a7b (aW _) Table.clo) (bf (km (a2c _)) (bf (fu _) (bf (fu _) (bf (dh _) (bf (zj _) jy))))))
 have sl':∀{τ:Sd},τ[11]? = some (some (rsD Q))->τ[7]? = some (some (cj q.acc.length))->sZ (a3l (s2 gIx (sV 11) (sI 0)) (oS (sV 7)) oN) τ H1=.ok (.rol (ps.map K35.pcD)) H1:=λh9 h7=>by
  have e:(q'.acc.map K35.pcD).drop q.acc.length=ps.map K35.pcD:=by rw[ea,bB,List.drop_left' (by simp)]
  exact a4j ((PAP.ak5 (qm (bj h9) ckk (a8r (j:=0) rfl)) (PAP.ak4 (bj h7)) rfl (ax4 _ _)).trans (by rw[e])) (K35.a3y _ _) cH1
 have c2:ik false 2 STM.qe [.ref n,.rol (ps.map K35.pcD)] H1=.ok (.bl true) H1:=(STM.ajl ps (by omega) n H1 gn).trans (by rw[a7n gn])
 let L2:List D:=[.ref q.rd,q.T.d,.rol (hpD q.T),STM.sD q'.re,STM.sD q'.x,cj q'.acc.length,.bl q'.e]
 have p5:put (.ref q.i) (.int 5) (cj (q'.acc.map K35.pcD).length) H1=some (H1.set q.i (.lst L2)):=by
  exact(abw (j:=5) (v:=cj (q'.acc.map K35.pcD).length) g1 (by show 5<7;omega)).trans (by rw[ay];rfl)
 let H2:Hd:=H1.set q.i (.lst L2)
 have gn2:H2[n]? = some (.lst (ps.map K35.pcD)):=by show(H1.set q.i (.lst L2))[n]? = _;rw[zc (by omega)];exact gn
 let H3:Hd:=H2.set n (.lst (ps.map K35.pcD++[.tup [.int 1,.int 1,.int 1]]))
 have l3:H3.length=n+1:=by simp[H3,H2,l1]
 have g3:∀k,k≠n->k≠q.i->H3[k]? = H1[k]?:=λk k1 k2=>by
  show((H1.set q.i (.lst L2)).set n _)[k]? = _;rw[zc (dG k1),zc (dG k2)]
 have n0:0<n:=fz _;refine⟨H3,?_,⟨l3,ei,erd,⟨?_,?_⟩,λk k0 k1 k2 k3=>(g3 k (bN k3) k1).trans (go k k1 k2 k3),?_⟩,(g3 0 (bN n0) (dG i0)).trans ((go 0 (dG i0) (dG r0) n0).trans rfl)⟩
 ·refine ets (EVX.axu (bj rfl) (bj rfl) (a1u rfl (v7 (j:=4) g1 rfl)) (a1u rfl (v7 (j:=6) g1 rfl)) (c1 _)) ?_;refine eti (aep (a03 (wg (bj rfl) (sl' rfl rfl) c2) (qj _))) ?_;refine etr (jj (a8q (ye (a1u rfl (a8r (j:=0) rfl)) a3t) (bj rfl) ckk p5)) ?_;refine etr (jj (a0g (bj rfl) (ail gn2) (arg1 (aga ckk ckk ckk asa)) (a1i gn2 (by rw[ay];exact a0w (by omega))))) ?_
  exact aw (aP toR (u9 ckk)) rfl
 ·show H3[q'.i]? = some (.lst q'.l);rw[ei];show((H1.set q.i (.lst L2)).set n _)[q.i]? = _;rw[zc (by omega),bE (by omega)]
  show some (O.lst [.ref q.rd,q.T.d,.rol (hpD q.T),STM.sD q'.re,STM.sD q'.x,cj q'.acc.length,.bl q'.e])=some (.lst [.ref q'.rd,q'.T.d,.rol (hpD q'.T),STM.sD q'.re,STM.sD q'.x,cj q'.acc.length,.bl q'.e]);rw[erd,eT]
 ·rw[erd];exact(g3 q.rd (by omega) (dG ir)).trans gr
 ·rw[l3]
  intro o ho
  rcases bJ ho with z|z
  ·rcases bJ z with z|z
   ·rw[<-l1];exact cH1 o z
   ·subst z;show clos (n+1) L2;exact bf (show q.rd<n+1 by omega) (bf (a7b (aW _) Table.clo) (bf (km (a2c _)) (bf (fu _) (bf (fu _) (bf (dh _) (bf (zj _) jy))))))
  ·subst z;show clos (n+1) (ps.map K35.pcD++[K35.pcD (1,1,1)]);exact xj.mpr λd hd=>(aS.mp hd).elim (xj.mp (K35.a3y _ ps) d) λw=>by rw[ar]at w;subst w;exact qx (bf (dh _) (bf (dh _) (bf (dh _) jy)))
end K51
namespace K51
open L2 MI AT HND K23 K21 STM
open RCH
open K22 hiding hp
theorem set_set{h:Hd}{k:Nat}{a b:O}:(h.set k a).set k b=h.set k b:=List.set_set ..
theorem axb{q:Rc}{u:O}{tl:Hd}{m:Nat}(k:q.Ok m)(hm:m<30)(hp':q.p=.op)(A:At (u::tl) q)(i0:q.i≠0)(r0:q.rd≠0)(ir:q.i≠q.rd)(cl:∀o∈u::tl,vy (u::tl).length o)(P:SRC.Src u N)(hN:N<=999000000) :
  ∃(u':O) (tl':Hd) (q':Rc),K51.n8 [.ref 0,.ref q.i] (u::tl)=.ok (.bl true) (u'::tl')/\SRC.Src u' (N+20)/\Dn2 (u::tl) (u'::tl') q q'/\q'.Ok (m+1):=by
 obtain⟨e0,st⟩:=k.op hp';obtain⟨aL,v⟩:=st.op hp';have ln:=k.ln;obtain⟨z,u1,e1,z0,z1,P1⟩:=SRC.ju (m:=9) P (by omega) (by omega) (by omega)
 have c1:ik false 2 SRC.aa [.ref 0,.int 9] (u::tl)=.ok (.int z) (u1::tl):=e1 0 _ rfl;have up0:∀{u':O} {k:Nat} {o:O},k≠0->(u::tl)[k]? = some o->(u'::tl)[k]? = some o:=λ{u'} {k} {o} k0 e=>by
  cases k with
  |zero=>exact absurd rfl k0
  |succ k=>exact e
 have upA:∀u':O,At (u'::tl) q:=λu'=>⟨up0 i0 A.i,up0 r0 A.rd⟩;have upc:∀{u':O} {M:Nat},SRC.Src u' M->∀o∈u'::tl,vy (u'::tl).length o:=λ{u'} {M} Q o ho=>by
  rcases aR.mp ho with w|w
  ·subst w;exact jm (aW _) Q.clo
  ·exact cl o (ba _ w)
 have fin:∀{u':O} {h':Hd} {q':Rc},Dn2 (u'::tl) h' q q'->h'[0]? = some u'->∃tl',h'=u'::tl'/\Dn2 (u::tl) (u'::tl') q q':=λ{u'} {h'} {q'} d e=>by
  cases h' with
  |nil=>cases e
  |cons w tl' =>
   cases e
   refine⟨tl',rfl,d.len,d.i,d.rd,d.at_,λk k0 k1 k2 k3=>?_,d.cl⟩;rw[d.oth k k0 k1 k2 k3]
   cases k with
   |zero=>exact absurd rfl k0
   |succ k=>rfl
 have il:q.i<(u::tl).length:=a3a A.i;have rl:q.rd<(u::tl).length:=a3a A.rd;have start:∀{r:R D},toR (dw (sIf (sT (s2 hEq (sA (ik false 2 SRC.aa) (ak (sV 0) (ak (sI 9) bw))) (sI 0)))
   (dw (m7 9 (sMe true "Stream" "close" 1 STM.kj (sV 2) bw)) (a6s (sC (.bl true)) (sV 1) (sI 6)))
   (dw (m7 10 (sA (ik false 3 K51.jq) (ak (sV 0) (ak (sV 3) (ak (sV 5) bw)))))
    (dw (m7 9 (sMe true "Stream" "feed" 2 STM.nu (sV 2) (ak (sV 10) bw)))
    (dw (a6s (a3l (sV 5) (oS (sA uf (ak (sV 10) bw))) oN) (sV 1) (sI 3)) (a6s (s2 my (sV 6) (sV 10)) (sV 1) (sI 4))))))
   (dw (m7 11 (sA (ik false 4 STM.ig) (ak (sV 3) (ak (sV 4) (ak (s2 gIx (sV 1) (sI 4)) (ak (s2 gIx (sV 1) (sI 6)) bw))))))
   (dw (sIf (a6o (a4f (sA (ik false 2 STM.qe) (ak (sV 9) (ak (sZ (a3l (s2 gIx (sV 11) (sI 0)) (oS (sV 7)) oN)) bw))))) aaw sNx)
   (dw (a6s (sA uf (ak (s2 gIx (sV 11) (sI 0)) bw)) (sV 1) (sI 5))
   (dw (ue (sML a5k (sV 9) (ak (sA a1c (ak (sI 1) (ak (sI 1) (ak (sI 1) bw)))) bw)))
   (uo (sC (.bl true))))))) [some (.ref 0),some (.ref q.i),some (.ref q.rd),some q.T.d,some (.rol (hpD q.T)),some (STM.sD q.re),some (STM.sD q.x),some (cj q.acc.length),some (.bl q.e),none,none,none] (u::tl))=r->K51.n8 [.ref 0,.ref q.i] (u::tl)=r:=λe=>by
  unfold K51.n8;rw[dm];show toR (K51.a6e STM.kj STM.nu SRC.aa K51.jq STM.qe STM.ig [some (.ref 0),some (.ref q.i),none,none,none,none,none,none,none,none,none,none] (u::tl))=_;unfold K51.a6e;exact aw (aP toR (jj (a6y (bj rfl) ((ktA A.i rfl).trans rfl)))) e
 have obq:q.ob=Ob q.T .op q.s q.x.length q.x.length q.r q.b (STM.tl q.x q.b):=by show Ob _ q.p _ _ q.a _ _ _=_;rw[hp',aL]
 have st0:St q.T q.x q.acc .op q.s q.a q.r q.b:=hp' ▸ st
 by_cases hz:z=0
 ·obtain⟨ps,p2,s2',ac,tel,er,pl⟩:=st0.close k.ok k.xt (by omega)
  have nw:=tel.nw (n:=1) rfl a1a ut ut
  let q':Rc:={q with acc:=q.acc++ps,p:=p2,s:=s2',a:=ac,r:=0,b:=none,e:=true}
  have hrd:(u1::tl)[q.rd]? = some (Ob q.T .op q.s q.x.length q.x.length q.r q.b (STM.tl q.x q.b)):=by rw[<-obq];exact(upA u1).rd
  have d1:ik true 1 STM.kj [.ref q.rd] (u1::tl)=.ok (.ref (u1::tl).length) ((u1::tl).set q.rd q'.ob++[tD ps]):=nw q.rd _ hrd;have gi:((u1::tl).set q.rd q'.ob++[tD ps])[q.i]? = some (.lst q.l):=by rw[a3b (by simpa using il),zc (dG ir)];exact(upA u1).i
  obtain⟨h',eh,dd,h0⟩:=ajy (q':=q') (ps:=ps) k er rfl rfl rfl rfl k.xt (by show q.x.length<=300;omega) pl (upA u1) i0 r0 ir (upc P1) (t2:=some (.ref q.rd)) (t5:=some (STM.sD q.re)) (t6:=some (STM.sD q.x)) (t8:=some (.bl q.e)) (t10:=none)
  obtain⟨tl',rfl,dd2⟩:=fin dd h0;have ne:=ao7 (T:=q.T) (x:=q.x) (n:=q.x.length+1) (s:=0) (acc:=[]) (by omega) (by omega)
  rw[er]at ne;refine⟨u1,tl',q',start ?_,P1.up (by omega),dd2,⟨k.ok,er,λw=>absurd w ne,k.xt,k.rt,by show q.x.length+q.re.length<=_;omega⟩⟩
  refine etr (jj (aw (ifT (t2s (wg (bj rfl) ckk c1) ckk (a5t hz))) (aw (o6 (a7d (bj rfl) (ug hrd rfl) rfl d1)) (a8q ckk (bj rfl) ckk (abw (j:=6) gi (by show 6<7;omega)))))) ?_
  exact eh
 ·obtain⟨l,u2,ep,P2,lt,ll⟩:=arv k.ok k.rt (by omega) P1 (by omega)
  have c2:ik false 3 K51.jq [.ref 0,q.T.d,STM.sD q.re] (u1::tl)=.ok (STM.sD l) (u2::tl):=ep 0 _ rfl;have xlt:∀c∈q.x++l,c∈q.T.tg:=λc hc=>(aS.mp hc).elim (k.xt c) (lt c);have dl:(q.re.drop l.length).length=q.re.length-l.length:=bK;have xl3:(q.x++l).length<=300:=by rw[ai];omega
  obtain⟨ps,p2,s2',ac,r2,b2,tel,st2,pl⟩:=st0.feed k.ok xlt xl3;have nw:=tel.nw (n:=2) rfl (a2d (fu _)) ut ut
  let q':Rc:={q with x:=q.x++l,re:=q.re.drop l.length,acc:=q.acc++ps,p:=p2,s:=s2',a:=ac,r:=r2,b:=b2,e:=false}
  have hrd:(u2::tl)[q.rd]? = some (Ob q.T .op q.s q.x.length q.x.length q.r q.b (STM.tl q.x q.b)):=by rw[<-obq];exact(upA u2).rd
  have d1:ik true 2 STM.nu [.ref q.rd,STM.sD l] (u2::tl)=.ok (.ref (u2::tl).length) ((u2::tl).set q.rd q'.ob++[tD ps]):=nw q.rd _ hrd
  let H0:Hd:=(u2::tl).set q.rd q'.ob++[tD ps]
  have gi:H0[q.i]? = some (.lst q.l):=by show((u2::tl).set q.rd q'.ob++[tD ps])[q.i]? = _;rw[a3b (by simpa using il),zc (dG ir)];exact(upA u2).i
  have iH:q.i<H0.length:=a3a gi;have gi2:(H0.set q.i (.lst (q.l.set 3 (STM.sD (q.re.drop l.length)))))[q.i]? = some (.lst (q.l.set 3 (STM.sD (q.re.drop l.length)))):=bE iH;obtain⟨h',eh,dd,h0⟩:=ajy (q':=q') (ps:=ps) k st2.rn rfl rfl rfl rfl xlt xl3 pl (upA u2) i0 r0 ir (upc P2) (t2:=some (.ref q.rd)) (t5:=some (STM.sD q.re)) (t6:=some (STM.sD q.x)) (t8:=some (.bl q.e)) (t10:=some (STM.sD l));obtain⟨tl',rfl,dd2⟩:=fin dd h0;refine⟨u2,tl',q',start ?_,P2.up (by omega),dd2,⟨k.ok,st2.rn,λw=>⟨rfl,st2⟩,xlt,λc hc=>k.rt c (List.mem_of_mem_drop hc),by show(q.x++l).length+(q.re.drop l.length).length<=_;rw[ai];omega⟩⟩
  have l300:l.length<=300:=by rw[ai]at xl3;omega
  have xl4:q.x.length+l.length<=300:=by rw[<-ai];exact xl3
  refine etr (jj (aw (ifF (t2s (wg (bj rfl) ckk c1) ckk (a6z hz))) (aw (o6 (aga (bj rfl) (bj rfl) (bj rfl) c2)) (aw (o6 (a7d (bj rfl) (ug hrd rfl) (arg1 (bj rfl)) d1)) (aw (jj (a8q (PAP.ak5 (bj rfl) (PAP.ak4 (ye (bj rfl) (a6w (g8 (by omega))))) rfl (aem l.length (g8 (by omega)))) (bj rfl) ckk (abw (j:=3) gi (by show 3<7;omega)))) (a8q (qm (bj rfl) (bj rfl) (abu (g8 (by omega)))) (bj rfl) ckk (abw (j:=4) gi2 (by show 4<7;omega)))))))) ?_
  rw[set_set];have eL:((q.l.set 3 (STM.sD (q.re.drop l.length))).set 4 (STM.sD (q.x++l)))=[.ref q.rd,q.T.d,.rol (hpD q.T),STM.sD q'.re,STM.sD q'.x,cj q.acc.length,.bl q'.e]:=by
   show[D.ref q.rd,q.T.d,.rol (hpD q.T),STM.sD (q.re.drop l.length),STM.sD (q.x++l),cj q.acc.length,.bl q.e]=[D.ref q.rd,q.T.d,.rol (hpD q.T),STM.sD (q.re.drop l.length),STM.sD (q.x++l),cj q.acc.length,.bl false];rw[e0]
  rw[eL];exact eh
end K51
namespace K51
open L2 MI AT HND K23 K21 STM
open RCH
open K22 hiding hp
abbrev keys(qs:List Rc):List Nat:=qs.flatMap λq=>[q.i,q.rd]
structure Al (h:Hd) (qs:List Rc) (m:Nat):Prop where
 some:h[1]? = some (.lst (qs.map λq=>.ref q.i))
 at_:∀q∈qs,At h q
 nd:(keys qs).Nodup
 ge:∀k∈keys qs,2<=k
 ok:∀q∈qs,q.Ok m
 cl:∀o∈h,vy h.length o
theorem Al.up(A:Al h qs m)(e:m<=n):Al h qs n:=⟨A.some,A.at_,A.nd,A.ge,λq hq=>(A.ok q hq).up e,A.cl⟩
theorem ajz{qs:List Rc}{q:Rc}(hq:q∈qs):q.i∈keys qs:=dY.mpr ⟨q,hq,by simp⟩
theorem ach{qs:List Rc}{q:Rc}(hq:q∈qs):q.rd∈keys qs:=dY.mpr ⟨q,hq,by simp⟩
theorem arw(A:Al h qs m):∀k∈keys qs,k<h.length:=λk hk=>by
 obtain⟨q,hq,hk⟩:=dY.mp hk;simp only[aR,bo,cF]at hk
 rcases hk with rfl|rfl
 ·exact a3a (A.at_ q hq).i
 ·exact a3a (A.at_ q hq).rd
theorem Al.src{u u':O}{tl:Hd}(A:Al (u::tl) qs m)(P:SRC.Src u' N):Al (u'::tl) qs m:=by
 have ne:∀{k:Nat} {o:O},2<=k->(u::tl)[k]? = Option.some o->(u'::tl)[k]? = Option.some o:=λ{k} {o} hk e=>by
  cases k with
  |zero=>omega
  |succ k=>exact e
 refine⟨A.some,λq hq=>⟨ne (A.ge _ (ajz hq)) (A.at_ q hq).i,ne (A.ge _ (ach hq)) (A.at_ q hq).rd⟩,A.nd,A.ge,A.ok,λo ho=>?_⟩
 rcases aR.mp ho with z|z
 ·subst z;exact jm (aW _) P.clo
 ·exact A.cl o (ba _ z)
theorem Al.upd{B C:List Rc}{q q':Rc}(A:Al h (B++q::C) m)(d:Dn2 h h' q q')(k:q'.Ok n)(e:m<=n):Al h' (B++q'::C) n:=by
 have kk:keys (B++q'::C)=keys (B++q::C):=by simp[keys,d.i,d.rd]
 have hq:q∈B++q::C:=by simp
 have dis:∀p∈B++C,∀x∈[p.i,p.rd],x≠q.i/\x≠q.rd:=λp hp x hx=>by
  have nd:=A.nd
  rcases aS.mp hp with z|z
  ·rw[show keys (B++q::C)=keys B++([q.i,q.rd]++keys C) by simp[keys]]at nd
   have h1:=(bM.mp nd).2.2 x (dY.mpr ⟨p,z,hx⟩);exact⟨h1 q.i (by simp),h1 q.rd (by simp)⟩
  ·rw[show keys (B++q::C)=keys B++([q.i,q.rd]++keys C) by simp[keys]]at nd
   have h2:=(bM.mp (bM.mp nd).2.1).2.2;exact⟨λw=>h2 q.i (by simp) x (dY.mpr ⟨p,z,hx⟩) w.symm,λw=>h2 q.rd (by simp) x (dY.mpr ⟨p,z,hx⟩) w.symm⟩
 have old:∀p∈B++C,At h' p:=λp hp=>by
  have hp2:p∈B++q::C:=by rcases aS.mp hp with z|z<;>simp[z]
  obtain⟨a1,a2⟩:=A.at_ p hp2;have k1:=A.ge _ (ajz hp2);have k2:=A.ge _ (ach hp2);obtain⟨d1,d2⟩:=dis p hp p.i (by simp)
  obtain⟨d3,d4⟩:=dis p hp p.rd (by simp)
  exact⟨by rw[d.oth _ (by omega) d1 d2 (a3a a1)];exact a1,by rw[d.oth _ (by omega) d3 d4 (a3a a2)];exact a2⟩
 have gi:=A.ge _ (ajz hq);have gr:=A.ge _ (ach hq);refine⟨?_,λp hp=>?_,by rw[kk];exact A.nd,by rw[kk];exact A.ge,λp hp=>?_,d.cl⟩
 ·rw[d.oth 1 (by omega) (by omega) (by omega) (a3a A.some),A.some]
  simp[d.i]
 ·rcases aS.mp hp with z|z
  ·exact old p (cq _ z)
  ·rcases aR.mp z with z|z
   ·subst z;exact d.at_
   ·exact old p (bW _ z)
 ·rcases aS.mp hp with z|z
  ·exact(A.ok p (by simp[z])).up e
  ·rcases aR.mp z with z|z
   ·subst z;exact k
   ·exact(A.ok p (by simp[z])).up e
theorem Al.add{h mid:Hd}{qs:List Rc}{q:Rc}(A:Al h qs m)(l1:h.length<=q.i)(l2:h.length<=q.rd)(ne:q.i≠q.rd)(e:At (h++mid) q)(k:q.Ok m)(cm:∀o∈mid,vy (h++mid).length o):Al ((h++mid).set 1 (.lst ((qs.map λq=>.ref q.i)++[.ref q.i]))) (qs++[q]) m:=by
 have h1:=a3a A.some;have g2:∀k∈keys qs,2<=k:=A.ge;refine⟨?_,λp hp=>?_,?_,?_,λp hp=>?_,λo ho=>?_⟩
 ·rw[bE (by rw[ai];omega),bB];rfl
 ·rcases aS.mp hp with z|z
  ·obtain⟨a1,a2⟩:=A.at_ p z;have k1:=A.ge _ (ajz z);have k2:=A.ge _ (ach z);exact⟨by rw[zc (by omega),a3b (a3a a1)];exact a1,by rw[zc (by omega),a3b (a3a a2)];exact a2⟩
  ·rw[ar]at z;subst z;exact⟨by rw[zc (by omega)];exact e.i,by rw[zc (by omega)];exact e.rd⟩
 ·rw[show keys (qs++[q])=keys qs++[q.i,q.rd] by simp[keys],bM]
  refine⟨A.nd,by simp[ne],λa ha b hb=>?_⟩
  have:=arw A a ha
  simp only[aR,bo,cF]at hb
  rcases hb with rfl|rfl<;>omega
 ·intro x hx
  rw[show keys (qs++[q])=keys qs++[q.i,q.rd] by simp[keys]]at hx
  rcases aS.mp hx with z|z
  ·exact A.ge x z
  ·simp only[aR,bo,cF]at z
   rcases z with rfl|rfl<;>omega
 ·rcases aS.mp hp with z|z
  ·exact A.ok p z
  ·rw[ar]at z;subst z;exact k
 ·rw[cG]
  rcases bJ ho with z|z
  ·rcases aS.mp z with z|z
   ·exact jm (by rw[ai];omega) (A.cl o z)
   ·exact cm o z
  ·subst z;show clos _ ((qs.map λq=>D.ref q.i)++[.ref q.i]);refine xj.mpr λd hd=>?_
   rcases aS.mp hd with w|w
   ·obtain⟨p,hp,rfl⟩:=bX.mp w;show p.i<_;have:=a3a (A.at_ p hp).i;rw[ai];omega
   ·rw[ar]at w;subst w;exact a3a e.i
theorem aci{q:Rc}(k:q.Ok m)(hm:m<=30)(A:At h q){τ:Sd}(h6:τ[6]? = some (some (.ref q.i))):sA (ik false 3 STM.dq) (ak (s2 gIx (sV 6) (sI 0)) (ak (sA (ik false 4 STM.ig) (ak (s2 gIx (sV 6) (sI 1)) (ak (s2 gIx (sV 6) (sI 2)) (ak (s2 gIx (sV 6) (sI 4)) (ak (s2 gIx (sV 6) (sI 6)) bw))))) (ak (s2 gIx (sV 6) (sI 4)) bw))) τ h=.ok (.bl true) h:=by
 have ln:=k.ln;have c1:∀hh:Hd,ik false 4 STM.ig [q.T.d,.rol (hpD q.T),STM.sD q.x,.bl q.e] hh=.ok (rsD (q.acc,q.p,q.s,q.r,q.b)) hh:=λhh=>by
  have:=ao5 k.ok k.xt (by omega) q.e hh
  rw[k.rn]at this;exact this
 have c2:ik false 3 STM.dq [.ref q.rd,rsD (q.acc,q.p,q.s,q.r,q.b),STM.sD q.x] h=.ok (.bl true) h:=(ajn (T:=q.T) (x:=q.x) (by omega) (q:=(q.acc,q.p,q.s,q.r,q.b)) (s':=q.s) (a':=q.a) (r':=q.r) (b':=q.b) (λ_=>rfl) q.rd h A.rd).trans (by rw[a7n A.rd])
 exact aga (qm (bj h6) ckk (v7 (j:=0) A.i rfl)) (EVX.axu (qm (bj h6) ckk (v7 (j:=1) A.i rfl)) (qm (bj h6) ckk (v7 (j:=2) A.i rfl)) (qm (bj h6) ckk (v7 (j:=4) A.i rfl)) (qm (bj h6) ckk (v7 (j:=6) A.i rfl)) (c1 _)) (qm (bj h6) ckk (v7 (j:=4) A.i rfl)) c2
end K51
namespace K51
open L2 MI AT HND K23 K21 STM
open RCH
open K22 hiding hp
noncomputable abbrev L0:SS:=K51.aag STM.cu STM.ie STM.fj CAS.lz SRC.aa K51.n8 STM.jh STM.ig SRC.iz STM.dq
noncomputable abbrev L1:SS:=K51.aah STM.cu STM.ie STM.fj CAS.lz SRC.aa K51.n8 STM.jh STM.ig SRC.iz STM.dq
noncomputable abbrev L2':SS:=K51.aai STM.cu STM.ie STM.fj CAS.lz SRC.aa K51.n8 STM.jh STM.ig SRC.iz STM.dq
abbrev τ1(sc:D)(k t x o:Option D):Sd:=[some sc,some (.ref 0),some (.ref 1),k,t,x,o]
theorem gl7{ds:List D}{h:Hd}(z:ds.length<=100):MI.a3f ds h=.ok (.ref h.length) (h++[.lst ds]):=by unfold MI.a3f;rw[aT (g8 (by omega))]
theorem arx{sc:D}{u:O}{tl:Hd}{qs:List Rc}(A:Al (u::tl) qs 0)(ql:qs.length<=50)(P:SRC.Src u N)(hN:N<=999000000) :
  ∃(u':O) (tl':Hd) (q:Rc) (t' x':Option D),L0 (τ1 sc k t x o) (u::tl)=.nx (τ1 sc k t' x' o) (u'::tl')/\SRC.Src u' (N+1000)/\Al (u'::tl') (qs++[q]) 0:=by
 obtain⟨T,y,u1,ok,-,yl,yt,ec,P1⟩:=CAS.aru P hN;have c1:ik false 1 CAS.lz [.ref 0] (u::tl)=.ok (.tup [T.d,STM.sD y]) (u1::tl):=ec 0 _ rfl;have A1:=A.src P1
 let h:Hd:=u1::tl
 let n:=h.length
 let X:O:=Ob T .op 0 0 0 0 none []
 let q:Rc:=⟨n+1,n,T,[],y.take 80,[],.op,0,0,0,none,false⟩
 have c2:∀hh:Hd,ik false 1 STM.jh [T.d] hh=.ok (.rol (hpD T)) hh:=λhh=>STM.arn ok hh;have eA:At (h++[X,.lst q.l]) q:=⟨b11 _ _ _ _,azu _ _ _⟩;have hs:=azu h [.lst q.l] X;have some1:h[1]? = some (.lst (qs.map λq=>.ref q.i)):=A1.some;have l1:1<n:=a3a some1;have kq:q.Ok 0:=⟨ok,(St.zero ok).rn,λ_=>⟨rfl,St.zero ok⟩,(λc hc=>by cases hc),λc hc=>yt c (cT hc),by show 0+(y.take 80).length<=_;rw[bV];omega⟩
 have AA:=A1.add (q:=q) (mid:=[X,.lst q.l]) (by show n<=n+1;omega) (aJ n) (by show n+1≠n;omega) eA kq (λo ho=>by
  simp only[aR,bo,cF]at ho
  rcases ho with rfl|rfl
  ·exact obE
  ·exact ajx (a3a hs))
 have s1':(h++[X,.lst q.l])[1]? = some (.lst (qs.map λq=>.ref q.i)):=by rw[a3b l1];exact some1
 obtain⟨tl',etl⟩:∃tl',(h++[X,.lst q.l]).set 1 (.lst ((qs.map λq=>.ref q.i)++[.ref q.i]))=u1::tl':=⟨(tl++[X,.lst q.l]).set 0 (.lst ((qs.map λq=>.ref q.i)++[.ref q.i])),rfl⟩;rw[etl]at AA;refine⟨u1,tl',q,some T.d,some (STM.sD y),?_,P1,AA⟩;unfold L0 K51.aag;refine aw (jj (a6y (ye (bj rfl) c1) rfl)) ?_;have ev:sA MI.a3f (ak (sA (aby "Stream" 1 STM.fj) (ak (sV 4) bw)) (ak (sV 4) (ak (sA (ik false 1 STM.jh) (ak (sV 4) bw)) (ak (a3l (sV 5) oN (oS (sI 80))) (ak (sC (.str "")) (ak (sI 0) (ak (sC (.bl false)) bw))))))) (τ1 sc k (some T.d) (some (STM.sD y)) o) h=.ok (.ref (n+1)) (h++[X,.lst q.l]):=by
  refine(PAP.aof (cns (ye (bj rfl) (STM.aji ok _)) (cns (bj rfl) (cns (ye (bj rfl) (c2 _)) (cns (PAP.ak5 (bj rfl) rfl (PAP.ak4 ckk) (as8 80 (g8 (by omega)))) (cns ckk (cns ckk (cns ckk rfl))))))) (gl7 (by show 7<=100;omega))).trans ?_
  rw[ai,bO];rfl
 refine aw (a0g (bj rfl) (ail some1) (arg1 ev) (a1i s1' (by rw[ay];exact a0w (by omega)))) ?_
 rw[etl];rfl
theorem pick{u:O}{tl:Hd}{qs:List Rc}{m:Nat}(A:Al (u::tl) qs m)(q1:1<=qs.length)(ql:qs.length<=50)(P:SRC.Src u N)(hN:N<=999000000) :
  ∃(u':O) (B C:List Rc) (q:Rc),qs=B++q::C/\SRC.Src u' (N+1)/\Al (u'::tl) qs m/\∀{τ:Sd},τ[1]? = some (some (.ref 0))->τ[2]? = some (some (.ref 1))->s2 gIx (sV 2) (sA (ik false 2 SRC.aa) (ak (sV 1) (ak (sA uf (ak (sV 2) bw)) bw))) τ (u::tl)=.ok (.ref q.i) (u'::tl):=by
 obtain⟨z,u1,e1,z0,z1,P1⟩:=SRC.ju (m:=(qs.length:Nat)) P (by omega) (by omega) (by omega)
 obtain⟨z,rfl⟩:=aU z0;have zl:z<qs.length:=by omega
 have c1:ik false 2 SRC.aa [.ref 0,cj qs.length] (u::tl)=.ok (cj z) (u1::tl):=e1 0 _ rfl;have A1:=A.src P1;have lq:uf [.ref 1] (u::tl)=.ok (cj qs.length) (u::tl):=by rw[a0v A.some,ay]
 refine⟨u1,qs.take z,qs.drop (z+1),qs[z],by rw[<-dF zl,List.take_append_drop],P1,A1,λh1 h2=>?_⟩
 exact qm (bj h2) (wg (bj h1) (ye (bj h2) lq) c1) (v7 A1.some (by rw[aO,af zl];rfl))
theorem arz{sc:D}{u:O}{tl:Hd}{qs:List Rc}{m:Nat}(A:Al (u::tl) qs m)(hm:m<30)(q1:1<=qs.length)(ql:qs.length<=10)(P:SRC.Src u N)(hN:N<=998000000) :
  ∃(u':O) (tl':Hd) (qs':List Rc) (o':Option D),L1 (τ1 sc k t x o) (u::tl)=.nx (τ1 sc k t x o') (u'::tl')/\SRC.Src u' (N+30)/\Al (u'::tl') qs' (m+1)/\1<=qs'.length/\qs'.length<=10:=by
 obtain⟨u1,B,C,q,eq,P1,A1,ep⟩:=pick A q1 (by omega) P (by omega)
 have hq:q∈qs:=by rw[eq];simp
 have kq:=A1.ok q hq;have aq:=A1.at_ q hq;have gi:=A1.ge _ (ajz hq);have gr:=A1.ge _ (ach hq);have ir:q.i≠q.rd:=by
  have nd:=A1.nd;rw[eq,show keys (B++q::C)=keys B++([q.i,q.rd]++keys C) by simp[keys]]at nd
  have:=(bM.mp (bM.mp nd).2.1).1
  simp at this
  exact this
 obtain⟨u2,tl2,qs2,P2,A2,l1,l2,e2⟩:∃(u2:O) (tl2:Hd) (qs2:List Rc),SRC.Src u2 (N+25)/\Al (u2::tl2) qs2 (m+1)/\1<=qs2.length/\qs2.length<=10/\∀g:SS,dw (sIf (a6j (sT (s2 gLt (sA uf (ak (sV 2) bw)) (sI 10))) (sT (s2 hEq (sA (ik false 2 SRC.aa) (ak (sV 1) (ak (sI 6) bw))) (sI 0))))
   (ue (sML a5k (sV 2) (ak (s2 my (sA a3f (ak (sMe true "Stream" "twin" 1 STM.ie (s2 gIx (sV 6) (sI 0)) bw) bw)) (a3l (sV 6) (oS (sI 1)) oN)) bw)))
   (sIf (a6j (sT (s2 hEq (sMe false "Stream" "state" 1 STM.cu (s2 gIx (sV 6) (sI 0)) bw) (sC (.str "open")))) (a6o (a4f (sA (sN 2 K51.n8) (ak (sV 1) (ak (sV 6) bw)))))) aaw sNx)) g (τ1 sc k t x (some (.ref q.i))) (u1::tl)=g (τ1 sc k t x (some (.ref q.i))) (u2::tl2):=by
  have lq:∀{u:O},Al (u::tl) qs m->uf [.ref 1] (u::tl)=.ok (cj qs.length) (u::tl):=λA=>by rw[a0v A.some,ay]
  have fedp:∀{u3:O},SRC.Src u3 (N+2)->Al (u3::tl) qs m->∃(u2:O) (tl2:Hd) (qs2:List Rc),SRC.Src u2 (N+25)/\Al (u2::tl2) qs2 (m+1)/\1<=qs2.length/\qs2.length<=10/\sIf (a6j (sT (s2 hEq (sMe false "Stream" "state" 1 STM.cu (s2 gIx (sV 6) (sI 0)) bw) (sC (.str "open")))) (a6o (a4f (sA (sN 2 K51.n8) (ak (sV 1) (ak (sV 6) bw)))))) aaw sNx (τ1 sc k t x (some (.ref q.i))) (u3::tl)=.nx (τ1 sc k t x (some (.ref q.i))) (u2::tl2):=λ{u3} P3 A3=>by
   have a3:=A3.at_ q hq;have ms:ik false 1 STM.cu [.ref q.rd] (u3::tl)=.ok (.str (phS q.p)) (u3::tl):=(aez q.rd _ a3.rd).trans (by rw[a7n a3.rd])
   have me:sMe false "Stream" "state" 1 STM.cu (s2 gIx (sV 6) (sI 0)) bw (τ1 sc k t x (some (.ref q.i))) (u3::tl)=.ok (.str (phS q.p)) (u3::tl):=a7d (a1u rfl (v7 (j:=0) a3.i rfl)) (ug a3.rd rfl) rfl ms
   by_cases hp':q.p=.op
   ·obtain⟨u4,tl4,q',ef,P4,dd,k4⟩:=axb kq hm hp' a3 (by omega) (by omega) ir A3.cl P3 (by omega)
    have A4:Al (u4::tl4) (B++q'::C) (m+1):=Al.upd (eq ▸ A3) dd k4 (by omega)
    refine⟨u4,tl4,B++q'::C,P4.up (by omega),A4,by simp;omega,by rw[eq]at ql;simpa using ql,?_⟩
    exact ifF (abv (t2s me ckk (by rw[hp'];exact a4l .op _ true (by decide +kernel))) (aep (a03 (wg (bj rfl) (bj rfl) (aw (aT rfl) ef)) (qj _))))
   ·have pf:(phS q.p == ("open" : Str))=false:=by cases h:q.p<;>first|exact absurd h hp'|decide +kernel
    exact⟨u3,tl,qs,P3.up (by omega),A3.up (by omega),q1,ql,ifF (aik (t2s me ckk (a4l q.p _ false pf)))⟩
  by_cases h10:qs.length<10
  ·obtain⟨z,u3,e3,z0,z1,P3⟩:=SRC.ju (m:=6) P1 (by omega) (by omega) (by omega)
   have c3:ik false 2 SRC.aa [.ref 0,.int 6] (u1::tl)=.ok (.int z) (u3::tl):=e3 0 _ rfl;have A3:=A1.src P3;have a3:=A3.at_ q hq
   by_cases hz:z=0
   ·let h:Hd:=u3::tl
    let n:=h.length
    let X:O:=Ob q.T q.p q.s q.x.length q.x.length q.r q.b (STM.tl q.x q.b)
    let q':Rc:={q with i:=n+3,rd:=n,a:=q.x.length}
    let mid:Hd:=[X,.lst [.ref n],.lst (q.l.drop 1),.lst q'.l]
    have hrd:h[q.rd]? = some (Ob q.T q.p q.s q.x.length q.a q.r q.b (STM.tl q.x q.b)):=a3.rd;have hi:h[q.i]? = some (.lst q.l):=a3.i;have tw:ik true 1 STM.ie [.ref q.rd] h=.ok (.ref n) (h++[X]):=(aro kq.ok q.rd h hrd).trans (by rw[a7n hrd])
    have eA:At (h++mid) q':=⟨by show(h++mid)[n+3]? = _;simp[mid,n],azu _ _ _⟩
    have l1:1<n:=a3a A3.some;have kq':q'.Ok m:=⟨kq.ok,kq.rn,λw=>⟨(kq.op w).1,⟨(kq.op w).2.rn,λv=>⟨rfl,((kq.op w).2.op v).2⟩,(kq.op w).2.nc,(kq.op w).2.al⟩⟩,kq.xt,kq.rt,kq.ln⟩;have lm:(h++mid).length=n+4:=by simp[mid,n]
    have AA:=A3.add (q:=q') (mid:=mid) (by show n<=n+3;omega) (aJ n) (by show n+3≠n;omega) eA kq' (λo ho=>by
     rw[lm];simp only[mid,aR,bo,cF]at ho
     rcases ho with rfl|rfl|rfl|rfl
     ·exact obE
     ·show clos (n+4) [.ref n];exact bf (show n<n+4 by omega) jy
     ·show clos (n+4) [q.T.d,.rol (hpD q.T),STM.sD q.re,STM.sD q.x,cj q.acc.length,.bl q.e];exact bf (a7b (aW _) Table.clo) (bf (km (a2c _)) (bf (fu _) (bf (fu _) (bf (dh _) (bf (zj _) jy)))))
     ·exact ajx (show n<n+4 by omega))
    obtain⟨tl',etl⟩:∃tl',(h++mid).set 1 (.lst ((qs.map λq=>.ref q.i)++[.ref q'.i]))=u3::tl':=⟨(tl++mid).set 0 (.lst ((qs.map λq=>.ref q.i)++[.ref q'.i])),rfl⟩;rw[etl]at AA;refine⟨u3,tl',qs++[q'],P3.up (by omega),AA.up (by omega),by simp,by simp;omega,λg=>?_⟩
    have hi2:(h++[X,.lst [.ref n]])[q.i]? = some (.lst q.l):=by rw[a3b (a3a hi)];exact hi
    have f1:sA MI.a3f (ak (sMe true "Stream" "twin" 1 STM.ie (s2 gIx (sV 6) (sI 0)) bw) bw) (τ1 sc k t x (some (.ref q.i))) h=.ok (.ref (n+1)) (h++[X,.lst [.ref n]]):=by
     refine(ye (a7d (a1u rfl (v7 (j:=0) hi rfl)) (ug hrd rfl) rfl tw) (gl7 (by show 1<=100;omega))).trans ?_
     rw[ai,bO];rfl
    have f2:a3l (sV 6) (oS (sI 1)) oN (τ1 sc k t x (some (.ref q.i))) (h++[X,.lst [.ref n]])=.ok (.ref (n+2)) (h++[X,.lst [.ref n],.lst (q.l.drop 1)]):=by
     refine(PAP.ak5 (bj rfl) (PAP.ak4 ckk) rfl (show afp (.ref q.i) (some 1) none (h++[X,.lst [.ref n]])=.ok (.ref (h++[X,.lst [.ref n]]).length) ((h++[X,.lst [.ref n]])++[.lst (a8n q.l (some ((1:Nat):Int)) none)]) by
      show gSl (.ref q.i) (some 1) none (h++[X,.lst [.ref n]])=_;unfold gSl;simp only[hi2]
      rfl)).trans ?_
     rw[a7z,ai,bO];rfl
    let H3:Hd:=h++[X,.lst [.ref n],.lst (q.l.drop 1)]
    have f3:my (.ref (n+1)) (.ref (n+2)) H3=.ok (.ref (n+3)) (h++mid):=by
     have g1:H3[n+1]? = some (.lst [.ref n]):=b11 _ _ _ _;have g2:H3[n+2]? = some (.lst (q.l.drop 1)):=b36 _ _ _ _ _;rw[ad9 (xs:=[.ref n]) (ys:=q.l.drop 1) (by unfold yc;simp only[g1]) (by unfold yc;simp only[g2]),aT (g8 (by show 1+6<=1000000;omega))]
     show R.ok (D.ref H3.length) (H3++[.lst ([.ref n]++q.l.drop 1)])=_;rw[show H3.length=n+3 by simp[H3,n],bO];rfl
    have s1':(h++mid)[1]? = some (.lst (qs.map λq=>.ref q.i)):=by rw[a3b l1];exact A3.some
    refine aw (jj (aw (ifT (abv (t2s (ye (bj rfl) (lq A1)) ckk (agb (by omega))) (t2s (wg (bj rfl) ckk c3) ckk (a5t hz)))) (a0g (bj rfl) (ail A3.some) (arg1 (qm f1 f2 f3)) (a1i s1' (by rw[ay];exact a0w (by omega)))))) ?_
    rw[etl]
   ·obtain⟨u4,tl4,qs4,P4,A4,b1,b2,e4⟩:=fedp P3 A3;refine⟨u4,tl4,qs4,P4,A4,b1,b2,λg=>jj (aw (ifF (abv (t2s (ye (bj rfl) (lq A1)) ckk (agb (by omega))) (t2s (wg (bj rfl) ckk c3) ckk (a6z hz)))) e4)⟩
  ·obtain⟨u4,tl4,qs4,P4,A4,b1,b2,e4⟩:=fedp (P1.up (by omega)) A1
   refine⟨u4,tl4,qs4,P4,A4,b1,b2,λg=>jj (aw (ifF (aik (t2s (ye (bj rfl) (lq A1)) ckk (am5 (by omega))))) e4)⟩
 obtain⟨u5,B5,C5,q5,eq5,P5,A5,ep5⟩:=pick A2 l1 (by omega) P2 (by omega)
 have hq5:q5∈qs2:=by rw[eq5];simp
 refine⟨u5,tl2,qs2,some (.ref q5.i),?_,P5.up (by omega),A5,l1,l2⟩
 unfold L1 K51.aah;refine aw (o6 (ep rfl rfl)) ?_;refine aw (e2 _) ?_;refine aw (o6 (ep5 rfl rfl)) ?_;exact ifF (aep (a03 (aci (A5.ok q5 hq5) (by omega) (A5.at_ q5 hq5) rfl) (qj _)))
noncomputable def ams:SF:=m8 (K51.am8 STM.cu STM.ie STM.fj CAS.lz SRC.aa K51.n8 STM.jh STM.ig SRC.iz STM.dq) 7
theorem axc(ns:List Int):∃h',K51.ams [.scr (ns.map D.int)] []=.ok (.bl true) h':=by
 obtain⟨o,P,es⟩:=SRC.ais ns [];have A0:Al [o,.lst []] [] 0:=⟨rfl,(λq hq=>by cases hq),gs,(λk hk=>by cases hk),(λq hq=>by cases hq),λv hv=>by
  simp only[aR,bo,cF]at hv
  rcases hv with rfl|rfl
  ·exact jm (aW _) P.clo
  ·exact jy (n:=2)⟩
 have lp:=rm (g:=kN 3) (b:=L0) (λi:Nat=>D.int (i:Nat))
  (λpre τ hh=>∃(u:O) (tl:Hd) (qs:List Rc) (k t x:Option D),τ=τ1 (.scr (ns.map D.int)) k t x none/\hh=u::tl/\SRC.Src u (1000*pre.length)/\Al (u::tl) qs 0/\qs.length=pre.length)
  (List.range 2) (τ1 (.scr (ns.map D.int)) none none none none) [o,.lst []] ?_ ⟨o,[.lst []],[],none,none,none,rfl,rfl,P,A0,rfl⟩
 ·obtain⟨τ',h',e1,u,tl,qs,k,t,x,rfl,rfl,P1,A1,ql⟩:=lp;rw[aZ]at P1 ql;have lq:=rm (g:=kN 3) (b:=L1) (λi:Nat=>D.int (i:Nat))
   (λpre τ hh=>∃(u:O) (tl:Hd) (qs:List Rc) (k o:Option D),τ=τ1 (.scr (ns.map D.int)) k t x o/\hh=u::tl/\SRC.Src u (3000+30*pre.length)/\Al (u::tl) qs pre.length/\1<=qs.length/\qs.length<=10)
   (List.range 30) (τ1 (.scr (ns.map D.int)) k t x none) (u::tl) ?_ ⟨u,tl,qs,k,none,rfl,rfl,P1.up (by omega),A1,by omega,by omega⟩
  ·obtain⟨τ',h',e2,u2,tl2,qs2,k2,o2,rfl,rfl,P2,A2,l1,l2⟩:=lq;rw[aZ]at A2;have lr:=aak (ck:=λh=>h[1]? = some (.lst (qs2.map λq=>.ref q.i))) (g:=kN 6) (b:=L2') (λq:Rc=>D.ref q.i)
    (λpre τ hh=>∃o:Option D,τ=τ1 (.scr (ns.map D.int)) k2 t x o/\hh=u2::tl2) (λpre τ h ⟨_,_,e⟩=>by subst e;exact A2.some)
    qs2 [] (τ1 (.scr (ns.map D.int)) k2 t x o2) (u2::tl2) ?_ ⟨o2,rfl,rfl⟩
   ·obtain⟨τ',h',e3,o3,rfl,rfl⟩:=lr;refine⟨u2::tl2,?_⟩;unfold K51.ams;rw[dm];show toR (K51.am8 STM.cu STM.ie STM.fj CAS.lz SRC.aa K51.n8 STM.jh STM.ig SRC.iz STM.dq [some (.scr (ns.map D.int)),none,none,none,none,none,none] [])=_;unfold K51.am8;refine ets (ye (bj rfl) es) ?_;refine etr (o6 (d:=.ref 1) (h1:=[o,.lst []]) rfl) ?_;refine etr (a4k (a8a (n:=2) ckk (g8 (by omega)))) ?_
    refine aw (aP (λz=>toR (MI.thn z _)) e1) ?_;rw[zg];refine etr (a4k (a8a (n:=30) ckk (g8 (by omega)))) ?_
    refine aw (aP (λz=>toR (MI.thn z _)) e2) ?_;rw[zg];refine etr (a4k (a99 (bj rfl) (CAS.ao6 A2.some))) ?_;refine aw (aP (λz=>toR (MI.thn z _)) e3) ?_;rw[zg];exact aw (aP toR (u9 ckk)) rfl
   ·rintro pre q post τ hh all ⟨o',rfl,rfl⟩
    have hq:q∈qs2:=by rw[cE]at all;rw[all];simp
    refine⟨_,_,rfl,τ1 (.scr (ns.map D.int)) k2 t x (some (.ref q.i)),u2::tl2,?_,_,rfl,rfl⟩;unfold L2' K51.aai;exact ifF (aep (a03 (aci (A2.ok q hq) (by omega) (A2.at_ q hq) rfl) (qj _)))
  ·rintro pre i post τ hh all ⟨u,tl,qs,k,o',rfl,rfl,P2,A2,l1,l2⟩
   have pl:=(p7 all).1 ▸ (p7 all).2;obtain⟨u',tl',qs',o2,e,P3,A3,b1,b2⟩:=arz (sc:=.scr (ns.map D.int)) (k:=some (D.int (i:Nat))) (t:=t) (x:=x) (o:=o') A2 pl l1 l2 P2 (by omega)
   exact⟨_,_,rfl,_,_,e,u',tl',qs',_,o2,rfl,rfl,P3.up (by rw[ai,aI];omega),by rw[ai,aI];exact A3,b1,b2⟩
 ·rintro pre i post τ hh all ⟨u,tl,qs,k,t,x,rfl,rfl,P1,A1,ql⟩
  have pl:=(p7 all).1 ▸ (p7 all).2;obtain⟨u',tl',q,t',x',e,P2,A2⟩:=arx (sc:=.scr (ns.map D.int)) (k:=some (D.int (i:Nat))) (t:=t) (x:=x) (o:=none) A1 (by omega) P1 (by omega)
  exact⟨_,_,rfl,_,_,e,u',tl',qs++[q],_,t',x',rfl,rfl,P2.up (by rw[ai,aI];omega),A2,by rw[ai,ai,aI,aI,ql]⟩
end K51
namespace K51
open L2 MI
def amt(K:Fg):Sp:=λvs H Q _=>∃(a:Addr) (ns:List Int),vs=[.ref a]/\SqF K H a (ns.map V.int)/\ns.length<=63/\∀H',Q (.bl true) H'
theorem acj{K:Fg}{ι:List Addr}{H:Hp}:∀ns:List Int,Reps K ι H (ns.map V.int) (ns.map D.int)
 |[]=>.nil
 |n::ns=>.cons (.int n) (acj ns)
theorem axd{K:Fg}(vs:List V)(H:Hp)(Q:VK)(E:XK)(h:amt K vs H Q E):a0i K 1 K51.ams vs H Q E:=by
 obtain⟨a,ns,rfl,hS,hl,q⟩:=h;obtain⟨h',e⟩:=K51.axc ns;refine⟨rfl,[],[.scr (ns.map D.int)],[],.cons (.scr hS (acj ns)) .nil,⟨gs,rfl,λi a o z=>by simp at z⟩,?_⟩
 rw[e]
 intro ι' H' b g r hr
 cases r
 exact q H'
theorem axe{K:Fg}{H:Hp}{a:Addr}{vs:List V}(hO:Only H)(hS:SqL K H a vs):SqF K H a vs:=by
 rcases hS with r|r
 ·rcases r with r|⟨o,r⟩
  ·rcases hO a with z|⟨o,xs,z⟩<;>rw[z]at r<;>cases r
  ·exact .inl ⟨o,r⟩
 ·exact .inr (.inr r)
def Dg(K:Fg)(f:Addr)(nm rq:Str)(t:Stmt):Prop:=∃oc od kV dc pm an cd ct sl,K.lookup f=some ⟨oc,od,.func (PySem.W.fnOf nm rq (a3m t) (jz t) (az t) .none kV dc pm an cd ct),sl⟩/\PySem.W.codeIn K cd rq=true/\PySem.W.keepIn K (.ref f)=true
theorem dg{K:Fg}{f:Addr}{nm rq:Str}{t:Stmt}(d:Dg K f nm rq t):∃e,Fun K nm rq t f e:=by
 obtain⟨_,_,_,_,_,_,_,_,_,l,c,k⟩:=d;exact⟨_,an0 l c k⟩
abbrev fo(x:Str)(t:Stmt)(kV dc pm:Value)(an:Option Addr)(cd ct:Value):=PySem.W.fnOf x x (a3m t) (jz t) (az t) .none kV dc pm an cd ct
def Df(K:Fg)(f:Addr)(nm:Str)(i:Nat):Prop:=∃oc od kV dc pm an cd ct sl,PySem.W.nsIn K mainGlobals nm=some (some (.ref f))/\K.lookup f=some ⟨oc,od,.func (fo nm (top i) kV dc pm an cd ct),sl⟩/\PySem.W.codeIn K cd nm=true/\PySem.W.keepIn K (.ref f)=true
theorem df{K:Fg}{f:Addr}{nm:Str}{i:Nat}(d:Df K f nm i):∃e,PySem.W.nsIn K mainGlobals nm=some (some (.ref f))/\Fun K nm nm (top i) f e:=by
 obtain⟨_,_,_,_,_,_,_,_,_,a,l,c,k⟩:=d;exact⟨_,a,an0 l c k⟩
theorem a0l{P:Program}{w:World}{K:Fg}{mg:Str->Option Value}{base h:Heap}{f:Addr}{nm:Str}{i k:Nat}{F:SF}{N ps:List Str}{b:SS}(S:FnScope N ps (az (top i)))(d:Df K f nm i)(X:K.In h)(G:h.Ns mainGlobals mg)
  (hb:∀(cdv:Value) (A:Around) (outer:List Env) (s:Shared) (H:Hp) (E:XK),Room k (A.deeper (PyProof.Rows.envOfC nm (az (top i)) s.heap.objs.size f cdv))->MSs (a5b CX0 P w K mg base N nm (az (top i)) f cdv A outer s H E).nox X0 (jz (top i)) b)
  (h:∀(kV doc pm:Value) (an:Option Addr) (cdv ct:Value) (us:List Value),us.length=ps.length->bindArgs (PySem.W.fnOf nm nm (a3m (top i)) (jz (top i)) (az (top i)) .none kV doc pm an cdv ct) ⟨us,[]⟩=pure (ps.zip us)) (e:F=m8 b N.length:=by rfl) :
  ∃fd,Dn P w K mg base (k+1) nm ps (a0i K ps.length F) f fd:=by
 obtain⟨_,a,Fu⟩:=df d;rw[e];exact⟨_,wu Fu S hb,fM X G a,Fu.kp,Fu.binds h⟩
local macro_rules|`(tactic|walk_at "b") => `(tactic|(intro _ _ _ _ _ _ us hl;first|(apply b0d hl;intro _;exact rfl)|(apply b0e hl;intro _ _;exact rfl)|(apply b0f hl;intro _ _ _;exact rfl)|(apply b0g hl;intro _ _ _ _;exact rfl)|(apply b0h hl;intro _ _ _ _ _;exact rfl)|(apply b1x hl;intro _ _ _ _ _ _;exact rfl)|(apply len0 hl;exact rfl)))
theorem axf{l:PySem.W.OpenLaw}{w:World}{K:Fg}{h:Heap}{mg:Str->Option Value}{fa f1 f2 f3 f4 f5 f6 f7 f8 f9 f10 f11 f12 f13 f14 f15 f16 f17 f18 f19 f20 f21 f22 f23 f24 f25:Addr}(X:K.In h)(G:h.Ns mainGlobals mg)(hfa:mg "law" = some (.ref fa))
  (d1:Df K f1 "is_text" 6)
  (d2:Df K f2 "looked_text" 8)
  (d3:Df K f3 "room_from" 9)
  (d4:Df K f4 "rooms_along" 10)
  (d5:Df K f5 "hope_words" 12)
  (d6:Df K f6 "hope_word" 13)
  (d7:Df K f7 "hopes" 14)
  (d8:Df K f8 "resumed" 20)
  (d9:Df K f9 "_law_source" 22)
  (d10:Df K f10 "_law_draw" 23)
  (d11:Df K f11 "_law_signs" 24)
  (d12:Df K f12 "_law_tongue" 25)
  (d13:Df K f13 "_law_rooms" 26)
  (d14:Df K f14 "_law_grown" 27)
  (d15:Df K f15 "_law_met" 28)
  (d16:Df K f16 "_law_case" 29)
  (d17:Df K f17 "_law_hope" 30)
  (d18:Df K f18 "_law_along" 31)
  (d19:Df K f19 "_law_run" 32)
  (d20:Df K f20 "_law_numbers" 33)
  (d21:Df K f21 "_law_pieces" 34)
  (d22:Df K f22 "_law_stands_so" 35)
  (d23:Df K f23 "_law_new_part" 36)
  (d24:Df K f24 "_law_fed" 37)
  (d25:Df K f25 "law" 38)
  {C1:Addr} (q1:PySem.W.nsIn K mainGlobals "Stream" = some (some (.ref C1))) (qc1:Cls K C1) (qn1_0:NoAttr K C1 "table") (qn1_1:NoAttr K C1 "hope") (qn1_2:NoAttr K C1 "phase") (qn1_3:NoAttr K C1 "start") (qn1_4:NoAttr K C1 "fed") (qn1_5:NoAttr K C1 "at") (qn1_6:NoAttr K C1 "room") (qn1_7:NoAttr K C1 "last") (qn1_8:NoAttr K C1 "rest")
  {j1:Addr} {B1:Addr} (qd1:PySem.W.nsIn K mainGlobals "Reader" = some (some (.ref B1))) (qf1:PySem.W.findCls K (.ref B1) (.type "type") "__init__" = some (.val (.ref j1))) (qs1:PySem.W.specialIn K (.ref B1) "__getattribute__" = some (some (.builtin "type.__getattribute__"))) (qr1:PySem.W.readsIn K B1 (.type "type")=true) (qh1:PySem.W.handedIn (.ref j1)=true) (jl1:Dg K j1 "__init__" "Reader.__init__" (cst (top 16) 0))
  {j2:Addr} (qm2:Meth K C1 "state" j2) (jl2:Dg K j2 "state" "Reader.state" (cst (top 16) 1))
  {j3:Addr} (qm3:Meth K C1 "seen" j3) (jl3:Dg K j3 "seen" "Reader.seen" (cst (top 16) 2))
  {j4:Addr} (qm4:Meth K C1 "stopped_at" j4) (jl4:Dg K j4 "stopped_at" "Reader.stopped_at" (cst (top 16) 3))
  {j5:Addr} (qm5:Meth K C1 "look_ended" j5) (jl5:Dg K j5 "look_ended" "Reader.look_ended" (cst (top 16) 4))
  {j6:Addr} (qm6:Meth K C1 "take" j6) (jl6:Dg K j6 "take" "Reader.take" (cst (top 16) 5))
  {j7:Addr} (qm7:Mk K C1 j7) (jl7:Dg K j7 "__init__" "Walker.__init__" (cst (top 17) 0))
  {j8:Addr} (qm8:Meth K C1 "begin" j8) (jl8:Dg K j8 "begin" "Walker.begin" (cst (top 17) 1))
  {j9:Addr} (qm9:Meth K C1 "feed" j9) (jl9:Dg K j9 "feed" "Walker.feed" (cst (top 17) 2))
  {j10:Addr} (qm10:Meth K C1 "close" j10) (jl10:Dg K j10 "close" "Walker.close" (cst (top 17) 3))
  {j11:Addr} (qm11:Meth K C1 "read" j11) (jl11:Dg K j11 "read" "Walker.read" (cst (top 17) 4))
  {j12:Addr} (qm12:Meth K C1 "go" j12) (jl12:Dg K j12 "go" "Walker.go" (cst (top 17) 5))
  {j13:Addr} (qm13:Meth K C1 "go_behind" j13) (jl13:Dg K j13 "go_behind" "Walker.go_behind" (cst (top 17) 6))
  {j14:Addr} (qm14:Meth K C1 "stop" j14) (jl14:Dg K j14 "stop" "Walker.stop" (cst (top 17) 7))
  {j15:Addr} (qm15:Meth K C1 "kept" j15) (jl15:Dg K j15 "kept" "Walker.kept" (cst (top 17) 8))
  {j16:Addr} (qm16:Meth K C1 "settle" j16) (jl16:Dg K j16 "settle" "Stream.settle" (cst (top 19) 0))
  {j17:Addr} (qm17:Meth K C1 "fault" j17) (jl17:Dg K j17 "fault" "Stream.fault" (cst (top 19) 1))
  {j18:Addr} (qm18:Meth K C1 "stand" j18) (jl18:Dg K j18 "stand" "Stream.stand" (cst (top 19) 2))
  {j19:Addr} (qm19:Meth K C1 "twin" j19) (jl19:Dg K j19 "twin" "Stream.twin" (cst (top 19) 3))
  (z1:PySem.W.nsIn K mainGlobals "abs" = some none) (z2:PySem.W.nsIn K mainGlobals "all" = some none) (z3:PySem.W.nsIn K mainGlobals "bool" = some none) (z4:PySem.W.nsIn K mainGlobals "int" = some none) (z5:PySem.W.nsIn K mainGlobals "isinstance" = some none) (z6:PySem.W.nsIn K mainGlobals "len" = some none) (z7:PySem.W.nsIn K mainGlobals "list" = some none) (z8:PySem.W.nsIn K mainGlobals "min" = some none) (z9:PySem.W.nsIn K mainGlobals "range" = some none) (z10:PySem.W.nsIn K mainGlobals "sorted" = some none) (z11:PySem.W.nsIn K mainGlobals "str" = some none) (z12:PySem.W.nsIn K mainGlobals "sum" = some none) (z13:PySem.W.nsIn K mainGlobals "tuple" = some none) (z14:PySem.W.nsIn K mainGlobals "zip" = some none)  :
  ∃fd:FuncData,(∀(s:Shared) (v:Value),BindsTo s fd ⟨[v],[]⟩ [("_law_script",v)])/\∀base:Heap,K.In base->base.Ns mainGlobals mg->FnOk l.prog w K mg base CX0 9 fa fd ["_law_script"] (amt K):=by
 obtain⟨_,a25,F25⟩:=df d25;have e:=hfa.symm.trans (fM X G a25);cases e
 obtain⟨oc,od,kV25,dc25,pm25,an25,cd25,ct25,sl,rfl,lk,hc⟩:=id F25.ex;have b25:=F25.binds (ps:=["_law_script"]) (by walk_at "b")
 have M:Nm mg:=⟨bP X G z1,bP X G z2,bP X G z3,bP X G z4,bP X G z5,bP X G z6,bP X G z7,bP X G z8,bP X G z9,bP X G z10,bP X G z11,bP X G z12,bP X G z13,bP X G z14⟩;refine⟨PySem.W.fnOf "law" "law" (a3m (top 38)) (jz (top 38)) (az (top 38)) .none kV25 dc25 pm25 an25 cd25 ct25,λs v=>.of_eq rfl,λbase _ _=>?_⟩
 have Q_Stream:CK K mg "Stream" C1 ["table","hope","phase","start","fed","at","room","last","rest"]:=⟨fM X G q1,q1,qc1,λk hk=>by
  simp only[aR,bo,cF]at hk
  rcases hk with rfl|rfl|rfl|rfl|rfl|rfl|rfl|rfl|rfl
  ·exact qn1_0
  ·exact qn1_1
  ·exact qn1_2
  ·exact qn1_3
  ·exact qn1_4
  ·exact qn1_5
  ·exact qn1_6
  ·exact qn1_7
  ·exact qn1_8⟩
 obtain⟨_,D_0⟩:=a0l (F:=STP.ud) (k:=0) b0i d1 X G (m_0 M) (by walk_at "b")
 obtain⟨_,D_1⟩:=a0l (F:=STM.vm) (k:=1) b0j d2 X G (m_1 D_0 (by decide)) (by walk_at "b")
 obtain⟨_,D_3⟩:=a0l (F:=STP.n6) (k:=0) b0m d4 X G (m_3 ) (by walk_at "b")
 obtain⟨_,D_2⟩:=a0l (F:=STP.oh) (k:=1) b0k d3 X G (m_2 D_3 (by decide)) (by walk_at "b")
 obtain⟨_,D_5⟩:=a0l (F:=RCH.jb) (k:=0) b0o d6 X G (m_5 M) (by walk_at "b")
 obtain⟨_,D_4⟩:=a0l (F:=RCH.iu) (k:=1) b0n d5 X G (m_4 M D_5 (by decide)) (by walk_at "b")
 obtain⟨_,D_6⟩:=a0l (F:=RCH.a2z) (k:=2) b0p d7 X G (m_6 M D_4 (by decide)) (by walk_at "b")
 obtain⟨_,J1⟩:=dg jl1;have jb1:=J1.binds (ps:=["self","table"]) (by walk_at "b")
 have D_7:Dc l.prog w K mg base 4 "Reader" "__init__" ["self","table"] 2 STM.vp _ _:=⟨wu J1 b0q (m_7 Q_Stream D_6 (by decide)),jb1,⟨_,_,fM X G qd1,qs1,qr1,qf1,qh1⟩,J1.kp⟩
 obtain⟨_,J8⟩:=dg jl8;have jb8:=J8.binds (ps:=["self","place"]) (by walk_at "b")
 have D_14:Dm l.prog w K mg base 1 C1 "begin" ["self","place"] 2 STM.iw _ _:=⟨wu J8 avl (b22 Q_Stream),jb8,qm8⟩;obtain⟨_,J7⟩:=dg jl7;have jb7:=J7.binds (ps:=["self","table"]) (by walk_at "b")
 have D_13:Di l.prog w K mg base 5 "Stream" C1 ["table","hope","phase","start","fed","at","room","last","rest"] ["self","table"] 1 STM.fj _ _:=⟨wu J7 avk (b21 Q_Stream D_7 (by decide) D_14 (by decide)),jb7,qm7,Q_Stream⟩
 obtain⟨_,D_26⟩:=a0l (F:=STM.a1b) (k:=6) avx d8 X G (b2f Q_Stream D_13 (by decide)) (by walk_at "b")
 obtain⟨_,D_27⟩:=a0l (F:=SRC.iz) (k:=0) avy d9 X G (b2g M) (by walk_at "b")
 obtain⟨_,D_28⟩:=a0l (F:=SRC.aa) (k:=0) avz d10 X G (b2h M) (by walk_at "b")
 obtain⟨_,D_29⟩:=a0l (F:=SRC.o9) (k:=0) aw0 d11 X G (b2j ) (by walk_at "b")
 obtain⟨_,D_30⟩:=a0l (F:=SRC.jf) (k:=1) aw1 d12 X G (b2k M D_28 (by decide) D_29 (by decide)) (by walk_at "b")
 obtain⟨_,D_31⟩:=a0l (F:=CAS.jx) (k:=1) aw2 d13 X G (b2l M D_28 (by decide)) (by walk_at "b")
 obtain⟨_,D_32⟩:=a0l (F:=CAS.jo) (k:=1) aw3 d14 X G (b2m M D_28 (by decide)) (by walk_at "b")
 obtain⟨_,D_33⟩:=a0l (F:=CAS.qp) (k:=0) aw4 d15 X G (b2n M) (by walk_at "b")
 obtain⟨_,D_34⟩:=a0l (F:=CAS.lz) (k:=2) aw5 d16 X G (b2o M D_28 (by decide) D_32 (by decide) D_33 (by decide) D_31 (by decide) D_30 (by decide)) (by walk_at "b")
 obtain⟨_,D_35⟩:=a0l (F:=STM.jh) (k:=0) aw6 d17 X G (b2p M) (by walk_at "b")
 obtain⟨_,D_36⟩:=a0l (F:=STM.jn) (k:=0) aw7 d18 X G (b2q M) (by walk_at "b")
 obtain⟨_,D_37⟩:=a0l (F:=STM.ig) (k:=1) aw8 d19 X G (b2r M D_36 (by decide)) (by walk_at "b")
 obtain⟨_,D_38⟩:=a0l (F:=SRC.jc) (k:=0) aw9 d20 X G (b2s M) (by walk_at "b")
 obtain⟨_,D_39⟩:=a0l (F:=STM.qe) (k:=1) awa d21 X G (b2t M D_38 (by decide)) (by walk_at "b")
 obtain⟨_,J3⟩:=dg jl3;have jb3:=J3.binds (ps:=["self"]) (by walk_at "b")
 have D_9:Dm l.prog w K mg base 1 C1 "seen" ["self"] 1 STM.pq _ _:=⟨wu J3 b0s (m_9 Q_Stream),jb3,qm3⟩;obtain⟨_,J2⟩:=dg jl2;have jb2:=J2.binds (ps:=["self"]) (by walk_at "b")
 have D_8:Dm l.prog w K mg base 1 C1 "state" ["self"] 1 STM.cu _ _:=⟨wu J2 b0r (m_8 Q_Stream),jb2,qm2⟩;obtain⟨_,J4⟩:=dg jl4;have jb4:=J4.binds (ps:=["self"]) (by walk_at "b")
 have D_10:Dm l.prog w K mg base 1 C1 "stopped_at" ["self"] 1 STM.nj _ _:=⟨wu J4 avh (b1y Q_Stream),jb4,qm4⟩;obtain⟨_,J17⟩:=dg jl17;have jb17:=J17.binds (ps:=["self"]) (by walk_at "b")
 have D_23:Dm l.prog w K mg base 2 C1 "fault" ["self"] 1 STM.mj _ _:=⟨wu J17 avu (b2c Q_Stream D_10 (by decide)),jb17,qm17⟩
 obtain⟨_,J15⟩:=dg jl15;have jb15:=J15.binds (ps:=["self"]) (by walk_at "b")
 have D_21:Dm l.prog w K mg base 1 C1 "kept" ["self"] 1 STM.qb _ _:=⟨wu J15 avs (b2a Q_Stream),jb15,qm15⟩;obtain⟨_,D_40⟩:=a0l (F:=STM.dq) (k:=2) awb d22 X G (b2u M Q_Stream D_9 (by decide) D_8 (by decide) D_23 (by decide) D_21 (by decide) D_38 (by decide)) (by walk_at "b")
 obtain⟨_,D_41⟩:=a0l (F:=K51.jq) (k:=1) awc d23 X G (b2v M D_28 (by decide)) (by walk_at "b")
 obtain⟨_,J5⟩:=dg jl5;have jb5:=J5.binds (ps:=["self"]) (by walk_at "b")
 have D_11:Dm l.prog w K mg base 1 C1 "look_ended" ["self"] 1 STM.bz _ _:=⟨wu J5 avi (b1z Q_Stream),jb5,qm5⟩;obtain⟨_,J13⟩:=dg jl13;have jb13:=J13.binds (ps:=["self"]) (by walk_at "b")
 have D_19:Dm l.prog w K mg base 2 C1 "go_behind" ["self"] 1 STM.o8 _ _:=⟨wu J13 avq (b28 Q_Stream D_14 (by decide)),jb13,qm13⟩
 obtain⟨_,J14⟩:=dg jl14;have jb14:=J14.binds (ps:=["self"]) (by walk_at "b")
 have D_20:Dm l.prog w K mg base 2 C1 "stop" ["self"] 1 STM.vh _ _:=⟨wu J14 avr (b29 Q_Stream D_14 (by decide)),jb14,qm14⟩
 obtain⟨_,J16⟩:=dg jl16;have jb16:=J16.binds (ps:=["self","told"]) (by walk_at "b")
 have D_22:Dm l.prog w K mg base 3 C1 "settle" ["self","told"] 2 STM.bx _ _:=⟨wu J16 avt (b2b Q_Stream D_19 (by decide) D_20 (by decide)),jb16,qm16⟩
 obtain⟨_,J12⟩:=dg jl12;have jb12:=J12.binds (ps:=["self","sign"]) (by walk_at "b")
 have D_18:Dm l.prog w K mg base 3 C1 "go" ["self","sign"] 2 STM.jw _ _:=⟨wu J12 avp (b27 Q_Stream D_2 (by decide)),jb12,qm12⟩
 obtain⟨_,J11⟩:=dg jl11;have jb11:=J11.binds (ps:=["self","signs"]) (by walk_at "b")
 have D_17:Dm l.prog w K mg base 4 C1 "read" ["self","signs"] 2 STM.gk _ _:=⟨wu J11 avo (b26 Q_Stream D_22 (by decide) D_18 (by decide)),jb11,qm11⟩
 obtain⟨_,J10⟩:=dg jl10;have jb10:=J10.binds (ps:=["self"]) (by walk_at "b")
 have D_16:Dm l.prog w K mg base 5 C1 "close" ["self"] 1 STM.kj _ _:=⟨wu J10 avn (b24 Q_Stream D_11 (by decide) D_22 (by decide) D_17 (by decide)),jb10,qm10⟩
 obtain⟨_,J6⟩:=dg jl6;have jb6:=J6.binds (ps:=["self","part"]) (by walk_at "b")
 have D_12:Dm l.prog w K mg base 3 C1 "take" ["self","part"] 2 STM.vo _ _:=⟨wu J6 avj (b20 M Q_Stream D_11 (by decide) D_1 (by decide)),jb6,qm6⟩
 obtain⟨_,J9⟩:=dg jl9;have jb9:=J9.binds (ps:=["self","part"]) (by walk_at "b")
 have D_15:Dm l.prog w K mg base 5 C1 "feed" ["self","part"] 2 STM.nu _ _:=⟨wu J9 avm (b23 Q_Stream D_12 (by decide) D_17 (by decide)),jb9,qm9⟩
 obtain⟨_,D_42⟩:=a0l (F:=K51.n8) (k:=5) awd d24 X G (b2w M Q_Stream D_16 (by decide) D_15 (by decide) D_28 (by decide) D_41 (by decide) D_39 (by decide) D_37 (by decide)) (by walk_at "b")
 obtain⟨_,J18⟩:=dg jl18;have jb18:=J18.binds (ps:=["self"]) (by walk_at "b")
 have D_24:Dm l.prog w K mg base 1 C1 "stand" ["self"] 1 STM.uz _ _:=⟨wu J18 avv (b2d Q_Stream),jb18,qm18⟩;obtain⟨_,J19⟩:=dg jl19;have jb19:=J19.binds (ps:=["self"]) (by walk_at "b")
 have D_25:Dm l.prog w K mg base 8 C1 "twin" ["self"] 1 STM.ie _ _:=⟨wu J19 avw (b2e Q_Stream D_24 (by decide) D_26 (by decide)),jb19,qm19⟩
 have D_43:Dn l.prog w K mg base 9 "law" ["_law_script"] (a0i K 1 (K51.ams)) _ _:=⟨wu F25 awe (b2x M Q_Stream D_8 (by decide) D_25 (by decide) D_13 (by decide) D_34 (by decide) D_28 (by decide) D_42 (by decide) D_35 (by decide) D_37 (by decide) D_27 (by decide) D_40 (by decide)),fM X G a25,F25.kp,b25⟩
 exact D_43.ok.imp axd
theorem walk{l:PySem.W.OpenLaw}{q:Program}{loose:List Str}{XP:(Str->Option Value)->Heap->Prop}{YP:World->Heap->Prop}{d:DefRec}{K:Params->Fg}(hn:l.most=some 63)(hdf:d.params.defaults=[])
  (hY:∀(w:World) (h:Heap),YP w h->(K w.params).In h)
  (F:∀(w:World) (mg:Str->Option Value) (fa:Addr) (h:Heap),(K w.params).In h->h.Ns mainGlobals mg->mg d.name=some (.ref fa)->
   ∃fd:FuncData,(∀(s:Shared) (u:Value),BindsTo s fd ⟨[u],[]⟩ [("_law_script",u)])/\∀base:Heap,(K w.params).In base->base.Ns mainGlobals mg->FnOk l.prog w (K w.params) mg base CX0 9 fa fd ["_law_script"] (amt (K w.params))) :
  PySem.W.WalkO q loose XP YP l.row.toRowW d [] (λf vs=>PySem.call f vs) :=
 L2.ap2 (n:=63) (k:=9) (x := "_law_script") (CX:=λ_=>CX0) (sp:=λw=>amt (K w.params)) hn (by decide) hdf ⟨rfl,by decide,by decide,rfl⟩ hY F (λ_ _ a ns hl hO hS=>⟨a,ns,rfl,axe hO hS,hl,λ_=>rfl⟩) λ_ _ _ _ _ z=>z
end K51
open PySem.W PyProof.Rows
local macro_rules|`(tactic|o_head $H) => `(tactic|refine PySem.W.holds_open (q:=K51.hq) (loose:=K51.hl) (Xt:=fun _=>true) (XP:=fun _ _=>True) (Yf:=Hook.obs $H) (Ya:=Hook.val $H) (YP:=Hook.says $H) (N:=20000) ?hl (Hook.of $H) (Hook.keeps $H) (fun _ _=>trivial) (fun _ _ _ _ _=>trivial) (by rfl) (by rfl) (by rfl) (fun _ _=>recFacts_nil rfl) (by rfl) (by assumption) (by decide +kernel) ⟨rfl,rfl,rfl,rfl,rfl,by decide +kernel⟩ ?hw ?hc)
set_option maxRecDepth 100000 in
set_option maxHeartbeats 0 in
theorem PySem.Challenge.cw_nearreach_k51_twins_and_two_at_once_holds : PySem.Challenge.rw_nearreach_k51_twins_and_two_at_once.Holds := by
 w_on;refine holds_law K51.said fun said=>?_;o_head (kHook K51.A.heap_1 [2,3,15,22,23,24,25,28,35,36,37,40,47,48,49,52,59,60,61,64,67,68,69,71,72,74,75,76,78,79,81,82,83,85,86,88,89,90,93,94,95,97,98,100,101,102,105,106,114,116,117,119,120,121,123,124,126,127,128,130,131,133,134,135,137,138,140,141,142,144,145,147,148,149,151,152,154,155,156,157,158,159,160,163,170,172,173,175,176,177,179,180,182,183,184,186,187,189,190,191,193,194,196,197,198,200,201,203,204,205,207,208,210,211,212,214,215,217,218,219,221,222,224,225,226,228,229,231,232,233,234,235,238,245,247,248,250,251,252,254,255,257,258,259,261,262,264,265,266,268,269,271,272,273,274,275,278,280,281,283,284,285,288,289,290,292,293,295,296,297,299,300,302,303,304,306,307,309,310,311,314,315,316,319,320,321,324,325,326,329,330,331,334,335,336,338,339,341,342,343,345,346,348,349,350,352,353,355,356,357,359,360,362,363,364,366,367,369,370,371,374,375,376,378,379,381,382,383,385,386,388,389] (fun _=>by kernel_rfl))
 (case hw=>w_witness2)
 (case hl=>exact K51.hlok)
 k_fill
 refine K51.walk (l:=PySem.Challenge.rw_nearreach_k51_twins_and_two_at_once) rfl rfl (fun w h Y=>PySem.W.kIn_of Y) ?F
 case F =>
  intro w mg fa h KX G hmg
  refine' K51.axf KX G hmg ?_ ?_ ?_ ?_ ?_ ?_ ?_ ?_ ?_ ?_ ?_ ?_ ?_ ?_ ?_ ?_ ?_ ?_ ?_ ?_ ?_ ?_ ?_ ?_ ?_ ?q1 ?qc1 ?qn1_0 ?qn1_1 ?qn1_2 ?qn1_3 ?qn1_4 ?qn1_5 ?qn1_6 ?qn1_7 ?qn1_8 ?qd1 ?qf1 ?qs1 ?qr1 ?qh1 ?jl1 ?qm2 ?jl2 ?qm3 ?jl3 ?qm4 ?jl4 ?qm5 ?jl5 ?qm6 ?jl6 ?qm7 ?jl7 ?qm8 ?jl8 ?qm9 ?jl9 ?qm10 ?jl10 ?qm11 ?jl11 ?qm12 ?jl12 ?qm13 ?jl13 ?qm14 ?jl14 ?qm15 ?jl15 ?qm16 ?jl16 ?qm17 ?jl17 ?qm18 ?jl18 ?qm19 ?jl19 ?_ ?_ ?_ ?_ ?_ ?_ ?_ ?_ ?_ ?_ ?_ ?_ ?_ ?_
  all_goals first | k_is | exact ⟨_,_,_,_,_,_,_,_,_,by k_is,by k_is,by k_is,by k_is⟩ | skip
  try (case q1=>k_is)
  try (case qc1=>constructor<;>first | k_is | kernel_rfl)
  try (case qn1_0=>unfold L2.NoAttr;kernel_rfl)
  try (case qn1_1=>unfold L2.NoAttr;kernel_rfl)
  try (case qn1_2=>unfold L2.NoAttr;kernel_rfl)
  try (case qn1_3=>unfold L2.NoAttr;kernel_rfl)
  try (case qn1_4=>unfold L2.NoAttr;kernel_rfl)
  try (case qn1_5=>unfold L2.NoAttr;kernel_rfl)
  try (case qn1_6=>unfold L2.NoAttr;kernel_rfl)
  try (case qn1_7=>unfold L2.NoAttr;kernel_rfl)
  try (case qn1_8=>unfold L2.NoAttr;kernel_rfl)
  try (case qd1=>k_is)
  try (case qf1=>k_is)
  try (case qs1=>first | k_is | kernel_rfl)
  try (case qr1=>kernel_rfl)
  try (case qh1=>first | rfl | kernel_rfl)
  try (case jl1=>exact ⟨_,_,_,_,_,_,_,_,_,by k_is,by k_is,by k_is⟩)
  try (case qm2=>constructor<;>first | k_is | kernel_rfl)
  try (case jl2=>exact ⟨_,_,_,_,_,_,_,_,_,by k_is,by k_is,by k_is⟩)
  try (case qm3=>constructor<;>first | k_is | kernel_rfl)
  try (case jl3=>exact ⟨_,_,_,_,_,_,_,_,_,by k_is,by k_is,by k_is⟩)
  try (case qm4=>constructor<;>first | k_is | kernel_rfl)
  try (case jl4=>exact ⟨_,_,_,_,_,_,_,_,_,by k_is,by k_is,by k_is⟩)
  try (case qm5=>constructor<;>first | k_is | kernel_rfl)
  try (case jl5=>exact ⟨_,_,_,_,_,_,_,_,_,by k_is,by k_is,by k_is⟩)
  try (case qm6=>constructor<;>first | k_is | kernel_rfl)
  try (case jl6=>exact ⟨_,_,_,_,_,_,_,_,_,by k_is,by k_is,by k_is⟩)
  try (case qm7=>constructor<;>first | k_is | kernel_rfl)
  try (case jl7=>exact ⟨_,_,_,_,_,_,_,_,_,by k_is,by k_is,by k_is⟩)
  try (case qm8=>constructor<;>first | k_is | kernel_rfl)
  try (case jl8=>exact ⟨_,_,_,_,_,_,_,_,_,by k_is,by k_is,by k_is⟩)
  try (case qm9=>constructor<;>first | k_is | kernel_rfl)
  try (case jl9=>exact ⟨_,_,_,_,_,_,_,_,_,by k_is,by k_is,by k_is⟩)
  try (case qm10=>constructor<;>first | k_is | kernel_rfl)
  try (case jl10=>exact ⟨_,_,_,_,_,_,_,_,_,by k_is,by k_is,by k_is⟩)
  try (case qm11=>constructor<;>first | k_is | kernel_rfl)
  try (case jl11=>exact ⟨_,_,_,_,_,_,_,_,_,by k_is,by k_is,by k_is⟩)
  try (case qm12=>constructor<;>first | k_is | kernel_rfl)
  try (case jl12=>exact ⟨_,_,_,_,_,_,_,_,_,by k_is,by k_is,by k_is⟩)
  try (case qm13=>constructor<;>first | k_is | kernel_rfl)
  try (case jl13=>exact ⟨_,_,_,_,_,_,_,_,_,by k_is,by k_is,by k_is⟩)
  try (case qm14=>constructor<;>first | k_is | kernel_rfl)
  try (case jl14=>exact ⟨_,_,_,_,_,_,_,_,_,by k_is,by k_is,by k_is⟩)
  try (case qm15=>constructor<;>first | k_is | kernel_rfl)
  try (case jl15=>exact ⟨_,_,_,_,_,_,_,_,_,by k_is,by k_is,by k_is⟩)
  try (case qm16=>constructor<;>first | k_is | kernel_rfl)
  try (case jl16=>exact ⟨_,_,_,_,_,_,_,_,_,by k_is,by k_is,by k_is⟩)
  try (case qm17=>constructor<;>first | k_is | kernel_rfl)
  try (case jl17=>exact ⟨_,_,_,_,_,_,_,_,_,by k_is,by k_is,by k_is⟩)
  try (case qm18=>constructor<;>first | k_is | kernel_rfl)
  try (case jl18=>exact ⟨_,_,_,_,_,_,_,_,_,by k_is,by k_is,by k_is⟩)
  try (case qm19=>constructor<;>first | k_is | kernel_rfl)
  try (case jl19=>exact ⟨_,_,_,_,_,_,_,_,_,by k_is,by k_is,by k_is⟩)
