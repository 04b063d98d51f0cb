import PyProof.Rows.All
import Wide.All
import OpenK.AllK
import Wide.FinOn
import Lean
import PyProof.EqAt
import PyProof.EqKinds
import PyProof.TupleCall
import PyProof.ListStr
import PyProof.TupleOfStr
import PyProof.ConsumeWalk
import PyProof.SliceStr2
import PyProof.CompUse
import PyProof.Rows.SetFrom
import PyProof.SetRoads
import PyProof.StrLawsIn
import PyProof.Rows.StrIndexOr
import PyProof.Rows.StrJoin2
import PyProof.Rows.SumAny
import PyProof.WalkInts
import PyProof.SeqI3
import PyProof.Draws
import PyProof.ZipIter
import PyProof.EnumMake
import Wide.Txt2
import PyProof.Rows.SortWalk
import PyProof.ListRange
import PyProof.Rows.Range3
import KE.KStateDown
import PyProof.ReprRoads
import PyProof.CallFns
import KE.KTryDeep
import PyProof.ExcBaseAll.ValueError
import KE.KTryMore
import KE.KIsNot
import PyProof.ExcAttrAll.ValueError
import PyProof.NsDelKeeps
import PySem.SetOps
import PyProof.SetScanFacts
import PyProof.Walks
import PyProof.CollectWalk
import KE.KRevIter
import PyProof.CollectIter
import PyProof.WalksS
import KE.IntBitsLaws
import OpenK.KCls
import KE.KAssignIn
import PyProof.WalksMore
import PySem.Challenge.RW_nearreach_k52_stands_and_readers_resumed
set_option Elab.async false
set_option linter.all false
set_option maxRecDepth 100000
set_option maxHeartbeats 4000000
section
open PySem PySem.W PyProof.Rows
theorem K52.said:PySem.Challenge.rw_nearreach_k52_stands_and_readers_resumed.wellSaid=true:=by kernel_rfl
noncomputable def K52.hq:Program:=view PySem.Challenge.pw_nearreach_k52_stands_and_readers_resumed [PySem.Challenge.pw_nearreach_k52_stands_and_readers_resumed.main.body.length - 1]
noncomputable def K52.hl:List Str:=PySem.Challenge.pw_nearreach_k52_stands_and_readers_resumed.boundNames
local macro_rules | `(tactic| o_head $H) => `(tactic| refine PySem.W.holds_open (q:=K52.hq) (loose:=K52.hl) (Xt:=fun _=>true) (XP:=fun _ _=>True) (Yf:=Hook.obs $H) (Ya:=Hook.val $H) (YP:=Hook.says $H) (N:=20000) ?hl (Hook.of $H) (Hook.keeps $H) (fun _ _=>trivial) (fun _ _ _ _ _=>trivial) (by rfl) (by rfl) (by rfl) (fun _ _=>recFacts_nil rfl) (by rfl) (by assumption) (by decide +kernel) ⟨rfl,rfl,rfl,rfl,rfl,by decide +kernel⟩ ?hw ?hc)
set_option maxRecDepth 100000 in
set_option maxHeartbeats 0 in
theorem K52.A (hyp:∀ p:Prop,p):PySem.Challenge.rw_nearreach_k52_stands_and_readers_resumed.Holds:=by
 w_on;refine holds_law K52.said fun said=>?_;k_head
 all_goals exact hyp _
set_option maxRecDepth 100000 in
set_option maxHeartbeats 0 in
theorem K52.hlok:LeftO PySem.Challenge.rw_nearreach_k52_stands_and_readers_resumed.row.prog K52.hq K52.hl (fun _=>true) (Hook.obs (kHook K52.A.heap_1 [2,3,15,22,23,24,25,28,35,36,37,40,47,48,49,52,59,60,61,64,67,68,69,71,72,74,75,76,78,79,81,82,83,85,86,88,89,90,93,94,95,97,98,100,101,102,105,106,114,116,117,119,120,121,123,124,126,127,128,130,131,133,134,135,137,138,140,141,142,144,145,147,148,149,151,152,154,155,156,157,158,159,160,163,170,172,173,175,176,177,179,180,182,183,184,186,187,189,190,191,193,194,196,197,198,200,201,203,204,205,207,208,210,211,212,214,215,217,218,219,221,222,224,225,226,228,229,231,232,233,234,235,238,245,247,248,250,251,252,254,255,257,258,259,261,262,264,265,266,268,269,271,272,273,274,275,278,280,281,283,284,285,288,289,290,292,293,295,296,297,299,300,302,303,304,306,307,309,310,311,314,315,316,319,320,321,324,325,326,329,330,331,334,335,336,338,339,341,342,343,345,346,348,349,350,352,353,355,356,357,359,360,362,363,371,374,375,376,378,379,381,382,383,385,386,388,389,390,392,393,395,396,397,399,400,402,403,404,406,407,409,410] (fun _=>by kernel_rfl))) (Hook.val (kHook K52.A.heap_1 [2,3,15,22,23,24,25,28,35,36,37,40,47,48,49,52,59,60,61,64,67,68,69,71,72,74,75,76,78,79,81,82,83,85,86,88,89,90,93,94,95,97,98,100,101,102,105,106,114,116,117,119,120,121,123,124,126,127,128,130,131,133,134,135,137,138,140,141,142,144,145,147,148,149,151,152,154,155,156,157,158,159,160,163,170,172,173,175,176,177,179,180,182,183,184,186,187,189,190,191,193,194,196,197,198,200,201,203,204,205,207,208,210,211,212,214,215,217,218,219,221,222,224,225,226,228,229,231,232,233,234,235,238,245,247,248,250,251,252,254,255,257,258,259,261,262,264,265,266,268,269,271,272,273,274,275,278,280,281,283,284,285,288,289,290,292,293,295,296,297,299,300,302,303,304,306,307,309,310,311,314,315,316,319,320,321,324,325,326,329,330,331,334,335,336,338,339,341,342,343,345,346,348,349,350,352,353,355,356,357,359,360,362,363,371,374,375,376,378,379,381,382,383,385,386,388,389,390,392,393,395,396,397,399,400,402,403,404,406,407,409,410] (fun _=>by kernel_rfl))) 20000:=by
 intro w
 kernel_rfl
end
abbrev Fg:=PySem.W.Frag
def af:=@List.getElem?_eq_getElem
def ag:=@List.getElem?_eq_some_iff
def ai:=@List.length_append
def ar:=@PySem.Heap.get?_push_of_some
def av:=@List.mem_singleton
def aw:=@Eq.trans
def ay:=@List.length_map
def aH:=@PySem.wpAny_bind
def aI:=@List.length_singleton
def aJ:=@Nat.le_refl
def aK:=@List.size_toArray
def aM:=@List.getElem?_append_left
def aN:=@congrArg
def aO:=@List.getElem?_append_right
def aP:=@List.getElem?_map
def aQ:=@List.mem_of_getElem?
def aR:=@if_pos
def aS:=@List.mem_cons
def aT:=@Int.eq_ofNat_of_zero_le
def aU:=@Option.map_eq_some_iff
def aV:=@Nat.zero_le
def aW:=@List.length_cons
def aX:=@PySem.Heap.lt_size
def aY:=@List.mem_append
def aZ:=@List.length_range
def ba:=@List.map_cons
def bb:=@PySem.Heap.get?_push_size
def bo:=@Nat.lt_of_lt_of_le
def bp:=@List.not_mem_nil
def bq:=@List.mem_cons_of_mem
def br:=@PySem.wpAny_pure
def bt:=@List.map_append
def bA:=@List.mem_cons_self
def bB:=@PySem.PassesOwn.never
def bC:=@List.getElem?_set_self
def bE:=@if_neg
def bF:=@Bool.false_ne_true
def bG:=@List.getElem_mem
def bH:=@PySem.F.slot_list_append
def bI:=@PySem.F.type_list_append
def bJ:=@decide_eq_false
def bK:=@List.getElem?_set_ne
def bL:=@PySem.W.mg_none_of
def bM:=@List.mem_range
def bN:=@List.length_take
def bO:=@Option.some.inj
def bP:=@List.pairwise_iff_getElem
def bQ:=@List.length_drop
def bR:=@List.take_of_length_le
def bS:=@List.drop_eq_nil_of_le
def bT:=@List.append_nil
def bU:=@List.mem_map
def bV:=@List.mem_or_eq_of_mem_set
def bW:=@Nat.ne_of_lt
def bX:=@List.getElem?_of_mem
def bY:=@Nat.mul_le_mul_right
def bZ:=@List.all_eq_true
def cf:=@PyProof.Rows.slot_tuple_getitem
def cn:=@List.mem_append_right
def cp:=@beq_eq_false_iff_ne
def cq:=@Nat.le_trans
def cw:=@PySem.W.kia_one
def cy:=@PySem.mem_of_lookup
def cA:=@List.replicate_succ
def cB:=@List.append_assoc
def cC:=@List.nodup_append
def cD:=@List.mem_append_left
def cE:=@Bool.and_eq_true
def cF:=@List.map_map
def cG:=@or_false
def cH:=@PySem.wpAny_callSpecial?_slot
def cI:=@List.length_set
def cJ:=@List.flatten_cons
def cL:=@Nat.lt_irrefl
def cM:=@PySem.Heap.size_push
def cN:=@List.nil_append
def cO:=@List.getElem?_eq_none
def cP:=@PySem.call_meets
def cQ:=@Option.getD_some
def cS:=@List.drop_append_of_le_length
def cT:=@List.reverse_reverse
def cU:=@decide_eq_true
def cV:=@PySem.wpAny_newObj_type
def cW:=@PyProof.Rows.callWith_type1
def cZ:=@PySem.F.slot_int_rmul
def d0:=@List.find?_cons
def de:=@List.getElem?_range
def dk:=@if_true
def dn:=@PySem.F.slot_tuple_iterator_next
def dv:=@PySem.wpAny_Call_Name_kw
def dA:=@Bool.false_eq_true
def dB:=@Int.emod_lt_of_pos
def dC:=@PySem.wpAny_field
def dD:=@PySem.wpAny_binaryOp_repeat_ref
def dE:=@PySem.wpAny_mono
def dF:=@PySem.wpAny_passesOwn
def dG:=@Int.toNat_natCast
def dH:=@not_true_eq_false
def dI:=@List.find?_range_eq_some
def dJ:=@List.reverse_cons
def dM:=@List.map_nil
def dN:=@Array.length_toList
def dO:=@List.getElem?_replicate
def dP:=@List.length_reverse
def dQ:=@List.flatten_append
def dR:=@PySem.wpAny_call_entry
def dS:=@beq_self_eq_true
def dU:=@PySem.wpAny_setField_rec
def dW:=@PySem.sizeLine_eq
def dX:=@List.nodup_cons
def dY:=@List.length_replicate
def dZ:=@Int.emod_nonneg
def e7:=@PySem.wpAny_truthy_bool
def e8:=@List.any_cons
def e9:=@decide_eq_true_eq
def ef:=@List.ext_getElem?
def ei:=@List.mem_of_mem_take
def eA:=@List.getElem?_zip_eq_some
def eB:=@List.drop_eq_getElem_cons
def eC:=@PySem.wpAny_seqItems
def eD:=@Nat.le_of_not_lt
def eE:=@List.any_eq_true
def eF:=@List.map_congr_left
def eG:=@Nat.le_of_lt
def eI:=@PySem.typeIs_int
def eJ:=@List.eq_of_mem_replicate
def eK:=@PySem.W.callWith_K
def eL:=@PySem.AutoListH.list___mul___list_int_3
def eM:=@List.length_nil
def eN:=@List.getElem?_cons_zero
def eO:=@Bool.or_eq_true
def eP:=@List.getElem?_take
def eQ:=@List.cons.injEq
def eR:=@List.find?_eq_none
def eS:=@List.map_singleton
def eT:=@PySem.Heap.get?_update_other
def eU:=@List.flatten_singleton
def eV:=@Ne.symm
def eW:=@beq_iff_eq
def eX:=@PySem.F.args_int_rmul_2
def eY:=@Nat.lt_trichotomy
def eZ:=@PySem.W.methodCall_KW
def fg:=@List.singleton_append
def fh:=@Nat.lt_succ_self
def fk:=@PySem.F.slot_int_index
def fq:=@PySem.F.entry_int_rmul
def ft:=@PySem.F.slot_tuple_mul
def fv:=@List.filter_cons
def fz:=@List.cons_append
def fA:=@PySem.wpAny_holding
def fB:=@if_false
def fD:=@List.all_cons
def fE:=@PySem.F.args_tuple_iterator_next_1
def fF:=@PySem.W.mg_of
def fG:=@List.filterMap_cons
def fH:=@PySem.wpAny_execs_nil
def fI:=@PySem.W.plainGet_of
def fJ:=@PySem.F.fills_int_mul
def fK:=@List.range_succ
def fL:=@Nat.min_eq_left
def fM:=@PySem.F.entry_tuple_iterator_next
def fN:=@PySem.F.slot_zip_next
def fO:=@Option.map_some
def fP:=@Nat.add_mul
def fQ:=@Int.fdiv_eq_ediv_of_nonneg
def fR:=@List.getD_eq_getElem?_getD
def fS:=@Nat.mul_comm
def fT:=@Nat.succ_pos
def fU:=@Nat.lt_or_ge
def fV:=@Nat.lt_or_eq_of_le
def fW:=@List.map_set
def fX:=@List.map_replicate
def fY:=@Array.getElem?_eq_getElem
def fZ:=@PySem.wpAny_pyIter_list
def g7:=@PySem.W.kitx_dict
def g9:=@Option.isSome_iff_exists
def gc:=@PySem.F.args_tuple_add_2
def gi:=@PySem.StrLaws.found_one
def gs:=@PySem.Paired.length
def gu:=@PySem.F.entry_tuple_add
def gv:=@List.length_eq_zero_iff
def gy:=@List.getElem?_cons_succ
def gz:=@PySem.noFill_tuple_add
def gA:=@Nat.min_eq_right
def gB:=@PySem.Around.in1_units
def gC:=@List.drop_length
def gD:=@List.take_length
def gE:=@List.mem_filter
def gF:=@PySem.codeAny_mono
def gG:=@List.of_mem_zip
def gH:=@PySem.seqIndex_neg
def gI:=@Nat.add_comm
def gJ:=@PySem.typeIs_str
def gK:=@List.drop_zero
def gL:=@Bool.and_false
def gM:=@List.nodup_nil
def gN:=@List.drop_left
def gO:=@Nat.le_succ
def gP:=@PySem.seqIndex_of
def gQ:=@decide_true
def gR:=@Nat.one_mul
open PySem PySem.Spec
namespace L2
open PyProof.Rows
abbrev Key:=Sum Int Str
def afi:Key->Value->Bool
 |.inl k,v=>Value.isInt k v
 |.inr x,v=>Value.isStrOf x v
def b12(w:World):Key->Int
 |.inl k=>hashInt k
 |.inr x=>hashStr w x
theorem ux:∀{k:Key} {v:Value},afi k v=true->(∃i t,k=Sum.inl i/\v=Value.int i t)\/(∃x t,k=Sum.inr x/\v=Value.str x t)
 |.inl i,v,h=>by
  obtain⟨t,e⟩:=Value.isInt_shape (k:=i) (v:=v) h;exact .inl ⟨i,t,rfl,e⟩
 |.inr x,v,h=>by
  obtain⟨t,e⟩:=Value.isStrOf_shape (x:=x) (v:=v) h;exact .inr ⟨x,t,rfl,e⟩
theorem agn(i:Int)(t:Tok):afi (.inl i) (.int i t)=true:=by simp[afi,Value.isInt]
theorem ago(x:Str)(t:Tok):afi (.inr x) (.str x t)=true:=by simp[afi,Value.isStrOf]
theorem ase(a b:Int):decide ((Sum.inl a:Key)=Sum.inl b)=(a == b):=by
 by_cases e:a=b
 ·subst e;simp
 ·have h:¬ (Sum.inl a:Key)=Sum.inl b:=λq=>e (Sum.inl.inj q);rw[bJ h];exact(cp.mpr e).symm
theorem asf(a b:Str):decide ((Sum.inr a:Key)=Sum.inr b)=decide (a=b):=by
 by_cases e:a=b
 ·subst e;simp
 ·have h:¬ (Sum.inr a:Key)=Sum.inr b:=λq=>e (Sum.inr.inj q);rw[bJ h,bJ e]
theorem ash(a:Int)(b:Str):decide ((Sum.inl a:Key)=Sum.inr b)=false:=bJ (λq=>nomatch q)
theorem asi(a:Str)(b:Int):decide ((Sum.inr a:Key)=Sum.inl b)=false:=bJ (λq=>nomatch q)
def vf(prog:Program)(w:World):PySem.KeyKind prog w Key where
 is:=afi
 hash:=b12 w
 inj:=λv a b ha hb=>by
  rcases ux ha with⟨i,t,rfl,rfl⟩|⟨x,t,rfl,rfl⟩
  ·rcases ux hb with⟨j,u,rfl,e⟩|⟨y,u,rfl,e⟩
   ·injection e with e1 _;rw[e1]
   ·exact nomatch e
  ·rcases ux hb with⟨j,u,rfl,e⟩|⟨y,u,rfl,e⟩
   ·exact nomatch e
   ·injection e with e1 _;rw[e1]
 byValue:=λk v h=>by
  rcases ux h with⟨i,t,rfl,rfl⟩|⟨x,t,rfl,rfl⟩<;>rfl
 pyHash:=λhv h=>by
  rcases ux hv with⟨i,t,rfl,rfl⟩|⟨x,t,rfl,rfl⟩
  ·exact wpAny_pyHash_int h
  ·exact wpAny_pyHash_str h
 eqBool:=λhu hv h=>by
  rcases ux hu with⟨i,t,rfl,rfl⟩|⟨x,t,rfl,rfl⟩
  ·rcases ux hv with⟨j,u,rfl,rfl⟩|⟨y,u,rfl,rfl⟩
   ·rw[ase]at h;exact wpAny_eqBool_int h
   ·rw[ash]at h;exact SeqAt.EqAt.int_str i t y u _ _ _ _ h
  ·rcases ux hv with⟨j,u,rfl,rfl⟩|⟨y,u,rfl,rfl⟩
   ·rw[asi]at h;exact SeqAt.EqAt.str_int x t j u _ _ _ _ h
   ·rw[asf]at h;exact wpAny_eqBool_str h
 «strs»:=λk x t v h=>by
  rcases ux h with⟨i,u,rfl,e⟩|⟨y,u,rfl,e⟩
  ·exact nomatch e
  ·injection e with e1 _
   subst e1
   cases v<;>rfl
theorem acz(prog:Program)(w:World)(i:Int)(t:Tok):(vf prog w).is (.inl i) (.int i t)=true:=agn i t
theorem ad0(prog:Program)(w:World)(x:Str)(t:Tok):(vf prog w).is (.inr x) (.str x t)=true:=ago x t
inductive V where
 |non|bl (b:Bool)|int (i:Int)|str (x:Str)|byt (b:Array UInt8)|flt (b:UInt64)|ref (a:Addr)|ty (n:String)
 deriving DecidableEq
def RelV:V->Value->Prop
 |.non,u=>u=Value.none
 |.bl b,u=>u=Value.bool b
 |.int i,u=>∃t,u=Value.int i t
 |.str x,u=>∃t,u=Value.str x t
 |.byt b,u=>∃t,u=Value.bytes b t
 |.flt b,u=>∃t,u=Value.float b t
 |.ref a,u=>u=Value.ref a
 |.ty n,u=>u=Value.type n
abbrev Vals:List V->List Value->Prop:=Paired RelV
theorem Vals.length(r:Vals xs us):xs.length=us.length:=gs r
theorem Vals.get:∀{xs:List V} {us:List Value} {i:Nat} {x:V},Vals xs us->xs[i]? = some x->∃u,us[i]? = some u/\RelV x u
 |_,_,_,_,.nil,e=>by simp at e
 |_,_,0,_,.cons r _,e=>by simp at e;subst e;exact⟨_,rfl,r⟩
 |_,_,i+1,x,.cons _ t,e=>by
  obtain⟨u,h1,h2⟩:=Vals.get (i:=i) (x:=x) t (by simpa using e)
  exact⟨u,by simpa using h1,h2⟩
theorem Vals.set(r:RelV x u):∀{xs:List V} {us:List Value} (i:Nat),Vals xs us->Vals (xs.set i x) (us.set i u)
 |_,_,_,.nil=>.nil
 |_,_,0,.cons _ t=>.cons r t
 |_,_,i+1,.cons q t=>.cons q (Vals.set r i t)
theorem Vals.append:∀{xs ys:List V} {us ws:List Value},Vals xs us->Vals ys ws->Vals (xs++ys) (us++ws)
 |_,_,_,_,.nil,s=>s
 |_,_,_,_,.cons r t,s=>.cons r (Vals.append t s)
theorem Vals.take:∀{xs:List V} {us:List Value} (n:Nat),Vals xs us->Vals (xs.take n) (us.take n)
 |_,_,0,_=>.nil
 |_,_,_+1,.nil=>.nil
 |_,_,n+1,.cons r t=>.cons r (Vals.take n t)
theorem Vals.drop:∀{xs:List V} {us:List Value} (n:Nat),Vals xs us->Vals (xs.drop n) (us.drop n)
 |_,_,0,r=>r
 |_,_,_+1,.nil=>.nil
 |_,_,n+1,.cons _ t=>Vals.drop n t
def RelO:Option V->Option Value->Prop
 |some v,some u=>RelV v u
 |none,none=>True
 |_,_=>False
def KV{κ:Type}:List (κ×V)->List (κ×Value)->Prop:=Paired λ(p:κ×V) (q:κ×Value)=>p.1=q.1/\RelV p.2 q.2
def kV:Key->V
 |.inl i=>.int i
 |.inr x=>.str x
inductive HO where
 |lst (xs:List V)
 |tup (xs:List V)
 |dK (kvs:List (Key×V))|dT (kvs:List (List Key×V))
 |set (S:Int->Bool) (n:Nat)
 |ins (C dx:Addr) (fs:List (Str×V))
 |own (x:Addr)
 |xd (fs:List (Str×V))
 |met (f x:Addr)
 |rng (lo hi:Int)
 |frz (o:Obj) (u:HO)
 |tbl (ps:Array Value)
 |ext (φ:Heap->Prop)
abbrev Hp:=Addr->Option HO
def upd(H:Hp)(a:Addr)(o:HO):Hp:=λb=>if b=a then some o else H b
theorem qu:upd H a o a=some o:=by unfold upd;rw[aR rfl]
theorem jr(h:b≠a):upd H a o b=H b:=by unfold upd;rw[bE h]
theorem axx{H:Hp}{a b:Addr}{o u:HO}(h:H a=some o)(h':H b=some u)(d:o≠u):a≠b:=by
 intro e;subst e;rw[h]at h';exact d (bO h')
theorem jy{H:Hp}{a b:Addr}{o:HO}(h:H a=some o)(h':H b=none):a≠b:=by
 intro e;subst e;rw[h]at h';cases h'
section
variable(P:Program)(w:World)
def ObjOk(H:Hp)(h:Heap)(a:Addr):HO->Prop
 |.lst xs=>xs.length<=sizeLine/\∃(its:List Value) (n:Nat),Vals xs its/\h.get? a=some {cls:=.type "list",data:=.seq its.toArray n}
 |.tup xs=>xs.length<=sizeLine/\∃its:List Value,Vals xs its/\IsTup h a its.toArray
 |.dK kvs=>kvs.length<=sizeLine/\(a == sysModules)=false/\∃vs,KV kvs vs/\h.DictOf (vf P w) a vs
 | .dT kvs=>kvs.length<=sizeLine/\(a == sysModules)=false/\∃xs:List (List Key×Addr×Value),
   Paired (λ(p:List Key×V) (q:List Key×Addr×Value)=>p.1=q.1/\H q.2.1=some (.tup (p.1.map kV))/\RelV p.2 q.2.2) kvs xs /\
   ∃o es ep,h.get? a=some o/\o.ExactDict/\o.data=.dict es ep/\es.toList=xs.map (entryOfKey (tupleKind (vf P w)))/\(xs.map (·.1)).Nodup
 |.set S n=>h.SetOf (intKind P w) a S n
 | .ins C dx fs=>H dx=some (.own a)/\fs.length<=1000/\dx≠a/\h.get? a=some (PySem.W.instObj C dx) /\
   ∃mA,h.Ns1 dx mA/\(∀f,RelO (fs.lookup f) (mA f))/\PySem.Within mA (fs.map (·.1))
 |.own _=>∃o,h.get? a=some o
 |.xd fs=>∃mA,h.Ns1 a mA/\∀f,RelO (fs.lookup f) (mA f)
 |.rng lo hi=>∃t u v,h.get? a=some {cls:=.type "range",data:=.fields #[.int lo t,.int hi u,.int 1 v]}
 |.frz o u=>h.get? a=some o/\ObjOk H h a u
 |.tbl ps=>h.get? a=some {cls:=.none,data:=.fields ps}
 |.met f x=>h.get? a=some (PySem.W.methodObj (.ref f) (.ref x))
 |.ext φ=>φ h/\(∃o,h.get? a=some o)/\∀h1 h2:Heap,φ h1->(∀o,h1.get? a=some o->h2.get? a=some o)->φ h2
def HOk(H:Hp)(h:Heap):Prop:=∀a o,H a=some o->ObjOk P w H h a o
end
section
variable{P:Program}{w:World}{H H':Hp}{h h':Heap}{a:Addr}{o:HO}
theorem ObjOk.lt(x:ObjOk P w H h a o):a<h.objs.size:=by
 cases o with
 |lst xs=>obtain⟨_,_,_,_,e⟩:=x;exact aX e
 |tup xs=>obtain⟨_,_,_,p⟩:=x;exact p.lt
 |dK kvs=>obtain⟨_,_,_,_,o,_,_,e,_⟩:=x;exact aX e
 |dT kvs=>obtain⟨_,_,_,_,o,_,_,e,_⟩:=x;exact aX e
 |set S n=>obtain⟨o,_,_,_,e,_⟩:=x;exact aX e
 |ins C dx fs=>obtain⟨_,_,_,e,_⟩:=x;exact aX e
 |own y=>obtain⟨_,e⟩:=x;exact aX e
 |xd fs=>obtain⟨_,⟨_,_,_,e,_⟩,_⟩:=x;exact aX e
 |rng lo hi=>obtain⟨_,_,_,e⟩:=x;exact aX e
 |frz ob u=>obtain⟨e,_⟩:=x;exact aX e
 |tbl ps=>exact aX (show h.get? a=some _ from x)
 |met f y=>exact aX (show h.get? a=some _ from x)
 |ext φ=>obtain⟨_,⟨_,e⟩,_⟩:=x;exact aX e
theorem Paired.mapP{α β:Type}{F G:α->β->Prop}:∀{l₁:List α} {l₂:List β},Paired F l₁ l₂->(∀a b,F a b->G a b)->Paired G l₁ l₂
 |_,_,.nil,_=>.nil
 |_,_,.cons r t,f=>.cons (f _ _ r) (Paired.mapP t f)
theorem ObjOk.stay(x:ObjOk P w H h a o)(k:∀b u,(b=a\/H b=some (.own a))->h.get? b=some u->h'.get? b=some u)
  (ho:∀b,H b=some (.own a)->H' b=some (.own a)) (ht:∀b xs,H b=some (.tup xs)->H' b=some (.tup xs)):ObjOk P w H' h' a o:=by
 induction o with
 |lst xs=>obtain⟨z,its,n,r,e⟩:=x;exact⟨z,its,n,r,k _ _ (.inl rfl) e⟩
 |tup xs=>obtain⟨z,its,r,ob,e,c⟩:=x;exact⟨z,its,r,ob,k _ _ (.inl rfl) e,c⟩
 |dK kvs=>obtain⟨z,y,vs,r,ob,es,ep,e,c⟩:=x;exact⟨z,y,vs,r,ob,es,ep,k _ _ (.inl rfl) e,c⟩
 |dT kvs =>
  obtain⟨z,y,xs,r,ob,es,ep,e,c⟩:=x;exact⟨z,y,xs,Paired.mapP r λp q z=>⟨z.1,ht _ _ z.2.1,z.2.2⟩,ob,es,ep,k _ _ (.inl rfl) e,c⟩
 |set S n=>obtain⟨ob,es,ep,t,e,c⟩:=x;exact⟨ob,es,ep,t,k _ _ (.inl rfl) e,c⟩
 |ins C dx fs =>
  obtain⟨d,z,ne,e,mA,⟨od,es,ep,e2,c⟩,r⟩:=x;exact⟨ho _ d,z,ne,k _ _ (.inl rfl) e,mA,⟨od,es,ep,k _ _ (.inr d) e2,c⟩,r⟩
 |own y=>obtain⟨ob,e⟩:=x;exact⟨ob,k _ _ (.inl rfl) e⟩
 |xd fs=>obtain⟨mA,⟨od,es,ep,e,c⟩,r⟩:=x;exact⟨mA,⟨od,es,ep,k _ _ (.inl rfl) e,c⟩,r⟩
 |rng lo hi=>obtain⟨t,u,v,e⟩:=x;exact⟨t,u,v,k _ _ (.inl rfl) e⟩
 |frz ob u ih=>obtain⟨e,q⟩:=x;exact⟨k _ _ (.inl rfl) e,ih q⟩
 |tbl ps =>
  have e:h.get? a=some {cls:=.none,data:=.fields ps}:=x;show h'.get? a=some {cls:=.none,data:=.fields ps};exact k a _ (.inl rfl) e
 |met f y =>
  have e:h.get? a=some (PySem.W.methodObj (.ref f) (.ref y)):=x;show h'.get? a=some (PySem.W.methodObj (.ref f) (.ref y));exact k a _ (.inl rfl) e
 |ext φ=>obtain⟨p,⟨o,e⟩,st⟩:=x;exact⟨st _ _ p λo q=>k _ _ (.inl rfl) q,⟨o,k _ _ (.inl rfl) e⟩,st⟩
theorem HOk.lt(x:HOk P w H h)(e:H a=some o):a<h.objs.size:=(x a o e).lt
theorem HOk.fresh(x:HOk P w H h)(e:h.objs.size<=a):H a=none:=by
 cases q:H a with
 |none=>rfl
 |some u=>exact absurd (bo (x.lt q) e) (cL _)
theorem HOk.kept(x:HOk P w H h)(k:∀b u,h.get? b=some u->h'.get? b=some u):HOk P w H h':=λa o e =>
 (x a o e).stay (λb u _ q=>k b u q) (λ_ q=>q) λ_ _ q=>q
theorem HOk.laid(x:HOk P w H h)(k:∀b u,h.get? b=some u->h'.get? b=some u)(hp:h.objs.size<=a)(new:ObjOk P w (upd H a o) h' a o):HOk P w (upd H a o) h':=λb u e=>by
 have hn:=x.fresh hp
 by_cases hb:b=a
 ·subst hb;rw[qu]at e;cases e;exact new
 ·rw[jr hb]at e;exact(x b u e).stay (λc v _ q=>k c v q) (λc q=>by rw[jr (jy q hn)];exact q) λc xs q=>by rw[jr (jy q hn)];exact q
end
def Rd(H:Hp)(a:Addr)(u:HO):Prop:=H a=some u\/∃o,H a=some (.frz o u)
theorem Rd.of(h:H a=some u):Rd H a u:=.inl h
theorem Rd.ok(r:Rd H a u)(x:HOk P w H h):ObjOk P w H h a u:=by
 rcases r with r|⟨o,r⟩
 ·exact x a u r
 ·obtain⟨_,q⟩:=x a _ r;exact q
def Mut:Option HO->Prop
 |some (.lst _)=>True
 |some (.dK _)=>True
 |some (.dT _)=>True
 |some (.set _ _)=>True
 |some (.ins _ _ _)=>True
 |some (.ext _)=>True
 |_=>False
section
variable{P:Program}{w:World}{H:Hp}{h h':Heap}{x e:Addr}{o':HO}
theorem HOk.write(ok:HOk P w H h)(mu:Mut (H x))(he:e=x\/H e=some (.own x))(k:∀b u,b≠e->h.get? b=some u->h'.get? b=some u)(heo:∃u,h'.get? e=some u)
  (new:ObjOk P w (upd H x o') h' x o'):HOk P w (upd H x o') h':=λb u q=>by
 have nown:∀c y,H c=some (.own y)->c≠x:=λc y r z=>by subst z;rw[r]at mu;exact mu
 have ntup:∀c xs,H c=some (.tup xs)->c≠x:=λc xs r z=>by subst z;rw[r]at mu;exact mu
 by_cases hb:b=x
 ·subst hb;rw[qu]at q;cases q;exact new
 ·rw[jr hb]at q
  by_cases hbe:b=e
  ·have q':H b=some (.own x):=by
    rcases he with z|z
    ·exact absurd (hbe.trans z) hb
    ·rw[hbe];exact z
   rw[q]at q';cases q'
   obtain⟨v,hv⟩:=heo;exact⟨v,by rw[hbe];exact hv⟩
  ·refine(ok b u q).stay (λc v hc r=>k c v ?_ r) (λc r=>by rw[jr (nown c b r)];exact r) λc xs r=>by rw[jr (ntup c xs r)];exact r
   rcases hc with rfl|hc
   ·exact hbe
   ·rintro rfl
    rcases he with z|z
    ·exact nown c b hc z
    ·rw[hc]at z;cases z;exact hb rfl
end
structure Un (fs ex:List Addr) (H H':Hp) (h h':Heap):Prop where
 keep:∀b o,h.get? b=some o->H b=none->b∉fs->b∉ex->h'.get? b=some o
 slot:∀b o,h.get? b=some o->H b=none->b∈fs->b∉ex->∃sl,h'.get? b=some {o with slots:=sl}
 free:∀b o,h.get? b=some o->H b=none->b∉ex->H' b=none
 there:∀b o,h.get? b=some o->b∉ex->∃o',h'.get? b=some o'
 tups:∀b xs,H b=some (.tup xs)->H' b=some (.tup xs)
 frzs:∀b o u,H b=some (.frz o u)->H' b=some (.frz o u)
 tbls:∀b ps,H b=some (.tbl ps)->∃more,H' b=some (.tbl (ps++more))
section
variable{fs fs' ex ex':List Addr}{H H1 H2:Hp}{h h1 h2 h':Heap}{a x e:Addr}{o:HO}
theorem Un.any(u:Un fs ex H H1 h h1)(q:h.get? b=some ob)(n:H b=none)(hx:b∉ex):∃sl,h1.get? b=some {ob with slots:=sl}:=by
 by_cases hb:b∈fs
 ·exact u.slot b ob q n hb hx
 ·exact⟨ob.slots,u.keep b ob q n hb hx⟩
theorem Un.kept(k:∀b u,h.get? b=some u->h'.get? b=some u):Un fs ex H H h h' :=
 ⟨λb ob q _ _ _=>k b ob q,λb ob q _ _ _=>⟨ob.slots,k b ob q⟩,λ_ _ _ n _=>n,λb ob q _=>⟨ob,k b ob q⟩,λ_ _ q=>q,λ_ _ _ q=>q,λ_ ps q=>⟨#[],by rw[q];simp⟩⟩
theorem Un.refl:Un fs ex H H h h:=Un.kept λ_ _ q=>q
theorem Un.laid(k:∀b u,h.get? b=some u->h'.get? b=some u)(hp:h.objs.size<=a)(hn:H a=none):Un fs ex H (upd H a o) h h' where
 keep:=λb u q _ _ _=>k b u q
 slot:=λb u q _ _ _=>⟨u.slots,k b u q⟩
 free:=λb u q n _=>by rw[jr (bW (bo (aX q) hp))];exact n
 there:=λb u q _=>⟨u,k b u q⟩
 tups:=λb xs q=>by rw[jr (jy q hn)];exact q
 frzs:=λb u xs q=>by rw[jr (jy q hn)];exact q
 tbls:=λb ps q=>⟨#[],by rw[jr (jy q hn),q];simp⟩
theorem Un.write(mu:Mut (H x))(he:e=x\/H e=some (.own x))(k:∀b u,b≠e->h.get? b=some u->h'.get? b=some u)(heo:∃u,h'.get? e=some u):Un fs ex H (upd H x o) h h':=by
 have hx:∀b,H b=none->b≠x:=λb n z=>by subst z;rw[n]at mu;exact mu
 have hb:∀b,H b=none->b≠e:=λb n z=>by
  subst z
  rcases he with r|r
  ·exact hx b n r
  ·rw[n]at r;cases r
 have hm:∀b u,H b=some u->¬ Mut (some u)->b≠x:=λb u q nm z=>by subst z;rw[q]at mu;exact nm mu
 refine⟨λb u q n _ _=>k b u (hb b n) q,λb u q n _ _=>⟨u.slots,k b u (hb b n) q⟩,λb u q n _=>by rw[jr (hx b n)];exact n,λb u q _=>?_,
  λb xs q=>by rw[jr (hm b _ q λz=>z)];exact q,λb u xs q=>by rw[jr (hm b _ q λz=>z)];exact q,λb ps q=>⟨#[],by rw[jr (hm b _ q λz=>z),q];simp⟩⟩
 by_cases hbe:b=e
 ·subst hbe;exact heo
 ·exact⟨u,k b u hbe q⟩
end
def trk(h:Heap)(H:Hp):List Addr:=(List.range h.objs.size).filter λa=>(H a).isSome
def akj(h:Heap)(H:Hp):Heap:=PySem.W.hideAll h (trk h H)
theorem agp(h:Heap)(H:Hp):(akj h H).objs.size=h.objs.size:=PySem.W.hideAll_size _ _
theorem akk{h:Heap}(e:h.get? b=some o)(n:H b=none):(akj h H).get? b=some o :=
 PySem.W.hideAll_get _ e λhm=>by
  have q:(H b).isSome=true:=(gE.mp hm).2;rw[n]at q;simp at q
theorem aoh(e:(akj h H).get? b=some o):h.get? b=some o/\H b=none:=by
 have e':h.get? b=some o:=PySem.W.of_hideAll (trk h H) e;refine⟨e',?_⟩
 cases q:H b with
 |none=>rfl
 |some x =>
  have hm:b∈trk h H:=gE.mpr ⟨bM.mpr (aX e'),by simp[q]⟩
  have z:(akj h H).get? b=none:=PySem.W.hideAll_none (trk h H) hm;rw[z]at e;cases e
def aoi(g h:Heap)(L:Addr):List (Addr×Obj):=(List.range h.objs.size).filterMap λa=>if a=L\/(g.get? a).isSome=true then none else (h.get? a).map λo=>(a,o)
def aF(g h:Heap)(L d:Addr):List (Addr×Obj):=(aoi g h L).filter λp=>decide (p.1≠d)
structure Mod (K:Fg) (mg:Str->Option Value) (base:Heap):Prop where
 kin:K.In base
 glob:base.Ns mainGlobals mg
 blt:∃mb,base.Ns builtinsNs mb/\∀x:Str,x ≠ "__name__"->mb x=bootBuiltins x
 nolimit:base.NoLimit
structure Cx where
 prog:Program
 w:World
 K:Fg
 mg:Str->Option Value
 base:Heap
 A:Around
 N:List Str
 s₀:Shared
 H₀:Hp
 env:Env
 outer:List Env
 stack:List Env
 ex:List Addr
 fn:Str->Bool
 calm:Bool
 pn:List (Addr×Obj)
 xe:Value->Shared->Prop
def frs(l:List Env):List Addr:=l.filterMap (·.frame)
abbrev Cx.fs(X:Cx):List Addr:=frs X.outer
def Vis(sc:Scope)(x:Str):Prop:=sc.names.lookup x=some .local\/sc.names.lookup x=some .cell\/sc.names.lookup x=some .free
def Loc(sc:Scope)(x:Str):Prop:=sc.names.lookup x=some .local\/sc.names.lookup x=some .cell
def Look(env:Env)(h:Heap)(m:Str->Option Value)(x:Str)(u:Value):Prop :=
 (env.kindOf x=some .local/\m x=some u)\/((env.kindOf x=some .cell\/env.kindOf x=some .free)/\∃c,env.cells.lookup x=some c/\h.IsCell c (some u))
structure Cx.Ok (X:Cx):Prop where
 mod:Mod X.K X.mg X.base
 kind:X.env.scope.kind=.function
 glob:X.env.globals=mainGlobals
 blt:X.env.builtins=builtinsNs
 above:X.s₀.heap.objs.size<=X.env.locals
 inj:∀x y c,X.env.cells.lookup x=some c->X.env.cells.lookup y=some c->x=y
 has:∀x,(X.env.kindOf x=some .cell\/X.env.kindOf x=some .free)->∃c,X.env.cells.lookup x=some c
 cab:∀x c,X.fn x=true->X.env.cells.lookup x=some c->X.s₀.heap.objs.size<=c
 hd:X.calm=true->X.A.handled=none
 frames:X.A.frames=some X.stack
 stk:X.stack=X.outer\/(X.stack=X.env::X.outer/\X.env.frame=some X.env.locals)
 exf:∀b∈X.ex,b≠X.env.locals/\∀x c,X.env.cells.lookup x=some c->c≠b
 bs:∀b o,X.base.get? b=some o->X.s₀.heap.get? b=some o/\X.H₀ b=none
 bsz:X.base.objs.size<=X.s₀.heap.objs.size
 noex:∀b o,X.base.get? b=some o->b∉X.ex
 exfs:∀b∈X.ex,b∉X.fs
 funs:X.s₀.heap.FunFrames X.base X.outer
 frf:∀b∈X.fs,X.H₀ b=none
structure Inv (X:Cx) (aA:List (Addr×Obj)) (σ:List (Option V)) (H:Hp) (s:Shared):Prop where
 ok:X.Ok
 os:s.os=X.s₀.os
 bare:AllBare s.gens
 base:Un X.fs X.ex X.H₀ H X.s₀.heap s.heap
 loc:∃m,s.heap.Ns X.env.locals m/\∀(i:Nat) (x:Str) (v:V),X.N[i]? = some x->σ[i]? = some (some v)->Vis X.env.scope x->∃u,RelV v u/\Look X.env s.heap m x u
 cell:∀x c,X.env.cells.lookup x=some c->∃v,s.heap.IsCell c v
 free:H X.env.locals=none
 freeC:∀x c,X.env.cells.lookup x=some c->H c=none
 pin:∀p∈X.pn++aA,s.heap.get? p.1=some p.2/\H p.1=none/\p.1≠X.env.locals/\p.1∉X.fs/\∀v,p.2.data≠.cell v
 hok:HOk X.prog X.w H s.heap
 len:σ.length=X.N.length
section
variable{X:Cx}{aA:List (Addr×Obj)}{σ:List (Option V)}{H H':Hp}{s:Shared}{h':Heap}
theorem Cx.Ok.nofr(ok:X.Ok)(e:X.base.get? b=some o):b∉X.fs:=λhb=>by
 have:=(ok.funs.mem hb).1
 rw[e]at this;cases this
theorem Inv.bs(I:Inv X aA σ H s):∀b o,X.base.get? b=some o->s.heap.get? b=some o/\H b=none:=λb o e =>
 ⟨I.base.keep b o (I.ok.bs b o e).1 (I.ok.bs b o e).2 (I.ok.nofr e) (I.ok.noex b o e),I.base.free b o (I.ok.bs b o e).1 (I.ok.bs b o e).2 (I.ok.noex b o e)⟩
theorem Inv.bk(I:Inv X aA σ H s):∀b o,X.base.get? b=some o->s.heap.get? b=some o:=λb o e=>(I.bs b o e).1
theorem Inv.mod(I:Inv X aA σ H s):Mod X.K X.mg X.base:=I.ok.mod
theorem Inv.kIn(I:Inv X aA σ H s):X.K.In s.heap:=I.ok.mod.kin.keeps I.bk
theorem Inv.fr(I:Inv X aA σ H s):∃m,Fr X.base X.env.locals s.heap m :=
 let ⟨m,hn,_⟩:=I.loc
 ⟨m,hn,I.bk,cq I.ok.bsz I.ok.above⟩
theorem Inv.lt(I:Inv X aA σ H s):X.env.locals<s.heap.objs.size:=let ⟨_,hn,_⟩:=I.loc;hn.lt
theorem Inv.sz(I:Inv X aA σ H s):X.s₀.heap.objs.size<=s.heap.objs.size:=cq I.ok.above (eG I.lt)
theorem Inv.nofs(I:Inv X aA σ H s)(h:s.heap.objs.size<=a):a∉X.fs:=λhb=>by
 obtain⟨_,o,ho,_⟩:=I.ok.funs.mem hb;exact absurd (bo (aX ho) (cq I.sz h)) (cL _)
theorem Inv.cne(I:Inv X aA σ H s):∀x c,X.env.cells.lookup x=some c->c≠X.env.locals:=λx c e z=>by
 obtain⟨v,o,ho,hd⟩:=I.cell x c e;obtain⟨m,⟨o',es,ep,ho',hd',_⟩,_⟩:=I.loc;rw[z,ho']at ho;cases ho;rw[hd']at hd;cases hd
theorem Inv.funs(I:Inv X aA σ H s):s.heap.FunFrames X.base X.outer:=by
 have all:∀(l:List Env),(∀b∈frs l,b∈X.fs)->X.s₀.heap.FunFrames X.base l->s.heap.FunFrames X.base l:=by
  intro l
  induction l with
  |nil=>intro _ _;trivial
  |cons env r ih =>
   intro hs hl
   obtain⟨hk,⟨L,o,hf,hn,ho,hd⟩,hr⟩:=hl;have hL:L∈X.fs:=hs L (by unfold frs;rw[fG,hf];exact bA)
   obtain⟨sl,e⟩:=I.base.slot L o ho (I.ok.frf L hL) hL λz=>I.ok.exfs L z hL;exact⟨hk,⟨L,_,hf,hn,e,hd⟩,ih (λb hb=>hs b (by unfold frs;rw[fG,hf];exact bq _ hb)) hr⟩
 exact all X.outer (λ_ hb=>hb) I.ok.funs
theorem Inv.stack(I:Inv X aA σ H s):s.heap.FunFrames X.base X.stack:=by
 rcases I.ok.stk with e|⟨e,hf⟩
 ·rw[e];exact I.funs
 ·rw[e];obtain⟨m,hn,_⟩:=I.loc;refine .cons (by rw[I.ok.kind];decide) hf hn ?_ I.funs
  exact Heap.get?_none_of_le (cq I.ok.bsz I.ok.above)
theorem Inv.stkSub(I:Inv X aA σ H s):∀b∈frs X.stack,b∈X.env.locals::X.fs:=λb hb=>by
 rcases I.ok.stk with e|⟨e,hf⟩
 ·rw[e]at hb;exact bq _ hb
 ·rw[e]at hb;unfold frs at hb;rw[fG,hf]at hb;exact hb
theorem Inv.stkFree(I:Inv X aA σ H s):∀b∈frs X.stack,H b=none:=λb hb=>by
 rcases aS.mp (I.stkSub b hb) with e|hb
 ·rw[e];exact I.free
 ·obtain⟨_,o,ho,_⟩:=I.ok.funs.mem hb;exact I.base.free b o ho (I.ok.frf b hb) λz=>I.ok.exfs b z hb
theorem Inv.step{g':Array GenState}{t':Nat}{d':Drawn}{ch:List Addr}(I:Inv X aA σ H s)
  (hch:∀b∈ch,(b∈X.ex\/X.s₀.heap.objs.size<=b)/\b≠X.env.locals/\(∀x c,X.env.cells.lookup x=some c->c≠b)/\∀p∈X.pn++aA,p.1≠b)
  (keep:∀b o,b≠X.env.locals->b∉X.fs->b∉ch->s.heap.get? b=some o->H b=none->h'.get? b=some o)
  (slot:∀b o,b≠X.env.locals->b∈X.fs->b∉ch->s.heap.get? b=some o->H b=none->∃sl,h'.get? b=some {o with slots:=sl}) (free:∀b o,b∉ch->s.heap.get? b=some o->H b=none->H' b=none)
  (there:∀b o,b∉ch->s.heap.get? b=some o->∃o',h'.get? b=some o')
  (tups:∀b xs,H b=some (.tup xs)->H' b=some (.tup xs)) (frzs:∀b o u,H b=some (.frz o u)->H' b=some (.frz o u)) (tbls:∀b ps,H b=some (.tbl ps)->∃more,H' b=some (.tbl (ps++more)))
  (ns:∀m,s.heap.Ns X.env.locals m->h'.Ns X.env.locals m) (hok:HOk X.prog X.w H' h') (hg:AllBare g') :
  Inv X aA σ H' {s with heap:=h',gens:=g',drawn:=d',toks:=t' }:=by
 have neL:∀b o,X.s₀.heap.get? b=some o->b≠X.env.locals:=λb o e=>bW (bo (aX e) I.ok.above);have neC:∀b o,X.s₀.heap.get? b=some o->b∉X.ex->b∉ch:=λb o e hx hb=>by
  rcases(hch b hb).1 with z|z
  ·exact hx z
  ·exact absurd (bo (aX e) z) (cL _)
 have cellK:∀x c,X.env.cells.lookup x=some c->∀v,s.heap.IsCell c v->h'.IsCell c v:=λx c e v ⟨o,ho,hd⟩=>by
  have nch:c∉ch:=λz=>(hch c z).2.2.1 x c e rfl
  by_cases hc:c∈X.fs
  ·obtain⟨sl,q⟩:=slot c o (I.cne x c e) hc nch ho (I.freeC x c e);exact⟨_,q,hd⟩
  ·exact⟨o,keep c o (I.cne x c e) hc nch ho (I.freeC x c e),hd⟩
 refine⟨I.ok,I.os,hg,⟨λb o e n hb hx=>?_,λb o e n hb hx=>?_,λb o e n hx=>?_,λb o e hx=>?_,λb xs e=>tups b xs (I.base.tups b xs e),λb o xs e=>frzs b o xs (I.base.frzs b o xs e),λb ps e=>?_⟩,?_,λx c e=>?_,?_,λx c e=>?_,λp hp=>?_,hok,I.len⟩
 ·exact keep b o (neL b o e) hb (neC b o e hx) (I.base.keep b o e n hb hx) (I.base.free b o e n hx)
 ·obtain⟨sl,e1⟩:=I.base.slot b o e n hb hx;obtain⟨sl',e2⟩:=slot b _ (neL b o e) hb (neC b o e hx) e1 (I.base.free b o e n hx);exact⟨sl',e2⟩
 ·obtain⟨o',e1⟩:=I.base.there b o e hx;exact free b o' (neC b o e hx) e1 (I.base.free b o e n hx)
 ·obtain⟨o',e1⟩:=I.base.there b o e hx;exact there b o' (neC b o e hx) e1
 ·obtain⟨m1,e1⟩:=I.base.tbls b ps e;obtain⟨m2,e2⟩:=tbls b _ e1;exact⟨m1++m2,by rw[e2,Array.append_assoc]⟩
 ·obtain⟨m,hn,hl⟩:=I.loc;refine⟨m,ns m hn,λi x v e1 e2 e3=>?_⟩;obtain⟨u,r,l⟩:=hl i x v e1 e2 e3;refine⟨u,r,?_⟩
  rcases l with l|⟨k,c,e,z⟩
  ·exact .inl l
  ·exact .inr ⟨k,c,e,cellK x c e _ z⟩
 ·obtain⟨v,z⟩:=I.cell x c e;exact⟨v,cellK x c e v z⟩
 ·obtain⟨m,⟨o,_,_,ho,_⟩,_⟩:=I.loc;exact free _ o (λz=>(hch _ z).2.1 rfl) ho I.free
 ·obtain⟨v,o,ho,hd⟩:=I.cell x c e;exact free c o (λz=>(hch c z).2.2.1 x c e rfl) ho (I.freeC x c e)
 ·obtain⟨e,n,ne,nf,d⟩:=I.pin p hp;have nch:p.1∉ch:=λz=>(hch p.1 z).2.2.2 p hp rfl;exact⟨keep p.1 p.2 ne nf nch e n,free p.1 p.2 nch e n,ne,nf,d⟩
theorem Inv.un{t':Nat}(I:Inv X aA σ H s)(u:Un X.fs [] H H' s.heap h')(hok:HOk X.prog X.w H' h'):Inv X aA σ H' {s with heap:=h',toks:=t' }:=by
 obtain⟨m,⟨o,es,ep,ho,r⟩,_⟩:=id I.loc;obtain⟨sl,hL⟩:=u.any ho I.free (by simp)
 exact I.step (g':=s.gens) (d':=s.drawn) (ch:=[]) (λ_ z=>nomatch z) (λb o _ hb _ e n=>u.keep b o e n hb (by simp)) (λb o _ hb _ e n=>u.slot b o e n hb (by simp)) (λb o _ e n=>u.free b o e n (by simp)) (λb o _ e=>u.there b o e (by simp)) u.tups u.frzs u.tbls (λm' hm=>by
  obtain⟨o',es',ep',ho',r'⟩:=hm;rw[ho]at ho';cases ho'
  exact⟨_,es',ep',hL,r'⟩) hok I.bare
theorem Inv.call{g':Array GenState}{t':Nat}{d':Drawn}{ch:List Addr}(I:Inv X aA σ H s)(u:Un (frs X.stack) ch H H' s.heap h')(hok:HOk X.prog X.w H' h')(hg:AllBare g')
  (hch:∀b∈ch,(b∈X.ex\/X.s₀.heap.objs.size<=b)/\b≠X.env.locals/\(∀x c,X.env.cells.lookup x=some c->c≠b)/\∀p∈X.pn++aA,p.1≠b) :
  Inv X aA σ H' {s with heap:=h',gens:=g',drawn:=d',toks:=t' }:=by
 obtain⟨m,⟨o,es,ep,ho,r⟩,_⟩:=id I.loc;obtain⟨sl,hL⟩:=u.any ho I.free λz=>(hch _ z).2.1 rfl;exact I.step (ch:=ch) hch (λb o hL hb hc e n=>u.keep b o e n (λz=>(aS.mp (I.stkSub b z)).elim hL hb) hc) (λb o _ _ hc e n=>u.any e n hc) (λb o hc e n=>u.free b o e n hc) (λb o hc e=>u.there b o e hc) u.tups u.frzs u.tbls (λm' hm=>by
  obtain⟨o',es',ep',ho',r'⟩:=hm;rw[ho]at ho';cases ho'
  exact⟨_,es',ep',hL,r'⟩) hok hg
theorem Inv.turned{t':Nat}{it:Addr}(I:Inv X aA σ H s)(k:∀b o,b≠it->s.heap.get? b=some o->h'.get? b=some o)(hn:H it=none)(hL:it≠X.env.locals)
  (h1:it∈X.ex\/X.s₀.heap.objs.size<=it) (h2:∀x c,X.env.cells.lookup x=some c->c≠it) (h3:∀p∈X.pn++aA,p.1≠it):Inv X aA σ H {s with heap:=h',toks:=t' }:=by
 have nit:∀b u,H b=some u->b≠it:=λb u e z=>by rw[z,hn]at e;cases e
 refine I.step (g':=s.gens) (d':=s.drawn) (ch:=[it]) (λb hb=>?_) (λb o _ _ hc e _=>k b o (λz=>hc (by simp[z])) e) (λb o _ _ hc e _=>⟨o.slots,k b o (λz=>hc (by simp[z])) e⟩) (λ_ _ _ _ n=>n)
  (λb o hc e=>⟨o,k b o (λz=>hc (by simp[z])) e⟩) (λ_ _ e=>e) (λ_ _ _ e=>e) (λb ps e=>⟨#[],by rw[e];simp⟩) (λm hm=>?_) (λb u e=>?_) I.bare
 ·have e:b=it:=by simpa using hb
  subst e;exact⟨h1,hL,h2,h3⟩
 ·obtain⟨o,es,ep,ho,r⟩:=hm;exact⟨o,es,ep,k _ o (eV hL) ho,r⟩
 ·refine(I.hok b u e).stay (λc v hc q=>k c v ?_ q) (λ_ q=>q) λ_ _ q=>q
  rcases hc with z|z
  ·rw[z];exact nit b u e
  ·exact nit c _ z
theorem Inv.tok(I:Inv X aA σ H s)(t:Nat):Inv X aA σ H {s with toks:=t}:=I.un (h':=s.heap) (t':=t) Un.refl I.hok
theorem Inv.kept(I:Inv X aA σ H s)(k:∀b u,s.heap.get? b=some u->h'.get? b=some u):Inv X aA σ H {s with heap:=h',toks:=t' }:=I.un (Un.kept k) (I.hok.kept k)
theorem Inv.laid(I:Inv X aA σ H s)(k:∀b u,s.heap.get? b=some u->h'.get? b=some u)(hp:s.heap.objs.size<=a)(new:ObjOk X.prog X.w (upd H a o) h' a o) :
  Inv X aA σ (upd H a o) {s with heap:=h',toks:=t' }:=I.un (Un.laid k hp (I.hok.fresh hp)) (I.hok.laid k hp new)
theorem Inv.write(I:Inv X aA σ H s)(mu:Mut (H x))(he:e=x\/H e=some (.own x))(k:∀b u,b≠e->s.heap.get? b=some u->h'.get? b=some u)(heo:∃u,h'.get? e=some u)
  (new:ObjOk X.prog X.w (upd H x o) h' x o):Inv X aA σ (upd H x o) {s with heap:=h',toks:=t' }:=I.un (Un.write mu he k heo) (I.hok.write mu he k heo new)
theorem Inv.weak{σ':List (Option V)}(I:Inv X aA σ H s)(hl:σ'.length=σ.length)(w:∀(i:Nat) v,σ'[i]? = some (some v)->σ[i]? = some (some v)):Inv X aA σ' H s :=
 ⟨I.ok,I.os,I.bare,I.base,let ⟨m,hn,hl'⟩:=I.loc; ⟨m,hn,λi x v e1 e2 e3=>hl' i x v e1 (w i v e2) e3⟩,I.cell,I.free,I.freeC,I.pin,I.hok,hl.trans I.len⟩
theorem Inv.pins_of(I:Inv X aA σ H s)(h:∀p∈pins',s.heap.get? p.1=some p.2/\H p.1=none/\p.1≠X.env.locals/\p.1∉X.fs/\∀v,p.2.data≠.cell v):Inv X pins' σ H s :=
 ⟨I.ok,I.os,I.bare,I.base,I.loc,I.cell,I.free,I.freeC,λp hp=>(aY.mp hp).elim (λz=>I.pin p (cD _ z)) (h p),I.hok,I.len⟩
theorem adz{N:List Str}(hN:N.Nodup){i j:Nat}(a:N[i]? = some x)(b:N[j]? = some x):i=j:=by
 obtain⟨h1,e1⟩:=ag.mp a;obtain⟨h2,e2⟩:=ag.mp b;exact(List.getElem_inj hN).mp (e1.trans e2.symm)
abbrev Hf(X:Cx)(x:Str):Prop:=X.fn x=true\/X.env.scope.names.lookup x=some .local
theorem ab5{i:Nat}(I:Inv X aA σ H s)(hN:X.N.Nodup)(hi:X.N[i]? = some x)(hx:Loc X.env.scope x)(r:RelV v u)
  (h:∀s',Inv X aA (σ.set i (some v)) H s'->(∃a,Heap.SameBut a s.heap s'.heap/\(a=X.env.locals\/X.env.cells.lookup x=some a))->Q () s') (hf:Hf X x:=by first|exact .inl rfl|exact .inr rfl|assumption):wpAny M A (storeName X.env x u) Q E s:=by
 obtain⟨m,hn,hl⟩:=id I.loc;have hcls:(X.env.scope.kind == .class || (X.env.scope.kind == .module && X.env.locals != X.env.globals))=false:=by rw[I.ok.kind];rfl
 have hiσ:i<σ.length:=by rw[I.len];exact(ag.mp hi).1
 have cne:=I.cne;have tracked:∀{a:Addr} {h':Heap},(∃o,s.heap.get? a=some o/\H a=none)->Heap.SameBut a s.heap h'->HOk X.prog X.w H h':=λ{a h'} ha hs b ob e=>by
  obtain⟨_,_,hfree⟩:=ha;refine(I.hok b ob e).stay (λc w' hc q=>(hs.2 c ?_).trans q) (λ_ q=>q) λ_ _ q=>q
  rintro rfl
  rcases hc with rfl|hc
  ·rw[hfree]at e;cases e
  ·rw[hfree]at hc;cases hc
 rcases hx with hk|hk
 ·refine wpAny_storeName_local hk hn (λh' hn' hs=>?_) hcls;obtain⟨oL,_,_,hoL,_⟩:=id hn;refine h _ ⟨I.ok,I.os,I.bare,⟨λb o e n hb hx=>?_,λb o e n hb hx=>?_,I.base.free,λb o e hx=>?_,I.base.tups,I.base.frzs,I.base.tbls⟩,⟨_,hn',λj y v' e1 e2 e3=>?_⟩,λy c e=>?_,I.free,I.freeC,λp hp=>?_,tracked ⟨oL,hoL,I.free⟩ hs,by simpa using I.len⟩ ⟨_,hs,.inl rfl⟩
  ·exact(hs.2 b (bW (bo (aX e) I.ok.above))).trans (I.base.keep b o e n hb hx)
  ·obtain⟨sl,e1⟩:=I.base.slot b o e n hb hx;exact⟨sl,(hs.2 b (bW (bo (aX e) I.ok.above))).trans e1⟩
  ·obtain⟨o',e1⟩:=I.base.there b o e hx;exact⟨o',(hs.2 b (bW (bo (aX e) I.ok.above))).trans e1⟩
  ·by_cases hj:j=i
   ·subst hj;rw[hi]at e1;cases e1
    rw[bC hiσ]at e2;cases e2
    exact⟨u,r,.inl ⟨hk,by simp⟩⟩
   ·rw[bK (eV hj)]at e2;obtain⟨u',r',q⟩:=hl j y v' e1 e2 e3;refine⟨u',r',?_⟩
    rcases q with⟨k,e⟩|⟨k,c,e,z⟩
    ·refine .inl ⟨k,?_⟩;have:y≠x:=λe=>hj (adz hN e1 (e ▸ hi));simp[this,e]
    ·exact .inr ⟨k,c,e,z.sameBut hs (cne y c e)⟩
  ·obtain⟨w',z⟩:=I.cell y c e;exact⟨w',z.sameBut hs (cne y c e)⟩
  ·obtain⟨e,n,ne,nf,d⟩:=I.pin p hp;exact⟨(hs.2 p.1 ne).trans e,n,ne,nf,d⟩
 ·have hfn:X.fn x=true:=by
   rcases hf with z|z
   ·exact z
   ·rw[z]at hk;cases hk
  obtain⟨c,hc⟩:=I.ok.has x (.inl hk);obtain⟨w',z⟩:=I.cell x c hc;refine wpAny_storeName_cell I.ok.kind hk hc z (λh' hc' hs=>?_);obtain⟨oc,hoc,hocd⟩:=id z;refine h {s with heap:=h' } ⟨I.ok,I.os,I.bare,⟨λb o e n hb hx=>?_,λb o e n hb hx=>?_,I.base.free,λb o e hx=>?_,I.base.tups,I.base.frzs,I.base.tbls⟩,⟨m,hn.sameBut hs (eV (cne x c hc)),λj y v' e1 e2 e3=>?_⟩,λy c' e=>?_,I.free,I.freeC,λp hp=>?_,tracked ⟨oc,hoc,I.freeC x c hc⟩ hs,by simpa using I.len⟩ ⟨c,hs,.inr hc⟩
  ·exact(hs.2 b (bW (bo (aX e) (I.ok.cab x c hfn hc)))).trans (I.base.keep b o e n hb hx)
  ·obtain⟨sl,e1⟩:=I.base.slot b o e n hb hx;exact⟨sl,(hs.2 b (bW (bo (aX e) (I.ok.cab x c hfn hc)))).trans e1⟩
  ·obtain⟨o',e1⟩:=I.base.there b o e hx;exact⟨o',(hs.2 b (bW (bo (aX e) (I.ok.cab x c hfn hc)))).trans e1⟩
  ·by_cases hj:j=i
   ·subst hj;rw[hi]at e1;cases e1
    rw[bC hiσ]at e2;cases e2
    exact⟨u,r,.inr ⟨.inl hk,c,hc,hc'⟩⟩
   ·rw[bK (eV hj)]at e2;obtain⟨u',r',q⟩:=hl j y v' e1 e2 e3;refine⟨u',r',?_⟩
    rcases q with q|⟨k,c',e,z'⟩
    ·exact .inl q
    ·refine .inr ⟨k,c',e,z'.sameBut hs ?_⟩
     rintro rfl
     exact hj (adz hN e1 (I.ok.inj _ _ _ e hc ▸ hi))
  ·by_cases hcc:c'=c
   ·subst hcc;exact⟨_,hc'⟩
   ·obtain⟨w2,z2⟩:=I.cell y c' e;exact⟨w2,z2.sameBut hs hcc⟩
  ·obtain⟨e,n,ne,nf,d⟩:=I.pin p hp;refine⟨(hs.2 p.1 ?_).trans e,n,ne,nf,d⟩
   intro q
   rw[q,hoc]at e;have q':oc=p.2:=bO e;exact d w' (by rw[<-q'];exact hocd)
theorem a9q(I:Inv X aA σ H s)(hN:X.N.Nodup)(hi:X.N[i]? = some x)(hx:Loc X.env.scope x)(r:RelV v u)
  (h:∀s',Inv X aA (σ.set i (some v)) H s'->Q () s') (hf:Hf X x:=by first|exact .inl rfl|exact .inr rfl|assumption):wpAny M A (storeName X.env x u) Q E s :=
 ab5 I hN hi hx r (λs' I' _=>h s' I') hf
end
abbrev XK:=Value->Option Addr->Hp->Prop
abbrev St:=List (Option V)
abbrev VK:=V->Hp->Prop
abbrev TE:=St->Hp->VK->Prop
abbrev TT:=St->Hp->(Bool->Hp->Prop)->Prop
abbrev TA:=St->Hp->(List V->Hp->Prop)->Prop
structure Ends where
 nx:St->Hp->Prop
 rt:VK
 bk:St->Hp->Prop:=λ_ _=>False
 ct:St->Hp->Prop:=λ_ _=>False
abbrev TS:=Ends->St->Hp->Prop
def EP(X:Cx)(aA:List (Addr×Obj))(σ:St)(Q:VK)(u:Value)(s':Shared):Prop:=∃v H',Inv X aA σ H' s'/\RelV v u/\Q v H'
def TP(X:Cx)(aA:List (Addr×Obj))(σ:St)(Q:Bool->Hp->Prop)(b:Bool)(s':Shared):Prop:=∃H',Inv X aA σ H' s'/\Q b H'
def AP(X:Cx)(aA:List (Addr×Obj))(σ:St)(Q:List V->Hp->Prop)(us:List Value)(s':Shared):Prop:=∃vs H',Inv X aA σ H' s'/\Vals vs us/\Q vs H'
def SP(X:Cx)(aA:List (Addr×Obj))(D:Ends)(f:Flow)(s':Shared):Prop :=
 match f with
 |.next=>∃σ' H',Inv X aA σ' H' s'/\D.nx σ' H'
 |.brk=>∃σ' H',Inv X aA σ' H' s'/\D.bk σ' H'
 |.cont=>∃σ' H',Inv X aA σ' H' s'/\D.ct σ' H'
 |.ret u=>∃v σ' H',Inv X aA σ' H' s'/\RelV v u/\D.rt v H'
def PE(X:Cx)(e:Expr)(t:TE):Prop :=
 ∀(aA:List (Addr×Obj)) (s:Shared) (σ:St) (H:Hp) (Q:VK),Inv X aA σ H s->t σ H Q->wpAny (model X.prog X.w) X.A (eval e X.env) (EP X aA σ Q) X.xe s
def PT(X:Cx)(e:Expr)(t:TT):Prop :=
 ∀(aA:List (Addr×Obj)) (s:Shared) (σ:St) (H:Hp) (Q:Bool->Hp->Prop),Inv X aA σ H s->t σ H Q->wpAny (model X.prog X.w) X.A (isTrue e X.env (eval e X.env)) (TP X aA σ Q) X.xe s
def PW(X:Cx)(e:Expr)(t:TT):Prop :=
 ∀(whole:Sem Value) (aA:List (Addr×Obj)) (s:Shared) (σ:St) (H:Hp) (Q:Bool->Hp->Prop),Inv X aA σ H s->t σ H Q->wpAny (model X.prog X.w) X.A (isTrue e X.env whole) (TP X aA σ Q) X.xe s
theorem PW.pt(h:PW X e t):PT X e t:=h _
def PA(X:Cx)(es:List Expr)(t:TA):Prop :=
 ∀(pos:Pos) (aA:List (Addr×Obj)) (s:Shared) (σ:St) (H:Hp) (Q:List V->Hp->Prop),Inv X aA σ H s->t σ H Q->wpAny (model X.prog X.w) X.A (spliced (backTo pos (starEach es X.env))) (AP X aA σ Q) X.xe s
def PS(X:Cx)(st:Stmt)(t:TS):Prop :=
 ∀(aA:List (Addr×Obj)) (s:Shared) (σ:St) (H:Hp) (D:Ends),Inv X aA σ H s->t D σ H->wpAny (model X.prog X.w) X.A (exec st X.env) (SP X aA D) X.xe s
def PSs(X:Cx)(st:List Stmt)(t:TS):Prop :=
 ∀(aA:List (Addr×Obj)) (s:Shared) (σ:St) (H:Hp) (D:Ends),Inv X aA σ H s->t D σ H->wpAny (model X.prog X.w) X.A (execs st X.env) (SP X aA D) X.xe s
theorem thn{α:Type}{t:Sem α}{Q Q':α->Shared->Prop}{M:Model}{A:Around}{E:Value->Shared->Prop}{s:Shared}(h:wpAny M A t Q E s)(hQ:∀a s,Q a s->Q' a s):wpAny M A t Q' E s:=dE h hQ λ_ _ x=>x
section
variable{X:Cx}
def b13(i:Nat):TE:=λσ H Q=>∃v,σ[i]? = some (some v)/\Q v H
def tC(v:V):TE:=λ_ H Q=>Q v H
theorem asj(hN:X.N[i]? = some x)(hv:Vis X.env.scope x)(hd:(x == ("__debug__" : Str))=false:=by decide)(hcd:(x == ("__classdict__" : Str))=false:=by decide):PE X (.Name x pos) (b13 i):=by
 intro aA s σ H Q I h
 obtain⟨v,e,h⟩:=h;obtain⟨m,hn,hl⟩:=I.loc;obtain⟨u,r,l⟩:=hl i x v hN e hv;have fin:EP X aA σ Q u s:=⟨v,H,I,r,h⟩
 rcases l with⟨hk,hm⟩|⟨hk,c,hc,hcell⟩
 ·exact wpAny_Name (wpAny_loadName_local I.ok.kind hk hn hm fin) hd
 ·rcases hk with hk|hk
  ·exact wpAny_Name (wpAny_loadName_cell I.ok.kind hk hc hcell fin) hd
  ·exact wpAny_Name (wpAny_loadName_free I.ok.kind hk hc hcell fin hcd) hd
theorem asl{i j pos}:PE X (.Constant (.int i) j pos) (tC (.int i)):=λ_ _ _ H _ I h=>wpAny_Constant_int ⟨.int i,H,I.tok _,⟨_,rfl⟩,h⟩
theorem axy{b j pos}:PE X (.Constant (.bool b) j pos) (tC (.bl b)):=λ_ _ _ H _ I h=>Constant_bool ⟨.bl b,H,I,rfl,h⟩
theorem asm{j pos}:PE X (.Constant .none j pos) (tC .non):=λ_ _ _ H _ I h=>Constant_none ⟨.non,H,I,rfl,h⟩
theorem asn{x j pos}:PE X (.Constant (.str x) j pos) (tC (.str x)):=λ_ _ _ H _ I h=>Calls.Constant_str ⟨.str x,H,I.tok _,⟨_,rfl⟩,h⟩
def Gl(X:Cx)(x:Str):Prop:=X.env.kindOf x=some .globalImplicit
theorem a9r(I:Inv X aA σ H s)(hg:Gl X x)(hm:X.mg x=some u)(h:Q u s)
  (hd:(x == ("__debug__" : Str))=false:=by decide):wpAny (model X.prog X.w) X.A (eval (.Name x pos) X.env) Q E s :=
 Calls.Name_function_global I.ok.kind hg (Calls.loadGlobal_global (by rw[I.ok.glob];exact I.mod.glob.keeps I.bk) hm h) hd
theorem a95(I:Inv X aA σ H s)(hg:Gl X x)(hm:X.mg x=none)(hv:bootBuiltins x=some u)(h:Q u s)
  (hn:x ≠ "__name__":=by decide) (hd:(x == ("__debug__" : Str))=false:=by decide):wpAny (model X.prog X.w) X.A (eval (.Name x pos) X.env) Q E s:=by
 obtain⟨mb,h1,h2⟩:=I.mod.blt;exact Calls.Name_function_global I.ok.kind hg (Calls.loadGlobal_builtin (by rw[I.ok.glob];exact I.mod.glob.keeps I.bk) hm (by rw[I.ok.blt];exact h1.keeps I.bk) ((h2 x hn).trans hv) h) hd
theorem aoj(hg:Gl X x)(hm:X.mg x=some u)(r:RelV v u)(hd:(x == ("__debug__" : Str))=false:=by decide):PE X (.Name x pos) (tC v) :=
 λ_ _ _ H _ I h=>a9r I hg hm ⟨v,H,I,r,h⟩ hd
theorem aok(hg:Gl X x)(hm:X.mg x=none)(hv:bootBuiltins x=some u)(r:RelV v u)(hn:x ≠ "__name__":=by decide)(hd:(x == ("__debug__" : Str))=false:=by decide):PE X (.Name x pos) (tC v) :=
 λ_ _ _ H _ I h=>a95 I hg hm hv ⟨v,H,I,r,h⟩ hn hd
variable{a b:Expr}{ta tb:TE}{pos:Pos}
variable{tA tB':TT}{aF:List Expr}
def b14(t u:TT):TT:=λσ H Q=>t σ H λc H1=>if c=true then u σ H1 Q else Q false H1
def tOr(t u:TT):TT:=λσ H Q=>t σ H λc H1=>if c=true then Q true H1 else u σ H1 Q
def b15(t:TT):TT:=λσ H Q=>t σ H λc H1=>Q (!c) H1
theorem aol(ha:PT X a tA):PW X (.BoolOp .And [a] pos) tA:=by
 intro wh aA s σ H Q I h
 refine isTrue_and (thn (ha aA s σ H Q I h) λc s1 e=>?_)
 cases c with
 |true=>exact isTrue_and_nil e
 |false=>exact e
theorem aso(ha:PT X a tA):PW X (.BoolOp .Or [a] pos) tA:=by
 intro wh aA s σ H Q I h
 refine isTrue_or (thn (ha aA s σ H Q I h) λc s1 e=>?_)
 cases c with
 |false=>exact isTrue_or_nil e
 |true=>exact e
theorem asp(ha:PT X a tA)(hb:PW X (.BoolOp .And (b::aF) pos) tB'):PW X (.BoolOp .And (a::b::aF) pos) (b14 tA tB'):=by
 intro wh aA s σ H Q I h
 refine isTrue_and (thn (ha aA s σ H _ I h) λc s1 ⟨H1,I1,q1⟩=>?_)
 cases c with
 |true=>exact hb wh aA s1 σ H1 Q I1 q1
 |false=>exact⟨H1,I1,q1⟩
theorem axz(ha:PT X a tA)(hb:PW X (.BoolOp .Or (b::aF) pos) tB'):PW X (.BoolOp .Or (a::b::aF) pos) (tOr tA tB'):=by
 intro wh aA s σ H Q I h
 refine isTrue_or (thn (ha aA s σ H _ I h) λc s1 ⟨H1,I1,q1⟩=>?_)
 cases c with
 |true=>exact⟨H1,I1,q1⟩
 |false=>exact hb wh aA s1 σ H1 Q I1 q1
theorem asq(ha:PT X a tA):PT X (.UnaryOp .Not a pos) (b15 tA):=by
 intro aA s σ H Q I h
 exact isTrue_not (ha aA s σ H (λc H1=>Q (!c) H1) I h)
def ay0(ta tb:TE):TE:=λσ H Q=>ta σ H λx H1=>∃c,x=.bl c/\if c=true then tb σ H1 Q else Q (.bl false) H1
def ay1(ta:TE):TE:=λσ H Q=>ta σ H λx H1=>∃c,x=.bl c/\Q (.bl (!c)) H1
theorem asr{op}(h:PE X a t):PE X (.BoolOp op [a] pos) t:=λaA s σ H Q I hw=>BoolOp_one (h aA s σ H Q I hw)
theorem ass(ha:PE X a ta)(hb:PE X (.BoolOp .And (b::aF) pos) tb):PE X (.BoolOp .And (a::b::aF) pos) (ay0 ta tb):=by
 intro aA s σ H Q I h
 refine BoolOp_and (thn (ha aA s σ H _ I h) λv s1 ⟨x,H1,I1,r1,q1⟩=>?_);obtain⟨c,rfl,q1⟩:=q1;cases r1
 refine e7 ?_
 cases c with
 |true=>exact hb aA s1 σ H1 Q I1 q1
 |false=>exact⟨.bl false,H1,I1,rfl,q1⟩
theorem asu(ha:PE X a ta):PE X (.UnaryOp .Not a pos) (ay1 ta):=by
 intro aA s σ H Q I h
 refine UnaryOp_ (thn (ha aA s σ H _ I h) λv s1 ⟨x,H1,I1,r1,q1⟩=>?_);obtain⟨c,rfl,q1⟩:=q1;cases r1
 exact not_of (e7 ⟨.bl (!c),H1,I1,rfl,q1⟩)
def tIf(t:TT)(ta tb:TE):TE:=λσ H Q=>t σ H λc H1=>if c=true then ta σ H1 Q else tb σ H1 Q
theorem akl{c:Expr}(hc:PT X c tA)(ha:PE X a ta)(hb:PE X b tb):PE X (.IfExp c a b pos) (tIf tA ta tb):=by
 intro aA s σ H Q I h
 refine wpAny_IfExp (thn (hc aA s σ H _ I h) λd s1 ⟨H1,I1,q1⟩=>?_)
 cases d with
 |true=>exact ha aA s1 σ H1 Q I1 q1
 |false=>exact hb aA s1 σ H1 Q I1 q1
end
def SqL(K:Fg)(H:Hp)(a:Addr)(xs:List V):Prop :=
 Rd H a (.lst xs) \/
  ∃(o:Obj) (its:Array Value) (n:Nat),K.lookup a=some o/\o.cls=.type "list"/\o.dict=none/\o.data=.seq its n/\its.size<=sizeLine/\Vals xs its.toList
def SqT(K:Fg)(H:Hp)(a:Addr)(xs:List V):Prop :=
 Rd H a (.tup xs) \/
  ∃(o:Obj) (its:Array Value) (n:Nat),K.lookup a=some o/\o.cls=.type "tuple"/\o.data=.seq its n/\its.size<=sizeLine/\Vals xs its.toList
def b16:Value->Option V
 |.none=>some .non
 |.bool b=>some (.bl b)
 |.int i _=>some (.int i)
 |.str x _=>some (.str x)
 |.bytes b _=>some (.byt b)
 |.float b _=>some (.flt b)
 |.ref a=>some (.ref a)
 |.type n=>some (.ty n)
 |_=>none
theorem RelV.abs(r:RelV x u):b16 u=some x:=by
 cases x with
 |non=>cases r;rfl
 |bl _=>cases r;rfl
 |int _=>obtain⟨t,rfl⟩:=r;rfl
 |str _=>obtain⟨t,rfl⟩:=r;rfl
 |byt _=>obtain⟨t,rfl⟩:=r;rfl
 |flt _=>obtain⟨t,rfl⟩:=r;rfl
 |ref _=>cases r;rfl
 |ty _=>cases r;rfl
theorem RelV.inj(r:RelV x u)(q:RelV y u):x=y:=bO (r.abs.symm.trans q.abs)
theorem Vals.inj:∀{xs ys:List V} {us:List Value},Vals xs us->Vals ys us->xs=ys
 |_,_,_,.nil,.nil=>rfl
 |_,_,_,.cons r t,.cons r' t'=>by rw[r.inj r',Vals.inj t t']
section
variable{X:Cx}{aA:List (Addr×Obj)}{σ:St}{H:Hp}{s:Shared}{a:Addr}{xs ys:List V}
theorem SqL.of{K:Fg}(h:H a=some (.lst xs)):SqL K H a xs:=.inl (.inl h)
theorem SqT.of{K:Fg}(h:H a=some (.tup xs)):SqT K H a xs:=.inl (.inl h)
theorem Inv.list(I:Inv X aA σ H s)(h:SqL X.K H a xs):∃its:List Value,Vals xs its/\PlainL s.heap a its.toArray/\xs.length<=sizeLine:=by
 rcases h with h|⟨o,its,n,hk,hc,hd,hs,hz,r⟩
 ·obtain⟨z,its,n,r,e⟩:=h.ok I.hok;exact⟨its,r,⟨_,n,e,rfl,rfl,rfl⟩,z⟩
 ·refine⟨its.toList,r,⟨o,n,I.kIn a o hk,hc,hd,by simpa using hs⟩,?_⟩
  have e:=r.length;simp only[dN]at e;omega
theorem Inv.tuple(I:Inv X aA σ H s)(h:SqT X.K H a xs):∃its:List Value,Vals xs its/\IsTup s.heap a its.toArray/\xs.length<=sizeLine:=by
 rcases h with h|⟨o,its,n,hk,hc,hs,hz,r⟩
 ·obtain⟨z,its,r,p⟩:=h.ok I.hok;exact⟨its,r,p,z⟩
 ·refine⟨its.toList,r,⟨o,I.kIn a o hk,hc,n,by simpa using hs⟩,?_⟩
  have e:=r.length;simp only[dN]at e;omega
theorem Inv.list_inj(I:Inv X aA σ H s)(h:SqL X.K H a xs)(h':SqL X.K H a ys):xs=ys:=by
 obtain⟨its,r,⟨o,n,e,_,_,d⟩,_⟩:=I.list h;obtain⟨its',r',⟨o',n',e',_,_,d'⟩,_⟩:=I.list h';rw[e]at e';cases e'
 rw[d]at d'
 injection d' with d1 _
 have:its=its':=by simpa using aN Array.toList d1
 subst this;exact r.inj r'
theorem Inv.tuple_inj(I:Inv X aA σ H s)(h:SqT X.K H a xs)(h':SqT X.K H a ys):xs=ys:=by
 obtain⟨its,r,⟨o,e,_,n,d⟩,_⟩:=I.tuple h;obtain⟨its',r',⟨o',e',_,n',d'⟩,_⟩:=I.tuple h';rw[e]at e';cases e'
 rw[d]at d'
 injection d' with d1 _
 have:its=its':=by simpa using aN Array.toList d1
 subst this;exact r.inj r'
end
abbrev Cx.wish(X:Cx)(E:Value->Shared->Prop):Cx:={X with xe:=E}
abbrev Cx.nox(X:Cx):Cx:=X.wish λ_ _=>False
theorem Cx.Ok.wish{X:Cx}(ok:X.Ok)(E:Value->Shared->Prop):(X.wish E).Ok :=
 ⟨ok.mod,ok.kind,ok.glob,ok.blt,ok.above,ok.inj,ok.has,ok.cab,ok.hd,ok.frames,ok.stk,ok.exf,ok.bs,ok.bsz,ok.noex,ok.exfs,ok.funs,ok.frf⟩
theorem Cx.Ok.unwish{X:Cx}(ok:(X.wish E).Ok):X.Ok :=
 ⟨ok.mod,ok.kind,ok.glob,ok.blt,ok.above,ok.inj,ok.has,ok.cab,ok.hd,ok.frames,ok.stk,ok.exf,ok.bs,ok.bsz,ok.noex,ok.exfs,ok.funs,ok.frf⟩
section
variable{X:Cx}{aA:List (Addr×Obj)}{σ:St}{H:Hp}{s:Shared}{E:Value->Shared->Prop}
theorem Inv.wish(I:Inv X aA σ H s)(E:Value->Shared->Prop):Inv (X.wish E) aA σ H s:=⟨I.ok.wish E,I.os,I.bare,I.base,I.loc,I.cell,I.free,I.freeC,I.pin,I.hok,I.len⟩
theorem Inv.unwish(I:Inv (X.wish E) aA σ H s):Inv X aA σ H s:=⟨I.ok.unwish,I.os,I.bare,I.base,I.loc,I.cell,I.free,I.freeC,I.pin,I.hok,I.len⟩
theorem SP.unwish(h:SP (X.wish E) aA D f s'):SP X aA D f s':=by
 cases f with
 |next=>obtain⟨σ',H',I,q⟩:=h;exact⟨σ',H',I.unwish,q⟩
 |brk=>obtain⟨σ',H',I,q⟩:=h;exact⟨σ',H',I.unwish,q⟩
 |cont=>obtain⟨σ',H',I,q⟩:=h;exact⟨σ',H',I.unwish,q⟩
 |ret u=>obtain⟨v,σ',H',I,r,q⟩:=h;exact⟨v,σ',H',I.unwish,r,q⟩
theorem PSs.nox{st:List Stmt}{t:TS}(h:PSs X.nox st t):PSs X st t:=λaA s σ H D I hw =>
 dE (h aA s σ H D (I.wish _) hw) (λ_ _ q=>q.unwish) λ_ _ z=>False.elim z
end
section
variable{X:Cx}{st:Stmt}{aF:List Stmt}{t u:TS}{e:Expr}{te:TE}{pos:Pos}
def ay2:TS:=λD σ H=>D.nx σ H
def b17(t u:TS):TS:=λD σ H=>t {D with nx:=u D} σ H
theorem aom:PSs X [] ay2:=λ_ _ σ H _ I h=>fH ⟨σ,H,I,h⟩
theorem akm(h1:PS X st t)(h2:PSs X aF u):PSs X (st::aF) (b17 t u):=by
 intro aA s σ H D I h
 refine wpAny_execs_cons (thn (h1 aA s σ H {D with nx:=u D} I h) λf s1 q=>?_)
 cases f with
 |next =>
  obtain⟨σ',H',I',q⟩:=q;exact h2 aA s1 σ' H' D I' q
 |ret v=>exact q
 |brk=>exact q
 |cont=>exact q
theorem aon(h1:PS X st t):PSs X [st] t:=by
 intro aA s σ H D I h
 refine wpAny_execs_cons (thn (h1 aA s σ H D I h) λf s1 q=>?_)
 cases f with
 |next=>exact fH q
 |ret v=>exact q
 |brk=>exact q
 |cont=>exact q
theorem Inv.quiet(I:Inv X aA σ H s):interactive X.env=false:=by simp[interactive,I.ok.kind]
def ay3(te:TE):TS:=λD σ H=>te σ H λ_ H1=>D.nx σ H1
theorem aoo(he:PE X e te)(hs:swapsWith e none pos.line X.env=pure false:=by rfl):PS X (.Expr e pos) (ay3 te):=by
 intro aA s σ H D I h
 exact wpAny_Expr_any (thn (he aA s σ H _ I h) λv s1 ⟨x,H1,I1,r1,q1⟩=>⟨σ,H1,I1,q1⟩) I.quiet hs
def b18(te:TE):TS:=λD σ H=>te σ H D.rt
theorem asv(he:PE X e te):PS X (.Return (some e) pos) (b18 te):=by
 intro aA s σ H D I h
 exact wpAny_Return_some (thn (he aA s σ H _ I h) λv s1 ⟨x,H1,I1,r1,q1⟩=>⟨x,σ,H1,I1,r1,q1⟩)
def b19(c:TT)(t u:TS):TS:=λD σ H=>c σ H λb H1=>if b=true then t D σ H1 else u D σ H1
theorem ay4{c:Expr}{a b:List Stmt}{tc:TT}(hc:PT X c tc)(ha:PSs X a t)(hb:PSs X b u):PS X (.If c a b pos) (b19 tc t u):=by
 intro aA s σ H D I h
 refine wpAny_If (thn (hc aA s σ H _ I h) λd s1 ⟨H1,I1,q1⟩=>?_)
 cases d with
 |true=>exact ha aA s1 σ H1 D I1 q1
 |false=>exact hb aA s1 σ H1 D I1 q1
end
abbrev TG:=V->St->Hp->(St->Hp->Prop)->Prop
abbrev TGs:=List V->St->Hp->(St->Hp->Prop)->Prop
def PG(X:Cx)(target:Expr)(t:TG):Prop :=
 ∀(aA:List (Addr×Obj)) (s:Shared) (σ:St) (H:Hp) (v:V) (u:Value) (Q:St->Hp->Prop),Inv X aA σ H s->RelV v u->t v σ H Q->
  wpAny (model X.prog X.w) X.A (assign target X.env u) (λ_ s'=>∃σ' H',Inv X aA σ' H' s'/\Q σ' H') X.xe s
def PGs(X:Cx)(ts:List Expr)(t:TGs):Prop :=
 ∀(aA:List (Addr×Obj)) (s:Shared) (σ:St) (H:Hp) (vs:List V) (us:List Value) (Q:St->Hp->Prop),Inv X aA σ H s->Vals vs us->t vs σ H Q->
  wpAny (model X.prog X.w) X.A (assignInOrder ((assignEach ts X.env).map (·.2)) us) (λ_ s'=>∃σ' H',Inv X aA σ' H' s'/\Q σ' H') X.xe s
abbrev asw:=V->V->V->Hp->(Hp->Prop)->Prop
def ay5(X:Cx)(t:asw):Prop :=
 ∀(aA:List (Addr×Obj)) (s:Shared) (σ:St) (H:Hp) (o i v:V) (ov iv u:Value) (Q:Hp->Prop),Inv X aA σ H s->RelV o ov->RelV i iv->RelV v u->t o i v H Q->
  wpAny (model X.prog X.w) X.A (setItem ov iv u) (λ_ s'=>∃H',Inv X aA σ H' s'/\Q H') X.xe s
abbrev TIp:=V->V->Hp->VK->Prop
def PIp(X:Cx)(op:Operator)(t:TIp):Prop :=
 ∀(aA:List (Addr×Obj)) (s:Shared) (σ:St) (H:Hp) (x y:V) (v u:Value) (Q:VK),Inv X aA σ H s->RelV x v->RelV y u->t x y H Q->
  wpAny (model X.prog X.w) X.A (inplaceOp op v u) (EP X aA σ Q) X.xe s
section
variable{X:Cx}{pos:Pos}
def afj(i:Nat):TG:=λv σ H Q=>Q (σ.set i (some v)) H
theorem agq(hN:X.N.Nodup)(hi:X.N[i]? = some x)(hx:Loc X.env.scope x)(hf:Hf X x:=by first|exact .inl rfl|exact .inr rfl|assumption):PG X (.Name x pos) (afj i):=by
 intro aA s σ H v u Q I r h
 exact wpAny_assign_Name (a9q I hN hi hx r (λs' I'=>⟨_,H,I',h⟩) hf)
def b1a:TGs:=λvs σ H Q=>vs=[]/\Q σ H
def asx(t:TG)(u:TGs):TGs:=λvs σ H Q=>∃v r,vs=v::r/\t v σ H λσ' H'=>u r σ' H' Q
theorem aop:PGs X [] b1a:=by
 intro aA s σ H vs us Q I r h
 obtain⟨e,h⟩:=h;subst e;cases r
 exact assignInOrder_nil ⟨σ,H,I,h⟩
theorem akn{e:Expr}{es:List Expr}{t:TG}{u:TGs}(h1:PG X e t)(h2:PGs X es u)
  (hs:(assignEach (e::es) X.env).map (·.2)=assign e X.env::(assignEach es X.env).map (·.2):=by rfl):PGs X (e::es) (asx t u):=by
 intro aA s σ H vs us Q I r h
 obtain⟨v,vr,e1,h⟩:=h;subst e1
 cases r with
 |cons r rr =>
  rw[hs];refine assignInOrder_cons (thn (h1 aA s σ H _ _ _ I r h) λ_ s1 ⟨σ1,H1,I1,q1⟩=>?_);exact h2 aA s1 σ1 H1 _ _ Q I1 rr q1
def a2o(K:Fg)(n:Nat)(t:TGs):TG:=λv σ H Q=>∃a xs,v=.ref a/\SqT K H a xs/\xs.length=n/\t xs σ H Q
theorem asy(hc:X.calm=true)(h:PGs X es t)
  (hn:(assignEach es X.env).length=n:=by rfl) (hst:(assignEach es X.env).findIdx? (·.1)=none:=by rfl):PG X (.Tuple es k pos) (a2o X.K n t):=by
 intro aA s σ H v u Q I r hw
 obtain⟨a,xs,e1,hq,hl,hw⟩:=hw;subst e1;cases r
 obtain⟨its,rv,ht,hz⟩:=I.tuple hq;refine assign_Tuple_tuple (I.ok.hd hc) ht (by simp[hn,<-hl,rv.length]) hst λh' hx=>?_
 have I1:Inv X aA σ H {s with heap:=h' }:=I.kept (t':=s.toks) λb o e=>hx b o (bW (aX e)) e
 exact h aA _ σ H xs _ Q I1 (by simpa using rv) hw
def acs(to ti:TE)(t:asw):TG:=λv σ H Q=>to σ H λo H1=>ti σ H1 λi H2=>t o i v H2 λH3=>Q σ H3
theorem asz{o i:Expr}{to ti:TE}{t:asw}(ho:PE X o to)(hi:PE X i ti)(hs:ay5 X t)
  (ha:∀v,assign (.Subscript o i pos) X.env v=(do
   let ov <-holding [v] (eval o X.env)
   let iv <-holding [v,ov] (eval i X.env)
   standAt pos
   holding [v,ov,iv] (setItem ov iv v)
   release [v,ov,iv] []):=by intro _;rfl):PG X (.Subscript o i pos) (acs to ti t):=by
 intro aA s σ H v u Q I r h
 rw[ha];refine aH (fA (thn (ho aA s σ H _ I h) λov s1 ⟨x,H1,I1,r1,q1⟩=>?_));refine aH (fA (thn (hi aA s1 σ H1 _ I1 q1) λiv s2 ⟨y,H2,I2,r2,q2⟩=>?_));refine aH (wpAny_standAt (aH (fA (thn (hs aA s2 σ H2 x y v ov iv u _ I2 r1 r2 r q2) λ_ s3 ⟨H3,I3,q3⟩=>?_))));exact wpAny_release ⟨σ,H3,I3,q3⟩
def ay6(te:TE)(g:TG):TS:=λD σ H=>te σ H λx H1=>g x σ H1 D.nx
theorem an5{tg e:Expr}{te:TE}{g:TG}(he:PE X e te)(hg:PG X tg g)(hs:swapsWithSole [tg] e pos.line X.env=pure false:=by rfl)(hw:swappedStores [tg] e X.env=pure none:=by rfl)
  (h1:(assignEach [tg] X.env).map (·.2)=[assign tg X.env]:=by rfl):PS X (.Assign [tg] e pos) (ay6 te g):=by
 intro aA s σ H D I h
 refine wpAny_Assign_stores (thn (he aA s σ H _ I h) λv s1 ⟨x,H1,I1,r1,q1⟩=>?_) hs hw;rw[h1];exact thn (hg aA s1 σ H1 x v _ I1 r1 q1) λ_ s2 q=>q
theorem at5{i:Nat}{x:Str}{e:Expr}{te:TE}{pos':Pos}(hN:X.N.Nodup)(hi:X.N[i]? = some x)(hx:Loc X.env.scope x)(he:PE X e te)(hs:swapsWith e (some (.Name x pos')) pos.line X.env=pure false:=by rfl)(hf:Hf X x:=by first|exact .inl rfl|exact .inr rfl|assumption) :
  PS X (.Assign [.Name x pos'] e pos) (ay6 te (afj i)):=by
 intro aA s σ H D I h
 refine wpAny_Assign_Name (thn (he aA s σ H _ I h) λv s1 ⟨y,H1,I1,r1,q1⟩=>?_) hs;exact a9q I1 hN hi hx r1 (λs2 I2=>⟨_,H1,I2,q1⟩) hf
def b1b(i:Nat)(te:TE)(ti:TIp):TS:=λD σ H=>∃x,σ[i]? = some (some x)/\te σ H λy H1=>ti x y H1 λz H2=>D.nx (σ.set i (some z)) H2
theorem at6{i:Nat}{x:Str}{e:Expr}{te:TE}{op:Operator}{ti:TIp}{pos':Pos}(hN:X.N.Nodup)(hi:X.N[i]? = some x)(hx:Loc X.env.scope x)(he:PE X e te)(ho:PIp X op ti)(hf:Hf X x:=by first|exact .inl rfl|exact .inr rfl|assumption) :
  PS X (.AugAssign (.Name x pos') op e pos) (b1b i te ti):=by
 intro aA s σ H D I h
 obtain⟨v,e1,h⟩:=h;obtain⟨m,hn,hl⟩:=I.loc;have vis:Vis X.env.scope x:=by rcases hx with k|k;exact .inl k;exact .inr (.inl k)
 obtain⟨u,r,l⟩:=hl i x v hi e1 vis;refine wpAny_AugAssign_Name ?_;have go:wpAny (model X.prog X.w) X.A (eval e X.env) (λw s₂=>wpAny (model X.prog X.w) X.A (inplaceOp op u w) (λr s₃=>wpAny (model X.prog X.w) X.A (storeName X.env x r) (λ_=>SP X aA D .next) X.xe s₃) X.xe s₂) X.xe s:=by
  refine thn (he aA s σ H _ I h) ?_
  rintro w s1 ⟨y,H1,I1,r1,q1⟩
  refine thn (ho aA s1 σ H1 v y u w _ I1 r r1 q1) ?_
  rintro z s2 ⟨zv,H2,I2,r2,q2⟩
  exact a9q I2 hN hi hx r2 (λs3 I3=>⟨_,H2,I3,q2⟩) hf
 rcases l with⟨hk,hm⟩|⟨hk,c,hc,hcell⟩
 ·exact wpAny_loadName_local I.ok.kind hk hn hm go
 ·rcases hk with hk|hk
  ·exact wpAny_loadName_cell I.ok.kind hk hc hcell go
  ·rcases hx with k|k
   ·have:X.env.scope.names.lookup x=some .free:=hk
    rw[k]at this;cases this
   ·have:X.env.scope.names.lookup x=some .free:=hk
    rw[k]at this;cases this
def ay7(to ti te:TE)(tget:V->V->Hp->VK->Prop)(tip:TIp)(tset:asw):TS:=λD σ H=>to σ H λo H1=>ti σ H1 λi H2=>tget o i H2 λx H3=>te σ H3 λy H4=>tip x y H4 λz H5=>tset o i z H5 λH6=>D.nx σ H6
def azw(X:Cx)(t:V->V->Hp->VK->Prop):Prop :=
 ∀(aA:List (Addr×Obj)) (s:Shared) (σ:St) (H:Hp) (o i:V) (ov iv:Value) (Q:VK),Inv X aA σ H s->RelV o ov->RelV i iv->t o i H Q->
  wpAny (model X.prog X.w) X.A (getItem ov iv) (EP X aA σ Q) X.xe s
theorem aoq{o i e:Expr}{to ti te:TE}{tget:V->V->Hp->VK->Prop}{tip:TIp}{tset:asw}{op:Operator}{tpos:Pos}(ho:PE X o to)(hi:PE X i ti)(hg:azw X tget)(he:PE X e te)(hp:PIp X op tip)(hs:ay5 X tset)
  (ha:∀ov iv new,augStore i ov iv new=(do holding [new,ov,iv] (setItem ov iv new);release [new,ov,iv] [];pure .next):=by intros;rfl):PS X (.AugAssign (.Subscript o i tpos) op e pos) (ay7 to ti te tget tip tset):=by
 intro aA s σ H D I h
 refine wpAny_AugAssign_SubscriptAny (thn (ho aA s σ H _ I h) λov s1 ⟨x1,H1,I1,r1,q1⟩=>?_) ha;refine thn (hi aA s1 σ H1 _ I1 q1) ?_
 rintro iv s2 ⟨x2,H2,I2,r2,q2⟩
 refine thn (hg aA s2 σ H2 x1 x2 ov iv _ I2 r1 r2 q2) ?_
 rintro old s3 ⟨x3,H3,I3,r3,q3⟩
 refine thn (he aA s3 σ H3 _ I3 q3) ?_
 rintro v s4 ⟨x4,H4,I4,r4,q4⟩
 refine thn (hp aA s4 σ H4 x3 x4 old v _ I4 r3 r4 q4) ?_
 rintro new s5 ⟨x5,H5,I5,r5,q5⟩
 exact thn (hs aA s5 σ H5 x1 x2 x5 ov iv new _ I5 r1 r2 r5 q5) λ_ s6 ⟨H6,I6,q6⟩=>⟨σ,H6,I6,q6⟩
end
section
variable{X:Cx}{pos:Pos}
def at7(c:TT)(tb:TS):TS:=λD σ H=>∃W:Nat->St->Hp->Prop,(∃m,W m σ H)/\∀m σ H,W m σ H->
 c σ H λb H1=>if b=true then ∃N:St->Hp->Prop,(∀σ' H',N σ' H'->∃m',m'<m/\W m' σ' H')/\tb {D with nx:=N,ct:=N,bk:=D.nx} σ H1 else D.nx σ H1
theorem ako{c:Expr}{body:List Stmt}{tc:TT}{tb:TS}(hp:PassesOwn (model X.prog X.w) X.A X.env X.xe)(hc:PT X c tc)(hb:PSs X body tb):PS X (.While c body [] pos) (at7 tc tb):=by
 intro aA s σ H D I h
 obtain⟨W,⟨m0,w0⟩,turn⟩:=h;refine wpAny_While (codeAny_whileLoop (λn s'=>∃σ' H',Inv X aA σ' H' s'/\W n σ' H') ?_ m0 ⟨σ,H,I,w0⟩)
 rintro n s1 ⟨σ1,H1,I1,w1⟩
 refine dF hp (thn (hc aA s1 σ1 H1 _ I1 (turn n σ1 H1 w1)) λb s2 ⟨H2,I2,q2⟩=>?_)
 cases b with
 |true =>
  obtain⟨N,hN,q2⟩:=q2;rw[aR rfl];refine dF hp (thn (hb aA s2 σ1 H2 _ I2 q2) λf s3 q3=>?_)
  cases f with
  |next =>
   obtain⟨σ3,H3,I3,n3⟩:=q3;obtain⟨m',hm,w3⟩:=hN σ3 H3 n3;exact⟨m',hm,σ3,H3,I3,w3⟩
  |cont =>
   obtain⟨σ3,H3,I3,n3⟩:=q3;obtain⟨m',hm,w3⟩:=hN σ3 H3 n3;exact⟨m',hm,σ3,H3,I3,w3⟩
  |brk=>exact q3
  |ret v=>exact q3
 |false =>
  rw[bE bF];exact fH ⟨σ1,H2,I2,q2⟩
end
structure It where
 go:Nat->Hp->Prop
 yld:Nat->Hp->V->Hp->Prop
 stop:Nat->Hp->Prop
def ab6(X:Cx)(aA:List (Addr×Obj))(H:Hp)(b:Addr):Prop :=
 H b=none/\b≠X.env.locals/\b∉X.fs/\(b∈X.ex\/X.s₀.heap.objs.size<=b)/\(∀x c,X.env.cells.lookup x=some c->c≠b)/\∀p∈X.pn++aA,p.1≠b
theorem Inv.fpOk(I:Inv X aA σ H s)(hb:s.heap.objs.size<=b)(hn:H' b=none):ab6 X aA H' b:=by
 refine⟨hn,Nat.ne_of_gt (bo I.lt hb),I.nofs hb,.inr (cq I.sz hb),λx c e z=>?_,λp hp z=>?_⟩
 ·obtain⟨v,q⟩:=I.cell x c e;exact absurd (bo q.lt (by rw[z];exact hb)) (cL _)
 ·exact absurd (bo (aX (I.pin p hp).1) (by rw[z];exact hb)) (cL _)
structure Turn (P:Program) (w:World) (K:Fg) (tg:Expr) (J:It) (fp:List Addr) (it:Addr) (tn:Nat->Heap->Prop):Prop where
 mem:it∈fp
 obj:∀i h,tn i h->∀b∈fp,∃o,h.get? b=some o/\∀v,o.data≠.cell v
 keep:∀i h h',tn i h->(∀b∈fp,∀o,h.get? b=some o->h'.get? b=some o)->tn i h'
 item:∀(X:Cx),X.prog=P->X.w=w->X.K=K->X.calm=true->∀(i:Nat) (aA:List (Addr×Obj)) (s:Shared) (σ:St) (H:Hp) (E:Value->Shared->Prop),Inv X aA σ H s->(∀b∈fp,ab6 X aA H b)->tn i s.heap->J.go i H->
  wpAny (model P w) X.A (pyNext (.ref it)) (λr s1=>∃u,r=some u /\
   wpAny (model P w) X.A (letOwnedTupleGo tg (.ref it) u) (λ_ s2=>∃x H',Inv X aA σ H' s2/\RelV x u/\J.yld i H x H'/\tn (i+1) s2.heap/\∀b∈fp,H' b=none) E s1) E s
 done:∀(X:Cx),X.prog=P->X.w=w->X.K=K->X.calm=true->∀(i:Nat) (aA:List (Addr×Obj)) (s:Shared) (σ:St) (H:Hp) (E:Value->Shared->Prop),Inv X aA σ H s->(∀b∈fp,ab6 X aA H b)->tn i s.heap->J.stop i H->
  wpAny (model P w) X.A (pyNext (.ref it)) (λr s1=>r=none/\Inv X aA σ H s1) E s
 self:∀(A:Around) (i:Nat) (s:Shared) (Q:Value->Shared->Prop) (E:Value->Shared->Prop),tn i s.heap->Q (.ref it) s->wpAny (model P w) A (pyIter (.ref it)) Q E s
abbrev TI:=St->Hp->(It->Hp->Prop)->Prop
def PIE(X:Cx)(aA:List (Addr×Obj))(σ:St)(tg:Expr)(R:It->Hp->Prop)(itv:Value)(s2:Shared):Prop :=
 ∃(it:Addr) (fp:List Addr) (tn:Nat->Heap->Prop) (J:It) (H':Hp),itv=.ref it/\Inv X aA σ H' s2/\Turn X.prog X.w X.K tg J fp it tn/\tn 0 s2.heap/\(∀b∈fp,ab6 X aA H' b)/\R J H'
def PI(X:Cx)(tg aE:Expr)(wi:TI):Prop :=
 ∀(aA:List (Addr×Obj)) (s:Shared) (σ:St) (H:Hp) (R:It->Hp->Prop),Inv X aA σ H s->wi σ H R->
  wpAny (model X.prog X.w) X.A (eval aE X.env) (λv s1=>wpAny (model X.prog X.w) X.A (pyIter v) (PIE X aA σ tg R) X.xe s1) X.xe s
theorem akp{s:Shared}(ho:s.heap.get? it=some o)(hc:o.cls=.type n)(hd:o.data=.fields vs)
  (hn:["enumerate","zip","dict_itemiterator","dict_reverseitemiterator","odict_iterator","itertools.zip_longest","itertools.pairwise"].contains n=false) (hQ:Q () s):wpAny M A (letOwnedTupleGo tg (.ref it) u) Q E s:=by
 unfold letOwnedTupleGo
 cases tg<;>first
  |exact br hQ
  | (cases u<;>first
    |exact br hQ
    | (refine aH (wpAny_load ho ?_)
       rw[hc,hd];show wpAny M A (if (["enumerate","zip","dict_itemiterator","dict_reverseitemiterator","odict_iterator","itertools.zip_longest","itertools.pairwise"].contains n && vs[0]? == some (rawInt _))=true then _ else _) Q E s
       rw[bE (by intro h;rw[hn,Bool.false_and]at h;cases h)]
       exact br hQ))
def Itl(K:Fg)(a:Addr):It :=
 ⟨λi H=>∃xs x,SqL K H a xs/\xs[i]? = some x,λi H x H'=>H'=H/\∀xs,SqL K H a xs->xs[i]? = some x,λi H=>∃xs,SqL K H a xs/\xs.length<=i⟩
def Itt(K:Fg)(a:Addr):It :=
 ⟨λi H=>∃xs x,SqT K H a xs/\xs[i]? = some x,λi H x H'=>H'=H/\∀xs,SqT K H a xs->xs[i]? = some x,λi H=>∃xs,SqT K H a xs/\xs.length<=i⟩
def Itr(lo:Int)(n:Nat):It:=⟨λi _=>i<n,λi H x H'=>H'=H/\x=.int (lo+i),λi _=>n<=i⟩
theorem agr{P:Program}{w:World}{K:Fg}{tg:Expr}(a it:Addr):Turn P w K tg (Itl K a) [it] it (λi h=>h.IsListIter it a i) where
 mem:=by simp
 obj:=λi h st b hb=>by
  have e:b=it:=by simpa using hb
  subst e;obtain⟨o,e,c,d⟩:=st;exact⟨o,e,λv z=>by rw[d]at z;cases z⟩
 keep:=λi h h' st k=>st.at λo e=>k it (by simp) o e
 item:=by
  intro X hP hw hK hc i aA s σ H E I hf st hg
  subst hP hw hK;obtain⟨xs,x,hq,hx⟩:=hg;obtain⟨its,rv,p,hz⟩:=I.list hq;obtain⟨u,hu,ru⟩:=rv.get hx;obtain⟨f0,f1,f2,f3,f4,f5⟩:=hf it (by simp)
  refine wpAny_pyNext_list_item st p.isList (x:=u) (by simpa using hu) λh' st' sb=>?_
  have I1:Inv X aA σ H {s with heap:=h' }:=I.turned (t':=s.toks) (λb o hb e=>(sb.2 b hb).trans e) f0 f1 f3 f4 f5
  obtain⟨o,e,c,d⟩:=id st';exact⟨u,rfl,akp (s:={s with heap:=h' }) e c d (by decide) ⟨x,H,I1,ru,⟨rfl,λys hy=>by rw[I.list_inj hy hq];exact hx⟩,st',λb hb=>(hf b hb).1⟩⟩
 done:=by
  intro X hP hw hK hc i aA s σ H E I hf st hg
  subst hP hw hK;obtain⟨xs,hq,hx⟩:=hg;obtain⟨its,rv,p,hz⟩:=I.list hq;obtain⟨f0,f1,f2,f3,f4,f5⟩:=hf it (by simp)
  have hl:=rv.length;exact wpAny_pyNext_list_end (I.ok.hd hc) st p.isList (by simp;omega) λh' eb=>⟨rfl,I.turned (t':=s.toks) (λb o hb e=>eb b o hb e) f0 f1 f3 f4 f5⟩
 self:=λ_ _ _ _ _ st h=>wpAny_pyIter_listiter st h
theorem afk{P:Program}{w:World}{K:Fg}{tg:Expr}(a it:Addr):Turn P w K tg (Itt K a) [it] it (λi h=>h.IsTupleIter it a i) where
 mem:=by simp
 obj:=λi h st b hb=>by
  have e:b=it:=by simpa using hb
  subst e;obtain⟨o,e,c,d⟩:=st;exact⟨o,e,λv z=>by rw[d]at z;cases z⟩
 keep:=λi h h' st k=>st.at λo e=>k it (by simp) o e
 item:=by
  intro X hP hw hK hc i aA s σ H E I hf st hg
  subst hP hw hK;obtain⟨xs,x,hq,hx⟩:=hg;obtain⟨its,rv,p,hz⟩:=I.tuple hq;obtain⟨u,hu,ru⟩:=rv.get hx;obtain⟨f0,f1,f2,f3,f4,f5⟩:=hf it (by simp)
  refine wpAny_pyNext_tuple_item st (show s.heap.IsTuple a its.toArray from p) (x:=u) (by simpa using hu) λh' st' sb=>?_
  have I1:Inv X aA σ H {s with heap:=h' }:=I.turned (t':=s.toks) (λb o hb e=>(sb.2 b hb).trans e) f0 f1 f3 f4 f5
  obtain⟨o,e,c,d⟩:=id st';exact⟨u,rfl,akp (s:={s with heap:=h' }) e c d (by decide) ⟨x,H,I1,ru,⟨rfl,λys hy=>by rw[I.tuple_inj hy hq];exact hx⟩,st',λb hb=>(hf b hb).1⟩⟩
 done:=by
  intro X hP hw hK hc i aA s σ H E I hf st hg
  subst hP hw hK;obtain⟨xs,hq,hx⟩:=hg;obtain⟨its,rv,p,hz⟩:=I.tuple hq;obtain⟨f0,f1,f2,f3,f4,f5⟩:=hf it (by simp)
  have hl:=rv.length;exact wpAny_pyNext_tuple_end (I.ok.hd hc) st (show s.heap.IsTuple a its.toArray from p) (by simp;omega) λh' eb=>⟨rfl,I.turned (t':=s.toks) (λb o hb e=>eb b o hb e) f0 f1 f3 f4 f5⟩
 self:=λ_ _ _ _ _ st h=>wpAny_pyIter_tupleiter st h
theorem afl{P:Program}{w:World}{K:Fg}{tg:Expr}(it:Addr)(lo:Int)(n:Nat):Turn P w K tg (Itr lo n) [it] it (λi h=>IsRangeIter h it (lo+(i:Nat)*1) ((n:Int)-(i:Nat)) 1) where
 mem:=by simp
 obj:=λi h st b hb=>by
  have e:b=it:=by simpa using hb
  subst e;exact⟨_,st,λv z=>by
   have z':Data.fields _=Data.cell v:=z
   cases z'⟩
 keep:=λi h h' st k=>k it (by simp) _ st
 item:=by
  intro X hP hw hK hc i aA s σ H E I hf st hg
  subst hP hw hK;obtain⟨f0,f1,f2,f3,f4,f5⟩:=hf it (by simp)
  have W:=Walks.range (prog:=X.prog) (w:=X.w) (I.ok.hd hc) it lo 1 n;refine W.item i s _ _ hg st λv h' tk hv st' kk=>?_;obtain⟨t,rfl⟩:=hv;have I1:Inv X aA σ H {s with heap:=h',toks:=tk}:=I.turned (λb o hb e=>kk b o (by simpa using hb) e) f0 f1 f3 f4 f5
  refine⟨_,rfl,akp (s:={s with heap:=h',toks:=tk}) (n := "range_iterator") st' rfl rfl (by decide) ⟨.int (lo+i),H,I1,⟨t,?_⟩,⟨rfl,rfl⟩,st',λb hb=>(hf b hb).1⟩⟩
  rw[Int.mul_one]
 done:=by
  intro X hP hw hK hc i aA s σ H E I hf st hg
  subst hP hw hK;obtain⟨f0,f1,f2,f3,f4,f5⟩:=hf it (by simp)
  exact wpAny_pyNext_range_end (I.ok.hd hc) st (by have:n<=i:=hg;omega) λh' eb=>⟨rfl,I.turned (t':=s.toks) (λb o hb e=>eb b o hb e) f0 f1 f3 f4 f5⟩
 self:=λ_ _ _ _ _ st h=>wpAny_pyIter_rangeiter st h
section
variable{X:Cx}{tg:Expr}
def ay8(K:Fg)(tl:TE):TI:=λσ H R=>tl σ H λx H1=>∃a,x=.ref a/\(∃xs,SqL K H1 a xs)/\R (Itl K a) H1
def b1c(K:Fg)(tl:TE):TI:=λσ H R=>tl σ H λx H1=>∃a,x=.ref a/\(∃xs,SqT K H1 a xs)/\R (Itt K a) H1
theorem ags{l:Expr}{tl:TE}(hl:PE X l tl):PI X tg l (ay8 X.K tl):=by
 intro aA s σ H R I h
 refine thn (hl aA s σ H _ I h) ?_
 rintro v s1 ⟨x,H1,I1,r1,q1⟩
 obtain⟨a,e,⟨xs,hq⟩,q⟩:=q1;subst e;cases r1
 obtain⟨its,rv,p,hz⟩:=I1.list hq;refine fZ p.isList ?_;refine⟨s1.heap.objs.size,[s1.heap.objs.size],_,_,H1,rfl,I1.kept (t':=s1.toks) λb o e=>ar _ e,agr a _,⟨_,bb _ rfl,rfl,rfl⟩,λb hb=>?_,q⟩;have e:b=s1.heap.objs.size:=by simpa using hb
 subst e;exact I1.fpOk (aJ _) (I1.hok.fresh (aJ _))
theorem at8{l:Expr}{tl:TE}(hl:PE X l tl):PI X tg l (b1c X.K tl):=by
 intro aA s σ H R I h
 refine thn (hl aA s σ H _ I h) ?_
 rintro v s1 ⟨x,H1,I1,r1,q1⟩
 obtain⟨a,e,⟨xs,hq⟩,q⟩:=q1;subst e;cases r1
 obtain⟨its,rv,p,hz⟩:=I1.tuple hq;refine wpAny_pyIter_tuple (show s1.heap.IsTuple a its.toArray from p) ?_
 refine⟨s1.heap.objs.size,[s1.heap.objs.size],_,_,H1,rfl,I1.kept (t':=s1.toks) λb o e=>ar _ e,afk a _,⟨_,bb _ rfl,rfl,rfl⟩,λb hb=>?_,q⟩;have e:b=s1.heap.objs.size:=by simpa using hb
 subst e;exact I1.fpOk (aJ _) (I1.hok.fresh (aJ _))
theorem ae0{s:Shared}{lo hi:Int}{tk:Nat}(I:Inv X aA σ H s)(h1 : -(2^62)<=lo)(h2:lo<2^62)(h3 : -(2^62)<=hi)(h4:hi<2^62)
  (q:R (Itr lo (hi-lo).toNat) H):wpAny (model X.prog X.w) X.A (pyIter (.ref s.heap.objs.size)) (PIE X aA σ tg R) E {s with heap:=s.heap.push {cls:=.type "range",data:=.fields #[.int lo t,.int hi u,.int 1 v]},toks:=tk}:=by
 refine wpAny_pyIter_range (IsRange.new ..) (small_one h1 h2 h3 h4) ?_;have I1:Inv X aA σ H {s with heap:=s.heap.push {cls:=.type "range",data:=.fields #[.int lo t,.int hi u,.int 1 v]},toks:=tk}:=I.kept λb o e=>ar _ e
 refine⟨(s.heap.push {cls:=.type "range",data:=.fields #[.int lo t,.int hi u,.int 1 v]}).objs.size,[(s.heap.push {cls:=.type "range",data:=.fields #[.int lo t,.int hi u,.int 1 v]}).objs.size],_,_,H,rfl,
  I1.kept (t':=tk) λb o e=>ar _ e,afl _ lo (hi-lo).toNat,?_,λb hb=>?_,q⟩
 ·have e1:lo+((0:Nat):Int)*1=lo:=by simp
  have e2:(((hi-lo).toNat:Nat):Int)-((0:Nat):Int)=Builtin.Range.rangeSize lo hi 1:=by rw[rangeSize_one];split<;>omega
  show IsRangeIter _ _ (lo+((0:Nat):Int)*1) ((((hi-lo).toNat:Nat):Int)-((0:Nat):Int)) 1;rw[e1,e2];exact bb _ rfl
 ·have e:b=(s.heap.push {cls:=.type "range",data:=.fields #[.int lo t,.int hi u,.int 1 v]}).objs.size:=by simpa using hb
  subst e;exact I1.fpOk (aJ _) (I1.hok.fresh (aJ _))
def ay9(ta:TA):TI:=λσ H R=>ta σ H λvs H1=>∃j:Int,vs=[.int j] /\ -(2^62)<=j/\j<2^62/\R (Itr 0 j.toNat) H1
def aya(ta:TA):TI:=λσ H R=>ta σ H λvs H1=>∃i j:Int,vs=[.int i,.int j]/\(-(2^62)<=i/\i<2^62 /\ -(2^62)<=j/\j<2^62)/\R (Itr i (j-i).toNat) H1
theorem agt{a:Expr}{ta:TA}{p pos:Pos}(hg:Gl X "range")(hm:X.mg "range" = none)(ha:PA X [a] ta)(hs:starEach [a] X.env=[(false,eval a X.env)]:=by rfl):PI X tg (.Call (.Name "range" p) [a] [] pos) (ay9 ta):=by
 intro aA s σ H R I h
 refine Call_ (a95 I hg hm boot_range (cW (thn (ha pos aA s σ H _ I h) λus s1 ⟨vs,H1,I1,r1,q1⟩=>?_) hs rfl));obtain⟨j,e,q1,q2,q⟩:=q1;subst e
 cases r1 with
 |cons r rr =>
  cases rr
  obtain⟨t,rfl⟩:=r;exact call_range_1 (ae0 I1 (by omega) (by omega) q1 q2 (by simpa using q))
theorem agu{a b:Expr}{ta:TA}{p pos:Pos}(hg:Gl X "range")(hm:X.mg "range" = none)(ha:PA X [a,b] ta)(hs:starEach [a,b] X.env=[(false,eval a X.env),(false,eval b X.env)]:=by rfl)(hs2:starEach [b] X.env=[(false,eval b X.env)]:=by rfl) :
  PI X tg (.Call (.Name "range" p) [a,b] [] pos) (aya ta):=by
 intro aA s σ H R I h
 refine Call_ (a95 I hg hm boot_range (cW (thn (ha pos aA s σ H _ I h) λus s1 ⟨vs,H1,I1,r1,q1⟩=>?_) (by rw[hs,hs2]) (by rw[hs2];rfl)))
 obtain⟨i,j,e,⟨q1,q2,q3,q4⟩,q⟩:=q1;subst e
 cases r1 with
 |cons r rr =>
  cases rr with
  |cons r' rr =>
   cases rr
   obtain⟨t,rfl⟩:=r;obtain⟨t',rfl⟩:=r';exact call_range_2 (ae0 I1 q1 q2 q3 q4 q)
def b1d(wi:TI)(g:TG)(tb:TS):TS:=λD σ H=>wi σ H λJ H1=>∃W:Nat->Nat->St->Hp->Prop,(∃m,W 0 m σ H1)/\∀i m σ H,W i m σ H->
 (J.stop i H/\D.nx σ H)\/(J.go i H/\∃N:St->Hp->Prop,(∀σ' H',N σ' H'->∃m',m'<m/\W (i+1) m' σ' H')/\∀x H',J.yld i H x H'->g x σ H' λσ2 H2=>tb {D with nx:=N,ct:=N,bk:=D.nx} σ2 H2)
def a80(fp:List Addr)(h:Heap):List (Addr×Obj):=fp.filterMap λb=>(h.get? b).map λo=>(b,o)
theorem a4l{h:Heap}(hb:b∈fp)(e:h.get? b=some o):(b,o)∈a80 fp h:=List.mem_filterMap.mpr ⟨b,hb,by rw[e];rfl⟩
theorem agv(hp:p∈a80 fp h):p.1∈fp/\h.get? p.1=some p.2:=by
 obtain⟨b,hb,e⟩:=List.mem_filterMap.mp hp
 cases q:h.get? b with
 |none=>rw[q]at e;cases e
 |some o =>
  rw[q]at e;have e':(b,o)=p:=bO e;subst e';exact⟨hb,q⟩
theorem Inv.pinned(I:Inv X aA σ H s)(hf:∀b∈fp,ab6 X aA H b)(ho:∀b∈fp,∃o,s.heap.get? b=some o/\∀v,o.data≠.cell v):Inv X (aA++a80 fp s.heap) σ H s :=
 I.pins_of λp hp=>(aY.mp hp).elim (λz=>I.pin p (cn _ z)) λz=>by
  obtain⟨hb,e⟩:=agv z;obtain⟨f0,f1,f2,_⟩:=hf p.1 hb;obtain⟨o,e',d⟩:=ho p.1 hb;rw[e]at e';cases e'
  exact⟨e,f0,f1,f2,d⟩
theorem Inv.unpinned(I:Inv X (aA++pl) σ H s):Inv X aA σ H s:=I.pins_of λp hp=>I.pin p (cn _ (cD _ hp))
theorem at9{aE:Expr}{body:List Stmt}{wi:TI}{g:TG}{tb:TS}{pos:Pos}(hp:PassesOwn (model X.prog X.w) X.A X.env X.xe)(hc:X.calm=true)(hi:PI X tg aE wi)(hg:PG X tg g)(hb:PSs X body tb)
  (hs:∀x,foldedSetIterable aE X.env x=pure x:=by intro _;rfl):PS X (.For tg aE body [] pos) (b1d wi g tb):=by
 intro aA s σ H D I h
 refine wpAny_For (thn (hi aA s σ H _ I h) λv s1 h1=>thn h1 λitv s2 h2=>?_) hs;obtain⟨it,fp,tn,J,H2,e,I2,T,st2,f2,W,⟨m0,w0⟩,turn⟩:=h2;subst e;have stat:∀{H':Hp},(∀b∈fp,H' b=none)->∀b∈fp,ab6 X aA H' b:=λhn b hb=>⟨hn b hb,(f2 b hb).2⟩;refine codeAny_forLoop_any (λn s'=>∃i σ' H',Inv X aA σ' H' s'/\tn i s'.heap/\(∀b∈fp,H' b=none)/\W i n σ' H') ?_ m0 ⟨0,σ,H2,I2,st2,λb hb=>(f2 b hb).1,w0⟩
 rintro n s3 ⟨i,σ3,H3,I3,st3,fr3,w3⟩
 rcases turn i n σ3 H3 w3 with⟨stop,qn⟩|⟨go,N,hN,step⟩
 ·refine dF hp (thn (T.done X rfl rfl rfl hc i aA s3 σ3 H3 X.xe I3 (stat fr3) st3 stop) λr s4 ⟨hr,I4⟩=>?_);subst hr;exact fH ⟨σ3,H3,I4,qn⟩
 ·refine dF hp (thn (T.item X rfl rfl rfl hc i aA s3 σ3 H3 X.xe I3 (stat fr3) st3 go) λr s4 ⟨u,hr,h4⟩=>?_);subst hr;refine dF hp (thn h4 λ_ s5 ⟨x,H5,I5,r5,y5,st5,fr5⟩=>?_);have I5':=I5.pinned (stat fr5) (T.obj _ _ st5);refine dF hp (thn (hg _ s5 σ3 H5 x u _ I5' r5 (step x H5 y5)) λ_ s6 ⟨σ6,H6,I6,q6⟩=>?_);refine dF hp (thn (hb _ s6 σ6 H6 _ I6 q6) λf s7 q7=>?_);have again:∀{σ7:St} {H7:Hp},Inv X (aA++a80 fp s5.heap) σ7 H7 s7->N σ7 H7->∃m,m<n/\∃i σ' H',Inv X aA σ' H' s7/\tn i s7.heap/\(∀b∈fp,H' b=none)/\W i m σ' H':=λ{σ7 H7} I7 n7=>by
   obtain⟨m',hm,w7⟩:=hN σ7 H7 n7;refine⟨m',hm,i+1,σ7,H7,I7.unpinned,T.keep _ _ _ st5 λb hb o e=>(I7.pin (b,o) (cn _ (cn _ (a4l hb e)))).1,λb hb=>?_,w7⟩;obtain⟨o,e,d⟩:=T.obj _ _ st5 b hb;exact(I7.pin (b,o) (cn _ (cn _ (a4l hb e)))).2.1
  cases f with
  |next=>obtain⟨σ7,H7,I7,n7⟩:=q7;exact again I7 n7
  |cont=>obtain⟨σ7,H7,I7,n7⟩:=q7;exact again I7 n7
  |brk=>obtain⟨σ7,H7,I7,q7⟩:=q7;exact⟨σ7,H7,I7.unpinned,q7⟩
  |ret v=>obtain⟨x7,σ7,H7,I7,r7,q7⟩:=q7;exact⟨x7,σ7,H7,I7.unpinned,r7,q7⟩
end
abbrev R2:=V->V->Hp->VK->Prop
def OpR(X:Cx)(f:Value->Value->Sem Value)(r:R2):Prop :=
 ∀(aA:List (Addr×Obj)) (s:Shared) (σ:St) (H:Hp) (x y:V) (v u:Value) (Q:VK),Inv X aA σ H s->RelV x v->RelV y u->r x y H Q->
  wpAny (model X.prog X.w) X.A (f v u) (EP X aA σ Q) X.xe s
def UnR(X:Cx)(f:Value->Sem Value)(r:V->Hp->VK->Prop):Prop :=
 ∀(aA:List (Addr×Obj)) (s:Shared) (σ:St) (H:Hp) (x:V) (v:Value) (Q:VK),Inv X aA σ H s->RelV x v->r x H Q->
  wpAny (model X.prog X.w) X.A (f v) (EP X aA σ Q) X.xe s
def CallR(X:Cx)(f:Value)(r:List V->Hp->VK->Prop):Prop :=
 ∀(aA:List (Addr×Obj)) (s:Shared) (σ:St) (H:Hp) (xs:List V) (us:List Value) (Q:VK),Inv X aA σ H s->Vals xs us->r xs H Q->
  wpAny (model X.prog X.w) X.A (call f us) (EP X aA σ Q) X.xe s
def b1e(X:Cx)(r:V->Hp->(Bool->Hp->Prop)->Prop):Prop :=
 ∀(aA:List (Addr×Obj)) (s:Shared) (σ:St) (H:Hp) (x:V) (v:Value) (Q:Bool->Hp->Prop),Inv X aA σ H s->RelV x v->r x H Q->
  wpAny (model X.prog X.w) X.A (truthy v) (TP X aA σ Q) X.xe s
def tOp(r:R2)(ta tb:TE):TE:=λσ H Q=>ta σ H λx H1=>tb σ H1 λy H2=>r x y H2 Q
def tUn(r:V->Hp->VK->Prop)(ta:TE):TE:=λσ H Q=>ta σ H λx H1=>r x H1 Q
def rI(C:Int->Int->Prop)(g:Int->Int->V):R2:=λx y H Q=>∃i j,x=.int i/\y=.int j/\C i j/\Q (g i j) H
def rI0(g:Int->Int->V):R2:=λx y H Q=>∃i j,x=.int i/\y=.int j/\Q (g i j) H
def rU(g:Int->V):V->Hp->VK->Prop:=λx H Q=>∃i,x=.int i/\Q (g i) H
section
variable{X:Cx}{a b c:Expr}{ta tb tc:TE}{pos:Pos}
theorem ayb(ha:PE X a ta)(hb:PE X b tb){aA:List (Addr×Obj)}{s:Shared}{σ:St}{H:Hp}{R:V->V->Hp->Prop}(I:Inv X aA σ H s)
  (h:ta σ H λx H1=>tb σ H1 λy H2=>R x y H2) {Q:Value->Shared->Prop} {f:Value->Value->Sem Value}
  (hf:∀v u s2 x y H2,Inv X aA σ H2 s2->RelV x v->RelV y u->R x y H2->wpAny (model X.prog X.w) X.A (f v u) Q X.xe s2) :
  wpAny (model X.prog X.w) X.A (eval a X.env) (λv s₁=>wpAny (model X.prog X.w) X.A (eval b X.env) (λu s₂=>wpAny (model X.prog X.w) X.A (f v u) Q X.xe s₂) X.xe s₁) X.xe s:=by
 refine thn (ha aA s σ H _ I h) ?_
 rintro v s1 ⟨x,H1,I1,r1,q1⟩
 refine thn (hb aA s1 σ H1 _ I1 q1) ?_
 rintro u s2 ⟨y,H2,I2,r2,q2⟩
 exact hf v u s2 x y H2 I2 r1 r2 q2
theorem ayc{op:Operator}{r:R2}(ho:OpR X (binaryOp op) r)(ha:PE X a ta)(hb:PE X b tb):PE X (.BinOp a op b pos) (tOp r ta tb):=by
 intro aA s σ H Q I h
 exact wpAny_BinOp (ayb ha hb I h λv u s2 x y H2 I2 rx ry q=>ho aA s2 σ H2 x y v u Q I2 rx ry q)
theorem ayd{op:UnaryOp}{r:V->Hp->VK->Prop}(ho:UnR X (unaryOp op) r)(ha:PE X a ta):PE X (.UnaryOp op a pos) (tUn r ta):=by
 intro aA s σ H Q I h
 exact UnaryOp_ (thn (ha aA s σ H _ I h) λv s1 ⟨x,H1,I1,r1,q1⟩=>ho aA s1 σ H1 x v Q I1 r1 q1)
theorem opI{f:Value->Value->Sem Value}{C:Int->Int->Prop}{g:Int->Int->Int}
  (rule:∀(i j:Int) (t u:Tok) (s:Shared) (Q:Value->Shared->Prop) (E:Value->Shared->Prop),C i j->Q (.int (g i j) s.toks) {s with toks:=s.toks+1}->wpAny (model X.prog X.w) X.A (f (.int i t) (.int j u)) Q E s) :
  OpR X f (rI C λi j=>.int (g i j)):=by
 intro aA s σ H x y v u Q I rx ry h
 obtain⟨i,j,rfl,rfl,hc,q⟩:=h;obtain⟨t,rfl⟩:=rx;obtain⟨t',rfl⟩:=ry;exact rule i j t t' s _ _ hc ⟨.int (g i j),H,I.tok _,⟨_,rfl⟩,q⟩
theorem aye{f:Value->Value->Sem Value}{g:Int->Int->Int}
  (rule:∀(i j:Int) (t u:Tok) (s:Shared) (Q:Value->Shared->Prop) (E:Value->Shared->Prop),Q (.int (g i j) s.toks) {s with toks:=s.toks+1}->wpAny (model X.prog X.w) X.A (f (.int i t) (.int j u)) Q E s) :
  OpR X f (rI0 λi j=>.int (g i j)):=by
 intro aA s σ H x y v u Q I rx ry h
 obtain⟨i,j,rfl,rfl,q⟩:=h;obtain⟨t,rfl⟩:=rx;obtain⟨t',rfl⟩:=ry;exact rule i j t t' s _ _ ⟨.int (g i j),H,I.tok _,⟨_,rfl⟩,q⟩
theorem axi{f:Value->Value->Sem Value}{g:Int->Int->Bool}
  (rule:∀(i j:Int) (t u:Tok) (s:Shared) (Q:Value->Shared->Prop) (E:Value->Shared->Prop),Q (.bool (g i j)) s->wpAny (model X.prog X.w) X.A (f (.int i t) (.int j u)) Q E s) :
  OpR X f (rI0 λi j=>.bl (g i j)):=by
 intro aA s σ H x y v u Q I rx ry h
 obtain⟨i,j,rfl,rfl,q⟩:=h;obtain⟨t,rfl⟩:=rx;obtain⟨t',rfl⟩:=ry;exact rule i j t t' s _ _ ⟨.bl (g i j),H,I,rfl,q⟩
def ayf(i j:Int):Prop:=0<j/\j<1073741824
def azx(i j:Int):Prop:=0<=j/\j<=1000000/\i.natAbs<2^64
def CMul(i j:Int):Prop:=(-(2^64)<i/\i<2^64)\/(-(2^64)<j/\j<2^64)
theorem CMul.ok(h:CMul i j):IntMulOk i j:=by
 rcases h with⟨h1,h2⟩|⟨h1,h2⟩
 ·exact .of_left (intBits_le_64 h1 h2)
 ·exact .of_right (intBits_le_64 h1 h2)
theorem ata:OpR X (binaryOp .Add) (rI0 λi j=>.int (i+j)):=aye λ_ _ _ _ _ _ _ q=>add_int q
theorem atb:OpR X (binaryOp .Sub) (rI0 λi j=>.int (i-j)):=aye λ_ _ _ _ _ _ _ q=>sub_int q
theorem an6:OpR X (binaryOp .Mult) (rI CMul λi j=>.int (i*j)):=opI λ_ _ _ _ _ _ _ hc q=>mul_int q hc.ok
theorem aor:OpR X (binaryOp .FloorDiv) (rI ayf λi j=>.int (i / j)):=opI λi j _ _ _ _ _ hc q=>by
 have h1:(0:Int)<j:=hc.1;have h2:j<1073741824:=hc.2;exact floordiv_int (by omega) (by rw[fQ i (by omega)];exact q) (.inl (PyProof.noPylong_small (by omega)))
theorem atc:OpR X (binaryOp .Mod) (rI (λ_ j=>0<j) λi j=>.int (i%j)):=opI λi j _ _ _ _ _ hc q=>by
 have h1:(0:Int)<j:=hc;exact mod_int' (by omega) (by rw[Int.fmod_eq_emod_of_nonneg i (by omega)];exact q)
theorem atd:OpR X (binaryOp .Pow) (rI azx λi j=>.int (i^j.toNat)):=opI λ_ _ _ _ _ _ _ hc q=>pow_int_small hc.1 hc.2.1 hc.2.2 q
theorem a2d:OpR X (inplaceOp .Add) (rI0 λi j=>.int (i+j)):=aye λ_ _ _ _ _ _ _ q=>iadd_int q
theorem akq:OpR X (inplaceOp .FloorDiv) (rI ayf λi j=>.int (i / j)):=opI λi j _ _ _ _ _ hc q=>by
 have h1:(0:Int)<j:=hc.1;have h2:j<1073741824:=hc.2;exact ifloordiv_int (by omega) (by rw[fQ i (by omega)];exact q) (.inl (PyProof.noPylong_small (by omega)))
theorem unI{f:Value->Sem Value}{g:Int->Int}
  (rule:∀(i:Int) (t:Tok) (s:Shared) (Q:Value->Shared->Prop) (E:Value->Shared->Prop),Q (.int (g i) s.toks) {s with toks:=s.toks+1}->wpAny (model X.prog X.w) X.A (f (.int i t)) Q E s) :
  UnR X f (rU λi=>.int (g i)):=by
 intro aA s σ H x v Q I rx h
 obtain⟨i,rfl,q⟩:=h;obtain⟨t,rfl⟩:=rx;exact rule i t s _ _ ⟨.int (g i),H,I.tok _,⟨_,rfl⟩,q⟩
theorem ate:UnR X (unaryOp .USub) (rU λi=>.int (-i)):=unI λ_ _ _ _ _ q=>neg_int q
end
section
variable{X:Cx}{a b c:Expr}{ta tb tc:TE}{pos:Pos}
theorem a7c(I:Inv X aA σ H s)(q:Q (.bl k) H)(e:k=k'):EP X aA σ Q (.bool k') s:=by
 subst e;exact⟨.bl k,H,I,rfl,q⟩
theorem a9s:OpR X (compareOp .Lt) (rI0 λi j=>.bl (decide (i<j))):=axi λ_ _ _ _ _ _ _ q=>lt_int q
theorem ayg:OpR X (compareOp .LtE) (rI0 λi j=>.bl (decide (i<=j))):=axi λ_ _ _ _ _ _ _ q=>le_int q
theorem atf:OpR X (compareOp .Gt) (rI0 λi j=>.bl (decide (j<i))):=axi λ_ _ _ _ _ _ _ q=>gt_int q
theorem akr:OpR X (compareOp .GtE) (rI0 λi j=>.bl (decide (j<=i))):=axi λ_ _ _ _ _ _ _ q=>ge_int q
theorem yj:OpR X (compareOp .Lt) (λx y H Q=>∃i j,x=.str i/\y=.str j/\Q (.bl (decide (i.cps.toList<j.cps.toList))) H):=by
 intro aA s σ H x y v u Q I rx ry h
 obtain⟨i,j,rfl,rfl,q⟩:=h;obtain⟨t,rfl⟩:=rx;obtain⟨t',rfl⟩:=ry;exact lt_str (a7c I q rfl)
theorem agw:OpR X (compareOp .In) (λx y H Q=>∃i j,x=.str i/\y=.str j/\Q (.bl (!(Builtin.Str.occurrences j i 0 j.length 1).isEmpty)) H):=by
 intro aA s σ H x y v u Q I rx ry h
 obtain⟨i,j,rfl,rfl,q⟩:=h;obtain⟨t,rfl⟩:=rx;obtain⟨t',rfl⟩:=ry;exact in_str (a7c I q rfl)
theorem ae1:OpR X (compareOp .Is) (λx y H Q=>y=.non/\Q (.bl (decide (x=.non))) H):=by
 intro aA s σ H x y v u Q I rx ry h
 obtain⟨rfl,q⟩:=h;cases ry
 refine is_none_gen (a7c I q ?_)
 cases x<;>first
  |(cases rx;rfl)
  |(obtain⟨t,rfl⟩:=rx;rfl)
theorem ad1:OpR X (compareOp .IsNot) (λx y H Q=>y=.non/\Q (.bl (!decide (x=.non))) H):=by
 intro aA s σ H x y v u Q I rx ry h
 obtain⟨rfl,q⟩:=h;cases ry
 refine isnot_none_gen (a7c I q ?_)
 cases x<;>first
  |(cases rx;rfl)
  |(obtain⟨t,rfl⟩:=rx;rfl)
theorem ab7:OpR X (compareOp .NotIn) (λx y H Q=>∃i j,x=.str i/\y=.str j/\Q (.bl (!(!(Builtin.Str.occurrences j i 0 j.length 1).isEmpty))) H):=by
 intro aA s σ H x y v u Q I rx ry h
 obtain⟨i,j,rfl,rfl,q⟩:=h;obtain⟨t,rfl⟩:=rx;obtain⟨t',rfl⟩:=ry;exact notIn_str (a7c I q rfl)
theorem OpR.or(h:OpR X f r)(h':OpR X f r'):OpR X f (λx y H Q=>r x y H Q\/r' x y H Q):=by
 intro aA s σ H x y v u Q I rx ry q
 rcases q with q|q
 ·exact h aA s σ H x y v u Q I rx ry q
 ·exact h' aA s σ H x y v u Q I rx ry q
theorem a7d(b:Expr)(h:op≠.In:=by decide)(h2:op≠.NotIn:=by decide):behindInMarks op b=false:=by
 have e1:(op == CmpOp.In)=false:=by cases op<;>first|rfl|exact absurd rfl h
 have e2:(op == CmpOp.NotIn)=false:=by cases op<;>first|rfl|exact absurd rfl h2
 cases b<;>simp[behindInMarks,e1,e2]
theorem aos(ho:OpR X (compareOp op) r)(ha:PE X a ta)(hb:PE X b tb)(hm:behindInMarks op b=false):PE X (.Compare a [op] [b] pos) (tOp r ta tb):=by
 intro aA s σ H Q I h
 exact wpAny_Compare1 (ayb ha hb I h λv u s2 x y H2 I2 rx ry q=>ho aA s2 σ H2 x y v u Q I2 rx ry q) hm
def atg(t:TE):TT:=λσ H Q=>t σ H λx H'=>∃k,x=.bl k/\Q k H'
theorem aot{op:CmpOp}{r:R2}(ho:OpR X (compareOp op) r)(ha:PE X a ta)(hb:PE X b tb)(hm:behindInMarks op b=false):PT X (.Compare a [op] [b] pos) (atg (tOp r ta tb)):=by
 intro aA s σ H Q I h
 refine wpAny_isTrue_Compare1 (thn (ha aA s σ H _ I h) λv s1 ⟨x,H1,I1,r1,q1⟩=>thn (hb aA s1 σ H1 _ I1 q1) λu s2 ⟨y,H2,I2,r2,q2⟩ =>
  thn (ho aA s2 σ H2 x y v u _ I2 r1 r2 q2) λc s3 ⟨z,H3,I3,r3,k,e,q3⟩=>?_) hm
 subst e;cases r3
 exact e7 ⟨H3,I3,q3⟩
def ayh(K:Fg)(x:V)(H:Hp)(k:Bool):Prop :=
 match x with
 |.non=>k=false
 |.bl b=>k=b
 |.int i=>k=(i != 0)
 |.str y=>y.length<=sizeLine/\k=((y.length:Int) != 0)
 |.byt y=>y.size<=sizeLine/\k=((y.size:Int) != 0)
 |.ref p=>(∃xs,SqL K H p xs/\k = !xs.isEmpty)\/(∃xs,SqT K H p xs/\k = !xs.isEmpty)\/∃kvs,H p=some (.dK kvs)/\k = !kvs.isEmpty
 |_=>False
theorem afm{κ:Type}{kvs:List (κ×V)}{vs:List (κ×Value)}(r:KV kvs vs):(!vs.isEmpty) = !kvs.isEmpty:=by
 cases r<;>rfl
theorem a96(r:Vals xs its):(!its.toArray.isEmpty) = !xs.isEmpty:=by
 cases r<;>simp
theorem a7e:(sizeLine:Nat)<2^63:=by rw[dW];decide
theorem ath:b1e X (λx H Q=>∃k,ayh X.K x H k/\Q k H):=by
 intro aA s σ H x v Q I rx h
 obtain⟨k,e,q⟩:=h;have hl:=a7e;have hs:sizeLine=16777216:=dW
 cases x with
 |non =>
  cases rx
  have e':k=false:=e;subst e';exact truthy_none ⟨H,I,q⟩
 |bl b =>
  cases rx
  have e':k=b:=e;subst e';exact e7 ⟨H,I,q⟩
 |int i =>
  obtain⟨t,rfl⟩:=rx;have e':k=(i != 0):=e;subst e';exact PySem.P.truthy_int ⟨H,I,q⟩
 |str y =>
  obtain⟨t,rfl⟩:=rx;obtain⟨hy,e'⟩:y.length<=sizeLine/\k=((y.length:Int) != 0):=e;subst e';exact PySem.P.truthy_str (by omega) ⟨H,I.tok _,q⟩
 |byt y =>
  obtain⟨t,rfl⟩:=rx;obtain⟨hy,e'⟩:y.size<=sizeLine/\k=((y.size:Int) != 0):=e;subst e';exact PySem.W.truthy_bytes (by omega) ⟨H,I.tok _,q⟩
 |ref p =>
  cases rx
  have e':(∃xs,SqL X.K H p xs/\k = !xs.isEmpty)\/(∃xs,SqT X.K H p xs/\k = !xs.isEmpty)\/∃kvs,H p=some (.dK kvs)/\k = !kvs.isEmpty:=e
  rcases e' with⟨xs,hx,e'⟩|⟨xs,hx,e'⟩|⟨kvs,hx,e'⟩
  ·subst e';obtain⟨its,r,pl,hz⟩:=I.list hx;have aG:=r.length;exact wpAny_truthy_list pl.isList (by simp only[aK];omega) ⟨H,I.tok _,by rw[a96 r];exact q⟩
  ·subst e';obtain⟨its,r,pl,hz⟩:=I.tuple hx;have aG:=r.length;exact truthy_tuple pl (by simp only[aK];omega) ⟨H,I.tok _,by rw[a96 r];exact q⟩
  ·subst e';obtain⟨hz,hS,vs,r,m⟩:kvs.length<=sizeLine/\(p == sysModules)=false/\∃vs,KV kvs vs/\s.heap.DictOf (vf X.prog X.w) p vs:=I.hok p _ hx;have aG:kvs.length=vs.length:=gs r;exact wpAny_truthy_dict hS m (by omega) ⟨H,I.tok _,by rw[afm r];exact q⟩
 |_=>exact(show False from e).elim
theorem aks(ha:PE X a ta)(he:∀whole,isTrue a X.env whole=(do let v <-whole;standAt a.pos;holding [v] (truthy v))) :
  PT X a (λσ H Q=>ta σ H λx H'=>∃k,ayh X.K x H' k/\Q k H'):=by
 intro aA s σ H Q I h
 exact isTrue_plain (thn (ha aA s σ H _ I h) λv s1 ⟨x,H1,I1,r1,q1⟩=>ath aA s1 σ H1 x v Q I1 r1 q1) (he _)
theorem afn:OpR X (binaryOp .Add) (λx y H Q=>∃i j,x=.str i/\y=.str j/\i.length+j.length<=sizeLine/\Q (.str (i++j)) H):=by
 intro aA s σ H x y v u Q I rx ry h
 obtain⟨i,j,rfl,rfl,hz,q⟩:=h;obtain⟨t,rfl⟩:=rx;obtain⟨t',rfl⟩:=ry;exact add_str (λt' tk=>⟨.str (i++j),H,I.tok _,⟨_,rfl⟩,q⟩) hz
theorem uf:OpR X (inplaceOp .Add) (λx y H Q=>∃i j,x=.str i/\y=.str j/\i.length+j.length<=sizeLine/\Q (.str (i++j)) H):=by
 intro aA s σ H x y v u Q I rx ry h
 obtain⟨i,j,rfl,rfl,hz,q⟩:=h;obtain⟨t,rfl⟩:=rx;obtain⟨t',rfl⟩:=ry;exact iadd_str (λt' tk=>⟨.str (i++j),H,I.tok _,⟨_,rfl⟩,q⟩) hz
theorem vals1(r:Vals [x] us):∃u,us=[u]/\RelV x u:=by
 cases r with
 |cons r1 r2=>cases r2;exact⟨_,rfl,r1⟩
theorem vals2(r:Vals [x,y] us):∃u w',us=[u,w']/\RelV x u/\RelV y w':=by
 cases r with
 |cons r1 r2 =>
  cases r2 with
  |cons r3 r4=>cases r4;exact⟨_,_,rfl,r1,r3⟩
theorem akt:CallR X (.builtin "abs") (λxs H Q=>∃i,xs=[.int i]/\Q (.int (if i<0 then -i else i)) H):=by
 intro aA s σ H xs us Q I r h
 obtain⟨i,rfl,q⟩:=h;obtain⟨u,rfl,t,rfl⟩:=vals1 r;exact call_abs_int λu tk=>⟨.int (if i<0 then -i else i),H,I.tok _,⟨_,rfl⟩,q⟩
theorem agx(hc:X.calm=true):CallR X (.builtin "min") (λxs H Q=>∃i j,xs=[.int i,.int j]/\Q (.int (if j<i then j else i)) H):=by
 intro aA s σ H xs us Q I r h
 obtain⟨i,j,rfl,q⟩:=h;obtain⟨u,w',rfl,⟨t,rfl⟩,⟨t',rfl⟩⟩:=vals2 r;refine min_two_ints (I.ok.hd hc) λh' tk k=>⟨_,H,I.kept k,?_,q⟩
 by_cases hj:j<i
 ·rw[aR hj,aR hj];exact⟨_,rfl⟩
 ·rw[bE hj,bE hj];exact⟨_,rfl⟩
theorem agy:CallR X (.type "int") (λxs H Q=>(∃i,xs=[.int i]/\Q (.int i) H)\/∃k,xs=[.bl k]/\Q (.int (if k then 1 else 0)) H):=by
 intro aA s σ H xs us Q I r h
 rcases h with⟨i,rfl,q⟩|⟨k,rfl,q⟩
 ·obtain⟨u,rfl,t,rfl⟩:=vals1 r;exact call_int_int ⟨.int i,H,I,⟨_,rfl⟩,q⟩
 ·obtain⟨u,rfl,r1⟩:=vals1 r;cases r1
  exact call_int_bool ⟨.int (if k then 1 else 0),H,I.tok _,⟨_,rfl⟩,q⟩
end
structure ObjM (h:Heap) (x dx C:Addr) (mA:Str->Option Value):Prop where
 obj:h.get? x=some (PySem.W.instObj C dx)
 ns:h.Ns1 dx mA
 ne:dx≠x
theorem agz{h:Heap}(n:h.Ns1 dx mA):∃od,h.get? dx=some od/\∀name,PySem.W.lookIn name od=some (mA name):=by
 obtain⟨o,es,ep,ho,hd,hk,_,hm⟩:=n;refine⟨o,ho,λname=>?_⟩;have e:=hm name;unfold nsFind findBy at e;rw[<-Array.find?_toList]at e;unfold PySem.W.lookIn;rw[hd];dsimp only
 split
 ·rename_i y q;rw[q]at e;exact aN some e
 ·rename_i q;rw[q]at e;have a:es.toList.any (·.refKey)=false:=by
   rw[List.any_eq_false]
   intro y hy
   obtain⟨z,t,hkey⟩:=hk y (Array.mem_toList_iff.mp hy);simp[DictEntry.refKey,hkey]
  have a':¬ es.toList.any (·.refKey)=true:=by rw[a];exact bF
  rw[bE a'];exact aN some e
theorem ObjM.look(I:ObjM h x dx C mA):∃od,PySem.W.InstAt h x (PySem.W.instObj C dx) C (some od)/\∀name,PySem.W.lookIn name od=some (mA name) :=
 let ⟨od,ho,hl⟩:=agz I.ns
 ⟨od,⟨I.obj,rfl,rfl,ho⟩,hl⟩
section
variable{prog:Program}{w:World}{A:Around}{E:Value->Shared->Prop}{s:Shared}{K:Fg}{x dx C f:Addr}{mA:Str->Option Value}{name:Str}{v:Value}
theorem ah0(X:K.In s.heap)(I:ObjM s.heap x dx C mA)(hg:PySem.W.plainGet K C name=true)(hh:PySem.W.hasDictIn K C=true)
  (ha:PySem.W.findIn K (.ref C) name=some none) (hv:mA name=some v) (hv':PySem.W.handedIn v=true) (h:Q v {s with toks:=s.toks+1}) :
  wpAny (model prog w) A (getAttr (.ref x) name expr) Q E s:=by
 obtain⟨od,J,hl⟩:=I.look;exact PySem.W.get_value X J (fI hg).1 (PySem.W.findObj_own hh ha rfl (by rw[hl,hv])) hv' h
theorem aku(X:K.In s.heap)(I:ObjM s.heap x dx C mA)(hg:PySem.W.plainGet K C name=true)
  (hf:PySem.W.findIn K (.ref C) name=some (some (.ref f))) (ht:PySem.W.isFn K (.ref f)=true) (hv:mA name=none) (h:Q (.ref f,[.ref x]) s) :
  wpAny (model prog w) A (getMethod (.ref x) name pl) Q E s:=by
 obtain⟨od,J,hl⟩:=I.look;exact PySem.W.method_fn X J (fI hg).1 (fI hg).2 hf (eW.mp ht) (by show(PySem.W.lookIn name od).map (·.isSome)=some false;rw[hl,hv];rfl) h
theorem aou(X:K.In s.heap)(I:ObjM s.heap x dx C mA)
  (hs:PySem.W.findIn K (.ref C) "__setattr__" = some (some (.builtin "object.__setattr__"))) (hp:PySem.W.plainOver K C=true) (ht:PySem.W.takerIn K C name=some none) (hh:PySem.W.hasDictIn K C=true)
  (hw:PySem.Within mA ns) (hsz:ns.length<=sizeLine)
  (h:∀h',ObjM h' x dx C (λy=>if y=name then some v else mA y)->Heap.SameBut dx s.heap h'->Q () {s with heap:=h',toks:=s.toks+2}) :
  wpAny (model prog w) A (setAttr (.ref x) name v) Q E s:=by
 obtain⟨od,J,hl⟩:=I.look;refine PySem.W.set_plain X J hs (PySem.W.osa_open (s:={s with toks:=s.toks+1}) (r:=none) X J hp ht λb=>?_)
 obtain⟨cd,hc,hd'⟩:=PySem.W.any_some hh;have hx:s.heap.get? x=some ⟨.ref C,some dx,.plain, #[]⟩:=I.obj;refine aH (br (aH (aH (wpAny_loadPart hx (aH (PySem.W.Looks.here (s:={s with toks:=s.toks+1}) (PySem.W.looks_clsIn X hc) ?_))))))
 rw[hd'];refine br (a:=some dx) (aH (br (aH ?_)));refine wpAny_nsSet1 (s:={s with toks:=s.toks+1}) I.ns λh' hn2 hs2=>?_
 obtain⟨oD,esD,epD,hoD,hdD,hcD⟩:=hn2.count (PySem.Within.cons name v hw);refine aH (wpAny_lookBehind hoD (by rw[hdD];exact pastItsLine_dict (cq hcD (by rw[aW];omega))) ?_)
 exact br (h _ ⟨(hs2.2 _ (eV I.ne)).trans I.obj,hn2,I.ne⟩ hs2)
theorem akv(X:K.In s.heap)(hm:PySem.W.makesIn K C=true)
  (hi:PySem.W.findIn K (.ref C) "__init__" = some (some (.ref f))) (hf:PySem.W.typeIn K (.ref f)=some (.type "function"))
  (h:codeAny (model prog w) (A.under (.builtin "type.__call__" ⟨.ref C::vs,kw⟩)) (.call (.ref f) ⟨.ref (s.heap.objs.size+1)::vs,kw⟩) (PySem.W.InitBack (s.heap.objs.size+1) R)
   {s with heap:=(s.heap.push PySem.W.emptyDict).push (PySem.W.instObj C s.heap.objs.size)}) :
  codeAny (model prog w) A (.call (.ref C) ⟨vs,kw⟩) R s:=by
 obtain⟨hh,g,d,t,os⟩:=s;exact PySem.W.make_core (PySem.W.makes_of X hm) (PySem.W.looks_findIn X hi) (λself=>PySem.W.bind_fn X self hf) (.inl rfl) h
end
def a81(f:Str)(v:V):List (Str×V)->List (Str×V)
 |[]=>[(f,v)]
 |(g,x)::r=>if g=f then (g,v)::r else (g,x)::a81 f v r
theorem a82(f g:Str)(v:V):∀fs:List (Str×V),(a81 f v fs).lookup g=if g=f then some v else fs.lookup g
 |[]=>by
  show List.lookup g [(f,v)]=_
  by_cases h:g=f
  ·have hb:(g == f)=true:=eW.mpr h;simp only[List.lookup,hb,aR h]
  ·have hb:(g == f)=false:=cp.mpr h;simp only[List.lookup,hb,bE h]
 |(k,x)::r=>by
  have ih:=a82 f g v r;rw[show a81 f v ((k,x)::r)=(if k=f then (k,v)::r else (k,x)::a81 f v r) from rfl]
  by_cases hk:k=f
  ·rw[aR hk]
   by_cases h:g=k
   ·have hb:(g == k)=true:=eW.mpr h;simp only[List.lookup,hb,aR (h.trans hk)]
   ·have hb:(g == k)=false:=cp.mpr h;simp only[List.lookup,hb,bE (λe:g=f=>h (e.trans hk.symm))]
  ·rw[bE hk]
   by_cases h:g=k
   ·have hb:(g == k)=true:=eW.mpr h;simp only[List.lookup,hb,bE (λe:g=f=>hk (h.symm.trans e))]
   ·have hb:(g == k)=false:=cp.mpr h;simp only[List.lookup,hb];exact ih
theorem a83(f:Str)(v:V):∀fs:List (Str×V),f∈(a81 f v fs).map (·.1)/\∀g,g∈fs.map (·.1)->g∈(a81 f v fs).map (·.1)
 |[]=>⟨by simp[a81],λg h=>by simp at h⟩
 |(k,x)::r=>by
  obtain⟨i1,i2⟩:=a83 f v r;rw[show a81 f v ((k,x)::r)=(if k=f then (k,v)::r else (k,x)::a81 f v r) from rfl]
  by_cases hk:k=f
  ·rw[aR hk];subst hk;exact⟨by simp,λg h=>by simpa using h⟩
  ·rw[bE hk];refine⟨?_,λg h=>?_⟩
   ·rw[ba];exact bq _ i1
   ·rw[ba]at h ⊢
    rcases aS.mp h with e|e
    ·exact aS.mpr (.inl e)
    ·exact bq _ (i2 g e)
theorem a84(f:Str)(v:V):∀fs:List (Str×V),(a81 f v fs).length<=fs.length+1
 |[]=>by simp[a81]
 |(k,x)::r=>by
  have ih:=a84 f v r;rw[show a81 f v ((k,x)::r)=(if k=f then (k,v)::r else (k,x)::a81 f v r) from rfl]
  by_cases hk:k=f
  ·rw[aR hk,aW,aW];omega
  ·rw[bE hk,aW,aW];omega
theorem RelO.some_of(r:RelO (some v) o):∃u,o=some u/\RelV v u:=by
 cases o with
 |none=>exact(show False from r).elim
 |some u=>exact⟨u,rfl,r⟩
theorem RelO.none_of(r:RelO none o):o=none:=by
 cases o with
 |none=>rfl
 |some u=>exact(show False from r).elim
theorem ab8(r:RelV v u):PySem.W.handedIn u=true:=by
 cases v with
 |non=>cases (show u=Value.none from r);rfl
 |bl b=>cases (show u=Value.bool b from r);rfl
 |int i=>obtain⟨t,e⟩:=(show ∃t,u=Value.int i t from r);cases e;rfl
 |str x=>obtain⟨t,e⟩:=(show ∃t,u=Value.str x t from r);cases e;rfl
 |byt b=>obtain⟨t,e⟩:=(show ∃t,u=Value.bytes b t from r);cases e;rfl
 |flt b=>obtain⟨t,e⟩:=(show ∃t,u=Value.float b t from r);cases e;rfl
 |ref a=>cases (show u=Value.ref a from r);rfl
 |ty n=>cases (show u=Value.type n from r);rfl
section
variable{P:Program}{w:World}{H H':Hp}{h h':Heap}{a C dx:Addr}{fs fs':List (Str×V)}
theorem a9t(hok:HOk P w H h)(e:H a=some (.ins C dx fs)):∃mA,ObjM h a dx C mA/\(∀f,RelO (fs.lookup f) (mA f))/\PySem.Within mA (fs.map (·.1))/\fs.length<=1000/\H dx=some (.own a):=by
 obtain⟨d,z,ne,ob,mA,n,r,q⟩:=(show ObjOk P w H h a (.ins C dx fs) from hok a _ e)
 exact⟨mA,⟨ob,n,ne⟩,r,q,z,d⟩
end
structure Cls (K:Fg) (C:Addr):Prop where
 pg:PySem.W.plainGet K C Str.empty=true
 hd:PySem.W.hasDictIn K C=true
 po:PySem.W.plainOver K C=true
 sa:PySem.W.findIn K (.ref C) "__setattr__" = some (some (.builtin "object.__setattr__"))
theorem Cls.get{K:Fg}{C:Addr}(c:Cls K C)(f:Str):PySem.W.plainGet K C f=true:=c.pg
def NoAttr(K:Fg)(C:Addr)(f:Str):Prop:=PySem.W.findIn K (.ref C) f=some none
theorem NoAttr.taker{K:Fg}{C:Addr}{f:Str}(n:NoAttr K C f):PySem.W.takerIn K C f=some none:=by
 unfold PySem.W.takerIn;rw[show PySem.W.findIn K (.ref C) f=some none from n]
 rfl
structure Meth (K:Fg) (C:Addr) (m:Str) (f:Addr):Prop where
 at_:PySem.W.findIn K (.ref C) m=some (some (.ref f))
 fn:PySem.W.isFn K (.ref f)=true
 kp:PySem.W.keepIn K (.ref f)=true
section
variable{X:Cx}{aA:List (Addr×Obj)}{σ:St}{H:Hp}{s:Shared}{a C dx:Addr}{fs:List (Str×V)}{f:Str}{v:V}{A:Around}{E:Value->Shared->Prop}
theorem a97(I:Inv X aA σ H s)(e:H a=some (.ins C dx fs))(c:Cls X.K C)(n:NoAttr X.K C f)(l:fs.lookup f=some v)
  (h:∀u s',Inv X aA σ H s'->RelV v u->Q u s'):wpAny (model X.prog X.w) A (getAttr (.ref a) f b) Q E s:=by
 obtain⟨mA,O,r,_,_,_⟩:=a9t I.hok e;obtain⟨u,hu,ru⟩:=RelO.some_of (v:=v) (o:=mA f) (by rw[<-l];exact r f)
 exact ah0 I.kIn O (c.get f) c.hd n hu (ab8 ru) (h u _ (I.tok _) ru)
theorem a6z(I:Inv X aA σ H s)(e:H a=some (.ins C dx fs))(c:Cls X.K C)(k:Meth X.K C m g)(l:fs.lookup m=none)
  (h:Q (.ref g,[.ref a]) s):wpAny (model X.prog X.w) A (getMethod (.ref a) m pl) Q E s:=by
 obtain⟨mA,O,r,_,_,_⟩:=a9t I.hok e;have hn:mA m=none:=RelO.none_of (by rw[<-l];exact r m)
 exact aku I.kIn O (c.get m) k.at_ k.fn hn h
theorem a70(I:Inv X aA σ H s)(e:H a=some (.ins C dx fs))(c:Cls X.K C)(n:NoAttr X.K C f)(hl:fs.length<1000)(ry:RelV y u)
  (h:∀s',Inv X aA σ (upd H a (.ins C dx (a81 f y fs))) s'->Q () s'):wpAny (model X.prog X.w) A (setAttr (.ref a) f u) Q E s:=by
 obtain⟨mA,O,r,wi,_,ho⟩:=a9t I.hok e;have hz:(fs.map (·.1)).length<=sizeLine:=by rw[ay,dW];omega
 refine aou I.kIn O c.sa c.po n.taker c.hd wi hz λh' O' sb=>h _ ?_;have hd:∃o,h'.get? dx=some o:=let ⟨o,_,_,e',_⟩:=O'.ns; ⟨o,e'⟩;refine I.write (x:=a) (e:=dx) (by rw[e];exact True.intro) (.inr ho) (λb q hb z=>(sb.2 b hb).trans z) hd ?_
 refine⟨by rw[jr O.ne];exact ho,?_,O.ne,O'.obj,_,O'.ns,λg=>?_,λg hg=>?_⟩
 ·have:=a84 f y fs;omega
 ·show RelO ((a81 f y fs).lookup g) (if g=f then some u else mA g)
  rw[a82]
  by_cases q:g=f
  ·rw[aR q,aR q];exact ry
  ·rw[bE q,bE q];exact r g
 ·by_cases q:g=f
  ·rw[q];exact(a83 f y fs).1
  ·refine(a83 f y fs).2 g (wi g λz=>hg ?_);show(if g=f then some u else mA g)=none
   rw[bE q];exact z
theorem Inv.made(I:Inv X aA σ H s):Inv X aA σ (upd (upd H s.heap.objs.size (.own (s.heap.objs.size+1))) (s.heap.objs.size+1) (.ins C s.heap.objs.size []))
  {s with heap:=(s.heap.push PySem.W.emptyDict).push (PySem.W.instObj C s.heap.objs.size)}:=by
 have e1:(s.heap.push PySem.W.emptyDict).get? s.heap.objs.size=some PySem.W.emptyDict:=bb s.heap rfl;have e2:((s.heap.push PySem.W.emptyDict).push (PySem.W.instObj C s.heap.objs.size)).get? (s.heap.objs.size+1)=some (PySem.W.instObj C s.heap.objs.size):=by
  have:=bb (s.heap.push PySem.W.emptyDict) (o:=PySem.W.instObj C s.heap.objs.size) rfl
  rwa[cM]at this
 have e3:(s.heap.push PySem.W.emptyDict).Ns s.heap.objs.size (λ_=>none):=⟨PySem.W.emptyDict, #[],_,e1,rfl,(λe he=>absurd he (by simp)),λ_=>rfl⟩
 have I1:=I.laid (a:=s.heap.objs.size) (o:=.own (s.heap.objs.size+1)) (h':=s.heap.push PySem.W.emptyDict) (t':=s.toks) (λb u q=>ar _ q) (aJ _) ⟨_,e1⟩;refine I1.laid (a:=s.heap.objs.size+1) (o:=.ins C s.heap.objs.size []) (t':=s.toks) (λb u q=>ar _ q) (Nat.le_of_eq (cM _ _)) ?_;have ne:s.heap.objs.size≠s.heap.objs.size+1:=bW (fh _);refine⟨by rw[jr ne,qu],aV _,ne,e2,λ_=>none,(Heap.Ns1.of_empty e3).at λo q=>ar _ q,λ_=>True.intro,λy hy=>absurd rfl hy⟩
theorem aov(hb:attributeBase e f env (eval e env)=eval e env)
  (h:wpAny (model prog w) A (eval e env) (λo s₁=>wpAny (model prog w) A (getAttr o f true) Q E s₁) E s):wpAny (model prog w) A (eval (.Attribute e f pos) env) Q E s :=
 Attribute_any_ h (by rw[arm_eval_Attribute,hb])
end
def b1f(K:Fg)(ta tv:TE)(f:Str):TS:=λD σ H=>tv σ H λy H1=>ta σ H1 λx H2=>∃a C dx fs,x=.ref a/\H2 a=some (.ins C dx fs)/\Cls K C/\NoAttr K C f/\fs.length<1000 /\
 D.nx σ (upd H2 a (.ins C dx (a81 f y fs)))
def b1g(X:Cx)(op:Operator)(rd:V->V->Hp->VK->Prop):Prop :=
 ∀(aA:List (Addr×Obj)) (s:Shared) (σ:St) (H:Hp) (x y:V) (u v:Value) (Q:VK),Inv X aA σ H s->RelV x u->RelV y v->rd x y H Q->wpAny (model X.prog X.w) X.A (inplaceOp op u v) (EP X aA σ Q) X.xe s
def aow(K:Fg)(ta tv:TE)(rd:V->V->Hp->VK->Prop)(f:Str):TS:=λD σ H=>ta σ H λx H1=>∃a C dx fs v,x=.ref a/\H1 a=some (.ins C dx fs)/\Cls K C/\NoAttr K C f/\fs.lookup f=some v /\
 tv σ H1 λy H2=>rd v y H2 λz H3=>∃dx' fs',H3 a=some (.ins C dx' fs')/\fs'.length<1000/\D.nx σ (upd H3 a (.ins C dx' (a81 f z fs')))
section
variable{X:Cx}{o e value:Expr}{f:Str}{pos pos' tpos:Pos}{ta tv:TE}
theorem ati(ha:PE X o ta)(hv:PE X value tv)(hs:swapsWith value (some (.Attribute o f pos')) pos.line X.env=pure false):PS X (.Assign [.Attribute o f pos'] value pos) (b1f X.K ta tv f):=by
 intro aA s σ H D I h
 refine plainObj_wpAny_Assign_Attribute (thn (hv aA s σ H _ I h) λu s1 ⟨y,H1,I1,ry,q⟩=>thn (ha aA s1 σ H1 _ I1 q) λov s2 ⟨x,H2,I2,rx,a,C,dx,fs,ex,ea,c,n,l,q2⟩=>?_) hs;subst ex;obtain rfl:ov=Value.ref a:=rx;exact a70 I2 ea c n l ry λs3 I3=>⟨σ,_,I3,q2⟩
theorem ah1{op:Operator}{rd:V->V->Hp->VK->Prop}(ha:PE X o ta)(hv:PE X value tv)(hop:b1g X op rd):PS X (.AugAssign (.Attribute o f tpos) op value pos) (aow X.K ta tv rd f):=by
 intro aA s σ H D I h
 refine wpAny_AugAssign_AttributeAny (thn (ha aA s σ H _ I h) λov s1 ⟨x,H1,I1,rx,a,C,dx,fs,v,ex,ea,c,n,l,q⟩=>?_);subst ex;obtain rfl:ov=Value.ref a:=rx;refine a97 I1 ea c n l λu s2 I2 ru=>thn (hv aA s2 σ H1 _ I2 q) λw3 s3 ⟨y,H2,I3,ry,q3⟩=>thn (hop aA s3 σ H2 v y u w3 _ I3 ru ry q3) ?_
 rintro w4 s4 ⟨z,H3,I4,rz,dx',fs',ea',l',q4⟩
 exact a70 I4 ea' c n l' rz λs5 I5=>⟨σ,_,I5,q4⟩
end
section
variable{X:Cx}{aA:List (Addr×Obj)}{σ:St}{H:Hp}{s:Shared}{A:Around}{E:Value->Shared->Prop}{Q:Value->Shared->Prop}{c:Value}{b:Bool}
inductive TyOf (K:Fg) (H:Hp):V->Value->Prop where
 |non:TyOf K H .non (.type "NoneType")
 |bl (x:Bool):TyOf K H (.bl x) (.type "bool")
 |int (i:Int):TyOf K H (.int i) (.type "int")
 |str (x:Str):TyOf K H (.str x) (.type "str")
 |flt (x:UInt64):TyOf K H (.flt x) (.type "float")
 |lst {a:Addr} {xs:List V} (e:H a=some (.lst xs)):TyOf K H (.ref a) (.type "list")
 |frz {a:Addr} {o:Obj} {xs:List V} (e:H a=some (.frz o (.lst xs))):TyOf K H (.ref a) (.type "list")
 |tup {a:Addr} {xs:List V} (e:H a=some (.tup xs)):TyOf K H (.ref a) (.type "tuple")
 |dK {a:Addr} {kvs:List (Key×V)} (e:H a=some (.dK kvs)):TyOf K H (.ref a) (.type "dict")
 |dT {a:Addr} {kvs:List (List Key×V)} (e:H a=some (.dT kvs)):TyOf K H (.ref a) (.type "dict")
 | ins {a C dx:Addr} {fs:List (Str×V)} (e:H a=some (.ins C dx fs)) (cl:Cls K C) (ha:PySem.W.findIn K (.ref C) "__class__" = some (some (.builtin "object.__class__")))
   (hn:PySem.W.specialIn K (.builtin "object.__class__") "__get__" = some (some (.builtin "getset_descriptor.__get__"))) (htk:PySem.W.takesIn K (.builtin "object.__class__")=some true)
   (hm:PySem.W.mroIn K C (.type "object")=some true):TyOf K H (.ref a) (.ref C)
theorem ah2(I:Inv X aA σ H s)(rx:RelV x u)(ty:TyOf X.K H x t)(e:PySem.W.kitOne X.K t c=some b)(h:∀tk,Q (.bool b) {s with toks:=tk}) :
  wpAny (model X.prog X.w) A (call (.builtin "isinstance") [u,c]) Q E s:=by
 cases ty with
 |non=>cases (show u=Value.none from rx);exact cw PySem.W.kitx_none I.kIn True.intro e (λz=>nomatch z) h
 |bl y=>cases (show u=Value.bool y from rx);exact cw PySem.W.kitx_bool I.kIn True.intro e (λz=>nomatch z) h
 |int i=>obtain⟨t,q⟩:=(show ∃t,u=Value.int i t from rx);cases q;exact cw PySem.W.kitx_int I.kIn True.intro e (λz=>nomatch z) h
 |str y=>obtain⟨t,q⟩:=(show ∃t,u=Value.str y t from rx);cases q;exact cw PySem.W.kitx_str I.kIn True.intro e (λz=>nomatch z) h
 |flt y=>obtain⟨t,q⟩:=(show ∃t,u=Value.float y t from rx);cases q;exact cw PySem.W.kitx_float I.kIn True.intro e (λz=>nomatch z) h
 |@lst a xs ea =>
  cases (show u=Value.ref a from rx)
  obtain⟨_,_,n,_,h1⟩:=(show ObjOk X.prog X.w H s.heap a (.lst xs) from I.hok a _ ea)
  exact cw PySem.W.kitx_list I.kIn ⟨_,h1,rfl⟩ e (λz=>nomatch z) h
 |@frz a ob xs ea =>
  cases (show u=Value.ref a from rx)
  obtain⟨_,_,_,n,_,h1⟩:=(show ObjOk X.prog X.w H s.heap a (.frz ob (.lst xs)) from I.hok a _ ea)
  exact cw PySem.W.kitx_list I.kIn ⟨_,h1,rfl⟩ e (λz=>nomatch z) h
 |@tup a xs ea =>
  cases (show u=Value.ref a from rx)
  obtain⟨_,_,_,p⟩:=(show ObjOk X.prog X.w H s.heap a (.tup xs) from I.hok a _ ea)
  obtain⟨o,h1,h2,_⟩:=p;exact cw PySem.W.kitx_tuple I.kIn ⟨o,h1,h2⟩ e (λz=>nomatch z) h
 |@dK a kvs ea =>
  cases (show u=Value.ref a from rx)
  obtain⟨_,_,vs,_,p⟩:=(show ObjOk X.prog X.w H s.heap a (.dK kvs) from I.hok a _ ea)
  obtain⟨o,es,ep,h1,h2,_⟩:=p;exact cw g7 I.kIn ⟨o,h1,h2.1⟩ e (λz=>nomatch z) h
 |@dT a kvs ea =>
  cases (show u=Value.ref a from rx)
  obtain⟨_,_,xs,_,o,es,ep,h1,h2,_⟩:=(show ObjOk X.prog X.w H s.heap a (.dT kvs) from I.hok a _ ea)
  exact cw g7 I.kIn ⟨o,h1,h2.1⟩ e (λz=>nomatch z) h
 |@ins a C dx fs ea cl ha hn htk hm =>
  cases (show u=Value.ref a from rx)
  obtain⟨mA,O,_⟩:=a9t I.hok ea;obtain⟨od,J,_⟩:=O.look;exact cw (PySem.W.kitx_own (cl.get _) cl.hd ha hn htk hm) I.kIn J e (λz=>nomatch z) h
end
structure Room (k:Nat) (A:Around):Prop where
 hd:A.handled=none
 dp:A.depth+3*k+5<recursionLimit
 un:A.units+16*k+200<cLine
 gd:A.guards=some []
theorem Room.mono(r:Room k A)(h:j<=k):Room j A:=⟨r.hd,by have:=r.dp;omega,by have:=r.un;omega,r.gd⟩
theorem Room.deeper(r:Room (k+1) A)(env:Env):Room k (A.deeper env) :=
 ⟨r.hd,by have:=r.dp;show A.depth+1+3*k+5<_;omega,by have:=r.un;show A.units+3+16*k+200<_;omega,r.gd⟩
theorem afo{A:Around}:(A.under (.builtin "type.__call__" ⟨.ref C::us,kw⟩)).depth=A.depth+1:=by
 first|rfl|simp[Around.under,Code.weight,Code.isCreation,Code.isGuard,Code.isCaller,Code.frames,Code.isFrame,guardIds]
theorem afp{A:Around}:(A.under (.builtin "type.__call__" ⟨.ref C::us,kw⟩)).units=A.units+1:=by
 first|rfl|simp[Around.under,Code.cUnits,Code.frames,Code.isFrame]
theorem ad2{A:Around}:(A.under (.builtin "type.__call__" ⟨.ref C::us,kw⟩)).guards=A.guards:=by
 obtain⟨_,_,_,g,_⟩:=A
 cases g<;>first|rfl|simp[Around.under,pushGuards,Code.guards,Code.isGuard,guardIds]
theorem Room.make(r:Room (k+1) A)(C:Addr)(us:List Value)(kw:List (Str×Value)):Room k (A.under (.builtin "type.__call__" ⟨.ref C::us,kw⟩)) :=
 ⟨r.hd,by have:=r.dp;rw[afo];omega,by have:=r.un;rw[afp];omega,by rw[ad2];exact r.gd⟩
theorem Room.depth(r:Room k A):A.depth<recursionLimit:=by have:=r.dp;omega
theorem Room.units(r:Room k A):A.units+64<cLine:=by have:=r.un;omega
def ayi:TA:=λ_ H Q=>Q [] H
def ayj(ta:TE)(tr:TA):TA:=λσ H Q=>ta σ H λx H1=>tr σ H1 λxs H2=>Q (x::xs) H2
section
variable{X:Cx}{e:Expr}{es:List Expr}{te:TE}{t:TA}{pos:Pos}
theorem an7:PA X [] ayi:=λ_ _ _ _ H Q I h=>Calls.spliced_nil ⟨[],H,I,.nil,h⟩
theorem ad3(ha:PE X e te)(hr:PA X es t)(hs:starEach (e::es) X.env=(false,eval e X.env)::starEach es X.env:=by rfl):PA X (e::es) (ayj te t):=by
 intro pos aA s σ H Q I h
 rw[hs];show wpAny _ _ (spliced ((false,eval e X.env)::backTo pos (starEach es X.env))) _ _ s;refine Calls.spliced_cons (thn (ha aA s σ H _ I h) λu s1 ⟨x,H1,I1,r1,q1⟩=>?_);exact thn (hr pos aA s1 σ H1 _ I1 q1) λus s2 ⟨xs,H2,I2,r2,q2⟩=>⟨x::xs,H2,I2,.cons r1 r2,q2⟩
def b1h(t:TA):TE:=λσ H Q=>t σ H λxs H1=>xs.length<=sizeLine/\∀p,H1 p=none->Q (.ref p) (upd H1 p (.tup xs))
def b1i(t:TA):TE:=λσ H Q=>t σ H λxs H1=>xs.length<=sizeLine/\∀p,H1 p=none->Q (.ref p) (upd H1 p (.lst xs))
theorem atj{x1}(h:PA X es t):PE X (.Tuple es x1 pos) (b1h t):=by
 intro aA s σ H Q I hq
 refine wpAny_Tuple_spliced (thn (h pos aA s σ H _ I hq) λus s1 ⟨xs,H1,I1,r,z,q⟩=>⟨by rw[<-r.length];exact z,?_⟩)
 have hf:H1 s1.heap.objs.size=none:=I1.hok.fresh (aJ _);refine⟨.ref s1.heap.objs.size,upd H1 s1.heap.objs.size (.tup xs),I1.laid (t':=s1.toks) (λb u e=>ar _ e) (aJ _) ?_,rfl,q _ hf⟩;exact⟨z,us,r,⟨_,bb _ rfl,rfl,_,rfl⟩⟩
theorem atk(h:PA X es t):PE X (.List es pos) (b1i t):=by
 intro aA s σ H Q I hq
 refine wpAny_List_spliced (thn (h pos aA s σ H _ I hq) λus s1 ⟨xs,H1,I1,r,z,q⟩=>⟨by rw[<-r.length];exact z,?_⟩)
 have hf:H1 s1.heap.objs.size=none:=I1.hok.fresh (aJ _);refine⟨.ref s1.heap.objs.size,upd H1 s1.heap.objs.size (.lst xs),I1.laid (t':=s1.toks) (λb u e=>ar _ e) (aJ _) ?_,rfl,q _ hf⟩;exact⟨z,us,0,r,bb _ rfl⟩
end
abbrev Sp:=List V->Hp->VK->XK->Prop
abbrev CXT:=List Env->Hp->Shared->XK->Value->Shared->Prop
structure Env0 (P:Program) (w:World) (K:Fg) (mg:Str->Option Value) (base:Heap) (A:Around) (outer:List Env) (s:Shared) (H:Hp):Prop where
 frames:A.frames=some outer
 mod:Mod K mg base
 bs:∀b o,base.get? b=some o->s.heap.get? b=some o/\H b=none
 bsz:base.objs.size<=s.heap.objs.size
 funs:s.heap.FunFrames base outer
 frf:∀b∈frs outer,H b=none
 hok:HOk P w H s.heap
 bare:AllBare s.gens
def CE(outer:List Env)(P:Program)(w:World)(H:Hp)(s:Shared)(Q:VK)(u:Value)(s':Shared):Prop :=
 ∃v H',s'.os=s.os/\AllBare s'.gens/\Un (frs outer) [] H H' s.heap s'.heap/\HOk P w H' s'.heap/\RelV v u/\Q v H'
def CR(CX:CXT)(outer:List Env)(P:Program)(w:World)(H:Hp)(s:Shared)(Q:VK)(E:XK)(r:Result)(s':Shared):Prop :=
 match r with
 |.ok (.ret u)=>CE outer P w H s Q u s'
 |.ok _=>False
 |.error e=>CX outer H s E e s'
structure FnOk (P:Program) (w:World) (K:Fg) (mg:Str->Option Value) (base:Heap) (CX:CXT) (k:Nat) (f:Addr) (fd:FuncData) (ps:List Str) (sp:Sp):Prop where
 len:∀vs H Q E,sp vs H Q E->vs.length=ps.length
 run:∀(A:Around) (outer:List Env) (s:Shared) (H:Hp) (args:Args) (us:List Value) (vs:List V) (Q:VK) (E:XK),Room k A->Env0 P w K mg base A outer s H->BindsTo s fd args (ps.zip us)->Vals vs us->sp vs H Q E->
  codeAny (model P w) A (.call (.ref f) args) (CR CX outer P w H s Q E) s
theorem FnOk.imp{P:Program}{w:World}{K:Fg}{mg:Str->Option Value}{base:Heap}{CX:CXT}{k:Nat}{f:Addr}{fd:FuncData}{ps:List Str}{sp sp':Sp}(F:FnOk P w K mg base CX k f fd ps sp)
  (h:∀vs H Q E,sp' vs H Q E->sp vs H Q E):FnOk P w K mg base CX k f fd ps sp' :=
 ⟨λvs H Q E q=>F.len vs H Q E (h _ _ _ _ q),λA outer s H args us vs Q E hr he hb hv hs=>F.run A outer s H args us vs Q E hr he hb hv (h _ _ _ _ hs)⟩
theorem Env0.make{P:Program}{w:World}{K:Fg}{mg:Str->Option Value}{base:Heap}{A:Around}{outer:List Env}{s:Shared}{H:Hp}(e:Env0 P w K mg base A outer s H)(C:Addr)(us:List Value)(kw:List (Str×Value)) :
  Env0 P w K mg base (A.under (.builtin "type.__call__" ⟨.ref C::us,kw⟩)) outer s H:=⟨by first|exact e.frames|(simpa[Around.under,Code.envs,Code.isFrame,pushEnvs] using e.frames),e.mod,e.bs,e.bsz,e.funs,e.frf,e.hok,e.bare⟩
section
variable{X:Cx}{aA:List (Addr×Obj)}{σ:St}{H:Hp}{s s':Shared}
theorem Inv.env0(I:Inv X aA σ H s):Env0 X.prog X.w X.K X.mg X.base X.A X.stack s H :=
 ⟨I.ok.frames,I.ok.mod,I.bs,cq I.ok.bsz I.sz,I.stack,I.stkFree,I.hok,I.bare⟩
theorem Inv.after(I:Inv X aA σ H s)(h:CE X.stack X.prog X.w H s Q u s'):EP X aA σ Q u s':=by
 obtain⟨v,H',os,bare,un,hok,r,q⟩:=h;obtain⟨hh,g,d,t,os'⟩:=s';obtain rfl:os'=s.os:=os;exact⟨v,H',I.call (h':=hh) (g':=g) (d':=d) (t':=t) (ch:=[]) un hok bare (λb z=>absurd z (by simp)),r,q⟩
end
def aoy(sp:Sp)(dvs:List V)(E:XK)(t:TA):TE:=λσ H Q=>t σ H λvs H1=>sp (vs++dvs) H1 Q E
def aoz(C:Addr)(m:Str)(sp:Sp)(dvs:List V)(E:XK)(ta:TE)(t:TA):TE:=λσ H Q=>ta σ H λx H1=>∃a dx fs,x=.ref a/\H1 a=some (.ins C dx fs)/\fs.lookup m=none /\
 t σ H1 λvs H2=>sp (x::(vs++dvs)) H2 Q E
def ayk(C:Addr)(sp:Sp)(dvs:List V)(E:XK)(t:TA):TE:=λσ H Q=>t σ H λvs H1=>∀x dx,H1 x=none->H1 dx=none->dx≠x->
 sp (.ref x::(vs++dvs)) (upd (upd H1 dx (.own x)) x (.ins C dx [])) (λv H2=>v=.non/\Q (.ref x) H2) E
def Binds(K:Fg)(fd:FuncData)(ps:List Str)(ds:List Value):Prop :=
 ∀(s:Shared) (us:List Value),K.In s.heap->(us++ds).length=ps.length->BindsTo s fd ⟨us,[]⟩ (ps.zip (us++ds))
theorem Binds.all{K:Fg}{fd:FuncData}{ps:List Str}(h:∀us:List Value,us.length=ps.length->bindArgs fd ⟨us,[]⟩=pure (ps.zip us)):Binds K fd ps []:=λs us _ hl=>by
 rw[bT]at hl ⊢;exact .of_eq (h us hl)
def a7f(CX:CXT)(X:Cx)(E:XK):Prop:=∀(aA:List (Addr×Obj)) (σ:St) (H:Hp) (s:Shared) (e:Value) (s':Shared),Inv X aA σ H s->CX X.stack H s E e s'->X.xe e s'
section
variable{X:Cx}{CX:CXT}{k:Nat}{f C:Addr}{fd:FuncData}{ps:List Str}{sp:Sp}{dvs:List V}{ds:List Value}{E:XK}{x m:Str}{p pos apos:Pos}{e o:Expr}{es:List Expr}{ta:TE}{t:TA}
theorem ab9(F:FnOk X.prog X.w X.K X.mg X.base CX k f fd ps sp)(hr:Room k X.A)(hb:Binds X.K fd ps ds)(hd:Vals dvs ds)(hx:a7f CX X E)
  (I:Inv X aA σ H s) (r:Vals vs us) (h:sp (vs++dvs) H Q E):wpAny (model X.prog X.w) X.A (call (.ref f) us) (EP X aA σ Q) X.xe s:=by
 have r2:Vals (vs++dvs) (us++ds):=r.append hd;have hl:(us++ds).length=ps.length:=by rw[<-r2.length];exact F.len _ _ _ _ h
 refine wpAny_call (gF (F.run X.A X.stack s H ⟨us,[]⟩ (us++ds) (vs++dvs) Q E hr I.env0 (hb s us I.kIn hl) r2 h) λr s' hq=>?_)
 cases r with
 |error e=>exact hx aA σ H s e s' I hq
 |ok fl =>
  cases fl with
  |ret u=>exact I.after hq
  |next=>exact False.elim hq
  |brk=>exact False.elim hq
  |cont=>exact False.elim hq
theorem ah3(F:FnOk X.prog X.w X.K X.mg X.base CX k f fd ps sp)(hr:Room k X.A)(hg:Gl X x)(hm:X.mg x=some (.ref f))(hk:PySem.W.keepIn X.K (.ref f)=true)(hb:Binds X.K fd ps ds)(hd:Vals dvs ds)(hx:a7f CX X E)
  (ha:PA X (e::es) t) (hdb:(x == ("__debug__" : Str))=false:=by decide) (he:starEach (e::es) X.env=(false,eval e X.env)::starEach es X.env:=by rfl) (hpl:(backTo pos (starEach es X.env)).any (·.1)=false:=by rfl) :
  PE X (.Call (.Name x p) (e::es) [] pos) (aoy sp dvs E t):=by
 intro aA s σ H Q I h
 refine dv (a9r I hg hm ?_ hdb);refine eK (h₀:=X.base) I.ok.mod.kin hk (thn (ha pos aA s σ H _ I h) λus s1 ⟨vs,H1,I1,r,q⟩=>⟨I1.kIn,?_⟩) he hpl;exact ab9 F hr hb hd hx I1 r q
theorem akx(F:FnOk X.prog X.w X.K X.mg X.base CX k f fd ps sp)(hr:Room k X.A)(hg:Gl X x)(hm:X.mg x=some (.ref f))(hk:PySem.W.keepIn X.K (.ref f)=true)(hb:Binds X.K fd ps ds)(hd:Vals dvs ds)(hx:a7f CX X E)
  (hdb:(x == ("__debug__" : Str))=false:=by decide):PE X (.Call (.Name x p) [] [] pos) (aoy sp dvs E ayi):=by
 intro aA s σ H Q I h
 refine dv (a9r I hg hm ?_ hdb);exact PySem.W.callWith_K0 I.kIn hk (ab9 (us:=[]) F hr hb hd hx I .nil h)
theorem ap0(he:PE X o ta)(c:Cls X.K C)(hm:Meth X.K C m f)(F:FnOk X.prog X.w X.K X.mg X.base CX k f fd ps sp)(hr:Room k X.A)(hb:Binds X.K fd ps ds)(hd:Vals dvs ds)(hx:a7f CX X E)(ha:PA X (e::es) t)
  (hst:starEach (e::es) X.env=(false,eval e X.env)::starEach es X.env:=by rfl) (hpl:(backTo pos (starEach es X.env)).any (·.1)=false:=by rfl)
  (ht:eval (.Call (.Attribute o m apos) (e::es) [] pos) X.env=(do
   let ov <-eval o X.env
   standAt apos.atName
   let (f,first) <-holding [ov] (getMethod ov m pl)
   callWith pos f first (backTo pos (starEach (e::es) X.env)) (backToKw pos (keywordEach [] X.env))):=by rfl) :
  PE X (.Call (.Attribute o m apos) (e::es) [] pos) (aoz C m sp dvs E ta t):=by
 intro aA s σ H Q I h
 refine eZ (pl:=pl) (thn (he aA s σ H _ I h) λu s1 ⟨x,H1,I1,rx,a,dx,fs,ex,ea,l,q⟩=>?_) ht;subst ex;obtain rfl:u=Value.ref a:=rx;refine a6z I1 ea c hm l ?_;refine eK (first:=[.ref a]) (h₀:=X.base) I.ok.mod.kin hm.kp (thn (ha pos aA s1 σ H1 _ I1 q) λus s2 ⟨vs,H2,I2,r,q2⟩=>⟨I2.kIn,?_⟩) hst hpl
 exact ab9 (us:=.ref a::us) (vs:=.ref a::vs) F hr hb hd hx I2 (.cons rfl r) q2
theorem aky(he:PE X o ta)(c:Cls X.K C)(hm:Meth X.K C m f)(F:FnOk X.prog X.w X.K X.mg X.base CX k f fd ps sp)(hr:Room k X.A)(hb:Binds X.K fd ps ds)(hd:Vals dvs ds)(hx:a7f CX X E)
  (ht:eval (.Call (.Attribute o m apos) [] [] pos) X.env=(do
   let ov <-eval o X.env
   standAt apos.atName
   let (f,first) <-holding [ov] (getMethod ov m pl)
   callWith pos f first (backTo pos (starEach [] X.env)) (backToKw pos (keywordEach [] X.env))):=by rfl) :
  PE X (.Call (.Attribute o m apos) [] [] pos) (aoz C m sp dvs E ta ayi):=by
 intro aA s σ H Q I h
 refine eZ (pl:=pl) (thn (he aA s σ H _ I h) λu s1 ⟨x,H1,I1,rx,a,dx,fs,ex,ea,l,q⟩=>?_) ht;subst ex;obtain rfl:u=Value.ref a:=rx;refine a6z I1 ea c hm l ?_;exact PySem.W.callWith_K0 (first:=[.ref a]) I1.kIn hm.kp (ab9 (us:=[.ref a]) (vs:=[.ref a]) F hr hb hd hx I1 (.cons rfl .nil) q)
structure Mk (K:Fg) (C f:Addr):Prop where
 makes:PySem.W.makesIn K C=true
 init:PySem.W.findIn K (.ref C) "__init__" = some (some (.ref f))
 fn:PySem.W.isFn K (.ref f)=true
 kp:PySem.W.keepIn K (.ref C)=true
theorem akz(M:Mk X.K C f)(F:FnOk X.prog X.w X.K X.mg X.base CX k f fd ps sp)(hr:Room (k+1) X.A)(hb:Binds X.K fd ps ds)(hd:Vals dvs ds)
  (hx:a7f CX X E) (I:Inv X aA σ H s) (r:Vals vs us)
  (h:∀x dx,H x=none->H dx=none->dx≠x->sp (.ref x::(vs++dvs)) (upd (upd H dx (.own x)) x (.ins C dx [])) (λv H2=>v=.non/\Q (.ref x) H2) E) :
  wpAny (model X.prog X.w) X.A (call (.ref C) us) (EP X aA σ Q) X.xe s:=by
 have hq:=h (s.heap.objs.size+1) s.heap.objs.size (I.hok.fresh (gO _)) (I.hok.fresh (aJ _)) (bW (fh _));have I2:=Inv.made (C:=C) I;have r2:Vals (V.ref (s.heap.objs.size+1)::(vs++dvs)) (Value.ref (s.heap.objs.size+1)::(us++ds)):=.cons rfl (r.append hd);have hl:(Value.ref (s.heap.objs.size+1)::us++ds).length=ps.length:=by
  have e:=r2.length;rw[F.len _ _ _ _ hq]at e;exact e.symm
 refine wpAny_call (akv (f:=f) I.kIn M.makes M.init (eW.mp M.fn) (gF (F.run _ X.stack _ _ ⟨Value.ref (s.heap.objs.size+1)::us,[]⟩ (Value.ref (s.heap.objs.size+1)::(us++ds)) _ _ E (hr.make C us [])
  (I2.env0.make C us []) (hb _ (Value.ref (s.heap.objs.size+1)::us) I2.kIn hl) r2 hq) λr s' hq'=>?_))
 cases r with
 |error e=>exact hx aA σ _ _ e s' I2 hq'
 |ok fl =>
  cases fl with
  |ret u =>
   obtain⟨v,H',I3,rv,ev,q3⟩:=I2.after hq';subst ev;exact⟨rv,⟨V.ref (s.heap.objs.size+1),H',I3,rfl,q3⟩⟩
  |next=>exact False.elim hq'
  |brk=>exact False.elim hq'
  |cont=>exact False.elim hq'
theorem ap1(M:Mk X.K C f)(F:FnOk X.prog X.w X.K X.mg X.base CX k f fd ps sp)(hr:Room (k+1) X.A)(hg:Gl X x)(hm:X.mg x=some (.ref C))(hb:Binds X.K fd ps ds)(hd:Vals dvs ds)(hx:a7f CX X E)
  (ha:PA X (e::es) t) (hdb:(x == ("__debug__" : Str))=false:=by decide) (he:starEach (e::es) X.env=(false,eval e X.env)::starEach es X.env:=by rfl) (hpl:(backTo pos (starEach es X.env)).any (·.1)=false:=by rfl) :
  PE X (.Call (.Name x p) (e::es) [] pos) (ayk C sp dvs E t):=by
 intro aA s σ H Q I h
 refine dv (a9r I hg hm ?_ hdb);refine eK (h₀:=X.base) I.ok.mod.kin M.kp (thn (ha pos aA s σ H _ I h) λus s1 ⟨vs,H1,I1,r,q⟩=>⟨I1.kIn,?_⟩) he hpl;exact akz M F hr hb hd hx I1 r q
end
structure FnScope (N P:List Str) (sc:Scope):Prop where
 kind:sc.kind=.function
 co:sc.isCoroutine=false
 gen:sc.isGenerator=false
 nd:N.Nodup
 pre:N.take P.length=P
 par:∀x∈P,sc.names.lookup x=some .local\/sc.names.lookup x=some .cell
 nofree:∀y∈sc.names,y.2≠.free
theorem aba{kindOf:Str->Option NameKind}{x:Str}:∀{binds:List (Str×Value)} {m:Str->Option Value},(∀v,(x,v)∉binds)->bindL kindOf binds m x=m x
 |[],_,_=>rfl
 |(n,v)::r,m,h=>by
  unfold bindL;rw[aba λw hw=>h w (bq _ hw)]
  split
  ·have:x≠n:=by rintro rfl;exact h v bA
   simp[this]
  ·rfl
theorem abb{kindOf:Str->Option NameKind}{x:Str}:∀{binds:List (Str×Value)} {m:Str->Option Value},(∀v,(x,v)∉binds)->bindC kindOf binds m x=m x
 |[],_,_=>rfl
 |(n,v)::r,m,h=>by
  unfold bindC;rw[abb λw hw=>h w (bq _ hw)]
  split
  ·rfl
  ·have:x≠n:=by rintro rfl;exact h v bA
   simp[this]
theorem abd{kindOf:Str->Option NameKind}{x:Str}{v:Value}:∀{P:List Str} {vs:List Value} {i:Nat} {m:Str->Option Value},P.Nodup->P[i]? = some x->vs[i]? = some v->kindOf x=some .local->
  bindL kindOf (P.zip vs) m x=some v
 |[],_,_,_,_,h,_,_=>by simp at h
 |_::_,[],_,_,_,_,h,_=>by simp at h
 |p::P,w::vs,0,m,nd,h1,h2,hk=>by
  simp at h1 h2;subst h1;subst h2
  show bindL kindOf ((p,w)::P.zip vs) m p=_;unfold bindL;rw[aba λv hv=>(dX.mp nd).1 (gG hv).1,aR hk];simp
 |p::P,w::vs,i+1,m,nd,h1,h2,hk=>by
  show bindL kindOf ((p,w)::P.zip vs) m x=_;unfold bindL;exact abd (i:=i) (dX.mp nd).2 (by simpa using h1) (by simpa using h2) hk
theorem abe{kindOf:Str->Option NameKind}{x:Str}{v:Value}:∀{P:List Str} {vs:List Value} {i:Nat} {m:Str->Option Value},P.Nodup->P[i]? = some x->vs[i]? = some v->kindOf x≠some .local->
  bindC kindOf (P.zip vs) m x=some v
 |[],_,_,_,_,h,_,_=>by simp at h
 |_::_,[],_,_,_,_,h,_=>by simp at h
 |p::P,w::vs,0,m,nd,h1,h2,hk=>by
  simp at h1 h2;subst h1;subst h2
  show bindC kindOf ((p,w)::P.zip vs) m p=_;unfold bindC;rw[abb λv hv=>(dX.mp nd).1 (gG hv).1,bE hk];simp
 |p::P,w::vs,i+1,m,nd,h1,h2,hk=>by
  show bindC kindOf ((p,w)::P.zip vs) m x=_;unfold bindC;exact abe (i:=i) (dX.mp nd).2 (by simpa using h1) (by simpa using h2) hk
def start(N:List Str)(vs:List V):St:=vs.map some++List.replicate (N.length-vs.length) none
def a5r(CX:CXT)(P:Program)(w:World)(K:Fg)(mg:Str->Option Value)(base:Heap)(N:List Str)(qual:Str)(aB:Scope)(f:Addr)(cd:Value)(A:Around)(outer:List Env)(s:Shared)(H:Hp)(E:XK):Cx where
 prog:=P
 w:=w
 K:=K
 mg:=mg
 base:=base
 A:=A.deeper (envOfC qual aB s.heap.objs.size f cd)
 N:=N
 s₀:=s
 H₀:=H
 env:=envOfC qual aB s.heap.objs.size f cd
 outer:=outer
 stack:=envOfC qual aB s.heap.objs.size f cd::outer
 ex:=[]
 calm:=true
 fn:=λ_=>true
 pn:=[]
 xe:=λe s'=>wpAny (model P w) (A.deeper (envOfC qual aB s.heap.objs.size f cd)) (leaving (envOfC qual aB s.heap.objs.size f cd) e) (λ_ s''=>CX outer H s E e s'') (λe' s''=>CX outer H s E e' s'') s'
theorem ae2{sc:Scope}(h:sc.names.lookup x=some .cell):∃c,(cellsFrom n sc.names []).lookup x=some c:=by
 have q:=PySem.W.cellsFrom_some sc.names n [] (.inl h);exact g9.mp q
theorem ah4{CX:CXT}{P:Program}{w:World}{K:Fg}{mg:Str->Option Value}{base:Heap}{N ps:List Str}{qual:Str}{aB:Scope}{f:Addr}{cd:Value}{A:Around}{outer:List Env}{s s1:Shared}{H:Hp}{E:XK}{us:List Value}{vs:List V}
  (S:FnScope N ps aB) (hd:A.handled=none) (e0:Env0 P w K mg base A outer s H) (hl:vs.length=ps.length) (r:Vals vs us)
  (x:InCallC s s.heap.objs.size (bindL (envOfC qual aB s.heap.objs.size f cd).kindOf (ps.zip us) λ_=>none) (cellsFrom (s.heap.objs.size+1) aB.names []) (bindC (envOfC qual aB s.heap.objs.size f cd).kindOf (ps.zip us) λ_=>none) s1) :
  Inv (a5r CX P w K mg base N qual aB f cd A outer s H E) [] (start N vs) H s1:=by
 have hpl:ps.length<=N.length:=by have:=aN List.length S.pre;rw[bN]at this;omega
 obtain⟨h1,tk,rfl,hk⟩:=x.done;have noA:∀b:Addr,b∉(a5r CX P w K mg base N qual aB f cd A outer s H E).ex:=λb z=>absurd (show b∈([]:List Addr) from z) (by simp)
 refine⟨⟨e0.mod,S.kind,rfl,rfl,aJ _,λy z c h1 h2=>?_,λy hy=>?_,λy c _ h=>?_,λ_=>hd,Around.frames_deeper e0.frames,.inr ⟨rfl,rfl⟩,λb z=>absurd z (noA b),e0.bs,e0.bsz,λb _ _=>noA b,λb z=>absurd z (noA b),e0.funs,e0.frf⟩,
  rfl,e0.bare,Un.kept hk,⟨_,x.toInCall.ns,λi y v h1 h2 h3=>?_⟩,λy c h=>⟨_,x.cell y c h⟩,e0.hok.fresh (aJ _),λy c h=>?_,λp hp=>absurd (show p∈([]:List (Addr×Obj)) from hp) (by simp),e0.hok.kept hk,?_⟩
 ·exact name_of_addr x.apart (cy h1) (cy h2)
 ·have hy:aB.names.lookup y=some .cell\/aB.names.lookup y=some .free:=hy
  rcases hy with hy|hy
  ·exact ae2 hy
  ·exact absurd rfl (S.nofree _ (cy hy))
 ·exact eG (x.above y c (cy h))
 ·have hi:i<vs.length:=by
   unfold start at h2
   by_cases hi:i<vs.length
   ·exact hi
   ·rw[aO (by simpa using hi)]at h2
    rw[dO]at h2
    split at h2<;>cases h2
  have ha:vs[i]? = some v:=by
   unfold start at h2;rw[aM (by simpa using hi),aP]at h2
   cases e:vs[i]? with
   |none=>rw[e]at h2;cases h2
   |some a=>rw[e]at h2;cases h2;rfl
  obtain⟨u,hu,rv⟩:=r.get ha;have hp:ps[i]? = some y:=by
   rw[<-S.pre,List.getElem?_take_of_lt (by omega)];exact h1
  have ndP:ps.Nodup:=by rw[<-S.pre];exact S.nd.sublist (List.take_sublist _ _)
  refine⟨u,rv,?_⟩
  rcases S.par y (aQ hp) with k|k
  ·exact .inl ⟨k,abd ndP hp hu k⟩
  ·obtain⟨c,e⟩:=ae2 (n:=s.heap.objs.size+1) k;refine .inr ⟨.inl k,c,e,?_⟩;have q:=x.cell y c e;rw[abe ndP hp hu (by show aB.names.lookup y≠_;rw[k];decide)]at q
   exact q
 ·exact e0.hok.fresh (eG (x.above y c (cy h)))
 ·unfold start;show _=N.length;rw[ai,ay,dY];omega
theorem ayl{CX:CXT}{P:Program}{w:World}{K:Fg}{mg:Str->Option Value}{base:Heap}{k:Nat}{f:Addr}{name qual:Str}{params:Arguments}{body:List Stmt}{aB:Scope}{dV kV doc pm cdv ct oc:Value}{an od:Option Addr}
  {osl:Array (Option Value)} {N ps:List Str} {sp:Sp} (lk:K.lookup f=some ⟨oc,od,.func (PySem.W.fnOf name qual params body aB dV kV doc pm an cdv ct),osl⟩) (hcd:PySem.W.codeIn K cdv qual=true) (S:FnScope N ps aB)
  (len:∀vs H Q E,sp vs H Q E->vs.length=ps.length)
  (hbody:∀(A:Around) (outer:List Env) (s:Shared) (H:Hp) (vs:List V) (Q:VK) (E:XK),Room k (A.deeper (envOfC qual aB s.heap.objs.size f cdv))->sp vs H Q E->
   ∃t,PSs (a5r CX P w K mg base N qual aB f cdv A outer s H E) body t/\t {nx:=λ_ H'=>Q .non H',rt:=Q} (start N vs) H) :
  FnOk P w K mg base CX (k+1) f (PySem.W.fnOf name qual params body aB dV kV doc pm an cdv ct) ps sp:=by
 refine⟨len,λA outer s H args us vs Q E hr e0 hb r hsp=>?_⟩;have hl:=len _ _ _ _ hsp;have KX:K.In s.heap:=e0.mod.kin.keeps λb o e=>(e0.bs b o e).1;have lim:s.heap.NoLimit:=e0.mod.nolimit.keeps λb o e=>(e0.bs b o e).1;have hkind:∀y∈ps.zip us,aB.names.lookup y.1=some .local\/(aB.names.lookup y.1=some .cell/\((cellsFrom (s.heap.objs.size+1) aB.names []).lookup y.1).isSome=true):=λ⟨n,v⟩ hy=>by
  rcases S.par n (gG hy).1 with q|q
  ·exact .inl q
  ·exact .inr ⟨q,PySem.W.cellsFrom_some _ _ _ (.inl q)⟩
 refine codeAny_call_function hr.depth (KX _ _ lk) rfl S.co S.gen rfl (PySem.W.codeRec_of KX hcd) (hb _ _ _ _ ?_);refine wpAny_newFunctionEnv_cells S.kind hkind λenv he s1 x=>?_;subst he;refine⟨lim.keeps x.toInCall.keep,codeAny_func ?_⟩;obtain⟨t,ht,hq⟩:=hbody A outer s H vs Q E (hr.deeper _) hsp;have I:Inv (a5r CX P w K mg base N qual aB f cdv A outer s H E) [] (start N vs) H s1:=ah4 S hr.hd e0 hl r x;refine dE (ht [] s1 (start N vs) H _ I hq) (λfl s' hs=>?_) λe s' hs=>hs;have fin:∀{σ':St} {H':Hp} {v:V} {u:Value},Inv (a5r CX P w K mg base N qual aB f cdv A outer s H E) [] σ' H' s'->RelV v u->Q v H'->CE outer P w H s Q u s' :=
  λ{σ' H' v u} J rv q=>⟨v,H',J.os,J.bare,J.base,J.hok,rv,q⟩
 cases fl with
 |ret u =>
  obtain⟨v,σ',H',J,rv,q⟩:=hs;exact fin J rv q
 |next =>
  obtain⟨σ',H',J,q⟩:=hs;exact fin (v:=V.non) (u:=Value.none) J rfl q
 |brk =>
  obtain⟨_,_,_,q⟩:=hs;exact False.elim q
 |cont =>
  obtain⟨_,_,_,q⟩:=hs;exact False.elim q
section
variable{X:Cx}{x:Str}{p pos:Pos}{e:Expr}{es:List Expr}{t:TA}{id T:String}{r:List V->Hp->VK->Prop}
def tCB(r:List V->Hp->VK->Prop)(t:TA):TE:=λσ H Q=>t σ H λvs H1=>r vs H1 Q
theorem al0(hc:CallR X (.builtin id) r)(hg:Gl X x)(hm:X.mg x=none)(hv:bootBuiltins x=some (.builtin id))(ha:PA X (e::es) t)(hn:x ≠ "__name__":=by decide)(hdb:(x == ("__debug__" : Str))=false:=by decide)
  (he:starEach (e::es) X.env=(false,eval e X.env)::starEach es X.env:=by rfl) (hpl:(backTo pos (starEach es X.env)).any (·.1)=false:=by rfl):PE X (.Call (.Name x p) (e::es) [] pos) (tCB r t):=by
 intro aA s σ H Q I h
 refine dv (a95 I hg hm hv ?_ hn hdb);exact PyProof.Rows.callWith_builtin1 (thn (ha pos aA s σ H _ I h) λus s1 ⟨vs,H1,I1,r1,q1⟩=>hc aA s1 σ H1 vs us Q I1 r1 q1) he hpl
theorem ah5(hc:CallR X (.type T) r)(hg:Gl X x)(hm:X.mg x=none)(hv:bootBuiltins x=some (.type T))(ha:PA X (e::es) t)(hn:x ≠ "__name__":=by decide)(hdb:(x == ("__debug__" : Str))=false:=by decide)
  (he:starEach (e::es) X.env=(false,eval e X.env)::starEach es X.env:=by rfl) (hpl:(backTo pos (starEach es X.env)).any (·.1)=false:=by rfl):PE X (.Call (.Name x p) (e::es) [] pos) (tCB r t):=by
 intro aA s σ H Q I h
 refine dv (a95 I hg hm hv ?_ hn hdb);exact cW (thn (ha pos aA s σ H _ I h) λus s1 ⟨vs,H1,I1,r1,q1⟩=>hc aA s1 σ H1 vs us Q I1 r1 q1) he hpl
end
end L2
namespace HT
open PyProof.Rows
section
variable{prog:Program}{w:World}{A:Around}{E:Value->Shared->Prop}{s:Shared}
theorem ap2{vs ws:List Value}(ht:IsTup s.heap t vs.toArray)(hb:IsTup s.heap b ws.toArray)(hv:vs≠[])
  (h1:ws=[]->Q (.ref t) s) (h2:ws≠[]->Q (.ref s.heap.objs.size) {s with heap:=s.heap.push {cls:=.type "tuple",data:=.seq (vs++ws).toArray} })
  (hsz:vs.length+ws.length<=sizeLine):wpAny (model prog w) A (binaryOp .Add (.ref t) (.ref b)) Q E s:=by
 obtain⟨⟨cls,dd,data,sl⟩,ho,hc,n,hd⟩:=id ht;obtain⟨⟨cls2,dd2,data2,sl2⟩,ho2,hc2,n2,hd2⟩:=id hb;simp only at hc hd hc2 hd2;subst hc hd hc2 hd2;have e:vs.toArray++ws.toArray=(vs++ws).toArray:=by simp
 by_cases hw:ws=[]
 ·exact concat_meets ⟨_,ho,rfl⟩ ⟨_,ho2,rfl⟩ gz seq_tuple_add PySem.F.slot_tuple_add gu (gc _ _)
   (tuple_addW1 t b vs.toArray ws.toArray n n2 dd dd2 sl sl2 (by simpa using hv) (by simp[hw])) ⟨ho,ho2,h1 hw⟩
 ·refine concat_meets ⟨_,ho,rfl⟩ ⟨_,ho2,rfl⟩ gz seq_tuple_add PySem.F.slot_tuple_add gu (gc _ _)
   (tuple_addW2 t b vs.toArray ws.toArray n n2 dd dd2 sl sl2 (by simpa using hv) (by simpa using hw) (by rw[aK,aK];exact hsz)) ⟨ho,ho2,?_⟩
  rw[e];exact h2 hw
def sIx(n d:Nat):Option Int->Nat
 |none=>d
 |some v=>if v<0 then (v+(n:Int)).toNat else min v.toNat n
theorem ae3(n d:Nat):sIx n d none=d:=rfl
theorem ah6(n d k:Nat):sIx n d (some (k:Int))=min k n:=by
 show(if (k:Int)<0 then ((k:Int)+(n:Int)).toNat else min (k:Int).toNat n)=min k n
 rw[bE (by omega),dG]
theorem ah7(n d:Nat)(hd:d<=n)(o:Option Int):sIx n d o<=n:=by
 cases o with
 |none=>exact hd
 |some v =>
  show(if v<0 then (v+(n:Int)).toNat else min v.toNat n)<=n
  by_cases hv:v<0
  ·rw[aR hv];omega
  ·rw[bE hv];exact Nat.min_le_right _ _
theorem ah8(v:Int)(n d:Nat):(if v<0 then max (v+(n:Int)) 0 else min v (n:Int))=((sIx n d (some v):Nat):Int):=by
 show(if v<0 then max (v+(n:Int)) 0 else min v (n:Int))=(((if v<0 then (v+(n:Int)).toNat else min v.toNat n):Nat):Int)
 by_cases hv:v<0
 ·simp only[aR hv];omega
 ·simp only[bE hv];omega
theorem afq(lo hi:Option Int)(n:Nat):Builtin.Slice.sliceAdjust lo hi 1 (n:Int)=(((sIx n 0 lo:Nat):Int),((sIx n n hi:Nat):Int)):=by
 have h1:¬ ((1:Int)<0):=by omega
 unfold Builtin.Slice.sliceAdjust;simp only[h1,fB];refine Prod.ext ?_ ?_
 ·cases lo with
  |none=>rfl
  |some v=>exact ah8 v n 0
 ·cases hi with
  |none=>rfl
  |some v=>exact ah8 v n n
theorem afr(i j:Nat):Builtin.Slice.slicePlaces (i:Int) (j:Int) 1=j-i:=by
 unfold Builtin.Slice.slicePlaces;have h1:(1:Int) > 0:=by omega
 simp only[h1,dk,Int.ediv_one]
 split<;>omega
theorem a98(p:IsPart v o)(h:Q o s):wpAny (model prog w) A (Builtin.Slice.slicePartIndex v) Q E s:=by
 cases p with
 |none=>exact slicePart_none h
 |int i t=>exact slicePart_int h
theorem a3l{sl:Addr}{vl vu:Value}{lo hi:Option Int}{n:Nat}{Q:Int×Int×Nat->Shared->Prop}(hs:s.heap.IsSliceOf sl vl vu .none)(pl:IsPart vl lo)(pu:IsPart vu hi)
  (h:Q (((sIx n 0 lo:Nat):Int),1,sIx n n hi-sIx n 0 lo) s):wpAny (model prog w) A (Builtin.Slice.sliceApplied (.ref sl) (pure (n:Int))) Q E s:=by
 obtain⟨os,hos,hcs,hds⟩:=id hs;unfold Builtin.Slice.sliceApplied Builtin.Slice.sliceFields;refine aH (aH (dC hos hds (x:=vl) rfl (aH (dC hos hds (x:=vu) rfl (aH (dC hos hds (x:=.none) rfl (br ?_)))))));refine aH (slicePart_none ?_);show wpAny _ _ (if ((1:Int) == 0)=true then _ else _) _ _ s
 rw[bE (by decide)]
 refine aH (a98 pl (aH (a98 pu (aH (br ?_)))));show wpAny _ _ (match Builtin.Slice.sliceAdjust lo hi 1 (n:Int) with|(lo,hi)=>pure (lo,(1:Int),Builtin.Slice.slicePlaces lo hi 1)) _ _ s
 rw[afq lo hi n];show wpAny _ _ (pure (((sIx n 0 lo:Nat):Int),(1:Int),Builtin.Slice.slicePlaces ((sIx n 0 lo:Nat):Int) ((sIx n n hi:Nat):Int) 1)) _ _ s;rw[afr];exact br h
theorem al1(xs:Array Value)(i k:Nat):((List.range k).filterMap λ(m:Nat)=>xs[((i:Int)+(m:Int)*1).toNat]?).toArray=((xs.toList.drop i).take k).toArray:=by
 have e:(λ(m:Nat)=>xs[((i:Int)+(m:Int)*1).toNat]?)=λm=>xs[i+m]?:=by
  funext m
  have:((i:Int)+(m:Int)*1).toNat=i+m:=by omega
  rw[this]
 rw[e];have:=pick_run xs i k;rw[List.filterMap_map]at this;have e2:((λx=>xs[x]?) ∘ λx=>i+x)=λm=>xs[i+m]?:=rfl;rw[e2]at this;rw[this]
theorem a71{t sl:Addr}{aC:Array Value}{vl vu:Value}{lo hi:Option Int}{Q:Value->Shared->Prop}(ht:IsTup s.heap t aC)(hs:s.heap.IsSliceOf sl vl vu .none)(pl:IsPart vl lo)(pu:IsPart vu hi)
  (hw:¬ (sIx aC.size 0 lo=0/\sIx aC.size aC.size hi=aC.size))
  (h:Q (.ref s.heap.objs.size) {s with heap:=s.heap.push {cls:=.type "tuple",data:=.seq ((aC.toList.drop (sIx aC.size 0 lo)).take (sIx aC.size aC.size hi-sIx aC.size 0 lo)).toArray} })
  (hsz:aC.size<=sizeLine):wpAny (model prog w) A (getItem (.ref t) (.ref sl)) Q E s:=by
 have htake:sizeOk (.seq ((aC.toList.drop (sIx aC.size 0 lo)).take (sIx aC.size aC.size hi-sIx aC.size 0 lo)).toArray):=by
  show((aC.toList.drop (sIx aC.size 0 lo)).take (sIx aC.size aC.size hi-sIx aC.size 0 lo)).toArray.size<=sizeLine;rw[aK,bN,bQ,dN];omega
 have hj:sIx aC.size aC.size hi<=aC.size:=ah7 _ _ (aJ _) hi;obtain⟨os,hos,hcs,hds⟩:=id hs;have hTs:s.TypeIs (.ref sl) "slice":=⟨os,hos,hcs⟩;unfold getItem
 try with_reducible refine fA ?_
 first|refine aH (br ?_)|skip
 refine aH (wpAny_sequenceKey ht.typeIs (by decide) ?_)
 refine aH (cH (name:=Str.ofString "__getitem__") ht.typeIs cf
  (dR cf ht.typeIs entry_tuple_getitem ?_ (args_tuple_getitem _ _)))
 show wpAny _ _ (Builtin.Tuple.tupleItemsOf (.ref t)>>=_) _ _ s;refine aH (tupleItemsOf_ ht ?_);refine aH (wpAny_typeOf hTs ?_);rw[aR (by decide)]
 refine aH (a3l hs pl pu ?_);have hno:¬ ((((sIx aC.size 0 lo:Nat):Int) == 0 && (1:Int) == 1 && (sIx aC.size aC.size hi-sIx aC.size 0 lo) == aC.size)=true):=by
  intro q
  rw[cE,cE]at q;have q1:((sIx aC.size 0 lo:Nat):Int)=0:=eq_of_beq q.1.1;have q2:sIx aC.size aC.size hi-sIx aC.size 0 lo=aC.size:=eq_of_beq q.2;exact hw ⟨by omega,by omega⟩
 show wpAny _ _ (if (((sIx aC.size 0 lo:Nat):Int) == 0 && (1:Int) == 1 && (sIx aC.size aC.size hi-sIx aC.size 0 lo) == aC.size)=true then _ else _) _ _ s
 rw[bE hno,al1]
 first
  |exact aH (m:=Builtin.Tuple.tupleExact _) (cV (br ⟨_,rfl,br h⟩) htake)
  |exact aH (m:=Builtin.Tuple.tupleExact _) (cV (aH (br (br ⟨_,rfl,br h⟩))) htake)
  |exact aH (aH (m:=Builtin.Tuple.tupleExact _) (cV (br (br ⟨_,rfl,br h⟩)) htake))
  |exact aH (aH (m:=Builtin.Tuple.tupleExact _) (cV (br ⟨_,rfl,br h⟩) htake))
end
end HT
namespace L2
open PyProof.Rows
abbrev TO:=St->Hp->(Option Int->Hp->Prop)->Prop
def PO(X:Cx)(e:Option Expr)(t:TO):Prop :=
 ∀(aA:List (Addr×Obj)) (s:Shared) (σ:St) (H:Hp) (Q:Option Int->Hp->Prop),Inv X aA σ H s->t σ H Q->
  wpAny (model X.prog X.w) X.A (evalPart e X.env) (λu s'=>∃o H',Inv X aA σ H' s'/\IsPart u o/\Q o H') X.xe s
def ap3:TO:=λ_ H Q=>Q none H
def aym(t:TE):TO:=λσ H Q=>t σ H λx H1=>∃i,x=.int i/\Q (some i) H1
theorem intsAre_of{ns:List Int}:∀{us:List Value},Vals (ns.map V.int) us->IntsAre us ns:=by
 induction ns with
 |nil=>intro us r;rw[dM]at r;cases r;exact .nil
 |cons n ns ih =>
  intro us r
  rw[ba]at r
  cases r with
  |cons r1 r2 =>
   obtain⟨t,e⟩:=r1;subst e;exact .cons n t (ih r2)
section
variable{X:Cx}{e:Expr}{te:TE}{lo hi:Option Expr}{tl th:TO}{pos p2:Pos}
theorem ap4:PO X none ap3:=by
 intro aA s σ H Q I h
 rw[evalPart_none];exact br ⟨none,H,I,.none,h⟩
theorem ap5(h:PE X e te):PO X (some e) (aym te):=by
 intro aA s σ H Q I hw
 rw[evalPart_some];refine thn (h aA s σ H _ I hw) ?_
 rintro u s1 ⟨x,H1,I1,r1,q1⟩
 obtain⟨i,rfl,q⟩:=q1;obtain⟨t,rfl⟩:=r1;exact⟨some i,H1,I1,.int i t,q⟩
def SlR(X:Cx)(r:V->Option Int->Option Int->Hp->VK->Prop):Prop :=
 ∀(aA:List (Addr×Obj)) (s:Shared) (σ:St) (H:Hp) (x:V) (v vl vu:Value) (lo hi:Option Int) (sl:Addr) (Q:VK),Inv X aA σ H s->RelV x v->s.heap.IsSliceOf sl vl vu .none->IsPart vl lo->IsPart vu hi->r x lo hi H Q->
  ∃T id,typeLookup (.type T) "__getitem__" = pure (some (.builtin id))/\s.TypeIs v T/\wpAny (model X.prog X.w) X.A (getItem v (.ref sl)) (EP X aA σ Q) X.xe s
theorem SlR.or(h:SlR X r)(h':SlR X r'):SlR X (λx lo hi H Q=>r x lo hi H Q\/r' x lo hi H Q):=by
 intro aA s σ H x v vl vu lo hi sl Q I rx hs pl pu q
 rcases q with q|q
 ·exact h aA s σ H x v vl vu lo hi sl Q I rx hs pl pu q
 ·exact h' aA s σ H x v vl vu lo hi sl Q I rx hs pl pu q
def tSl(r:V->Option Int->Option Int->Hp->VK->Prop)(te:TE)(tl th:TO):TE:=λσ H Q=>te σ H λx H1=>tl σ H1 λl H2=>th σ H2 λu H3=>r x l u H3 Q
theorem al3(hr:SlR X r)(he:PE X e te)(hl:PO X lo tl)(hu:PO X hi th):PE X (.Subscript e (.Slice lo hi none p2) pos) (tSl r te tl th):=by
 intro aA s σ H Q I h
 refine Subscript_ (thn (he aA s σ H _ I h) λv s1 ⟨x,H1,I1,r1,q1⟩=>?_);refine wpAny_Slice (thn (hl aA s1 σ H1 _ I1 q1) λvl s2 ⟨l,H2,I2,pl,q2⟩=>thn (hu aA s2 σ H2 _ I2 q2) λvu s3 ⟨u,H3,I3,pu,q3⟩=>?_);rw[evalPart_none];refine br ?_;have I4:Inv X aA σ H3 {s3 with heap:=s3.heap.push {cls:=.type "slice",data:=.fields #[vl,vu,.none]} }:=I3.kept (t':=s3.toks) λb ob q=>ar _ q
 obtain⟨T,id,hT,ht,hg⟩:=hr aA {s3 with heap:=s3.heap.push {cls:=.type "slice",data:=.fields #[vl,vu,.none]} } σ H3 x v vl vu l u s3.heap.objs.size Q I4 r1 (Heap.IsSliceOf.new ..) pl pu q3
 show wpAny (model X.prog X.w) X.A (subscriptTail e (.Slice lo hi none p2) v (.ref s3.heap.objs.size)) (EP X aA σ Q) X.xe {s3 with heap:=s3.heap.push {cls:=.type "slice",data:=.fields #[vl,vu,.none]} }
 exact tail_any (ops:=[.ref s3.heap.objs.size,v]) ht hT hg (by with_unfolding_all rfl)
def an8(xs:List V)(lo hi:Option Int):List V:=(xs.drop (HT.sIx xs.length 0 lo)).take (HT.sIx xs.length xs.length hi-HT.sIx xs.length 0 lo)
theorem a85(xs:List V)(lo hi:Option Int):(an8 xs lo hi).length<=xs.length:=by
 unfold an8;rw[bN,bQ];omega
def ayn(K:Fg):V->Option Int->Option Int->Hp->VK->Prop:=λx lo hi H Q=>∃a xs,x=.ref a/\SqT K H a xs /\
 ¬ (HT.sIx xs.length 0 lo=0/\HT.sIx xs.length xs.length hi=xs.length)/\∀p,H p=none->Q (.ref p) (upd H p (.tup (an8 xs lo hi)))
theorem atl:SlR X (ayn X.K):=by
 intro aA s σ H x v vl vu lo hi sl Q I rx hs pl pu h
 obtain⟨a,xs,rfl,hx,hw,q⟩:=h;cases rx
 obtain⟨its,r,ht,hz⟩:=I.tuple hx;have aG:its.toArray.size=xs.length:=by rw[aK];exact r.length.symm
 refine⟨"tuple",_,cf.lookup,ht.typeIs,?_⟩;refine HT.a71 ht hs pl pu (by rw[aG];exact hw) ?_ (by rw[aG];exact hz)
 rw[aG];refine⟨.ref s.heap.objs.size,_,I.laid (t':=s.toks) (o:=.tup (an8 xs lo hi)) (λb ob q=>ar _ q) (aJ _) ?_,rfl,q _ (I.hok.fresh (aJ _))⟩;exact⟨cq (a85 xs lo hi) hz,_,(r.drop (HT.sIx xs.length 0 lo)).take (HT.sIx xs.length xs.length hi-HT.sIx xs.length 0 lo),IsTup.new _ _⟩
def atm(K:Fg):R2:=λx y H Q=>∃a b xs ys,x=.ref a/\y=.ref b/\SqT K H a xs/\SqT K H b ys/\xs≠[]/\xs.length+ys.length<=sizeLine /\
 (ys=[]->Q (.ref a) H)/\(ys≠[]->∀p,H p=none->Q (.ref p) (upd H p (.tup (xs++ys))))
theorem Vals.nil_iff(r:Vals xs us):us=[]↔xs=[]:=by
 cases r with
 |nil=>simp
 |cons _ _=>simp
theorem ap6:OpR X (binaryOp .Add) (atm X.K):=by
 intro aA s σ H x y v u Q I rx ry h
 obtain⟨a,b,xs,ys,rfl,rfl,ha,hb,hx,hz,q1,q2⟩:=h;cases rx
 cases ry
 obtain⟨its,r1,p1,_⟩:=I.tuple ha;obtain⟨its2,r2,p2,_⟩:=I.tuple hb;refine HT.ap2 p1 p2 (λz=>hx (r1.nil_iff.mp z)) (λz=>⟨.ref a,H,I,rfl,q1 (r2.nil_iff.mp z)⟩) (λz=>?_) (by rw[<-r1.length,<-r2.length];exact hz)
 refine⟨.ref s.heap.objs.size,_,I.laid (t':=s.toks) (o:=.tup (xs++ys)) (λb ob q=>ar _ q) (aJ _) ?_,rfl,q2 (λw=>z (r2.nil_iff.mpr w)) _ (I.hok.fresh (aJ _))⟩;exact⟨by rw[ai];exact hz,_,r1.append r2,IsTup.new _ _⟩
end
def ixN(n:Nat)(i:Int):Option Nat:=if 0<=i then (if i<n then some i.toNat else none) else if -(n:Int)<=i then some (i+n).toNat else none
def atI{α:Type}(xs:List α)(i:Int):Option α:=(ixN xs.length i).bind λj=>xs[j]?
theorem ah9(h:ixN n i=some j):seqIndex? i n=some j/\j<n /\ -(n:Int)<=i/\i<n:=by
 unfold ixN at h
 by_cases h0:0<=i
 ·rw[aR h0]at h
  by_cases h1:i<n
  ·rw[aR h1]at h;have e:i.toNat=j:=bO h;exact⟨by rw[gP h0 h1,e],by omega,by omega,h1⟩
  ·rw[bE h1]at h;cases h
 ·rw[bE h0]at h
  by_cases h1 : -(n:Int)<=i
  ·rw[aR h1]at h;have e:(i+n).toNat=j:=bO h;exact⟨by rw[gH (by omega) h1,e],by omega,h1,by omega⟩
  ·rw[bE h1]at h;cases h
theorem a9u{α:Type}{xs:List α}{i:Int}{v:α}(h:atI xs i=some v):∃j,seqIndex? i xs.length=some j/\xs[j]? = some v/\j<xs.length /\ -(xs.length:Int)<=i/\i<xs.length:=by
 unfold atI at h
 cases e:ixN xs.length i with
 |none=>rw[e]at h;cases h
 |some j =>
  rw[e]at h;obtain⟨h1,h2,h3,h4⟩:=ah9 e;exact⟨j,h1,h,h2,h3,h4⟩
theorem zx{α:Type}{xs:List α}{j:Nat}{v:α}(h:xs[j]? = some v):atI xs (j:Int)=some v:=by
 have hj:j<xs.length:=(ag.mp h).1;have e:ixN xs.length (j:Int)=some j:=by
  unfold ixN;rw[aR (by omega),aR (by omega)];simp
 unfold atI;rw[e];exact h
def a9v(b:Expr):Prop:=∀o i,subscripted b false o i=operate [o,i] (getItem o i)
def IxR(X:Cx)(r:R2):Prop :=
 ∀(value slice:Expr) (aA:List (Addr×Obj)) (s:Shared) (σ:St) (H:Hp) (x y:V) (v u:Value) (Q:VK),Inv X aA σ H s->RelV x v->RelV y u->r x y H Q->
  subscripted slice false v u=operate [v,u] (getItem v u)->wpAny (model X.prog X.w) X.A (subscriptTail value slice v u) (EP X aA σ Q) X.xe s
def MtR(X:Cx)(id:String)(r:V->List V->Hp->VK->Prop):Prop :=
 ∀(aA:List (Addr×Obj)) (s:Shared) (σ:St) (H:Hp) (x:V) (xs:List V) (v:Value) (us:List Value) (Q:VK),Inv X aA σ H s->RelV x v->Vals xs us->r x xs H Q->
  wpAny (model X.prog X.w) X.A (call (.builtin id) (v::us)) (EP X aA σ Q) X.xe s
section
variable{X:Cx}{a b:Expr}{ta tb:TE}{pos:Pos}
theorem IxR.or(h:IxR X r)(h':IxR X r'):IxR X (λx y H Q=>r x y H Q\/r' x y H Q):=by
 intro value slice aA s σ H x y v u Q I rx ry q hs
 rcases q with q|q
 ·exact h value slice aA s σ H x y v u Q I rx ry q hs
 ·exact h' value slice aA s σ H x y v u Q I rx ry q hs
theorem MtR.or{id:String}{r r':V->List V->Hp->VK->Prop}(h:MtR X id r)(h':MtR X id r'):MtR X id (λx xs H Q=>r x xs H Q\/r' x xs H Q):=by
 intro aA s σ H x xs v us Q I rx rs q
 rcases q with q|q
 ·exact h aA s σ H x xs v us Q I rx rs q
 ·exact h' aA s σ H x xs v us Q I rx rs q
theorem ayo(hr:IxR X r)(ha:PE X a ta)(hb:PE X b tb)(hs:a9v b):PE X (.Subscript a b pos) (tOp r ta tb):=by
 intro aA s σ H Q I h
 exact Subscript_ (ayb ha hb I h λv u s2 x y H2 I2 rx ry q=>hr a b aA s2 σ H2 x y v u Q I2 rx ry q (hs _ _))
def axj(K:Fg):R2:=λx y H Q=>∃p xs i v,x=.ref p/\y=.int i/\SqL K H p xs/\atI xs i=some v/\Q v H
def azy(K:Fg):R2:=λx y H Q=>∃p xs i v,x=.ref p/\y=.int i/\SqT K H p xs/\atI xs i=some v/\Q v H
def azz:R2:=λx y H Q=>∃z i c,x=.str z/\y=.int i/\z.length<=sizeLine/\atI z.cps.toList i=some c/\Q (.str ⟨#[c]⟩) H
theorem ap7:IxR X (axj X.K):=by
 intro value slice aA s σ H x y v u Q I rx ry h hs
 obtain⟨p,xs,i,z,rfl,rfl,hq,he,q⟩:=h;cases rx
 obtain⟨t,rfl⟩:=ry;obtain⟨its,r,pl,hz⟩:=I.list hq;obtain⟨j,h1,h2,h3,h4,h5⟩:=a9u he;obtain⟨w,ew,rw'⟩:=r.get h2;have hl:=r.length;have hn:=a7e;have fin:EP X aA σ Q w s:=⟨z,H,I,rw',q⟩
 by_cases h0:0<=i
 ·have hj:i.toNat=j:=by
   rw[gP h0 h5]at h1;exact bO h1
  exact item_listR pl.isList h0 (by omega) (by rw[hj];simpa using ew) fin hs
 ·have hj:(i+(its.toArray.size:Int)).toNat=j:=by
   rw[gH (by omega) h4]at h1
   rw[aK,<-hl];exact bO h1
  exact subscriptTail_builtinR (x:=w) pl.isList.typeIs slot_list_getitem.lookup
   (wpAny_getItem_list_neg (Q:=λr s'=>r=w/\EP X aA σ Q r s') pl.isList (by omega) (by rw[aK]<;>omega) (by omega) (by rw[hj];simpa using ew) ⟨rfl,fin⟩) hs
theorem a86:IxR X (azy X.K):=by
 intro value slice aA s σ H x y v u Q I rx ry h hs
 obtain⟨p,xs,i,z,rfl,rfl,hq,he,q⟩:=h;cases rx
 obtain⟨t,rfl⟩:=ry;obtain⟨its,r,pl,hz⟩:=I.tuple hq;obtain⟨j,h1,h2,h3,h4,h5⟩:=a9u he;obtain⟨w,ew,rw'⟩:=r.get h2;have hl:=r.length;have hn:=a7e;have fin:EP X aA σ Q w s:=⟨z,H,I,rw',q⟩;exact subscriptTail_builtinR (x:=w) pl.typeIs slot_tuple_getitem.lookup
  (getItem_tuple (j:=j) (Q:=λr s'=>r=w/\EP X aA σ Q r s') pl (by omega) (by omega) (by rw[aK,<-hl];exact h1) (by simpa using ew) ⟨rfl,fin⟩) hs
theorem atn:IxR X azz:=by
 intro value slice aA s σ H x y v u Q I rx ry h hs
 obtain⟨z,i,c,rfl,rfl,hz,he,q⟩:=h;obtain⟨t,rfl⟩:=rx;obtain⟨t',rfl⟩:=ry;obtain⟨j,h1,h2,h3,h4,h5⟩:=a9u he;have hl:z.cps.toList.length=z.length:=by simp[Str.length]
 rw[hl]at h1 h4 h5;have hn:=a7e;exact tail_any (gJ s z t) slot_str_getitem.lookup (getItem_str (c:=c) (by
  have e1:decide (i < -(2^63:Int))=false:=bJ (by omega)
  have e2:decide (i≥2^63)=false:=bJ (by omega)
  rw[e1,e2,Bool.or_false]) (by rw[h1];simpa using h2) ⟨.str ⟨#[c]⟩,H,I.tok _,⟨_,rfl⟩,q⟩) hs
def rIx(K:Fg):R2:=λx y H Q=>axj K x y H Q\/azy K x y H Q\/azz x y H Q
theorem ato:IxR X (rIx X.K):=ap7.or (a86.or atn)
theorem afs(its:List Value)(n j:Nat)(u:Value):Obj.mapSeq (·.setIfInBounds j u) {cls:=.type "list",data:=.seq its.toArray n}={cls:=.type "list",data:=.seq (its.set j u).toArray n}:=by
 simp[Obj.mapSeq]
theorem Inv.lst{aA:List (Addr×Obj)}{σ:St}{H:Hp}{s:Shared}{p:Addr}{xs:List V}(I:Inv X aA σ H s)(h:H p=some (.lst xs)) :
  ∃(its:List Value) (n:Nat),Vals xs its/\s.heap.get? p=some {cls:=.type "list",data:=.seq its.toArray n}/\xs.length<=sizeLine:=by
 obtain⟨z,its,n,r,e⟩:=I.hok p _ h;exact⟨its,n,r,e,z⟩
theorem Inv.lstUpd{its its':List Value}(I:Inv X aA σ H s)(h:H p=some (.lst xs))
  (ho:s.heap.get? p=some {cls:=.type "list",data:=.seq its.toArray n}) (hf:f {cls:=.type "list",data:=.seq its.toArray n}={cls:=.type "list",data:=.seq its'.toArray n' }) (r:Vals ys its') (hz:ys.length<=sizeLine) (t:Nat) :
  Inv X aA σ (upd H p (.lst ys)) {s with heap:=s.heap.update p f,toks:=t}:=by
 have e:(s.heap.update p f).get? p=some {cls:=.type "list",data:=.seq its'.toArray n' }:=by
  rw[Heap.get?_update_self f ho (by rw[hf]<;>rfl),hf]
 refine I.write (x:=p) (e:=p) (by rw[h];trivial) (.inl rfl) (λb u hb q=>(eT _ _ (eV hb)).trans q) ⟨_,e⟩ ?_
 exact⟨hz,its',n',r,e⟩
def atp:V->V->V->Hp->(Hp->Prop)->Prop:=λo i v H Q=>∃p xs k j,o=.ref p/\i=.int k/\H p=some (.lst xs)/\ixN xs.length k=some j/\Q (upd H p (.lst (xs.set j v)))
theorem set_list:ay5 X atp:=by
 intro aA s σ H o i v ov iv u Q I ro ri rv h
 obtain⟨p,xs,k,j,rfl,rfl,hp,hj,q⟩:=h;cases ro
 obtain⟨t,rfl⟩:=ri;obtain⟨its,n,r,ho,hz⟩:=I.lst hp;obtain⟨h1,h2,h3,h4⟩:=ah9 hj;have hl:=r.length;have hn:=a7e;have I':Inv X aA σ (upd H p (.lst (xs.set j v))) {s with heap:=s.heap.update p (Obj.mapSeq (·.setIfInBounds j u))} :=
  I.lstUpd hp ho (afs its n j u) (r.set rv j) (by rw[cI];exact hz) s.toks
 by_cases h0:0<=k
 ·have hk:k.toNat=j:=by
   rw[gP h0 h4]at h1;exact bO h1
  exact PySem.W.ki_setAt ho h0 (by omega) (by rw[aK,<-hl];exact h4) (by rw[hk];exact⟨_,I',q⟩)
 ·have hk:(k+(its.toArray.size:Int)).toNat=j:=by
   rw[gH (by omega) h3]at h1
   rw[aK,<-hl];exact bO h1
  exact PySem.W.ki_setBack ho (by omega) (by rw[aK,<-hl];exact h3) (by omega) (by rw[hk];exact⟨_,I',q⟩)
theorem abf(lo hi:Option Int)(n:Nat):(sliceBounds lo hi none n).1=((HT.sIx n 0 lo:Nat):Int)/\(sliceBounds lo hi none n).2.1=((HT.sIx n n hi:Nat):Int)/\(sliceBounds lo hi none n).2.2=1:=by
 refine⟨?_,?_,rfl⟩
 ·cases lo with
  |none=>simp[sliceBounds,HT.sIx]
  |some i =>
   simp only[sliceBounds,HT.sIx,Option.getD_none,show(1:Int) > 0 by decide,dk]
   by_cases h:i<0
   ·simp only[h,dk]<;>omega
   ·simp only[h,fB]<;>omega
 ·cases hi with
  |none=>simp[sliceBounds,HT.sIx]
  |some i =>
   simp only[sliceBounds,HT.sIx,Option.getD_none,show(1:Int) > 0 by decide,dk]
   by_cases h:i<0
   ·simp only[h,dk]<;>omega
   ·simp only[h,fB]<;>omega
theorem a9w(its:List Value)(lo hi:Option Int):slicePick its.toArray lo hi none=((its.drop (HT.sIx its.length 0 lo)).take (HT.sIx its.length its.length hi-HT.sIx its.length 0 lo)).toArray:=by
 obtain⟨h1,h2,h3⟩:=abf lo hi its.toArray.size;unfold slicePick;rw[h1,h2,h3];simp only[sliceRange_one,pick_run,aK]<;>rfl
def ayp(K:Fg):V->Option Int->Option Int->Hp->VK->Prop:=λx lo hi H Q=>∃a xs,x=.ref a/\SqL K H a xs/\∀p,H p=none->Q (.ref p) (upd H p (.lst (an8 xs lo hi)))
theorem ap8:SlR X (ayp X.K):=by
 intro aA s σ H x v vl vu lo hi sl Q I rx hs pl pu h
 obtain⟨a,xs,rfl,hx,q⟩:=h;cases rx
 obtain⟨its,r,ht,hz⟩:=I.list hx;have aG:=r.length;refine⟨"list",_,slot_list_getitem.lookup,ht.isList.typeIs,?_⟩;refine wpAny_getItem_list_slice ht.isList hs pl pu .none (by simp) ?_ (by rw[aK]<;>omega)
 rw[a9w,<-aG];refine⟨.ref s.heap.objs.size,_,I.laid (t':=s.toks) (o:=.lst (an8 xs lo hi)) (λb ob q=>ar _ q) (aJ _) ?_,rfl,q _ (I.hok.fresh (aJ _))⟩;exact⟨cq (a85 xs lo hi) hz,_,0,(r.drop (HT.sIx xs.length 0 lo)).take (HT.sIx xs.length xs.length hi-HT.sIx xs.length 0 lo),bb _ rfl⟩
def a5g:V->Bool
 |.non=>true
 |.bl _=>true
 |.int _=>true
 |.str _=>true
 |_=>false
def eqV:V->V->Bool
 |.non,.non=>true
 |.bl a,.bl b=>a == b
 |.bl a,.int b=>(if a then 1 else 0) == b
 |.int a,.bl b=>a == (if b then 1 else 0)
 |.int a,.int b=>a == b
 |.str a,.str b=>a == b
 |_,_=>false
theorem aha(ry:RelV y u)(rx:RelV x v)(fy:a5g y=true)(fx:a5g x=true):SeqAt.EqAt A s u v (eqV y x):=by
 cases y with
 |non =>
  cases ry
  cases x with
  |non=>cases rx;exact SeqAt.EqAt.same _
  |bl b=>cases rx;exact SeqAt.EqAt.none_bool b
  |int b=>obtain⟨t,rfl⟩:=rx;exact SeqAt.EqAt.none_int b t
  |str b=>obtain⟨t,rfl⟩:=rx;exact SeqAt.EqAt.none_str b t
  |_=>exact absurd (show false=true from fx) bF
 |bl a =>
  cases ry
  cases x with
  |non=>cases rx;exact SeqAt.EqAt.bool_none a
  |bl b=>cases rx;exact SeqAt.EqAt.bool_bool a b
  |int b=>obtain⟨t,rfl⟩:=rx;exact SeqAt.EqAt.bool_int a b t
  |str b=>obtain⟨t,rfl⟩:=rx;exact SeqAt.EqAt.bool_str a b t
  |_=>exact absurd (show false=true from fx) bF
 |int a =>
  obtain⟨t',rfl⟩:=ry
  cases x with
  |non=>cases rx;exact SeqAt.EqAt.int_none a t'
  |bl b=>cases rx;exact SeqAt.EqAt.int_bool a t' b
  |int b=>obtain⟨t,rfl⟩:=rx;exact SeqAt.EqAt.int_int a t' b t
  |str b=>obtain⟨t,rfl⟩:=rx;exact SeqAt.EqAt.int_str a t' b t
  |_=>exact absurd (show false=true from fx) bF
 |str a =>
  obtain⟨t',rfl⟩:=ry
  cases x with
  |non=>cases rx;exact SeqAt.EqAt.str_none a t'
  |bl b=>cases rx;exact SeqAt.EqAt.str_bool a t' b
  |int b=>obtain⟨t,rfl⟩:=rx;exact SeqAt.EqAt.str_int a t' b t
  |str b=>obtain⟨t,rfl⟩:=rx;exact SeqAt.EqAt.str_str a t' b t
  |_=>exact absurd (show false=true from fx) bF
 |_=>exact absurd (show false=true from fy) bF
def eqU(x:V)(u:Value):Bool:=match u with
 |.none=>eqV .non x
 |.bool b=>eqV (.bl b) x
 |.int i _=>eqV (.int i) x
 |.str z _=>eqV (.str z) x
 |_=>false
theorem an9(r:RelV y u)(f:a5g y=true):eqU x u=eqV y x:=by
 cases y with
 |non=>cases r;rfl
 |bl b=>cases r;rfl
 |int i=>obtain⟨t,rfl⟩:=r;rfl
 |str z=>obtain⟨t,rfl⟩:=r;rfl
 |_=>exact absurd (show false=true from f) bF
theorem a87:∀{xs:List V} {us:List Value},Vals xs us->xs.all a5g=true->us.any (eqU x)=xs.any λy=>eqV y x
 |_,_,.nil,_=>rfl
 |y::xs,u::us,.cons r t,f=>by
  rw[fD,cE]at f;rw[e8,e8,an9 r f.1,a87 t f.2]
theorem a5s(rx:RelV x v)(fx:a5g x=true):∀{xs:List V} {us:List Value},Vals xs us->xs.all a5g=true->∀u∈us,SeqAt.EqAt A s u v (eqU x u)
 |_,_,.nil,_=>λu hu=>by cases hu
 |y::xs,u::us,.cons r t,f=>λu' hu=>by
  rw[fD,cE]at f
  rcases aS.mp hu with rfl|hu
  ·rw[an9 r f.1];exact aha r rx f.1 fx
  ·exact a5s rx fx t f.2 u' hu
def inV(x:V)(xs:List V):Bool:=xs.any λy=>eqV y x
def rIn(K:Fg)(neg:Bool):R2:=λx y H Q=>∃p xs,y=.ref p/\(SqL K H p xs\/SqT K H p xs)/\a5g x=true/\xs.all a5g=true/\Q (.bl (if neg then !inV x xs else inV x xs)) H
theorem ahb:OpR X (compareOp .In) (rIn X.K false):=by
 intro aA s σ H x y v u Q I rx ry h
 obtain⟨p,xs,rfl,hq,fx,fs,q⟩:=h;cases ry
 rcases hq with hq|hq
 ·obtain⟨its,r,pl,hz⟩:=I.list hq;refine SeqAt.in_listAt (eqU x) pl.isList (λw hw=>a5s rx fx r fs w (by simpa using hw)) ⟨.bl _,H,I,rfl,?_⟩
  rw[show its.toArray.any (eqU x)=its.any (eqU x) by simp,a87 r fs]
  exact q
 ·obtain⟨its,r,pl,hz⟩:=I.tuple hq;refine SeqAt.in_tupleAt (eqU x) pl (λw hw=>a5s rx fx r fs w (by simpa using hw)) ⟨.bl _,H,I,rfl,?_⟩
  rw[show its.toArray.any (eqU x)=its.any (eqU x) by simp,a87 r fs]
  exact q
theorem abg:OpR X (compareOp .NotIn) (rIn X.K true):=by
 intro aA s σ H x y v u Q I rx ry h
 obtain⟨p,xs,rfl,hq,fx,fs,q⟩:=h;cases ry
 rcases hq with hq|hq
 ·obtain⟨its,r,pl,hz⟩:=I.list hq;refine SeqAt.notIn_listAt (eqU x) pl.isList (λw hw=>a5s rx fx r fs w (by simpa using hw)) ⟨.bl _,H,I,rfl,?_⟩
  rw[show its.toArray.any (eqU x)=its.any (eqU x) by simp,a87 r fs]
  exact q
 ·obtain⟨its,r,pl,hz⟩:=I.tuple hq;refine SeqAt.notIn_tupleAt (eqU x) pl (λw hw=>a5s rx fx r fs w (by simpa using hw)) ⟨.bl _,H,I,rfl,?_⟩
  rw[show its.toArray.any (eqU x)=its.any (eqU x) by simp,a87 r fs]
  exact q
theorem abh:CallR X (.builtin "len") (λxs H Q=>∃p ys,xs=[.ref p]/\(SqL X.K H p ys\/SqT X.K H p ys)/\Q (.int ys.length) H):=by
 intro aA s σ H xs us Q I r h
 obtain⟨p,ys,rfl,hq,q⟩:=h;obtain⟨u,rfl,rx⟩:=vals1 r;cases rx
 have hn:=a7e
 rcases hq with hq|hq
 ·obtain⟨its,r',pl,hz⟩:=I.list hq;have aG:=r'.length;exact Calls.call_len_list pl.isList (by simp only[aK]<;>omega) ⟨.int ys.length,H,I.tok _,⟨s.toks+1,by rw[aK,aG]⟩,q⟩
 ·obtain⟨its,r',pl,hz⟩:=I.tuple hq;have aG:=r'.length;exact len_tuple pl (by simp only[aK]<;>omega) ⟨.int ys.length,H,I.tok _,⟨s.toks+1,by rw[aK,aG]⟩,q⟩
theorem abi:CallR X (.builtin "len") (λxs H Q=>∃z,xs=[.str z]/\z.length<=sizeLine/\Q (.int z.length) H):=by
 intro aA s σ H xs us Q I r h
 obtain⟨z,rfl,hz,q⟩:=h;obtain⟨u,rfl,t,rfl⟩:=vals1 r;have hn:=a7e;exact len_str (by omega) ⟨.int z.length,H,I.tok _,⟨_,rfl⟩,q⟩
theorem CallR.or(h:CallR X f r)(h':CallR X f r'):CallR X f (λxs H Q=>r xs H Q\/r' xs H Q):=by
 intro aA s σ H xs us Q I rs q
 rcases q with q|q
 ·exact h aA s σ H xs us Q I rs q
 ·exact h' aA s σ H xs us Q I rs q
theorem ym:CallR X (.type "tuple") (λxs H Q=>∃p ys,xs=[.ref p]/\((SqL X.K H p ys/\∀l,H l=none->Q (.ref l) (upd H l (.tup ys)))\/(SqT X.K H p ys/\Q (.ref p) H))):=by
 intro aA s σ H xs us Q I r h
 obtain⟨p,ys,rfl,h⟩:=h;obtain⟨u,rfl,rx⟩:=vals1 r;cases rx
 rcases h with⟨hq,q⟩|⟨hq,q⟩
 ·obtain⟨its,r',pl,hz⟩:=I.list hq;have aG:=r'.length;refine call_tuple_list pl.isList (λh' kp=>?_) (by simp only[aK]<;>omega)
  have I1:Inv X aA σ H {s with heap:=h' }:=I.kept (t':=s.toks) kp
  have I2:Inv X aA σ (upd H h'.objs.size (.tup ys)) {s with heap:=h'.push {cls:=.type "tuple",data:=.seq its.toArray} } :=
   I1.laid (t':=s.toks) (λb o e=>ar _ e) (aJ _) (show ObjOk X.prog X.w _ _ _ (.tup ys) from ⟨hz,its,r',IsTup.new _ _⟩)
  exact⟨.ref h'.objs.size,_,I2,rfl,q _ (I1.hok.fresh (aJ _))⟩
 ·obtain⟨its,r',pl,hz⟩:=I.tuple hq;exact call_tuple_same pl ⟨.ref p,H,I,rfl,q⟩
def tyV(K:Fg)(T:String)(x:V)(H:Hp):Prop:=match x with
 |.str _=>T = "str"
 |.int _=>T = "int"
 | .ref p=>(T = "list"/\∃xs,SqL K H p xs)\/(T = "tuple"/\∃o,K.lookup p=some o/\o.cls=.type "tuple"/\o.dict=none) \/
   (T = "dict"/\((∃kvs,H p=some (.dK kvs))\/∃kvs,H p=some (.dT kvs)))\/(T = "set"/\∃S n,H p=some (.set S n))
 |_=>False
theorem ana(I:Inv X aA σ H s)(r:RelV x v)(ty:tyV X.K T x H) :
  s.TypeIs v T/\∀a,v=.ref a->∃ob,s.heap.get? a=some ob/\ob.dict=none:=by
 cases x with
 |str z =>
  obtain⟨t,rfl⟩:=r
  cases (show T = "str" from ty)
  exact⟨gJ s z t,λ_ e=>nomatch e⟩
 |int i =>
  obtain⟨t,rfl⟩:=r
  cases (show T = "int" from ty)
  exact⟨eI s i t,λ_ e=>nomatch e⟩
 |ref p =>
  cases r
  rcases ty with⟨rfl,xs,hq⟩|⟨rfl,o,hk,hc,hd⟩|⟨rfl,hk⟩|⟨rfl,S,n,hk⟩
  ·obtain⟨its,_,pl,_⟩:=I.list hq;refine⟨pl.isList.typeIs,λa e=>?_⟩;cases e
   obtain⟨o,n,e,c,hd,_⟩:=pl;exact⟨o,e,hd⟩
  ·refine⟨⟨o,I.kIn p o hk,hc⟩,λa e=>?_⟩;cases e
   exact⟨o,I.kIn _ o hk,hd⟩
  ·have z:∃o,s.heap.get? p=some o/\o.ExactDict:=by
    rcases hk with⟨kvs,hk⟩|⟨kvs,hk⟩
    ·obtain⟨_,_,_,_,o,_,_,e,ex,_⟩:=I.hok p _ hk;exact⟨o,e,ex⟩
    ·obtain⟨_,_,_,_,o,_,_,e,ex,_⟩:=I.hok p _ hk;exact⟨o,e,ex⟩
   obtain⟨o,e,ex⟩:=z;refine⟨⟨o,e,ex.1⟩,λa e2=>?_⟩;cases e2
   exact⟨o,e,ex.2.1⟩
  ·obtain⟨o,_,_,_,e,ex,_⟩:=I.hok p _ hk;refine⟨⟨o,e,ex.1⟩,λa e2=>?_⟩;cases e2
   exact⟨o,e,ex.2.1⟩
 |_=>exact False.elim ty
def tBM(K:Fg)(T:String)(r:V->List V->Hp->VK->Prop)(to:TE)(t:TA):TE:=λσ H Q=>to σ H λx H1=>tyV K T x H1/\t σ H1 λxs H2=>r x xs H2 Q
variable{o e:Expr}{es:List Expr}{to:TE}{t:TA}{name:Str}{apos cpos:Pos}{T id:String}{r:V->List V->Hp->VK->Prop}
theorem ayq(pa:PlainAttrs T)(slot:Slot T name id)(hty:typeOf (.builtin id)=pure (.type "method_descriptor"))(hm:MtR X id r)(ho:PE X o to)(ha:PA X (e::es) t)
  (hbase:attributeBase o name X.env (eval o X.env)=eval o X.env:=by rfl)
  (hfew:((backTo cpos (starEach (e::es) X.env)).all (λx => !x.1) && (backToKw cpos (keywordEach [] X.env)).all (λx=>x.1.isSome)
   && decide ((e::es).length+([]:List Keyword).length+(if ([]:List Keyword).isEmpty then 0 else 1)<30))=true:=by rfl)
  (hline:(apos.endLine == cpos.line)=true:=by rfl) (hs:starEach (e::es) X.env=(false,eval e X.env)::starEach es X.env:=by rfl) (hplain:(backTo cpos (starEach es X.env)).any (·.1)=false:=by rfl) :
  PE X (.Call (.Attribute o name apos) (e::es) [] cpos) (tBM X.K T r to t):=by
 intro aA s σ H Q I h
 refine wpAny_Call_method_late hbase hfew hline rfl (thn (ho aA s σ H _ I h) λv s1 ⟨x,H1,I1,r1,ty,q1⟩=>?_);obtain⟨h1,h2⟩:=ana I1 r1 ty;refine⟨T,id,pa,slot,hty,h1,h2,?_⟩;have hA:=ha cpos aA s1 σ H1 _ I1 q1;rw[hs]at hA ⊢;refine Calls.callWith_builtin (by show(false || (backTo cpos (starEach es X.env)).any (·.1))=false;rw[hplain]<;>rfl) (Calls.evalArgs_plain ?_)
 exact thn hA λus s2 ⟨vs,H2,I2,r2,q2⟩=>hm aA s2 σ H2 x vs v us Q I2 r1 r2 q2
end
def MtM(X:Cx)(id:String)(r:V->List V->Hp->VK->Prop):Prop :=
 ∀(aA:List (Addr×Obj)) (s:Shared) (σ:St) (H:Hp) (x:V) (xs:List V) (v:Value) (us:List Value) (Q:VK),Inv X aA σ H s->RelV x v->Vals xs us->r x xs H Q->
  wpAny (model X.prog X.w) X.A (call (.builtin id) (v::us)) (EP X aA σ Q) X.xe s
theorem Vals.one:∀{x:V} {us:List Value},Vals [x] us->∃u,us=[u]/\RelV x u
 |_,_,.cons r .nil=>⟨_,rfl,r⟩
theorem Vals.rep(h:Vals xs us):∀k:Nat,Vals (List.replicate k xs).flatten (List.replicate k us).flatten
 |0=>.nil
 |k+1=>by
  rw[cA,cA,cJ,cJ];exact Vals.append h (Vals.rep h k)
theorem foldl_rep(its:List Value):∀(k:Nat) (acc:List Value),
  List.foldl (λx1 x2=>x1++x2) acc.toArray (List.replicate k its.toArray)=(acc++(List.replicate k its).flatten).toArray
 |0,acc=>by simp
 |k+1,acc=>by
  have e:acc.toArray++its.toArray=(acc++its).toArray:=by simp
  have e2:(acc++its)++(List.replicate k its).flatten=acc++(List.replicate (k+1) its).flatten:=by
   rw[cA,cJ,cB]
  rw[<-e2,<-foldl_rep its k (acc++its),<-e,cA,List.foldl_cons]
section
variable{X:Cx}{aA:List (Addr×Obj)}{σ:St}{H:Hp}{s:Shared}{l b:Addr}{xs ys zs:List V}
theorem Inv.lset{its its':List Value}(I:Inv X aA σ H s)(hH:H l=some (.lst xs))
  (e:s.heap.get? l=some {cls:=.type "list",data:=.seq its.toArray n}) (hf:f its.toArray=its'.toArray) (hv:Vals ys its') (hz:ys.length<=sizeLine) :
  Inv X aA σ (upd H l (.lst ys)) {s with heap:=s.heap.update l (Obj.mapSeq f),toks:=t' }:=by
 have q:=PySem.IsL.update e f;rw[hf]at q;refine I.write (x:=l) (e:=l) (by rw[hH];exact trivial) (.inl rfl) (λb' u hb hu=>(eT s.heap (Obj.mapSeq f) (eV hb)).trans hu) ⟨_,q⟩ ?_
 exact⟨hz,its',_,hv,q⟩
theorem Inv.lnew(I:Inv X aA σ H s)(hv:Vals ys its)(hz:ys.length<=sizeLine) :
  Inv X aA σ (upd H s.heap.objs.size (.lst ys)) {s with heap:=s.heap.push {cls:=.type "list",data:=.seq its.toArray},toks:=t' } :=
 I.laid (λ_ _ q=>ar _ q) (aJ _) ⟨hz,its,0,hv,bb _ rfl⟩
theorem Inv.fresh(I:Inv X aA σ H s):H s.heap.objs.size=none:=I.hok.fresh (aJ _)
theorem Inv.lstM(I:Inv X aA σ H s)(hH:H l=some (.lst xs)):xs.length<=sizeLine/\∃(its:List Value) (n:Nat),Vals xs its/\xs.length=its.length/\s.heap.get? l=some {cls:=.type "list",data:=.seq its.toArray n}:=by
 obtain⟨z,its,n,r,e⟩:=I.hok l _ hH;exact⟨z,its,n,r,r.length,e⟩
theorem a7p(h:n<=sizeLine):Builtin.List.listTooLong n=false:=by
 unfold Builtin.List.listTooLong;exact bJ (by omega)
end
section
variable{X:Cx}
def ahc:V->List V->Hp->VK->Prop:=λx vs H Q=>∃l xs y,x=.ref l/\vs=[y]/\H l=some (.lst xs)/\xs.length<sizeLine/\Q .non (upd H l (.lst (xs++[y])))
theorem vm:MtM X "list.append" ahc:=by
 intro aA s σ H x vs v us Q I rx rv h
 obtain⟨l,xs,y,rfl,rfl,hH,hz,q⟩:=h;cases rx
 obtain⟨u,rfl,ru⟩:=rv.one;obtain⟨z,its,n,r,hl,e⟩:=I.lstM hH;refine cP F.slot_list_append ⟨_,e,rfl⟩ F.entry_list_append (F.args_list_append_2 _ _) (PySem.list_append l its.toArray n u (by rw[aK];omega)) ⟨e,?_⟩
 refine⟨.non,_,I.lset (its':=its++[u]) hH e (by simp) (r.append (.cons ru .nil)) ?_,rfl,q⟩
 rw[ai,aI];omega
def atq:R2:=λx y H Q=>∃l k xs,x=.ref l/\y=.int k/\H l=some (.lst xs) /\ -(2^63)<=k/\k<2^63/\xs.length*k.toNat<=sizeLine /\
 ∀p,H p=none->Q (.ref p) (upd H p (.lst (List.replicate k.toNat xs).flatten))
theorem len_rep{α:Type}(xs:List α)(k:Nat):(List.replicate k xs).flatten.length=k*xs.length:=by
 induction k with
 |zero=>simp
 |succ k ih=>rw[cA,cJ,ai,ih,Nat.succ_mul,gI]
theorem atr:OpR X (binaryOp .Mult) atq:=by
 intro aA s σ H x y v u Q I rx ry h
 obtain⟨l,k,xs,rfl,rfl,hH,h1,h2,hz,q⟩:=h;cases rx
 obtain⟨t,rfl⟩:=ry;obtain⟨z,its,n,r,hl,e⟩:=I.lstM hH;have aG:its.toArray.size*k.toNat<=sizeLine:=by rw[aK,<-hl];exact hz
 have hcap:¬ its.toArray.size*k.toNat > (2^63-1) / 8:=by
  have:(sizeLine:Nat)<=(2^63-1) / 8:=by decide
  omega
 have hfit:¬ (!Builtin.List.listFitsIndex k)=true:=by
  rw[fitsIndex_both h1 h2];exact bF
 have hlong:¬ Builtin.List.listTooLong (its.toArray.size*k.toNat)=true:=by
  rw[a7p aG];exact bF
 have hnew:List.foldl (λx1 x2=>x1++x2) #[] (List.replicate (if its.toArray.isEmpty=true then 0 else k.toNat) its.toArray)=(List.replicate k.toNat its).flatten.toArray:=by
  have f0:∀m:Nat,List.foldl (λx1 x2=>x1++x2) #[] (List.replicate m its.toArray)=(List.replicate m its).flatten.toArray:=λm=>by
   have:=foldl_rep its m []
   rw[cN]at this;exact this
  rw[f0]
  cases its with
  |nil=>simp
  |cons a r'=>rw[bE (by simp)]
 refine dD (T := "list") (U := "int") (by decide) ⟨_,e,rfl⟩ (λs'=>eI s' k t) noFill_list_mul fJ cZ repeat_list fk.lookup
  (cP cZ (eI s k t) fq (eX _ _) (int___rmul___int_list k t l its.toArray n)
   ⟨e,rfl,⟨_,e,rfl⟩,cP F.slot_list_mul ⟨_,e,rfl⟩ F.entry_list_mul (F.args_list_mul_2 _ _) (eL l its.toArray n k t hfit hcap hlong) ⟨e,?_⟩⟩)
 rw[hnew];exact⟨.ref _,_,I.lnew (t':=s.toks) (r.rep k.toNat) (by rw[len_rep,fS];exact hz),rfl,q _ I.fresh⟩
end
end L2
namespace Att
open PySem.W PySem.Calls PyProof.Rows
theorem a88:∀(ns:List Int) (vs:List Value),WellAll P h vs (ns.map WData.int)->IntsAre vs ns:=by
 intro ns
 induction ns with
 |nil =>
  intro vs w
  rw[dM]at w;cases w
  exact .nil
 |cons n ns ih =>
  intro vs w
  rw[ba]at w
  cases w with
  |cons a b =>
   cases a
   exact .cons _ _ (ih _ b)
theorem ahd{l:OpenLaw}(hn:l.most=some n)
  (hpre:l.row.toRowW.claim.pre args=true) (hwl:WellAll P h vals args) :
  ∃a vs ns,vals=[Value.ref a]/\args=[WData.list (ns.map WData.int)]/\h.get? a=some {cls:=.type "list",data:=.seq vs.toArray}/\IntsAre vs ns/\ns.length<=n:=by
 have hsh:WShape.hasAll [] args [.list .int]=true:=(pre_splitW hpre).1;have hc:l.pre.holds [] {args:=args}=true:=(pre_splitW hpre).2;obtain⟨d,r,rfl,h1,h2⟩:=hasAllW_cons hsh;obtain rfl:=hasAllW_nil h2;obtain⟨xs,rfl,h3⟩:=hasW_list h1;obtain⟨ns,rfl⟩:=items_int h3;have aG:ns.length<=n:=by
  unfold OpenLaw.pre at hc;have h4:(WTm.not (.lt (.lit (.int (n:Int))) (.len (.arg 0)))).holds [] {args:=[.list (ns.map .int)]}=true:=by
   have h4:=(holds_andW hc).1;rw[hn]at h4;exact h4
  have h5:=condW_of h4 (w_not (w_lt w_lit (w_len_list (w_arg rfl))));rw[ay]at h5;refine eD λq=>?_;have q':(n:Int)<((ns.length:Nat):Int):=by omega
  first
   |(rw[cU q']at h5;exact absurd h5 (by decide))
   |(simp at h5;omega)
 cases hwl with
 |cons w1 w2 =>
  cases w2
  cases w1 with
  |list ho hall=>exact⟨_,_,ns,rfl,rfl,ho,a88 ns _ hall,aG⟩
theorem ahe(l:OpenLaw)(args:List WData):l.row.toRowW.claim.post args (.bool true) args=true :=
 postW_of (r:=l.row.toRowW) (X:=(true == true))
  (show WShape.has [] (.bool true) .bool=true by first|rfl|decide|simp[WShape.has,WShape.arms,WShape.armsAll])
  (show(WTm.eq .res (.lit (.bool true))).value [] {args:=args,res:=some (.bool true),after:=args}=some (.bool (true == true)) from w_eq_bool (w_res rfl) w_lit) rfl
theorem ad4{l:OpenLaw}{d:DefRec}
  (hn:l.most=some n) (hdf:d.params.defaults=[])
  (call:∀(w:World) (s₀ s₁:Shared) (mg mb:Str->Option Value) (fa:Addr) (o:Obj) (pm cd doc:Value) (a:Addr) (vs:List Value) (ns:List Int),
   Ground q loose [] XP w s₀ mg mb s₁.heap->YP w s₁.heap->
   s₁.heap.get? fa=some o->o.data=.func (docDef d.name d.params d.body d.scope pm cd doc)->s₁.heap.CodeRec cd d.name->mg d.name=some (.ref fa)->
   s₁.heap.get? a=some {cls:=.type "list",data:=.seq vs.toArray}->IntsAre vs ns->ns.length<=n->s₁.gens = #[]->
   codeAny (model l.prog w) callerA (.call (.ref fa) ⟨[.ref a],[]⟩) (λr s'=>r=.ok (.ret (.bool true))/\OldK s₁.heap s'.heap/\s'.os=s₁.os/\AllBare s'.gens) s₁) :
  WalkO q loose XP YP l.row.toRowW d [] (λf vs=>PySem.call f vs):=by
 intro w s₀ s₁ mg mb G Y fa o pm cd doc dV kV ho hd hcd hD hmg hg args vals as hpre hlay hrd hwl hlo
 obtain rfl:dV=.none:=Dflts.none hD hdf
 obtain rfl:kV=.none:=Dflts.noKw hD
 obtain⟨a,vs,ns,rfl,rfl,hobj,hints,aG⟩:=ahd hn hpre hwl;refine enter_call (gF (call w s₀ s₁ mg mb fa o pm cd doc a vs ns G Y ho (fd_plain hd) hcd hmg hobj hints aG hg) λr s' hq=>?_);obtain⟨rfl,h2,h3,h4⟩:=hq;exact⟨.inl ⟨.bool true,.bool true,[],rfl,λ_=>rfl,.bool true,ahe l _,λ_=>⟨List.Pairwise.nil,λ_ hm=>(nomatch hm)⟩⟩,h2,h3,h4⟩
end Att
namespace L2
open PyProof.Rows
theorem a89:∀{vs:List Value} {ns:List Int},IntsAre vs ns->Vals (ns.map V.int) vs
 |_,_,.nil=>.nil
 |_,_,.cons n t h=>.cons ⟨t,rfl⟩ (a89 h)
def Only(H:Hp):Prop:=∀b,H b=none\/∃o xs,H b=some (.frz o (.lst xs))
theorem al4{K:Fg}{s₁:Shared}{vs:List Value}
  (KX:K.In s₁.heap) (hns:s₁.heap.Ns mainGlobals mg) (hb:s₁.heap.Ns builtinsNs mb) (hbb:∀x:Str,x ≠ "__name__"->mb x=bootBuiltins x) (hlim:s₁.heap.NoLimit) (hg:s₁.gens = #[])
  (ha:s₁.heap.get? a=some {cls:=.type "list",data:=.seq vs.toArray}) (hi:IntsAre vs ns) (hl:ns.length<=sizeLine) (hr:Room k callerA)
  (F:∀base:Heap,K.In base->base.Ns mainGlobals mg->FnOk P w K mg base CX k fa fd [x] sp) (hbind:∀(s:Shared) (u:Value),BindsTo s fd ⟨[u],[]⟩ [(x,u)])
  (hsp:∀H:Hp,Only H->SqL K H a (ns.map V.int)->sp [.ref a] H (λv _=>v=.bl true) λ_ _ _=>False)
  (hCX:∀H e s',CX [] H s₁ (λ_ _ _=>False) e s'->False) :
  codeAny (model P w) callerA (.call (.ref fa) ⟨[.ref a],[]⟩) (λr s'=>r=.ok (.ret (.bool true))/\OldK s₁.heap s'.heap/\s'.os=s₁.os/\AllBare s'.gens) s₁:=by
 have rv:=a89 hi;have lenV:=hi.length;have core:∀H:Hp,Only H->SqL K H a (ns.map V.int)->HOk P w H s₁.heap->(∀b,H b≠none->b=a)->(H a≠none->K.lookup a=none)->
   codeAny (model P w) callerA (.call (.ref fa) ⟨[.ref a],[]⟩) (λr s'=>r=.ok (.ret (.bool true))/\OldK s₁.heap s'.heap/\s'.os=s₁.os/\AllBare s'.gens) s₁:=by
  intro H hO hS hok hA hK
  have base_of:∀{b:Addr} {o:Obj},s₁.heap.get? b=some o->H b=none->(akj s₁.heap H).get? b=some o:=λe n=>akk e n;have noA:∀{b:Addr} {o:Obj} {es:Array DictEntry} {ep:Nat},s₁.heap.get? b=some o->o.data=.dict es ep->H b=none:=λ{b o es ep} e d=>by
   cases q:H b with
   |none=>rfl
   |some u =>
    have e':b=a:=hA b (by rw[q];simp)
    subst e';rw[ha]at e;cases e
    have d':Data.seq vs.toArray _=Data.dict es ep:=d
    cases d'
  have nsK:∀{b:Addr} {m:Str->Option Value},s₁.heap.Ns b m->(akj s₁.heap H).Ns b m:=λ{b m} ⟨o,es,ep,e,d,r⟩=>⟨o,es,ep,base_of e (noA e d),d,r⟩;have hKb:K.In (akj s₁.heap H):=λb o e=>base_of (KX b o e) (by
   cases q:H b with
   |none=>rfl
   |some u =>
    have e':b=a:=hA b (by rw[q];simp)
    subst e';rw[hK (by rw[q];simp)]at e;cases e)
  have hM:Mod K mg (akj s₁.heap H):=⟨hKb,nsK hns,⟨mb,nsK hb,hbb⟩,let ⟨mc,h1,h2⟩:=hlim; ⟨mc,nsK h1,h2⟩⟩;have e0:Env0 P w K mg (akj s₁.heap H) callerA [] s₁ H:=⟨rfl,hM,λb o e=>aoh e,Nat.le_of_eq (agp _ _),trivial,λb hb=>absurd (show b∈([]:List Addr) from hb) (by simp),hok,.of_eq hg⟩
  refine gF ((F _ hKb (nsK hns)).run callerA [] s₁ H ⟨[.ref a],[]⟩ [.ref a] [.ref a] _ _ hr e0 (hbind s₁ (.ref a)) (.cons rfl .nil) (hsp H hO hS)) λr s' h=>?_
  cases r with
  |error e=>exact(hCX H e s' h).elim
  |ok fl =>
   cases fl with
   |next=>exact False.elim h
   |brk=>exact False.elim h
   |cont=>exact False.elim h
   |ret u =>
    obtain⟨v,H',os,bare,un,hok',r',q⟩:=h;have q':v=.bl true:=q;subst q';obtain rfl:u=Value.bool true:=r';refine⟨rfl,OldK.of_keep λb o e=>?_,os,bare⟩
    cases q:H b with
    |none=>exact un.keep b o e q (by intro z;exact absurd (show b∈([]:List Addr) from z) (by simp)) (by simp)
    |some u =>
     rcases hO b with z|⟨ob,xs,z⟩
     ·rw[q]at z;cases z
     ·have z2:=un.frzs b ob _ z;obtain⟨e1,_⟩:=hok b _ z;obtain⟨e2,_⟩:=hok' b _ z2;rw[e]at e1;cases e1
      exact e2
 cases hk:K.lookup a with
 |some o =>
  have e:=KX a o hk;rw[ha]at e;cases e
  refine core (λ_=>none) (λ_=>.inl rfl) (.inr ⟨_,vs.toArray,_,hk,rfl,rfl,rfl,by rw[aK,lenV];exact hl,by simpa using rv⟩) (λb u z=>by have z':(none:Option HO)=some u:=z;cases z') (λb z=>absurd rfl z) λz=>absurd rfl z
 |none =>
  refine core (λb=>if b=a then some (.frz {cls:=.type "list",data:=.seq vs.toArray} (.lst (ns.map V.int))) else none) (λb=>?_) (.inl (.inr ⟨{cls:=.type "list",data:=.seq vs.toArray},aR rfl⟩)) (λb u z=>?_) (λb z=>?_) λ_=>hk
  ·by_cases hb:b=a
   ·exact .inr ⟨_,_,aR hb⟩
   ·exact .inl (bE hb)
  ·by_cases hb:b=a
   ·have z':=(aR hb).symm.trans z
    cases z'
    subst hb;exact⟨ha,by rw[ay];exact hl,vs,_,rv,ha⟩
   ·have z':=(bE hb).symm.trans z
    cases z'
  ·by_cases hb:b=a
   ·exact hb
   ·exact absurd (bE hb) z
theorem ap9{l:PySem.W.OpenLaw}{n k:Nat}{q:Program}{loose:List Str}{XP:(Str->Option Value)->Heap->Prop}{YP:World->Heap->Prop}{d:DefRec}{K:Params->Fg}{CX:World->CXT}{sp:World->Sp}{x:Str}
  (hn:l.most=some n) (hn2:n<=sizeLine) (hdf:d.params.defaults=[]) (hr:Room k callerA)
  (hY:∀(w:World) (h:Heap),YP w h->(K w.params).In h)
  (F:∀(w:World) (mg:Str->Option Value) (fa:Addr) (h:Heap),(K w.params).In h->h.Ns mainGlobals mg->mg d.name=some (.ref fa)->
   ∃fd:FuncData,(∀(s:Shared) (u:Value),BindsTo s fd ⟨[u],[]⟩ [(x,u)]) /\
    ∀base:Heap,(K w.params).In base->base.Ns mainGlobals mg->FnOk l.prog w (K w.params) mg base (CX w) k fa fd [x] (sp w))
  (hsp:∀(w:World) (H:Hp) (a:Addr) (ns:List Int),ns.length<=n->Only H->SqL (K w.params) H a (ns.map V.int)->sp w [.ref a] H (λv _=>v=.bl true) λ_ _ _=>False)
  (hCX:∀(w:World) (H:Hp) (s:Shared) (e:Value) (s':Shared),CX w [] H s (λ_ _ _=>False) e s'->False) :
  PySem.W.WalkO q loose XP YP l.row.toRowW d [] (λf vs=>PySem.call f vs):=by
 refine Att.ad4 hn hdf λw s₀ s₁ mg mb fa o pm cd doc a vs ns G Y ho hd hcd hmg hobj hints aG hg=>?_;have KX:=hY w _ Y;obtain⟨fd,hb,hF⟩:=F w mg fa _ KX G.T.g hmg;exact al4 KX G.T.g G.T.b G.T.builtins G.T.nolimit hg hobj hints (cq aG hn2) hr hF hb (λH hO hS=>hsp w H a ns aG hO hS) λH e s'=>hCX w H s₁ e s'
def a3w(s:Stmt):Arguments:=match s with
 |.FunctionDef _ a _ _ _ _ _ _ _ _=>a
 |_=>{posonlyargs:=[],args:=[],vararg:=none,kwonlyargs:=[],kw_defaults:=[],kwarg:=none,defaults:=[]}
def km(s:Stmt):List Stmt:=match s with
 |.FunctionDef _ _ b _ _ _ _ _ _ _=>b
 |_=>[]
def bc(s:Stmt):Scope:=match s with
 |.FunctionDef _ _ _ _ _ _ sc _ _ _=>sc
 |_=>{kind:=.function,names:=[],isGenerator:=false,isCoroutine:=false}
abbrev CX0:CXT:=λ_ _ _ _ _ _=>False
abbrev E0:XK:=λ_ _ _=>False
theorem ad5:a7f CX0 X E0:=λ_ _ _ _ _ _ _ h=>h.elim
structure Fun (K:Fg) (x qual:Str) (st:Stmt) (f:Addr) (fd:FuncData):Prop where
 ex:∃(oc:Value) (od:Option Addr) (kV doc pm:Value) (an:Option Addr) (cdv ct:Value) (osl:Array (Option Value)),
  fd=PySem.W.fnOf x qual (a3w st) (km st) (bc st) .none kV doc pm an cdv ct/\K.lookup f=some ⟨oc,od,.func fd,osl⟩/\PySem.W.codeIn K cdv qual=true
 kp:PySem.W.keepIn K (.ref f)=true
section
variable{P:Program}{w:World}{K:Fg}{mg:Str->Option Value}{base:Heap}
theorem Fun.ok{x qual:Str}{st:Stmt}{f:Addr}{fd:FuncData}{N ps:List Str}{k:Nat}{sp:Sp}(F:Fun K x qual st f fd)(S:FnScope N ps (bc st))(len:∀vs H Q E,sp vs H Q E->vs.length=ps.length)
  (hbody:∀(cdv:Value) (A:Around) (outer:List Env) (s:Shared) (H:Hp) (vs:List V) (Q:VK) (E:XK),Room k (A.deeper (envOfC qual (bc st) s.heap.objs.size f cdv))->sp vs H Q E->
   ∃t,PSs (a5r CX0 P w K mg base N qual (bc st) f cdv A outer s H E).nox (km st) t/\t {nx:=λ_ H'=>Q .non H',rt:=Q} (start N vs) H):FnOk P w K mg base CX0 (k+1) f fd ps sp:=by
 obtain⟨oc,od,kV,doc,pm,an,cdv,ct,osl,rfl,lk,hcd⟩:=F.ex;refine ayl lk hcd S len λA outer s H vs Q E hr hsp=>?_;obtain⟨t,h,q⟩:=hbody cdv A outer s H vs Q E hr hsp;exact⟨t,h.nox,q⟩
theorem Fun.binds{x qual:Str}{st:Stmt}{f:Addr}{fd:FuncData}{ps:List Str}(F:Fun K x qual st f fd)
  (h:∀(kV doc pm:Value) (an:Option Addr) (cdv ct:Value) (us:List Value),us.length=ps.length->bindArgs (PySem.W.fnOf x qual (a3w st) (km st) (bc st) .none kV doc pm an cdv ct) ⟨us,[]⟩=pure (ps.zip us)):Binds K fd ps []:=by
 obtain⟨oc,od,kV,doc,pm,an,cdv,ct,osl,rfl,lk,hcd⟩:=F.ex;exact .all (h kV doc pm an cdv ct)
theorem anb{x qual:Str}{st:Stmt}{f:Addr}{oc:Value}{od an:Option Addr}{osl:Array (Option Value)}{kV doc pm cdv ct:Value}(l:K.lookup f=some ⟨oc,od,.func (PySem.W.fnOf x qual (a3w st) (km st) (bc st) .none kV doc pm an cdv ct),osl⟩)
  (c:PySem.W.codeIn K cdv qual=true) (k:PySem.W.keepIn K (.ref f)=true):Fun K x qual st f (PySem.W.fnOf x qual (a3w st) (km st) (bc st) .none kV doc pm an cdv ct):=⟨⟨oc,od,kV,doc,pm,an,cdv,ct,osl,rfl,l,c⟩,k⟩
end
def Same(H H':Hp):Prop:=∀b o,H b=some o->H' b=some o
theorem Same.seq{K:Fg}{H H':Hp}{a:Addr}{xs:List V}(e:Same H H')(h:SqL K H a xs):SqL K H' a xs:=by
 rcases h with(h|⟨o,h⟩)|h
 ·exact .inl (.inl (e _ _ h))
 ·exact .inl (.inr ⟨o,e _ _ h⟩)
 ·exact .inr h
section
variable{κ:Type}[DecidableEq κ]
def ae4(kvs:List (κ×V))(k:κ):Option V:=(kvs.find? λkv=>decide (kv.1=k)).map (·.2)
def putK(kvs:List (κ×V))(k:κ)(v:V):List (κ×V) :=
 if (kvs.any λkv=>decide (kv.1=k))=true then kvs.map (λkv=>if kv.1=k then (kv.1,v) else kv) else kvs++[(k,v)]
theorem a9x{p:κ×V}{r:List (κ×V)}{k:κ}(e:p.1=k):ae4 (p::r) k=some p.2:=by simp[ae4,d0,e]
theorem a9y{p:κ×V}{r:List (κ×V)}{k:κ}(e:¬ p.1=k):ae4 (p::r) k=ae4 r k:=by simp[ae4,d0,e]
theorem ae5(k:κ):∀kvs:List (κ×V),(kvs.any λkv=>decide (kv.1=k))=(ae4 kvs k).isSome
 |[]=>rfl
 |p::r=>by
  rw[e8]
  by_cases e:p.1=k
  ·simp only[a9x e,cU e,Bool.true_or,Option.isSome_some]
  ·rw[a9y e,bJ e,Bool.false_or];exact ae5 k r
theorem a5h(kvs:List (κ×V))(k:κ)(v:V):(putK kvs k v).length<=kvs.length+1:=by
 unfold putK
 split
 ·rw[ay];omega
 ·rw[ai,aW,eM];omega
theorem RelO.isSome_eq{o:Option V}{u:Option Value}(r:RelO o u):o.isSome=u.isSome:=by
 cases o with
 |none=>cases u with
  |none=>rfl
  |some _=>exact(show False from r).elim
 |some _=>cases u with
  |none=>exact(show False from r).elim
  |some _=>rfl
theorem KV.val{kvs:List (κ×V)}{vs:List (κ×Value)}(r:KV kvs vs)(k:κ):RelO (ae4 kvs k) (valueAt vs k):=by
 unfold KV at r
 induction r with
 |nil=>exact True.intro
 |@cons p q ps qs h t ih =>
  obtain⟨h1,h2⟩:=h
  by_cases e:p.1=k
  ·have e':q.1=k:=h1.symm.trans e;have b:valueAt (q::qs) k=some q.2:=by simp[valueAt,d0,e']
   rw[a9x e,b];exact h2
  ·have e':¬ q.1=k:=λz=>e (h1.trans z);have b:valueAt (q::qs) k=valueAt qs k:=by simp[valueAt,d0,e']
   rw[a9y e,b];exact ih
theorem KV.any{kvs:List (κ×V)}{vs:List (κ×Value)}(r:KV kvs vs)(k:κ):(kvs.any λkv=>decide (kv.1=k))=vs.any λkv=>decide (kv.1=k):=by
 unfold KV at r
 induction r with
 |nil=>rfl
 |cons h t ih=>rw[e8,e8,ih,h.1]
theorem KV.repl{kvs:List (κ×V)}{vs:List (κ×Value)}(r:KV kvs vs)(k:κ){y:V}{u:Value}(ry:RelV y u) :
  KV (kvs.map λkv=>if kv.1=k then (kv.1,y) else kv) (vs.map λkv=>if kv.1=k then (kv.1,u) else kv):=by
 unfold KV at r ⊢
 induction r with
 |nil=>exact .nil
 |@cons p q ps qs h t ih =>
  rw[ba,ba];refine .cons ?_ ih;obtain⟨h1,h2⟩:=h
  by_cases e:p.1=k
  ·rw[aR e,aR (h1.symm.trans e)];exact⟨h1,ry⟩
  ·rw[bE e,bE (λz=>e (h1.trans z))];exact⟨h1,h2⟩
theorem KV.put{kvs:List (κ×V)}{vs:List (κ×Value)}(r:KV kvs vs)(k:κ){y:V}{u:Value}(ry:RelV y u):KV (putK kvs k y) (stored vs k u):=by
 unfold putK stored;rw[r.any k]
 by_cases e:(vs.any λkv=>decide (kv.1=k))=true
 ·rw[aR e,aR e];exact r.repl k ry
 ·rw[bE e,bE e];exact Paired.snoc r ⟨rfl,ry⟩
theorem KV.length{kvs:List (κ×V)}{vs:List (κ×Value)}(r:KV kvs vs):kvs.length=vs.length:=gs r
end
theorem al5{P:Program}{w:World}{k:Key}{u:Value}(r:RelV (kV k) u):(vf P w).is k u=true:=by
 cases k with
 |inl i=>obtain⟨t,e⟩:=(show ∃t,u=Value.int i t from r);subst e;exact acz P w i t
 |inr x=>obtain⟨t,e⟩:=(show ∃t,u=Value.str x t from r);subst e;exact ad0 P w x t
theorem abj{P:Program}{w:World}:∀{ks:List Key} {us:List Value},Vals (ks.map kV) us->ItemsAre (vf P w) ks us
 |[],_,r=>by rw[dM]at r;cases r;exact .nil
 |k::ks,_,r=>by
  rw[ba]at r
  cases r with
  |cons h t=>exact .cons (al5 h) (abj t)
abbrev KT(H:Hp):List (List Key×V)->List (List Key×Addr×Value)->Prop:=Paired λp q=>p.1=q.1/\H q.2.1=some (.tup (p.1.map kV))/\RelV p.2 q.2.2
theorem KT.val{H:Hp}{kvs:List (List Key×V)}{xs:List (List Key×Addr×Value)}(r:KT H kvs xs)(k:List Key):RelO (ae4 kvs k) ((atKey xs k).map (·.2)):=by
 induction r with
 |nil=>exact True.intro
 |@cons p q ps qs h t ih =>
  obtain⟨h1,_,h2⟩:=h
  by_cases e:p.1=k
  ·have e':q.1=k:=h1.symm.trans e;have b:atKey (q::qs) k=some q.2:=by simp[atKey,d0,e']
   rw[a9x e,b];exact h2
  ·have e':¬ q.1=k:=λz=>e (h1.trans z);have b:atKey (q::qs) k=atKey qs k:=by simp[atKey,d0,e']
   rw[a9y e,b];exact ih
theorem KT.repl{H:Hp}{kvs:List (List Key×V)}{xs:List (List Key×Addr×Value)}(r:KT H kvs xs)(k:List Key){y:V}{u:Value}(ry:RelV y u) :
  KT H (kvs.map λkv=>if kv.1=k then (kv.1,y) else kv) (xs.map (putAt k u)):=by
 induction r with
 |nil=>exact .nil
 |@cons p q ps qs h t ih =>
  rw[ba,ba];refine .cons ?_ ih;obtain⟨h1,h2,h3⟩:=h;unfold putAt
  by_cases e:p.1=k
  ·rw[aR e,aR (h1.symm.trans e)];exact⟨h1,h2,ry⟩
  ·rw[bE e,bE (λz=>e (h1.trans z))];exact⟨h1,h2,h3⟩
theorem KT.put{H:Hp}{kvs:List (List Key×V)}{xs:List (List Key×Addr×Value)}(r:KT H kvs xs)(k:List Key){b:Addr}{y:V}{u:Value}(hb:H b=some (.tup (k.map kV)))(ry:RelV y u) :
  KT H (putK kvs k y) (storedH xs k b u):=by
 have e:(kvs.any λkv=>decide (kv.1=k))=(atKey xs k).isSome:=by
  rw[ae5,(r.val k).isSome_eq,Option.isSome_map]
 unfold putK storedH;rw[e]
 by_cases q:(atKey xs k).isSome=true
 ·rw[aR q,aR q];exact r.repl k ry
 ·rw[bE q,bE q];exact Paired.snoc r ⟨rfl,hb,ry⟩
theorem KT.keeps{H H':Hp}{kvs:List (List Key×V)}{xs:List (List Key×Addr×Value)}(r:KT H kvs xs)(ht:∀b ys,H b=some (.tup ys)->H' b=some (.tup ys)):KT H' kvs xs :=
 Paired.mapP r λ_ _ z=>⟨z.1,ht _ _ z.2.1,z.2.2⟩
section
variable{P:Program}{w:World}{H:Hp}{h:Heap}{a:Addr}
theorem atu{u:HO}(ok:HOk P w H h)(e:Rd H a u):ObjOk P w H h a u:=e.ok ok
theorem atv{kvs:List (Key×V)}(ok:HOk P w H h)(e:Rd H a (.dK kvs)):kvs.length<=sizeLine/\(a == sysModules)=false/\∃vs,KV kvs vs/\h.DictOf (vf P w) a vs :=
 show ObjOk P w H h a (.dK kvs) from atu ok e
theorem atw{kvs:List (Key×V)}(ok:HOk P w H h)(e:H a=some (.dK kvs)):kvs.length<=sizeLine/\(a == sysModules)=false/\∃vs,KV kvs vs/\h.DictOf (vf P w) a vs:=atv ok (.inl e)
theorem ahf{ks:List Key}(ok:HOk P w H h)(e:H a=some (.tup (ks.map kV))):(tupleKind (vf P w)).is h ks a:=by
 obtain⟨_,its,r,o,h1,h2,n,h3⟩:=(show ObjOk P w H h a (.tup (ks.map kV)) from ok a _ e)
 exact⟨o,its.toArray,n,h1,h2,h3,by simpa using abj r⟩
theorem atx{kvs:List (List Key×V)}(ok:HOk P w H h)(e:Rd H a (.dT kvs)):kvs.length<=sizeLine/\(a == sysModules)=false /\
  ∃xs,KT H kvs xs/\h.DictOfH (tupleKind (vf P w)) a xs:=by
 obtain⟨z,y,xs,r,o,es,ep,h1,h2,h3,h4,h5⟩:=(show ObjOk P w H h a (.dT kvs) from atu ok e)
 refine⟨z,y,xs,r,o,es,ep,h1,h2,h3,h4,λx hx=>?_,h5⟩;have all:∀{l:List (List Key×V)} {m:List (List Key×Addr×Value)},KT H l m->∀x∈m,(tupleKind (vf P w)).is h x.1 x.2.1:=by
  intro l m q
  induction q with
  |nil=>intro x hx;exact nomatch hx
  |@cons p q ps qs hq t ih =>
   intro x hx
   rcases aS.mp hx with e|hx
   ·subst e;exact ahf ok (by rw[<-hq.1];exact hq.2.1)
   ·exact ih x hx
 exact all r x hx
theorem ayr{kvs:List (List Key×V)}(ok:HOk P w H h)(e:H a=some (.dT kvs)):kvs.length<=sizeLine/\(a == sysModules)=false /\
  ∃xs,KT H kvs xs/\h.DictOfH (tupleKind (vf P w)) a xs:=atx ok (.inl e)
end
def axk(H:Hp)(a:Addr)(y:V)(r:Option V):Prop :=
 (∃kvs k,Rd H a (.dK kvs)/\y=kV k/\r=ae4 kvs k)\/∃kvs k b,Rd H a (.dT kvs)/\y=.ref b/\H b=some (.tup (k.map kV))/\r=ae4 kvs k
def ays(H:Hp)(a:Addr)(y v:V)(H':Hp):Prop :=
 (∃kvs k,H a=some (.dK kvs)/\y=kV k/\kvs.length<sizeLine/\H'=upd H a (.dK (putK kvs k v))) \/
 ∃kvs k b,H a=some (.dT kvs)/\y=.ref b/\H b=some (.tup (k.map kV))/\kvs.length<sizeLine/\H'=upd H a (.dT (putK kvs k v))
section
variable{X:Cx}{aA:List (Addr×Obj)}{σ:St}{H:Hp}{s:Shared}{a:Addr}{y v:V}{u r:Value}{o:Option V}{A:Around}{E:Value->Shared->Prop}
theorem Inv.big(I:Inv X aA σ H s):sysModules<s.heap.objs.size:=by
 have h:mainGlobals<s.heap.objs.size:=(I.mod.glob.keeps I.bk).lt;exact Nat.lt_trans (by decide) h
theorem apa{Q:Value->Shared->Prop}(hu:A.units+1<cLine)(I:Inv X aA σ H s)(g:axk H a y o)(ry:RelV y u)(h:∀s',Inv X aA σ H s'->Q (.bool (!o.isSome)) s') :
  wpAny (model X.prog X.w) A (compareOp .NotIn u (.ref a)) Q E s:=by
 rcases g with⟨kvs,k,e,ey,l⟩|⟨kvs,k,b,e,ey,eb,l⟩
 ·subst ey;obtain⟨z,hd,vs,rel,dd⟩:=atv I.hok e;refine wpAny_notIn_of (al5 ry) hd dd.mapOf ?_;rw[<-(rel.val k).isSome_eq,<-l];exact h _ (I.tok _)
 ·subst ey
  cases (show u=Value.ref b from ry)
  obtain⟨z,hd,xs,rel,dd⟩:=atx I.hok e;refine wpAny_notIn_heap (tupleKind_room_in1 hu) (ahf I.hok eb) hd dd ?_;have q:=(rel.val k).isSome_eq;rw[Option.isSome_map]at q;rw[<-q,<-l];exact h _ (I.tok _)
theorem ad6{h':Heap}{t':Nat}{ob:HO}(I:Inv X aA σ H s)(mu:Mut (H a))(hs:Heap.SameBut a s.heap h')(he:∃q,h'.get? a=some q)(new:ObjOk X.prog X.w (upd H a ob) h' a ob) :
  Inv X aA σ (upd H a ob) {s with heap:=h',toks:=t' } :=
 I.write (x:=a) (e:=a) mu (.inl rfl) (λb q hb z=>(hs.2 b hb).trans z) he new
theorem anc{P:Program}{w:World}{H':Hp}{h':Heap}{kvs:List (Key×V)}{vs:List (Key×Value)}(z:kvs.length<=sizeLine)(hd:(a == sysModules)=false)(rel:KV kvs vs)(dd:h'.DictOf (vf P w) a vs) :
  ObjOk P w H' h' a (.dK kvs):=⟨z,hd,vs,rel,dd⟩
theorem ahg{H':Hp}{Q:Unit->Shared->Prop}(hu:A.units+1<cLine)(I:Inv X aA σ H s)(g:ays H a y v H')(ry:RelV y u)(rv:RelV v r)(h:∀s',Inv X aA σ H' s'->Q () s') :
  wpAny (model X.prog X.w) A (setItem (.ref a) u r) Q E s:=by
 rcases g with⟨kvs,k,e,ey,l,eH⟩|⟨kvs,k,b,e,ey,eb,l,eH⟩
 ·subst ey eH;obtain⟨z,hd,vs,rel,dd⟩:=atw I.hok e;have hz:vs.length<=sizeLine:=by rw[<-rel.length];exact z
  have hl:(putK kvs k v).length<=sizeLine:=by have:=a5h kvs k v;omega
  refine wpAny_setItem_pairs (hsz:=hz) (al5 ry) dd λh' dd' hs=>h _ ?_;have he:∃q,h'.get? a=some q:=let ⟨q,_,_,hq,_⟩:=dd'; ⟨q,hq⟩;exact ad6 I (by rw[e];exact True.intro) hs he (anc hl hd (rel.put k rv) dd')
 ·subst ey eH
  cases (show u=Value.ref b from ry)
  obtain⟨z,hd,xs,rel,dd⟩:=ayr I.hok e;have hz:xs.length<=sizeLine:=by rw[<-gs rel];exact z
  have hl:(putK kvs k v).length<=sizeLine:=by have:=a5h kvs k v;omega
  refine wpAny_setItem_heap (hsz:=hz) (tupleKind_room_in1 hu) (ahf I.hok eb) dd λh' dd' hs=>h _ ?_;obtain⟨q,es,ep,hq,h2,h3,h4,_,h5⟩:=dd';refine ad6 I (by rw[e];exact True.intro) hs ⟨q,hq⟩ ⟨hl,hd,_,(rel.put k eb rv).keeps λc ys ec=>?_,q,es,ep,hq,h2,h3,h4,h5⟩
  rw[jr (axx ec e (λz=>nomatch z))];exact ec
end
def ayt(td ty tv:TE):TS:=λD σ H=>tv σ H λv H1=>td σ H1 λx H2=>ty σ H2 λy H3=>∃a H4,x=.ref a/\ays H3 a y v H4/\D.nx σ H4
section
variable{X:Cx}{o i e value:Expr}{pos pos' tpos:Pos}{td ty tv:TE}
theorem apb(hu:X.A.units+1<cLine)(ho:PE X o td)(hi:PE X i ty)(hv:PE X value tv)(hs:swapsWith value (some (.Subscript o i pos')) pos.line X.env=pure false) :
  PS X (.Assign [.Subscript o i pos'] value pos) (ayt td ty tv):=by
 intro aA s σ H D I h
 refine wpAny_Assign_Subscript (thn (hv aA s σ H _ I h) λr s1 ⟨v,H1,I1,rv,q1⟩=>thn (ho aA s1 σ H1 _ I1 q1) λu s2 ⟨x,H2,I2,rx,q2⟩=>thn (hi aA s2 σ H2 _ I2 q2) λiv s3 ⟨y,H3,I3,ry,a,H4,ex,g,q3⟩=>?_) hs;subst ex;obtain rfl:u=Value.ref a:=rx;exact ahg hu I3 g ry rv λs4 I4=>⟨σ,H4,I4,q3⟩
end
theorem al6{P:Program}{w:World}{H:Hp}(h:Heap)(hb:sysModules<h.objs.size):ObjOk P w H (h.push {cls:=.type "dict",data:=.dict #[]}) h.objs.size (.dK []) :=
 ⟨aV _,cp.mpr (eV (bW hb)),[],.nil,Heap.DictOf.new h⟩
def ahh:List (TE×TE)->St->Hp->(List (V×V)->Hp->Prop)->Prop
 |[],_,H,Q=>Q [] H
 |(tk,tv)::r,σ,H,Q=>tk σ H λx H1=>tv σ H1 λy H2=>ahh r σ H2 λps H3=>Q ((x,y)::ps) H3
abbrev VV:List (V×V)->List (Value×Value)->Prop:=Paired λp q=>RelV p.1 q.1/\RelV p.2 q.2
def PPs(X:Cx)(pos:Pos)(keys:List (Option Expr))(values:List Expr)(trs:List (TE×TE)):Prop :=
 ∀(aA:List (Addr×Obj)) (s:Shared) (σ:St) (H:Hp) (Q:List (V×V)->Hp->Prop),Inv X aA σ H s->ahh trs σ H Q->
  wpAny (model X.prog X.w) X.A (evalPairs (pairTrees keys values X.env pos)) (λvs s'=>∃ps H',Inv X aA σ H' s'/\VV ps vs/\Q ps H') X.xe s
theorem apc{X:Cx}{pos:Pos}:PPs X pos [] [] []:=λaA s σ H Q I h=>pairTrees_nil_walk ⟨[],H,I,.nil,h⟩
theorem al7{X:Cx}{pos:Pos}{k v:Expr}{ks:List (Option Expr)}{vs:List Expr}{tk tv:TE}{trs:List (TE×TE)}(hk:PE X k tk)(hv:PE X v tv)(hr:PPs X pos ks vs trs) :
  PPs X pos (some k::ks) (v::vs) ((tk,tv)::trs):=λaA s σ H Q I h =>
 pairTrees_cons_walk (thn (hk aA s σ H _ I h) λu s1 ⟨x,H1,I1,rx,q1⟩=>thn (hv aA s1 σ H1 _ I1 q1) λw2 s2 ⟨y,H2,I2,ry,q2⟩ =>
  thn (hr aA s2 σ H2 _ I2 q2) λws s3 ⟨ps,H3,I3,rel,q3⟩=>⟨(x,y)::ps,H3,I3,.cons ⟨rx,ry⟩ rel,q3⟩)
def abk(kvs more:List (Key×V)):List (Key×V):=more.foldl (λacc kv=>putK acc kv.1 kv.2) kvs
theorem KV.merge:∀{more:List (Key×V)} {rs:List (Key×Value)} {kvs:List (Key×V)} {vs:List (Key×Value)},KV more rs->KV kvs vs->KV (abk kvs more) (merged vs rs):=by
 intro more rs kvs vs r
 unfold KV at r
 induction r generalizing kvs vs with
 |nil=>intro q;exact q
 |@cons p q ps qs h t ih =>
  intro r0
  have e:KV (putK kvs p.1 p.2) (stored vs q.1 q.2):=by
   have:=r0.put p.1 h.2
   rw[<-h.1];exact this
  exact ih e
theorem a5t:∀(more kvs:List (Key×V)),(abk kvs more).length<=kvs.length+more.length
 |[],kvs=>by show kvs.length<=kvs.length+0;omega
 |p::r,kvs=>by
  have h1:=a5t r (putK kvs p.1 p.2);have h2:=a5h kvs p.1 p.2;show(abk (putK kvs p.1 p.2) r).length<=_;rw[aW];omega
theorem a99{P:Program}{w:World}:∀{kvs:List (Key×V)} {ws:List (Value×Value)},VV (kvs.map λkv=>(kV kv.1,kv.2)) ws->∃rs,Carries (vf P w) ws rs/\KV kvs rs
 |[],_,r=>by rw[dM]at r;cases r;exact⟨[],True.intro,.nil⟩
 |p::kvs,_,r=>by
  rw[ba]at r
  cases r with
  |@cons a b as bs h t =>
   obtain⟨rs,c,q⟩:=a99 (P:=P) (w:=w) t;obtain⟨b1,b2⟩:=b;exact⟨(p.1,b2)::rs,⟨al5 h.1,rfl,c⟩,.cons ⟨rfl,h.2⟩ q⟩
def ayu(trs:List (TE×TE)):TE:=λσ H Q=>∀p,H p=none->ahh trs σ (upd H p (.dK [])) λps H2=>H2 p=some (.dK [])/\∃kvs:List (Key×V),ps=kvs.map (λkv=>(kV kv.1,kv.2))/\kvs.length<=15/\Q (.ref p) (upd H2 p (.dK (abk [] kvs)))
theorem apd{X:Cx}{pos:Pos}{keys:List (Option Expr)}{values:List Expr}{trs:List (TE×TE)}(h:PPs X pos keys values trs)(hall:keys.all (·.isSome)=true)(hl:keys.length=values.length)(h0:keys≠[])
  (h15:keys.length<=15):PE X (.Dict keys values pos) (ayu trs):=by
 intro aA s σ H Q I q
 have hn:=I.hok.fresh (aJ s.heap.objs.size);have I1:=I.laid (a:=s.heap.objs.size) (o:=.dK []) (h':=s.heap.push {cls:=.type "dict",data:=.dict #[]}) (t':=s.toks) (λ_ _ q=>ar _ q) (aJ _) (al6 s.heap I.big);refine wpAny_Dict_walk (knd:=vf X.prog X.w) hall hl h0 h15 (thn (h aA _ σ _ _ I1 (q _ hn)) λws s2 ⟨ps,H2,I2,rel,e,kvs,ep,lk,q2⟩=>?_);subst ep;obtain⟨rs,c,rk⟩:=a99 (P:=X.prog) (w:=X.w) rel;obtain⟨z,hd,vs0,r0,dd⟩:=atw I2.hok e;cases r0
 refine⟨rs,c,dd,λh' dd' hs=>⟨.ref s.heap.objs.size,_,?_,rfl,q2⟩⟩;have hz:(abk [] kvs).length<=sizeLine:=by
  have h1:=a5t kvs [];rw[eM]at h1;rw[dW];omega
 have he:∃q,h'.get? s.heap.objs.size=some q:=let ⟨q,_,_,hq,_⟩:=dd'; ⟨q,hq⟩;exact ad6 I2 (by rw[e];exact True.intro) hs he (anc hz hd (rk.merge .nil) dd')
section
variable{X:Cx}
theorem a7q:OpR X (compareOp .Is) (λx y H Q=>∃i j,x=.bl i/\y=.bl j/\Q (.bl (i == j)) H):=by
 intro aA s σ H x y v u Q I rx ry h
 obtain⟨i,j,rfl,rfl,q⟩:=h;cases rx
 cases ry
 exact is_bool (a7c I q rfl)
theorem a5i:OpR X (compareOp .IsNot) (λx y H Q=>∃i j,x=.bl i/\y=.bl j/\Q (.bl (i != j)) H):=by
 intro aA s σ H x y v u Q I rx ry h
 obtain⟨i,j,rfl,rfl,q⟩:=h;cases rx
 cases ry
 exact isnot_bool (a7c I q rfl)
theorem ahi:OpR X (compareOp .LtE) (λx y H Q=>∃i j,x=.str i/\y=.str j/\Q (.bl (!decide (j.cps.toList<i.cps.toList))) H):=by
 intro aA s σ H x y v u Q I rx ry h
 obtain⟨i,j,rfl,rfl,q⟩:=h;obtain⟨t,rfl⟩:=rx;obtain⟨t',rfl⟩:=ry;exact PySem.P.le_str (a7c I q rfl)
def a8y{α:Type}(xs:List α)(lo hi:Option Int):List α:=(xs.drop (HT.sIx xs.length 0 lo)).take (HT.sIx xs.length xs.length hi-HT.sIx xs.length 0 lo)
def ayv:V->Option Int->Option Int->Hp->VK->Prop:=λx lo hi H Q=>∃z,x=.str z/\z.length<=sizeLine/\Q (.str ⟨(a8y z.cps.toList lo hi).toArray⟩) H
theorem aty(lo hi:Option Int)(n:Nat):Builtin.Str.strSliceIndices lo hi 1 n=(List.range (HT.sIx n n hi-HT.sIx n 0 lo)).map λk=>HT.sIx n 0 lo+k:=by
 have e1:Builtin.Str.strSliceIndices lo hi 1 n=sliceRange ((HT.sIx n 0 lo:Nat):Int) ((HT.sIx n n hi:Nat):Int) 1:=by
  unfold Builtin.Str.strSliceIndices;dsimp only
  congr 1
  ·cases lo with
   |none=>simp[HT.sIx]
   |some i=>simp only[HT.sIx,show(1:Int) > 0 by decide,dk];split<;>omega
  ·cases hi with
   |none=>simp[HT.sIx]
   |some i=>simp only[HT.sIx,show(1:Int) > 0 by decide,dk];split<;>omega
 rw[e1];exact sliceRange_one _ _
theorem atz{α:Type}(xs:List α)(a:Nat):∀k,a+k<=xs.length->((List.range k).map λj=>a+j).filterMap (xs[·]?)=(xs.drop a).take k
 |0,_=>by simp
 |k+1,h=>by
  rw[fK,bt,List.filterMap_append,atz xs a k (by omega)]
  have hk:a+k<xs.length:=by omega
  rw[List.take_succ]
  congr 1
  simp[List.getElem?_drop,hk]
theorem au0:SlR X ayv:=by
 intro aA s σ H x v vl vu lo hi sl Q I rx hs pl pu h
 obtain⟨z,rfl,hz,q⟩:=h;obtain⟨t,rfl⟩:=rx;refine⟨"str",_,PyProof.Rows.slot_str_getitem.lookup,gJ s z t,?_⟩;have hl:z.cps.toList.length=z.length:=by simp[Str.length]
 have fin:∀(l u:Option (Int×Tok)),vl=partValue l->vu=partValue u->l.map (·.1)=lo->u.map (·.1)=hi->wpAny (model X.prog X.w) X.A (getItem (.str z t) (.ref sl)) (EP X aA σ Q) X.xe s:=by
  intro l u e1 e2 e3 e4
  subst e1 e2;refine wpAny_getItem_str_slice (l:=l) (u:=u) (st:=none) hs rfl ?_;have hp:slicePicked z l u none=(List.range (HT.sIx z.length z.length hi-HT.sIx z.length 0 lo)).map λk=>HT.sIx z.length 0 lo+k:=by
   unfold slicePicked;rw[e3,e4];exact aty lo hi z.length
  have hb1:HT.sIx z.length z.length hi<=z.length:=HT.ah7 _ _ (aJ _) _;have hb2:HT.sIx z.length 0 lo<=z.length:=HT.ah7 _ _ (aV _) _;unfold sliceMade
  split
  ·rename_i c;simp only[cE,eW]at c;obtain⟨_,c⟩:=c;rw[hp,ay,aZ]at c;have e:(⟨(a8y z.cps.toList lo hi).toArray⟩:Str)=z:=by
    unfold a8y;rw[hl];have z1:HT.sIx z.length 0 lo=0:=by omega
    have z2:HT.sIx z.length z.length hi=z.length:=by omega
    rw[z1,z2,gK,Nat.sub_zero,bR (by omega)]
   rw[e]at q;exact⟨.str z,H,I,⟨_,rfl⟩,q⟩
  ·have e:(⟨(a8y z.cps.toList lo hi).toArray⟩:Str)=⟨((slicePicked z l u none).filterMap (z.cps[·]?)).toArray⟩:=by
    rw[hp];unfold a8y;rw[hl]
    by_cases hc:HT.sIx z.length 0 lo<=HT.sIx z.length z.length hi
    ·rw[<-atz z.cps.toList _ _ (by omega)]
     simp only[Array.getElem?_toList]
    ·rw[show HT.sIx z.length z.length hi-HT.sIx z.length 0 lo=0 by omega]
     simp
   rw[e]at q;refine⟨?_,.str _,H,I.tok _,⟨_,rfl⟩,q⟩;rw[<-e];show(a8y z.cps.toList lo hi).toArray.size<=sizeLine;rw[aK];unfold a8y;rw[bN,bQ,hl];omega
 cases pl with
 |none=>cases pu with
  |none=>exact fin none none rfl rfl rfl rfl
  |int j t'=>exact fin none (some (j,t')) rfl rfl rfl rfl
 |int i t'=>cases pu with
  |none=>exact fin (some (i,t')) none rfl rfl rfl rfl
  |int j t''=>exact fin (some (i,t')) (some (j,t'')) rfl rfl rfl rfl
theorem vo:CallR X (.builtin "isinstance") (λxs H Q=>∃x T t b,xs=[x,.ty T]/\TyOf X.K H x t/\PySem.W.kitOne X.K t (.type T)=some b/\Q (.bl b) H):=by
 intro aA s σ H xs us Q I r h
 obtain⟨x,T,t,b,rfl,ty,e,q⟩:=h;obtain⟨u,w',rfl,rx,rt⟩:=vals2 r;cases rt
 exact ah2 I rx ty e λtk=>⟨.bl b,H,I.tok tk,rfl,q⟩
theorem abl(bs:List Bool):((List.range bs.length).all λi=>(bs[i]?).getD true)=bs.all id:=by
 have e:(List.range bs.length).map (λi=>(bs[i]?).getD true)=bs:=by
  apply List.ext_getElem (by simp)
  intro i h1 h2
  simp[h2]
 have f:((List.range bs.length).map λi=>(bs[i]?).getD true).all id=bs.all id:=by rw[e]
 rw[<-f,List.all_map];rfl
theorem ad7(hc:X.calm=true):CallR X (.builtin "all") (λxs H Q=>∃(p:Addr) (bs:List Bool),xs=[.ref p]/\SqL X.K H p (bs.map V.bl)/\Q (.bl (bs.all id)) H):=by
 intro aA s σ H xs us Q I r h
 obtain⟨p,bs,rfl,hq,q⟩:=h;obtain⟨u,rfl,rx⟩:=vals1 r;cases rx
 obtain⟨its,r',pl,hz⟩:=I.list hq;have hl:=r'.length;rw[ay]at hl;have hlt:p<s.heap.objs.size:=by obtain⟨_,e,_⟩:=pl.isList;exact aX e
 refine call_all_walk (fZ pl.isList ?_);refine⟨s.heap.objs.size,[s.heap.objs.size,p],[s.heap.objs.size],its.toArray.size,_,_,λi=>(bs[i]?).getD true,rfl,Walks.list (A:=X.A.in1) (I.ok.hd hc) _ p (bW hlt) its.toArray,
  ⟨⟨_,bb _ rfl,rfl,rfl⟩,pl.isList.push _⟩,λi v s' Q' E' hP hQ=>?_,λh' tk hk=>?_⟩
 ·have hP':its[i]? = some v:=by simpa using hP
  have hi:i<bs.length:=by
   have:=(ag.mp hP').1
   omega
  obtain⟨u,e,ru⟩:=r'.get (i:=i) (x:=.bl bs[i]) (by simp[hi])
  rw[hP']at e;cases e
  cases ru
  simp only[af hi,cQ]at hQ;exact e7 hQ
 ·have e:((List.range its.toArray.size).all λi=>(bs[i]?).getD true)=bs.all id:=by
   rw[aK,<-hl];exact abl bs
  rw[e];exact⟨.bl _,H,I.kept λb x e=>hk b x (λhm=>by rw[av.mp hm]at e;exact cL _ (aX e)) (ar _ e),rfl,q⟩
def a3m(x:Str):List V:=x.cps.toList.map λc=>V.str ⟨#[c]⟩
theorem aft(h:ItemsOf (SignAt x) acc x.cps.size):Vals (a3m x) acc.toList:=by
 obtain⟨hs,ha⟩:=h;have key:∀(cs:List Nat) (us:List Value),us.length=cs.length->(∀(j:Nat) (v:Value),us[j]? = some v->∃c u,cs[j]? = some c/\v=.str ⟨#[c]⟩ u)->Vals (cs.map λc=>V.str ⟨#[c]⟩) us:=by
  intro cs
  induction cs with
  |nil=>intro us hl _;cases us with|nil=>exact .nil|cons _ _=>simp at hl
  |cons c cs ih =>
   intro us hl hp
   cases us with
   |nil=>simp at hl
   |cons u us =>
    refine .cons ?_ (ih us (by simpa using hl) λj v e=>hp (j+1) v (by simpa using e))
    obtain⟨c',t,e1,e2⟩:=hp 0 u rfl;simp at e1;subst e1;exact⟨t,e2⟩
 refine key _ _ (by simp[hs]) λj v e=>?_
 obtain⟨c,u,e1,e2⟩:=ha j v (by simpa using e)
 exact⟨c,u,by simpa using e1,e2⟩
theorem a0f(hc:X.calm=true):CallR X (.type "tuple") (λxs H Q=>∃z,xs=[.str z]/\z.length<=sizeLine/\∀l,H l=none->Q (.ref l) (upd H l (.tup (a3m z)))):=by
 intro aA s σ H xs us Q I r h
 obtain⟨z,rfl,hz,q⟩:=h;obtain⟨u,rfl,t,rfl⟩:=vals1 r;refine PySem.call_tuple_str (I.ok.hd hc) z t (λh' tk acc kp hi=>?_) (by simpa[Str.length] using hz)
 have I1:Inv X aA σ H {s with heap:=h',toks:=tk}:=I.kept kp
 have I2:Inv X aA σ (upd H h'.objs.size (.tup (a3m z))) {s with heap:=h'.push {cls:=.type "tuple",data:=.seq acc},toks:=tk} :=
  I1.laid (t':=tk) (λb o e=>ar _ e) (aJ _) (show ObjOk X.prog X.w _ _ _ (.tup (a3m z)) from ⟨by simpa[a3m,Str.length] using hz,acc.toList,aft hi,by simpa using IsTup.new h' acc⟩)
 exact⟨.ref h'.objs.size,_,I2,rfl,q _ (I1.hok.fresh (aJ _))⟩
end
def Its(x:Str):It:=⟨λi _=>i<x.cps.size,λi H v H'=>H'=H/\∃c,x.cps.toList[i]? = some c/\v=.str ⟨#[c]⟩,λi _=>i=x.cps.size⟩
theorem ae6{P:Program}{w:World}{K:Fg}{tg:Expr}(it:Addr)(x:Str)(t:Tok)(ty:String)
  (hty:["enumerate","zip","dict_itemiterator","dict_reverseitemiterator","odict_iterator","itertools.zip_longest","itertools.pairwise"].contains ty=false)
  (W:∀A':Around,A'.handled=none->Walks P w A' it [it] [it] x.cps.size (SignAt x) (λi h=>h.IsStrIter it ty x t i))
  (slf:∀(A:Around) (i:Nat) (s:Shared) (Q:Value->Shared->Prop) (E:Value->Shared->Prop),s.heap.IsStrIter it ty x t i->Q (.ref it) s->wpAny (model P w) A (pyIter (.ref it)) Q E s) :
  Turn P w K tg (Its x) [it] it (λi h=>h.IsStrIter it ty x t i) where
 mem:=by simp
 obj:=λi h st b hb=>by
  have e:b=it:=by simpa using hb
  subst e;obtain⟨o,e,c,d⟩:=st;exact⟨o,e,λv z=>by rw[d]at z;cases z⟩
 keep:=λi h h' st k=>by
  obtain⟨o,e,c,d⟩:=st;exact⟨o,k it (by simp) o e,c,d⟩
 item:=by
  intro X hP hw hK hc i aA s σ H E I hf st hg
  subst hP hw hK;obtain⟨f0,f1,f2,f3,f4,f5⟩:=hf it (by simp)
  refine(W X.A (I.ok.hd hc)).item i s _ _ hg st λv h' tk hv st' kk=>?_;obtain⟨c,u,hx,rfl⟩:=hv;have I1:Inv X aA σ H {s with heap:=h',toks:=tk}:=I.turned (λb o hb e=>kk b o (by simpa using hb) e) f0 f1 f3 f4 f5
  obtain⟨o,e,oc,d⟩:=id st';exact⟨_,rfl,akp (s:={s with heap:=h',toks:=tk}) e oc d hty ⟨.str ⟨#[c]⟩,H,I1,⟨_,rfl⟩,⟨rfl,c,by simpa using hx,rfl⟩,st',λb hb=>(hf b hb).1⟩⟩
 done:=by
  intro X hP hw hK hc i aA s σ H E I hf st hg
  subst hP hw hK;obtain⟨f0,f1,f2,f3,f4,f5⟩:=hf it (by simp)
  have hg':i=x.cps.size:=hg;subst hg';exact(W X.A (I.ok.hd hc)).done s _ _ st λh' tk eb=>⟨rfl,I.turned (λb o hb e=>eb b o (by simpa using hb) e) f0 f1 f3 f4 f5⟩
 self:=slf
section
variable{X:Cx}{tg:Expr}
def b1j(tl:TE):TI:=λσ H R=>tl σ H λx H1=>∃z,x=.str z/\R (Its z) H1
theorem ane{l:Expr}{tl:TE}(hl:PE X l tl):PI X tg l (b1j tl):=by
 intro aA s σ H R I h
 refine thn (hl aA s σ H _ I h) ?_
 rintro v s1 ⟨x,H1,I1,r1,q1⟩
 obtain⟨z,e,q⟩:=q1;subst e;obtain⟨t,rfl⟩:=r1;have fp:∀b∈[s1.heap.objs.size],ab6 X aA H1 b:=λb hb=>by
  have e:b=s1.heap.objs.size:=by simpa using hb
  subst e;exact I1.fpOk (aJ _) (I1.hok.fresh (aJ _))
 cases ha:z.cps.all (· < 128)
 ·exact wpAny_pyIter_wide ha ⟨s1.heap.objs.size,[s1.heap.objs.size],_,_,H1,rfl,I1.kept (t':=s1.toks) λb o e=>ar _ e,
   ae6 _ z t "str_iterator" (by decide) (λA' hA=>Walks.strWide hA _ z t) (λ_ _ _ _ _ st h=>wpAny_pyIter_striter_wide st h),⟨_,bb _ rfl,rfl,rfl⟩,fp,q⟩
 ·exact wpAny_pyIter_ascii ha ⟨s1.heap.objs.size,[s1.heap.objs.size],_,_,H1,rfl,I1.kept (t':=s1.toks) λb o e=>ar _ e,
   ae6 _ z t "str_ascii_iterator" (by decide) (λA' hA=>Walks.strAscii hA _ z t) (λ_ _ _ _ _ st h=>wpAny_pyIter_striter_ascii st h),⟨_,bb _ rfl,rfl,rfl⟩,fp,q⟩
end
def cxC(X:Cx)(N:List Str)(aB:Scope)(cl:List (Str×Addr))(C:Addr)(fp:List Addr)(s:Shared)(H:Hp):Cx where
 prog:=X.prog
 w:=X.w
 K:=X.K
 mg:=X.mg
 base:=X.base
 A:=X.A
 N:=N
 s₀:=s
 H₀:=H
 env:=compEnvC aB cl C X.env
 outer:=X.stack
 stack:=X.stack
 ex:=fp
 fn:=λ_=>false
 calm:=X.calm
 pn:=[]
 xe:=λ_ _=>False
structure CSc (X:Cx) (aB:Scope) (cl:List (Str×Addr)) (ts fr:List Str) (ix:List Nat):Prop where
 clos:closureFor aB X.env=pure cl
 kind:aB.kind=.function
 nocell:∀y∈aB.names,y.2≠.cell
 names:∀y∈aB.names,y.2=.local->aB.names.lookup y.1=some .local
 sub:∀y c,cl.lookup y=some c->X.env.cells.lookup y=some c
 has:∀y,((relabel aB X.env).names.lookup y=some .cell\/(relabel aB X.env).names.lookup y=some .free)->∃c,cl.lookup y=some c
 nofn:∀y∈ts,(relabel aB X.env).names.lookup y=some .local
 len:ix.length=fr.length
 vis:∀(j:Nat) (y:Str),fr[j]? = some y->∃i:Nat,ix[j]? = some i/\X.N[i]? = some y/\(X.env.kindOf y=some .cell\/X.env.kindOf y=some .free)/\((relabel aB X.env).names.lookup y=some .cell\/(relabel aB X.env).names.lookup y=some .free)
def Ext(a b:St):Prop:=b.length=a.length/\∀(i:Nat) v,a[i]? = some (some v)->b[i]? = some (some v)
def a3x(nt:Nat)(ix:List Nat)(σ:St):St:=List.replicate nt none++ix.map λi=>(σ[i]?).join
def ape(J:It)(s0:St)(g:TG)(te:TE)(Q:VK)(H1:Hp):Prop:=∃W:Nat->Nat->List V->Hp->Prop,(∃m,W 0 m [] H1)/\∀i m ys H,W i m ys H->
 (J.stop i H/\∀p,H p=none->Q (.ref p) (upd H p (.lst ys))) \/
 (J.go i H/\ys.length<sizeLine/\∀x H',J.yld i H x H'->g x s0 H' λσ2 H2=>Ext s0 σ2/\te σ2 H2 λy H3=>∃m',m'<m/\W (i+1) m' (ys++[y]) H3)
def ahj(wi:TI)(s0:St->St)(g:TG)(te:TE):TE:=λσ H Q=>wi σ H λJ H1=>ape J (s0 σ) g te Q H1
def ahk(J:It)(s0:St)(g:TG)(tc:TT)(te:TE)(Q:VK)(H1:Hp):Prop:=∃W:Nat->Nat->List V->Hp->Prop,(∃m,W 0 m [] H1)/\∀i m ys H,W i m ys H->
 (J.stop i H/\∀p,H p=none->Q (.ref p) (upd H p (.lst ys))) \/
 (J.go i H/\ys.length<sizeLine/\∀x H',J.yld i H x H'->g x s0 H' λσ2 H2=>Ext s0 σ2/\tc σ2 H2 λok H2'=>if ok=true then te σ2 H2' (λy H3=>∃m',m'<m/\W (i+1) m' (ys++[y]) H3) else ∃m',m'<m/\W (i+1) m' ys H2')
def ahl(wi:TI)(s0:St->St)(g:TG)(tc:TT)(te:TE):TE:=λσ H Q=>wi σ H λJ H1=>ahk J (s0 σ) g tc te Q H1
theorem a8a(aD target aE cnd:Expr)(aB:Scope)(pos:Pos)(it acc:Value)(env:Env) :
  compTurn (.ListComp aD [⟨target,aE,[cnd],0⟩] aB pos) 0 it acc env=(standAt aE.pos>>=λ_=>pyNext it>>=λr=>match r with
   |none=>pure (.done .next)
   |some v=>letOwnedTupleGo target it v>>=λ_=>assign target env v>>=λ_=>isTrue cnd env (eval cnd env)>>=λok =>
    (if ok=true then (eval aD env>>=λx=>call (.builtin "list.append") [acc,x]>>=λ_=>pure ()) else pure ())>>=λ_ =>
     again (.compLoop (.ListComp aD [⟨target,aE,[cnd],0⟩] aB pos) 0 it acc env)):=by
 first
  |rfl
  |(unfold compTurn;simp only[eN];rfl)
  | (show(standAt aE.pos>>=λ_=>pyNext it>>=λr=>_)=_
     congr 1;funext _;congr 1;funext r
     cases r with
     |none=>rfl
     |some v =>
      show(letOwnedTupleGo target it v>>=λ_=>assign target env v>>=λ_=>_)=(letOwnedTupleGo target it v>>=λ_=>assign target env v>>=λ_=>_)
      congr 1;funext _;congr 1;funext _
      simp
      congr 1;funext ok
      cases ok with
      |false=>rw[bE bF,bE bF,pure_bind]
      |true =>
       rw[aR rfl,aR rfl,bind_assoc]
       congr 1;funext x
       rw[map_eq_pure_bind,bind_assoc]
       congr 1)
def runC(cnd:Option Expr)(env:Env):Sem Bool:=match cnd with
 |none=>pure true
 |some c=>isTrue c env (eval c env)
def PTO(X:Cx)(cnd:Option Expr)(t:TT):Prop :=
 ∀(aA:List (Addr×Obj)) (s:Shared) (σ:St) (H:Hp) (Q:Bool->Hp->Prop),Inv X aA σ H s->t σ H Q->wpAny (model X.prog X.w) X.A (runC cnd X.env) (TP X aA σ Q) X.xe s
theorem a90(aD target aE:Expr)(cnd:Option Expr)(aB:Scope)(pos:Pos)(it acc:Value)(env:Env) :
  compTurn (.ListComp aD [⟨target,aE,cnd.toList,0⟩] aB pos) 0 it acc env=(standAt aE.pos>>=λ_=>pyNext it>>=λr=>match r with
   |none=>pure (.done .next)
   |some v=>letOwnedTupleGo target it v>>=λ_=>assign target env v>>=λ_=>runC cnd env>>=λok =>
    (if ok=true then (eval aD env>>=λx=>call (.builtin "list.append") [acc,x]>>=λ_=>pure ()) else pure ())>>=λ_ =>
     again (.compLoop (.ListComp aD [⟨target,aE,cnd.toList,0⟩] aB pos) 0 it acc env)):=by
 cases cnd with
 |some c=>exact a8a ..
 |none =>
  rw[show(none:Option Expr).toList=[] from rfl,compTurn_list1]
  congr 1
theorem ahm{cnd:Option Expr}{E:Value->Shared->Prop}(no:∀v s,E v s->False)(J:Nat->Shared->Prop)
  (step:∀m z,J m z->wpAny (model prog w) A (pyNext it) (λgot z1=>match got with
   |none=>R (.ok .next) z1
   |some v=>wpAny (model prog w) A (letOwnedTupleGo target it v) (λ_ z2=>wpAny (model prog w) A (assign target env v) (λ_ z3=>wpAny (model prog w) A (runC cnd env) (λok z3'=>if ok=true then wpAny (model prog w) A (eval aD env) (λx z4 =>
     wpAny (model prog w) A (call (.builtin "list.append") [acc,x]) (λ_ z5=>∃m',m'<m/\J m' z5) E z4)
     E z3' else ∃m',m'<m/\J m' z3') E z3) E z2) E z1) E z)
  (m:Nat) (j0:J m s):codeAny (model prog w) A (.compLoop (.ListComp aD [⟨target,aE,cnd.toList,0⟩] aB pos) 0 it acc env) R s:=by
 refine codeAny_loop rfl J (λm z hj=>(wpAny_noted ?_:wpAny _ _ ((compTurn (.ListComp aD [⟨target,aE,cnd.toList,0⟩] aB pos) 0 it acc env).onRaise _) _ _ z)) m j0;rw[a90];refine aH (wpAny_standAt (aH (dE (step m z hj) (λgot z1 h1=>?_) λ_ _ e=>(no _ _ e).elim)))
 match got,h1 with
 |none,h1=>exact br h1
 |some v,h1 =>
  refine aH (dE h1 (λ_ z2 h2=>aH (dE h2 (λ_ z3 h3=>aH (dE h3 (λok z3' h3'=>?_) λ_ _ e=>(no _ _ e).elim)) λ_ _ e=>(no _ _ e).elim)) λ_ _ e=>(no _ _ e).elim)
  match ok,h3' with
  |true,h3' =>
   rw[aR rfl]at h3';refine aH (aH (dE h3' (λx z4 h4=>?_) λ_ _ e=>(no _ _ e).elim));exact aH (dE h4 (λ_ z5 h5=>br (br ⟨rfl,h5⟩)) λ_ _ e=>(no _ _ e).elim)
  |false,h3' =>
   rw[bE bF]at h3';exact aH (br (br ⟨rfl,h3'⟩))
section
variable{X:Cx}
theorem ahn(S:CSc X aB cl ts fr ix)(I:Inv X aA σ H s)
  (hf:∀b∈fp,ab6 X aA H b) (hb:∀b∈fp,b<s.heap.objs.size) (hC:s.heap.objs.size<=C):(cxC X (ts++fr) aB cl C fp s H).Ok where
 mod:=I.ok.mod
 kind:=S.kind
 glob:=I.ok.glob
 blt:=I.ok.blt
 above:=hC
 inj:=λx y c h1 h2=>I.ok.inj x y c (S.sub x c h1) (S.sub y c h2)
 has:=S.has
 cab:=λ_ _ z=>nomatch z
 hd:=I.ok.hd
 frames:=I.ok.frames
 stk:=.inl rfl
 exf:=λb hb'=>⟨bW (bo (hb b hb') hC),λx c e=>(hf b hb').2.2.2.2.1 x c (S.sub x c e)⟩
 bs:=λb o e=>I.bs b o e
 bsz:=cq I.ok.bsz I.sz
 noex:=λb o e hb'=>by
  rcases(hf b hb').2.2.2.1 with z|z
  ·exact I.ok.noex b o e z
  ·exact absurd (bo (aX e) (cq I.ok.bsz z)) (cL _)
 exfs:=λb hb' z=>by
  rcases aS.mp (I.stkSub b z) with e|e
  ·exact(hf b hb').2.1 e
  ·exact(hf b hb').2.2.1 e
 funs:=I.stack
 frf:=λb hb'=>I.stkFree b hb'
theorem afu:(a3x nt ix σ).length=nt+ix.length:=by
 unfold a3x;rw[ai,dY,ay]
theorem apf{s4:Shared}(S:CSc X aB cl ts fr ix)(I:Inv X aA σ H s)
  (hf:∀b∈fp,ab6 X aA H b) (hb:∀b∈fp,b<s.heap.objs.size) (hC:s.heap.objs.size<=C)
  (k:∀b o,s.heap.get? b=some o->s4.heap.get? b=some o) (hn:s4.heap.Ns C m) (ho:s4.os=s.os) (hg:s4.gens=s.gens) :
  Inv (cxC X (ts++fr) aB cl C fp s H) [] (a3x ts.length ix σ) H s4 where
 ok:=ahn S I hf hb hC
 os:=ho
 bare:=by rw[hg];exact I.bare
 base:=Un.kept k
 loc:=by
  refine⟨m,hn,λi x v e1 e2 e3=>?_⟩;have e1:(ts++fr)[i]? = some x:=e1
  by_cases hi:i<ts.length
  ·unfold a3x at e2;rw[aM (by simpa using hi),dO,aR hi]at e2
   cases e2
  ·rw[aO (by omega)]at e1
   unfold a3x at e2;rw[aO (by simpa using hi),dY,aP]at e2
   obtain⟨j,h1,h2,h3,h4⟩:=S.vis _ x e1;rw[h1]at e2;have e2':(σ[j]?).join=some v:=bO e2;have e5:σ[j]? = some (some v):=by
    cases q:σ[j]? with
    |none=>rw[q]at e2';cases e2'
    |some o=>rw[q]at e2';simp at e2';rw[e2']
   obtain⟨m0,_,hl⟩:=I.loc;have vis:Vis X.env.scope x:=h3.elim (λz=>.inr (.inl z)) λz=>.inr (.inr z);obtain⟨u,ru,l⟩:=hl j x v h2 e5 vis;refine⟨u,ru,?_⟩
   rcases l with⟨z,_⟩|⟨_,c,hc,hcell⟩
   ·rcases h3 with h3|h3<;>rw[h3]at z<;>cases z
   ·obtain⟨c',hc'⟩:=S.has x h4;have e6:c'=c:=bO ((S.sub x c' hc').symm.trans hc);subst e6;obtain⟨o,ho,hd⟩:=hcell;exact .inr ⟨h4,c',hc',o,k _ _ ho,hd⟩
 cell:=λx c e=>by
  obtain⟨v,o,ho,hd⟩:=I.cell x c (S.sub x c e);exact⟨v,o,k _ _ ho,hd⟩
 free:=I.hok.fresh hC
 freeC:=λx c e=>I.freeC x c (S.sub x c e)
 pin:=λp hp=>absurd (show p∈([]:List (Addr×Obj)) from hp) (by simp)
 hok:=I.hok.kept k
 len:=by
  rw[afu];show _=(ts++fr).length;rw[ai,S.len]
theorem Inv.unpinned'(I:Inv X aA σ H s):Inv X [] σ H s:=I.pins_of λ_ hp=>nomatch hp
theorem comp_back{its:List Value}(I:Inv X aA σ H s)
  (hf:∀b∈fp,ab6 X aA H b) (hC:s.heap.objs.size<=C) (hacc:s.heap.objs.size<=acc) (hCa:C≠acc)
  (J:Inv (cxC X N aB cl C fp s H) [] σ' H' s') (hn:H' acc=none) (ha:s'.heap.get? acc=some {cls:=.type "list",data:=.seq its.toArray n}) (rv:Vals ys its) (hz:ys.length<=sizeLine) (sb:Heap.SameBut C s'.heap h') :
  Inv X aA σ (upd H' acc (.lst ys)) {s' with heap:=h' }:=by
 have k:∀b o,b≠C->s'.heap.get? b=some o->h'.get? b=some o:=λb o hb e=>sb.extBut b o hb e;have old:∀b o,s.heap.get? b=some o->b≠C/\b≠acc:=λb o e=>⟨bW (bo (aX e) hC),bW (bo (aX e) hacc)⟩;have u0:Un (frs X.stack) fp H H' s.heap s'.heap:=J.base;have fC:H' C=none:=J.free;have u:Un (frs X.stack) fp H (upd H' acc (.lst ys)) s.heap h':=by
  refine⟨λb o e n' hb hx=>k b o (old b o e).1 (u0.keep b o e n' hb hx),λb o e n' hb hx=>?_,λb o e n' hx=>?_,λb o e hx=>?_,λb xs e=>?_,λb o v e=>?_,λb ps e=>?_⟩
  ·obtain⟨sl,e1⟩:=u0.slot b o e n' hb hx;exact⟨sl,k b _ (old b o e).1 e1⟩
  ·rw[jr (old b o e).2];exact u0.free b o e n' hx
  ·obtain⟨o',e1⟩:=u0.there b o e hx;exact⟨o',k b _ (old b o e).1 e1⟩
  ·rw[jr (jy (u0.tups b xs e) hn)];exact u0.tups b xs e
  ·rw[jr (jy (u0.frzs b o v e) hn)];exact u0.frzs b o v e
  ·obtain⟨more,e1⟩:=u0.tbls b ps e;exact⟨more,by rw[jr (jy e1 hn)];exact e1⟩
 have hok:HOk X.prog X.w (upd H' acc (.lst ys)) h':=λb o e=>by
  by_cases hb:b=acc
  ·subst hb;rw[qu]at e;cases e
   exact⟨hz,its,n,rv,k _ _ (eV hCa) ha⟩
  ·rw[jr hb]at e;refine(J.hok b o e).stay (λc v hc q=>k c v ?_ q) (λc q=>by rw[jr (jy q hn)];exact q) λc xs q=>by rw[jr (jy q hn)];exact q
   rcases hc with z|z
   ·rw[z];exact jy e fC
   ·exact jy z fC
 have J':=I.call (g':=s'.gens) (t':=s'.toks) (d':=s'.drawn) (ch:=fp) u hok J.bare λb hb=>⟨(hf b hb).2.2.2.1,(hf b hb).2.1,(hf b hb).2.2.2.2.1,(hf b hb).2.2.2.2.2⟩;have eo:s'.os=s.os:=J.os;obtain⟨hp,g,d,t,o⟩:=s';have eo':o=s.os:=eo;subst eo';exact J'
def a9z(X:Cx)(aA:List (Addr×Obj))(σ:St)(use:Option (Value->Sem Unit))(Q:VK)(Qf:Value->Shared->Prop):Prop :=
 ∀(acc C:Addr) (s6:Shared) (H6:Hp) (m6:Str->Option Value),s6.heap.Ns C m6->ab6 X aA H6 C->(∀h',Heap.SameBut C s6.heap h'->Inv X aA σ H6 {s6 with heap:=h' })->Q (.ref acc) H6->
  compPost (model X.prog X.w) X.A X.xe use Qf (.ref acc) C (.ok .next) s6
theorem al8:a9z X aA σ none Q (EP X aA σ Q):=λacc C s6 H6 m6 hn _ k q=>⟨m6,hn,λh' sb=>⟨.ref acc,H6,k h' sb,rfl,q⟩⟩
theorem al9{D:Ends}(hN:X.N.Nodup)(hi:X.N[i]? = some x)(hx:Loc X.env.scope x)(hf:X.fn x=true\/X.env.scope.names.lookup x=some .local) :
  a9z X aA σ (some (assign (.Name x pos') X.env)) (λv H1=>afj i v σ H1 D.nx) (λ_ s'=>SP X aA D .next s'):=by
 intro acc C s6 H6 m6 hn fp k q
 obtain⟨f1,f2,f3,f4,f5,f6⟩:=fp;have I6:Inv X aA σ H6 s6:=k s6.heap (Heap.SameBut.refl _ _);refine wpAny_assign_Name (ab5 (v:=.ref acc) I6 hN hi hx rfl (λs' I' ⟨a,sb,ha⟩=>⟨m6,hn.sameBut sb ?_,λh' sb'=>⟨_,H6,I'.turned (t':=s'.toks) (it:=C) (λb o hb e=>sb'.extBut b o hb e) f1 f2 f4 f5 f6,q⟩⟩) hf)
 rcases ha with ha|ha
 ·rw[ha];exact f2
 ·exact λz=>f5 x a ha z.symm
theorem aho{Y:Cx}{cnd:Option Expr}{N it:Addr}{fp:List Addr}{tn:Nat->Heap->Prop}{J:It}{σ0:St}{H2:Hp}{s4:Shared}{W:Nat->Nat->List V->Hp->Prop}{Q:VK}(hc:Y.calm=true)(no:∀v s,Y.xe v s->False)(hp0:Y.pn=[])(T:Turn Y.prog Y.w Y.K tg J fp it tn)
  (stat:∀{H':Hp},(∀b∈fp,H' b=none)->∀b∈fp,ab6 Y [] H' b) (statA:∀{H':Hp},H' N=none->ab6 Y [] H' N) (accF:N∉fp) (hg:PG Y tg g) (he:PE Y aD te) (ht:PTO Y cnd tc)
  (turn:∀i m ys H,W i m ys H->(J.stop i H/\∀p,H p=none->Q (.ref p) (upd H p (.lst ys)))\/(J.go i H/\ys.length<sizeLine/\∀x H',J.yld i H x H'->g x σ0 H' λσ2 H2=>Ext σ0 σ2/\tc σ2 H2 λok H2'=>if ok=true then te σ2 H2' (λy H3=>∃m',m'<m/\W (i+1) m' (ys++[y]) H3) else ∃m',m'<m/\W (i+1) m' ys H2'))
  (w0:W 0 m0 [] H2) (K0:Inv Y [] σ0 H2 s4) (st4:tn 0 s4.heap) (f0:∀b∈fp,H2 b=none) (fa:H2 N=none) (hacc:s4.heap.get? N=some {cls:=.type "list",data:=.seq ([]:List Value).toArray 0})
  (fin:∀s6 H6 ys its k,Inv Y [(N,{cls:=.type "list",data:=.seq its.toArray k})] σ0 H6 s6->H6 N=none->Vals ys its->ys.length<=sizeLine->(∀p,H6 p=none->Q (.ref p) (upd H6 p (.lst ys)))->R (.ok .next) s6) :
  codeAny (model Y.prog Y.w) Y.A (.compLoop (.ListComp aD [⟨tg,aE,cnd.toList,0⟩] aB pos) 0 (.ref it) (.ref N) Y.env) R s4:=by
 refine ahm no (λn s'=>∃i σ' H' ys its k,Inv Y [] σ' H' s'/\Ext σ0 σ'/\tn i s'.heap/\(∀b∈fp,H' b=none)/\H' N=none /\
  s'.heap.get? N=some {cls:=.type "list",data:=.seq its.toArray k}/\Vals ys its/\ys.length<=sizeLine/\W i n ys H') ?_ m0
  ⟨0,_,H2,[],[],0,K0,⟨rfl,λ_ _ z=>z⟩,st4,f0,fa,hacc,.nil,aV _,w0⟩
 rintro n s5 ⟨i,σ5,H5,ys,its,k5,I5,x5,st5,fr5,fa5,ac5,rv5,hz5,w5⟩
 have I5':Inv Y [] σ0 H5 s5:=I5.weak x5.1.symm x5.2;obtain⟨ob,hob⟩:∃ob:Obj,ob={cls:=.type "list",data:=.seq its.toArray k5}:=⟨_,rfl⟩;rw[<-hob]at ac5;have IP:Inv Y [(N,ob)] σ0 H5 s5:=I5'.pins_of λp hp=>by
  rw[av.mp hp];obtain⟨a0,a1,a2,_⟩:=statA fa5;exact⟨ac5,a0,a1,a2,λv z=>by rw[hob]at z;cases z⟩
 have FB:∀b∈fp,ab6 Y [(N,ob)] H5 b:=λb hb=>by
  obtain⟨b0,b1,b2,b3,b4,b5⟩:=stat fr5 b hb;refine⟨b0,b1,b2,b3,b4,λp hp=>?_⟩;rw[hp0]at hp;rw[av.mp hp];exact λz=>accF (by have z':N=b:=z;rw[z'];exact hb)
 rcases turn i n ys H5 w5 with⟨stop,qn⟩|⟨go,hlt,step⟩
 ·refine thn (T.done Y rfl rfl rfl hc i [(N,ob)] s5 _ H5 _ IP FB st5 stop) ?_
  rintro r s6 ⟨hr,I6⟩
  subst hr;rw[hob]at I6;exact fin s6 H5 ys its k5 I6 fa5 rv5 hz5 qn
 ·refine thn (T.item Y rfl rfl rfl hc i [(N,ob)] s5 _ H5 _ IP FB st5 go) ?_
  rintro r s6 ⟨u,hr,h6⟩
  subst hr;refine thn h6 ?_
  rintro _ s7 ⟨x,H7,I7,r7,y7,st7,fr7⟩
  obtain⟨ac7,fa7,_⟩:=I7.pin (N,ob) (by simp)
  have I7':Inv Y (a80 (N::fp) s7.heap) σ0 H7 s7:=by
   show Inv Y ([]++a80 (N::fp) s7.heap) _ _ _;refine Inv.pinned I7.unpinned' (λb hb=>?_) λb hb=>?_
   ·rcases aS.mp hb with e|e
    ·subst e;exact statA fa7
    ·exact stat fr7 b e
   ·rcases aS.mp hb with e|e
    ·subst e;exact⟨_,ac7,λv z=>by rw[hob]at z;cases z⟩
    ·exact T.obj _ _ st7 b e
  have keep:∀{σ':St} {H9:Hp} {s9:Shared} {ps:List (Addr×Obj)},Inv Y (a80 (N::fp) s7.heap) σ' H9 s9->(s9.heap.get? N=some ob/\H9 N=none)/\∀b∈fp,(∀o,s7.heap.get? b=some o->s9.heap.get? b=some o)/\H9 b=none:=λI9=>by
   refine⟨?_,λb hb=>?_⟩
   ·obtain⟨z1,z2,_⟩:=I9.pin (N,ob) (cn _ (a4l bA ac7));exact⟨z1,z2⟩
   ·obtain⟨o,e,_⟩:=T.obj _ _ st7 b hb;obtain⟨z1,z2,_⟩:=I9.pin (b,o) (cn _ (a4l (bq _ hb) e));exact⟨λo' e'=>by rw[e]at e';cases e';exact z1,z2⟩
  refine thn (hg _ s7 _ H7 x u _ I7' r7 (step x H7 y7)) ?_
  rintro _ s8 ⟨σ8,H8,I8,x8,q8⟩
  refine thn (ht _ s8 _ H8 _ I8 q8) ?_
  rintro ok s8' ⟨H8',I8',q8'⟩
  cases ok with
  |false =>
   rw[bE bF]at q8' ⊢;obtain⟨m',hm',w9⟩:=q8';obtain⟨⟨ac9,fa9⟩,k9⟩:=keep (ps:=[]) I8';exact⟨m',hm',i+1,σ8,H8',ys,its,k5,I8'.unpinned',x8,T.keep _ _ _ st7 λb hb o e=>(k9 b hb).1 o e,λb hb=>(k9 b hb).2,fa9,by rw[ac9,hob],rv5,hz5,w9⟩
  |true =>
   rw[aR rfl]at q8' ⊢;refine thn (he _ s8' _ H8' _ I8' q8') ?_
   rintro yv s9 ⟨y,H9,I9,r9,m',hm',w9⟩
   obtain⟨⟨ac9,fa9⟩,k9⟩:=keep (ps:=[]) I9;rw[hob]at ac9;have hl:=rv5.length;refine cP F.slot_list_append ⟨_,ac9,rfl⟩ F.entry_list_append (F.args_list_append_2 _ _) (PySem.list_append N its.toArray k5 yv (by rw[aK];omega)) ⟨ac9,?_⟩
   have q:=PySem.IsL.update ac9 (λa=>a.push yv);have qo:∀b o,b≠N->s9.heap.get? b=some o->(s9.heap.update N (Obj.mapSeq (λa=>a.push yv))).get? b=some o:=λb o hb e=>(eT s9.heap _ (eV hb)).trans e;have q':∃k,(s9.heap.update N (Obj.mapSeq (λa=>a.push yv))).get? N=some {cls:=.type "list",data:=.seq (its++[yv]).toArray k}:=⟨_,by rw[q];simp;rfl⟩
   obtain⟨k9',q9⟩:=q';obtain⟨a0,a1,a2,a3,a4,a5⟩:=statA fa9;refine⟨m',hm',i+1,σ8,H9,ys++[y],its++[yv],k9',(I9.unpinned').turned qo a0 a1 a3 a4 a5,x8,T.keep _ _ _ st7 λb hb o e=>qo b o (λz=>accF (z ▸ hb)) ((k9 b hb).1 o e),λb hb=>(k9 b hb).2,fa9,q9,rv5.append (.cons r9 .nil),?_,w9⟩;rw[ai,aI];omega
theorem afv{cnd:Option Expr}(hc:X.calm=true)(S:CSc X aB cl ts fr ix)(hi:PI X tg aE wi)
  (hg:∀C fp s H,PG (cxC X (ts++fr) aB cl C fp s H) tg g) (he:∀C fp s H,PE (cxC X (ts++fr) aB cl C fp s H) aD te) (ht:∀C fp s H,PTO (cxC X (ts++fr) aB cl C fp s H) cnd tc) (hs:∀x,foldedSetIterable aE X.env x=pure x)
  (use:Option (Value->Sem Unit)) (I:Inv X aA σ H s) (h:ahl wi (a3x ts.length ix) g tc te σ H Q) (fin:a9z X aA σ use Q Qf) :
  wpAny (model X.prog X.w) X.A (comprehension (.ListComp aD [⟨tg,aE,cnd.toList,0⟩] aB pos) aB X.env ppos (newList []) false (eval aE X.env) use) Qf X.xe s:=by
 refine wpAny_comprehension_free (use:=use) rfl hs S.clos S.kind S.names (thn (hi aA s σ H _ I h) λv s1 h1=>thn h1 λitv s2 h2=>?_);obtain⟨it,fp,tn,J,H2,e,I2,T,st2,f2,W,⟨m0,w0⟩,turn⟩:=h2;subst e;have hob:∀b∈fp,b<s2.heap.objs.size:=λb hb=>let ⟨o,e,_⟩:=T.obj _ _ st2 b hb;aX e;refine cV (wpAny_newFunctionEnv S.nocell (by intro y hy;simp at hy) (λh4 hns4 hsb4=>?_) S.kind)
 dsimp only at hns4 hsb4 ⊢
 generalize hH2:s2.heap.push {cls:=.type "list",dict:=none,data:=.seq ([]:List Value).toArray}=G at hns4 hsb4 ⊢
 have hCs:G.objs.size=s2.heap.objs.size+1:=by rw[<-hH2,cM]
 have hCle:s2.heap.objs.size<=G.objs.size:=by omega
 have hne:G.objs.size≠s2.heap.objs.size:=by omega
 have old:∀b o,s2.heap.get? b=some o->h4.get? b=some o:=λb o e=>by
  have hlt:=aX e;exact hsb4.extBut b o (bW (bo hlt hCle)) (ar _ (hH2 ▸ ar _ e))
 have hacc:h4.get? s2.heap.objs.size=some {cls:=.type "list",data:=.seq ([]:List Value).toArray 0} :=
  hsb4.extBut _ _ (eV hne) (ar _ (hH2 ▸ bb _ rfl))
 have K0:Inv (cxC X (ts++fr) aB cl G.objs.size fp s2 H2) [] (a3x ts.length ix σ) H2 {s2 with heap:=h4,toks:=s2.toks+([]:List (Str×Value)).length} :=
  apf S I2 f2 hob hCle old hns4 rfl rfl
 have st4:tn 0 h4:=T.keep _ _ _ st2 λb _ o e=>old b o e;have accF:s2.heap.objs.size∉fp:=λz=>cL _ (hob _ z);have stat:∀{H':Hp},(∀b∈fp,H' b=none)->∀b∈fp,ab6 (cxC X (ts++fr) aB cl G.objs.size fp s2 H2) [] H' b:=λhn b hb =>
  ⟨hn b hb,λz=>by have h1:=hob b hb;have z':b=G.objs.size:=z;exact bW (bo h1 hCle) z',λz=>(ahn S I2 f2 hob hCle).exfs b hb z,.inl hb,λx c e=>(f2 b hb).2.2.2.2.1 x c (S.sub x c e),λp hp=>absurd (show p∈([]:List (Addr×Obj)) from hp) (by simp)⟩
 have statA:∀{H':Hp},H' s2.heap.objs.size=none->ab6 (cxC X (ts++fr) aB cl G.objs.size fp s2 H2) [] H' s2.heap.objs.size:=λhn =>
  ⟨hn,λz=>hne (show G.objs.size=s2.heap.objs.size from z.symm),λz=>by
   obtain⟨_,o,ho,_⟩:=(ahn S I2 f2 hob hCle).funs.mem z;exact cL _ (aX ho),.inr (aJ _),λx c e z=>by
   obtain⟨v,o,ho,_⟩:=I2.cell x c (S.sub x c e);rw[z]at ho;exact cL _ (aX ho),λp hp=>absurd (show p∈([]:List (Addr×Obj)) from hp) (by simp)⟩
 have loop:codeAny (model X.prog X.w) X.A (.compLoop (.ListComp aD [⟨tg,aE,cnd.toList,0⟩] aB pos) 0 (.ref it) (.ref s2.heap.objs.size) (compEnvC aB cl G.objs.size X.env))
   (compPost (model X.prog X.w) X.A X.xe use Qf (.ref s2.heap.objs.size) G.objs.size) {s2 with heap:=h4,toks:=s2.toks+([]:List (Str×Value)).length} :=
  aho (Y:=cxC X (ts++fr) aB cl G.objs.size fp s2 H2) hc (λ_ _ h=>h) rfl T stat statA accF (hg _ _ _ _) (he _ _ _ _) (ht _ _ _ _) turn w0 K0 st4 (λb hb=>(f2 b hb).1) (I2.hok.fresh (aJ _)) hacc λs6 H6 ys its k I6 fa rv hz qn=>by
   have e6:=(I6.pin (s2.heap.objs.size,{cls:=.type "list",data:=.seq its.toArray k}) (by show _∈[]++[_];simp)).1
   obtain⟨m6,hn6,_⟩:=I6.loc;exact fin _ _ s6 _ m6 hn6 (I2.fpOk hCle (by rw[jr hne];exact I6.free)) (λh' sb=>comp_back I2 f2 hCle (aJ _) hne I6.unpinned' fa e6 rv hz sb) (qn _ fa)
 exact codeAny_compStart_list loop (T.self _ 0 _ _ _ st4 loop)
theorem abm(hc:X.calm=true)(S:CSc X aB cl ts fr ix)(hi:PI X tg aE wi)
  (hg:∀C fp s H,PG (cxC X (ts++fr) aB cl C fp s H) tg g) (he:∀C fp s H,PE (cxC X (ts++fr) aB cl C fp s H) aD te) (hs:∀x,foldedSetIterable aE X.env x=pure x)
  (use:Option (Value->Sem Unit)) (I:Inv X aA σ H s) (h:ahj wi (a3x ts.length ix) g te σ H Q) (fin:a9z X aA σ use Q Qf) :
  wpAny (model X.prog X.w) X.A (comprehension (.ListComp aD [⟨tg,aE,[],0⟩] aB pos) aB X.env ppos (newList []) false (eval aE X.env) use) Qf X.xe s:=by
 refine afv (cnd:=none) (tc:=λσ H Q=>Q true H) hc S hi hg he (λ_ _ _ _ aA s σ H Q I h=>br ⟨H,I,h⟩) hs use I ?_ fin;unfold ahl ahk;unfold ahj ape at h;simpa only[dk] using h
theorem ala(hc:X.calm=true)(S:CSc X aB cl ts fr ix)(hi:PI X tg aE wi)
  (hg:∀C fp s H,PG (cxC X (ts++fr) aB cl C fp s H) tg g) (he:∀C fp s H,PE (cxC X (ts++fr) aB cl C fp s H) aD te)
  (hs:∀x,foldedSetIterable aE X.env x=pure x:=by intro _;rfl) :
  PE X (.ListComp aD [⟨tg,aE,[],0⟩] aB pos) (ahj wi (a3x ts.length ix) g te):=by
 intro aA s σ H Q I h
 rw[eval_ListComp];exact abm hc S hi hg he hs none I h al8
theorem ae7{spos:Pos}(hN:X.N.Nodup)(hi':X.N[i]? = some x)(hx:Loc X.env.scope x)(hc:X.calm=true)(S:CSc X aB cl ts fr ix)(hi:PI X tg aE wi)
  (hg:∀C fp s H,PG (cxC X (ts++fr) aB cl C fp s H) tg g) (he:∀C fp s H,PE (cxC X (ts++fr) aB cl C fp s H) aD te)
  (hs:∀x,foldedSetIterable aE X.env x=pure x:=by intro _;rfl) (hsw:swapsWith (.ListComp aD [⟨tg,aE,[],0⟩] aB pos) (some (.Name x pos')) spos.line X.env=pure true:=by rfl) (hf:Hf X x:=by first|exact .inl rfl|exact .inr rfl|assumption) :
  PS X (.Assign [.Name x pos'] (.ListComp aD [⟨tg,aE,[],0⟩] aB pos) spos) (ay6 (ahj wi (a3x ts.length ix) g te) (afj i)):=by
 intro aA s σ H D I h
 rw[exec_Assign_Name_used _ _ _ _ hsw];refine aH (wpAny_standAt (aH ?_));refine aH (dE (abm hc S hi hg he hs (some (assign (.Name x pos') X.env)) I h (al9 hN hi' hx hf)) (λ_ s' hq=>br (br hq)) λ_ _ e=>e)
end
end L2
namespace L2
theorem au1:bootBuiltins "len" = some (.builtin "len"):=PySem.boot_len
theorem u9:bootBuiltins "isinstance" = some (.builtin "isinstance"):=by first|exact PySem.boot_isinstance|exact PyProof.Rows.boot_isinstance
theorem ahp:bootBuiltins "str" = some (.type "str"):=by first|exact PySem.boot_str|exact PyProof.Rows.boot_str
theorem au2:bootBuiltins "all" = some (.builtin "all"):=by first|exact PySem.boot_all|exact PyProof.Rows.boot_all
theorem au3:bootBuiltins "abs" = some (.builtin "abs"):=by first|exact PySem.boot_abs|exact PyProof.Rows.boot_abs
theorem anf:bootBuiltins "int" = some (.type "int"):=by first|exact PySem.boot_int|exact PyProof.Rows.boot_int
theorem apg:bootBuiltins "list" = some (.type "list"):=by first|exact PySem.boot_list|exact PyProof.Rows.boot_list
theorem a3a:bootBuiltins "tuple" = some (.type "tuple"):=by first|exact PySem.boot_tuple|exact PyProof.Rows.boot_tuple
structure Dn (P:Program) (w:World) (K:Fg) (mg:Str->Option Value) (base:Heap) (k:Nat) (x:Str) (ps:List Str) (sp:Sp) (f:Addr) (fd:FuncData):Prop where
 ok:FnOk P w K mg base CX0 k f fd ps sp
 m:mg x=some (.ref f)
 kp:PySem.W.keepIn K (.ref f)=true
 b:Binds K fd ps []
theorem aph:sizeLine=16777216:=dW
theorem api(h:n<=16777216):n<=sizeLine:=by rw[dW];exact h
theorem CSc.noFree{aB:Scope}(kind:aB.kind=.function)(h:∀y∈aB.names,y.2≠.cell/\y.2≠.free)(names:∀y∈aB.names,y.2=.local->aB.names.lookup y.1=some .local)
  (ht:∀y∈ts,aB.names.lookup y=some .local):CSc X aB [] ts [] []:=by
 have e:(relabel aB X.env).names=aB.names:=by
  show aB.names.map _=_;refine map_eq_self λy hy=>?_;obtain⟨n,k⟩:=y;have:(k == NameKind.free)=false:=by simpa using (h _ hy).2
  simp[this]
 refine⟨closureFor_none λy hy=>(h y hy).2,kind,λy hy=>(h y hy).1,names,(λ_ _ z=>nomatch z),λy z=>?_,λy hy=>by rw[e];exact ht y hy,rfl,(λ_ _ z=>by simp at z)⟩
 rw[e]at z
 rcases z with z|z
 ·exact absurd rfl (h _ (cy z)).1
 ·exact absurd rfl (h _ (cy z)).2
theorem ayw(x y:Str):(x++y).cps.toList=x.cps.toList++y.cps.toList:=by
 show(x.cps++y.cps).toList=_;simp
theorem ahq{α:Type}(xs:List α)(k:Nat):a8y xs none (some (k:Int))=xs.take k:=by
 unfold a8y;rw[HT.ae3,HT.ah6,gK,Nat.sub_zero]
 by_cases h:k<=xs.length
 ·rw[fL h]
 ·rw[gA (by omega),bR (aJ _),bR (by omega)]
theorem abn{α:Type}(xs:List α)(k:Nat):a8y xs (some (k:Int)) none=xs.drop k:=by
 unfold a8y;rw[HT.ae3,HT.ah6]
 by_cases h:k<=xs.length
 ·rw[fL h,bR (by rw[bQ];omega)]
 ·rw[gA (by omega),bS (aJ _),bS (by omega),List.take_nil]
end L2
namespace L2
open PyProof.Rows
section
variable{X:Cx}
def a5u(T:Str)(c:Nat):Int:=Txt.find T ⟨#[c]⟩
theorem ad8(s sub:Str)(hi limit:Nat):∀(l:List Nat) (st:Array Nat×Nat) (k:Nat),k∈(forIn l st (StrLaws.occBody s sub hi limit)).run.fst.toList->k∈st.fst.toList\/(k+sub.length<=hi/\Builtin.Str.subAt s sub k=true)
 |[],st,k,h=>.inl h
 |a::l,st,k,h=>by
  rw[List.forIn_cons]at h;unfold StrLaws.occBody at h
  split at h
  ·rename_i c
   rcases ad8 s sub hi limit l _ k h with z|z
   ·simp at z
    rcases z with z|z
    ·exact .inl (by simpa using z)
    ·subst z;exact .inr ⟨c.1.2,c.2⟩
   ·exact .inr z
  ·rcases ad8 s sub hi limit l _ k h with z|z
   ·exact .inl z
   ·exact .inr z
theorem ae8{T:Str}(h:c∈T.cps.toList):∃i:Nat,a5u T c=(i:Int)/\T.cps.toList[i]? = some c/\∃aF,Builtin.Str.occurrences T ⟨#[c]⟩ 0 T.length 1=i::aF:=by
 have h1:=gi T c;rw[cU h]at h1
 cases ho:Builtin.Str.occurrences T ⟨#[c]⟩ 0 T.length 1 with
 |nil=>rw[ho]at h1;cases h1
 |cons i aF =>
  refine⟨i,by simp[a5u,Txt.find,ho],?_,aF,rfl⟩
  rw[StrLaws.occ_eq]at ho;have hm:=ad8 T ⟨#[c]⟩ T.length 1 (List.range' 0 (T.length+1-0)) (#[],0) i (by rw[ho];exact bA)
  rcases hm with z|z
  ·simp at z
  ·exact(StrLaws.subAt_one T c i).mp z
theorem apj:OpR X (compareOp .In) (λx y H Q=>∃c T,x=.str ⟨#[c]⟩/\y=.str T/\Q (.bl (decide (c∈T.cps.toList))) H):=by
 intro aA s σ H x y v u Q I rx ry h
 obtain⟨c,T,rfl,rfl,q⟩:=h;exact agw aA s σ H _ _ v u Q I rx ry ⟨_,_,rfl,rfl,by rw[gi];exact q⟩
theorem afw:OpR X (compareOp .NotIn) (λx y H Q=>∃c T,x=.str ⟨#[c]⟩/\y=.str T/\Q (.bl (!decide (c∈T.cps.toList))) H):=by
 intro aA s σ H x y v u Q I rx ry h
 obtain⟨c,T,rfl,rfl,q⟩:=h;exact ab7 aA s σ H _ _ v u Q I rx ry ⟨_,_,rfl,rfl,by rw[gi];exact q⟩
theorem ahr:MtR X "str.find" (λx xs H Q=>∃T c,x=.str T/\xs=[.str ⟨#[c]⟩]/\Q (.int (a5u T c)) H):=by
 intro aA s σ H x xs v us Q I rx rs h
 obtain⟨T,c,rfl,rfl,q⟩:=h;obtain⟨t,rfl⟩:=rx;obtain⟨u,rfl,t',rfl⟩:=vals1 rs;exact cP F.slot_str_find (gJ _ _ _) F.entry_str_find (F.args_str_find_2 _ _) (gives_str_find _ _ _ _).meets ⟨.int (a5u T c),H,I.tok _,⟨_,rfl⟩,q⟩
theorem alb:MtR X "str.index" (λx xs H Q=>∃T c,x=.str T/\xs=[.str ⟨#[c]⟩]/\c∈T.cps.toList/\Q (.int (a5u T c)) H):=by
 intro aA s σ H x xs v us Q I rx rs h
 obtain⟨T,c,rfl,rfl,hc,q⟩:=h;obtain⟨t,rfl⟩:=rx;obtain⟨u,rfl,t',rfl⟩:=vals1 rs;obtain⟨i,e1,e2,aF,ho⟩:=ae8 hc;refine cP F.slot_str_index (gJ _ _ _) F.entry_str_index (F.args_str_index_2 _ _) (gives_str_index _ _ _ _ i aF ho).meets ⟨.int (a5u T c),H,I.tok _,⟨_,by rw[e1]⟩,q⟩
theorem apk{zs:List Str}:∀{us:List Value},Vals (zs.map V.str) us->StrsAre us zs:=by
 induction zs with
 |nil=>intro us r;rw[dM]at r;cases r;exact .nil
 |cons z zs ih =>
  intro us r
  rw[ba]at r
  cases r with
  |cons r1 r2 =>
   obtain⟨t,e⟩:=r1;subst e;exact .cons z t (ih r2)
theorem ahs:MtR X "str.join" (λx xs H Q=>∃sep p zs,x=.str sep/\xs=[.ref p]/\SqL X.K H p (zs.map V.str)/\(zs.map (·.length)).sum+zs.length*sep.length<=16777216/\Q (.str (Txt.join sep zs)) H):=by
 intro aA s σ H x xs v us Q I rx rs h
 obtain⟨sep,p,zs,rfl,rfl,hp,hz,q⟩:=h;obtain⟨t,rfl⟩:=rx;obtain⟨u,rfl,ru⟩:=vals1 rs;cases ru
 obtain⟨its,r,pl,_⟩:=I.list hp;exact join_list pl.isList (by simpa using apk r) hz λt' k=>⟨.str _,H,I.tok _,⟨_,rfl⟩,q⟩
end
theorem CSc.of{X:Cx}{ts fr:List Str}{ix:List Nat}(clos:closureFor aB X.env=pure cl)(kind:aB.kind=.function)
  (nocell:(aB.names.all λp=>p.2 != .cell)=true) (names:(aB.names.all λp=>p.2 != .local || aB.names.lookup p.1 == some .local)=true) (sub:∀p∈cl,X.env.cells.lookup p.1=some p.2)
  (has:((relabel aB X.env).names.all λp => !(p.2 == .cell || p.2 == .free) || (cl.lookup p.1).isSome)=true) (nofn:(ts.all λy=>(relabel aB X.env).names.lookup y == some .local)=true)
  (len:ix.length=fr.length) (vis:((fr.zip ix).all λp=>X.N[p.2]? == some p.1 && (X.env.kindOf p.1 == some .cell || X.env.kindOf p.1 == some .free) && ((relabel aB X.env).names.lookup p.1 == some .cell || (relabel aB X.env).names.lookup p.1 == some .free))=true) :
  CSc X aB cl ts fr ix:=by
 refine⟨clos,kind,λy hy=>?_,λy hy e=>?_,λy c e=>sub _ (cy e),λy z=>?_,λy hy=>?_,len,λj y e=>?_⟩
 ·have:=bZ.mp nocell y hy
  simpa using this
 ·have:=bZ.mp names y hy
  rw[e]at this;simpa using this
 ·have key:∀k,(relabel aB X.env).names.lookup y=some k->(k == .cell || k == .free)=true->∃c,cl.lookup y=some c:=λk e hk=>by
   have:=bZ.mp has _ (cy e)
   rw[hk]at this;exact g9.mp (by simpa using this)
  rcases z with z|z
  ·exact key _ z rfl
  ·exact key _ z rfl
 ·have:=bZ.mp nofn y hy
  simpa using this
 ·obtain⟨hj,_⟩:=ag.mp e;have hj2:j<ix.length:=by omega
  have hm:(y,ix[j])∈fr.zip ix:=by
   rw[List.mem_iff_getElem?];exact⟨j,by rw[eA];exact⟨e,af hj2⟩⟩
  have:=bZ.mp vis _ hm
  simp only[cE,eO,eW]at this;exact⟨ix[j],af hj2,this.1.1,this.1.2,this.2⟩
def tSM(r:V->List V->Hp->VK->Prop)(to:TE)(t:TA):TE:=λσ H Q=>to σ H λx H1=>(∃z,x=.str z)/\t σ H1 λxs H2=>r x xs H2 Q
theorem ayx{X:Cx}{o e:Expr}{es:List Expr}{to:TE}{t:TA}{name:Str}{apos cpos:Pos}{id:String}{r:V->List V->Hp->VK->Prop}(slot:Slot "str" name id)(hty:typeOf (.builtin id)=pure (.type "method_descriptor"))(hm:MtR X id r)(ho:PE X o to)(ha:PA X (e::es) t)
  (hbase:attributeBase o name X.env (eval o X.env)=eval o X.env:=by rfl)
  (hfew:((backTo cpos (starEach (e::es) X.env)).all (λx => !x.1) && (backToKw cpos (keywordEach [] X.env)).all (λx=>x.1.isSome)
   && decide ((e::es).length+([]:List Keyword).length+(if ([]:List Keyword).isEmpty then 0 else 1)<30))=true:=by rfl)
  (hline:(apos.endLine == cpos.line)=true:=by rfl) (hs:starEach (e::es) X.env=(false,eval e X.env)::starEach es X.env:=by rfl) (hplain:(backTo cpos (starEach es X.env)).any (·.1)=false:=by rfl) :
  PE X (.Call (.Attribute o name apos) (e::es) [] cpos) (tSM r to t):=by
 intro aA s σ H Q I h
 refine wpAny_Call_method_late hbase hfew hline rfl (thn (ho aA s σ H _ I h) λv s1 ⟨x,H1,I1,r1,⟨z,hz⟩,q1⟩=>?_);subst hz;obtain⟨h1,h2⟩:=ana (T := "str") I1 r1 rfl;refine⟨"str",id,PySem.F.plainAttrs_str,slot,hty,h1,h2,?_⟩;have hA:=ha cpos aA s1 σ H1 _ I1 q1;rw[hs]at hA ⊢;refine Calls.callWith_builtin (by show(false || (backTo cpos (starEach es X.env)).any (·.1))=false;rw[hplain]<;>rfl) (Calls.evalArgs_plain ?_)
 exact thn hA λus s2 ⟨vs,H2,I2,r2,q2⟩=>hm aA s2 σ H2 _ vs v us Q I2 r1 r2 q2
section
variable{X:Cx}
theorem afx(hc:X.calm=true):CallR X (.builtin "sum") (λxs H Q=>∃(p:Addr) (ns:List Int),xs=[.ref p]/\SqL X.K H p (ns.map V.int)/\Q (.int ns.sum) H):=by
 intro aA s σ H xs us Q I r h
 obtain⟨p,ns,rfl,hq,q⟩:=h;obtain⟨u,rfl,rx⟩:=vals1 r;cases rx
 obtain⟨its,r',pl,hz⟩:=I.list hq;have hInts:IntsAre its ns:=intsAre_of r';obtain⟨prs,ep⟩:=hInts.allInts.items;refine sum_intListG (xs:=prs) (I.ok.hd hc) (ep ▸ pl.isList) λh' tk t' hk=>⟨.int ns.sum,H,I.kept hk,⟨t',?_⟩,q⟩;have nums:prs.toList.map (·.1)=ns:=by
  rw[<-nums_intItems,<-ep];exact hInts.numsOf
 have tot:preSum (numAt prs) prs.size=ns.sum:=by
  rw[preSum_eq,<-nums]
  congr 1
  exact bR (by simp)
 rw[tot]
end
open PySem.AutoSeq1 in
theorem a8b(l b:Addr)(xs ys:Array Value)(n m:Nat)(dd:Option Addr)(sl:Array (Option Value))(long:¬(!xs.isEmpty && Builtin.List.listTooLong (xs.size+ys.size))=true)(fit1:xs.size<=sizeLine)(fit2:xs.size+ys.size<=sizeLine+1) :
  Meets (Builtin.«list.extend» ⟨[.ref l,.ref b],[]⟩) (λ_ R s=>(s.heap.get? l=some {cls:=.type "list",dict:=none,data:=.seq xs n,slots := #[]}/\s.heap.get? b=some {cls:=.type "tuple",dict:=dd,data:=.seq ys m,slots:=sl})/\R (.ok (.ret Value.none)) {s with heap:=s.heap.update l (Obj.mapSeq (·++ys))}) :=
 .of_wp λprog w A R ⟨hp,gn,dr,tk,os⟩ ⟨⟨hl,hb⟩,q⟩=>by
  have a1:=idx_int;have a2:=AutoSeq1.sub_tuple_tuple;have a3:=AutoSeq1.sub_list_list;have a4:=AutoSeq1.sub_tuple_list;have a5:=AutoSeq1.sub_list_tuple;have both:(xs++ys).size<=sizeLine+1:=by simpa using fit2
  wp_walk using wpAny_updateSeq hl rfl (hz:=fit1) (_hz':=both),wpAny_loadPart' hl,wpAny_loadPart' hb
  exact⟨_,rfl,q⟩
section
variable{X:Cx}
def ae9(K:Fg):V->List V->Hp->VK->Prop:=λx vs H Q=>∃l b xs zs,x=.ref l/\vs=[.ref b]/\H l=some (.lst xs)/\SqT K H b zs/\xs.length+zs.length<=sizeLine/\Q .non (upd H l (.lst (xs++zs)))
theorem afy:MtM X "list.extend" (ae9 X.K):=by
 intro aA s σ H x vs v us Q I rx rv h
 obtain⟨l,b,xs,zs,rfl,rfl,hH,hB,hz,q⟩:=h;cases rx
 obtain⟨u,rfl,ru⟩:=rv.one;cases ru
 obtain⟨z,its,n,r,hl,e⟩:=I.lstM hH;obtain⟨its2,r2,p2,_⟩:=I.tuple hB;have hl2:=r2.length;obtain⟨⟨cls,dd,data,sl⟩,e2,hc,hrest⟩:=id p2;have hsz:its.toArray.size+its2.toArray.size<=sizeLine:=by rw[aK,aK];omega
 have hlong:¬ (!its.toArray.isEmpty && Builtin.List.listTooLong (its.toArray.size+its2.toArray.size))=true:=by
  rw[a7p hsz,gL];exact bF
 obtain⟨n2,hd⟩:=(show ∃n2,data=.seq its2.toArray n2 from by first|exact hrest|exact⟨_,hrest.2⟩|(obtain⟨_,n,hd⟩:=hrest;exact⟨n,hd⟩))
 have hc':cls=.type "tuple":=hc;subst hc' hd;refine cP F.slot_list_extend ⟨_,e,rfl⟩ F.entry_list_extend (F.args_list_extend_2 _ _)
  (a8b l b its.toArray its2.toArray n n2 dd sl hlong (by rw[aK];omega) (by omega)) ⟨⟨e,e2⟩,?_⟩
 refine⟨.non,_,I.lset (its':=its++its2) hH e (by simp) (r.append r2) ?_,rfl,q⟩
 rw[ai];omega
end
end L2
namespace MI
open L2
inductive D where
 |non|bl (b:Bool)|int (i:Int)|str (x:Str)|ty (n:String)|tup (xs:List D)|rol (xs:List D)|ref (i:Nat)|scr (xs:List D)|rod (ks:List Key) (xs:List D)|rdT (ks:List (List Key)) (xs:List D)|exc (c:Str)|ins (c:Str) (ks:List Str) (xs:List D)
inductive O where
 |lst (xs:List D)|dK (kvs:List (Key×D))|dT (kvs:List (List Key×D))|ins (c:Str) (fs:List (Str×D))
abbrev Hd:=List O
abbrev Sd:=List (Option D)
inductive R (α:Type) where
 |ok (a:α) (h:Hd)|ex (c:Str) (h:Hd)|no
def R.bind{α β:Type}:R α->(α->Hd->R β)->R β
 |.ok a h,k=>k a h
 |.ex c h,_=>.ex c h
 |.no,_=>.no
inductive Fl where
 |nx (σ:Sd) (h:Hd)|rt (d:D) (h:Hd)|bk (σ:Sd) (h:Hd)|ct (σ:Sd) (h:Hd)|ex (c:Str) (h:Hd)|no
def R.fl{α:Type}:R α->(α->Hd->Fl)->Fl
 |.ok a h,k=>k a h
 |.ex c h,_=>.ex c h
 |.no,_=>.no
abbrev SE:=Sd->Hd->R D
abbrev ST:=Sd->Hd->R Bool
abbrev SA:=Sd->Hd->R (List D)
abbrev SS:=Sd->Hd->Fl
def SqF(K:Fg)(H:Hp)(a:Addr)(vs:List V):Prop:=(∃o,H a=some (.frz o (.lst vs)))\/SqL K (λ_=>none) a vs
theorem SqF.l(h:SqF K H a vs):SqL K H a vs:=by
 rcases h with⟨o,h⟩|h
 ·exact .inl (.inr ⟨o,h⟩)
 ·rcases h with(h|⟨o,h⟩)|h
  ·cases h
  ·cases h
  ·exact .inr h
def SqZ(H:Hp)(a:Addr)(vs:List V):Prop:=∃o,H a=some (.frz o (.lst vs))
theorem SqZ.l(h:SqZ H a vs):SqL K H a vs:=let ⟨o,e⟩:=h; .inl (.inr ⟨o,e⟩)
def exO(a:Addr):HO:=.ext λh=>∃o,h.get? a=some o
mutual
inductive Rep (K:Fg) (ι:List Addr) (H:Hp):V->D->Prop
 |non:Rep K ι H .non .non
 |bl (b:Bool):Rep K ι H (.bl b) (.bl b)
 |int (i:Int):Rep K ι H (.int i) (.int i)
 |str (x:Str):Rep K ι H (.str x) (.str x)
 |ty (n:String):Rep K ι H (.ty n) (.ty n)
 |tup {a:Addr} {vs:List V} {xs:List D} (h:H a=some (.tup vs)) (r:Reps K ι H vs xs):Rep K ι H (.ref a) (.tup xs)
 |rol {a:Addr} {vs:List V} {xs:List D} (h:SqZ H a vs) (r:Reps K ι H vs xs):Rep K ι H (.ref a) (.rol xs)
 |scr {a:Addr} {vs:List V} {xs:List D} (h:SqF K H a vs) (r:Reps K ι H vs xs):Rep K ι H (.ref a) (.scr xs)
 |ref {a:Addr} {i:Nat} (h:ι[i]? = some a):Rep K ι H (.ref a) (.ref i)
 |rod {a:Addr} {o:Obj} {us:List (Key×V)} {ks:List Key} {xs:List D} (h:H a=some (.frz o (.dK us))) (e:us.map (·.1)=ks) (r:Reps K ι H (us.map (·.2)) xs):Rep K ι H (.ref a) (.rod ks xs)
 |rdT {a:Addr} {o:Obj} {us:List (List Key×V)} {ks:List (List Key)} {xs:List D} (h:H a=some (.frz o (.dT us))) (e:us.map (·.1)=ks) (r:Reps K ι H (us.map (·.2)) xs):Rep K ι H (.ref a) (.rdT ks xs)
 |exc {a C:Addr} {o:Obj} {c:Str} (h:H a=some (.frz o (exO a))) (hc:o.cls=.ref C) (hn:PySem.W.nsIn K mainGlobals c=some (some (.ref C))):Rep K ι H (.ref a) (.exc c)
 |ins {a C dx:Addr} {o:Obj} {c:Str} {us:List (Str×V)} {ks:List Str} {xs:List D} (h:H a=some (.frz o (.ins C dx us))) (hn:PySem.W.nsIn K mainGlobals c=some (some (.ref C))) (e:us.map (·.1)=ks) (r:Reps K ι H (us.map (·.2)) xs):Rep K ι H (.ref a) (.ins c ks xs)
inductive Reps (K:Fg) (ι:List Addr) (H:Hp):List V->List D->Prop
 |nil:Reps K ι H [] []
 |cons {v:V} {d:D} {vs:List V} {ds:List D} (r:Rep K ι H v d) (rs:Reps K ι H vs ds):Reps K ι H (v::vs) (d::ds)
end
structure Gw (ι:List Addr) (H:Hp) (ι':List Addr) (H':Hp):Prop where
 pre:∃m,ι'=ι++m
 tup:∀a vs,H a=some (.tup vs)->H' a=some (.tup vs)
 frz:∀a o u,H a=some (.frz o u)->H' a=some (.frz o u)
structure Gr (ι:List Addr) (H:Hp) (ι':List Addr) (H':Hp):Prop where
 pre:∃m,ι'=ι++m/\∀a∈m,H a=none
 tup:∀a vs,H a=some (.tup vs)->H' a=some (.tup vs)
 frz:∀a o u,H a=some (.frz o u)->H' a=some (.frz o u)
 oth:∀a u,H a=some u->a∉ι->H' a=some u
 kp:∀a u,H a=some u->∃u',H' a=some u'
theorem Gr.w(g:Gr ι H ι' H'):Gw ι H ι' H':=⟨let ⟨m,e,_⟩:=g.pre; ⟨m,e⟩,g.tup,g.frz⟩
theorem Gr.refl(ι:List Addr)(H:Hp):Gr ι H ι H:=⟨⟨[],by simp,by simp⟩,λ_ _ h=>h,λ_ _ _ h=>h,λ_ _ h _=>h,λ_ u h=>⟨u,h⟩⟩
theorem Gr.trans(a:Gr ι H ι1 H1)(b:Gr ι1 H1 ι2 H2):Gr ι H ι2 H2:=by
 obtain⟨m,rfl,hm⟩:=a.pre;obtain⟨n,rfl,hn⟩:=b.pre;refine⟨⟨m++n,by simp,λx hx=>?_⟩,λx vs h=>b.tup x vs (a.tup x vs h),λx o u h=>b.frz x o u (a.frz x o u h),λx u h hx=>?_,λx u h=>?_⟩
 ·rcases aY.mp hx with hx|hx
  ·exact hm x hx
  ·cases e:H x with
   |none=>rfl
   |some u =>
    obtain⟨u',e'⟩:=a.kp x u e;rw[hn x hx]at e';cases e'
 ·refine b.oth x u (a.oth x u h hx) λz=>?_
  rcases aY.mp z with z|z
  ·exact hx z
  ·rw[hm x z]at h;cases h
 ·obtain⟨u',e⟩:=a.kp x u h;exact b.kp x u' e
theorem Gw.at(g:Gw ι H ι' H'){i:Nat}(h:ι[i]? = some a):ι'[i]? = some a:=by
 obtain⟨m,rfl⟩:=g.pre;rw[aM (ag.mp h).1];exact h
theorem Gr.at(g:Gr ι H ι' H'){i:Nat}(h:ι[i]? = some a):ι'[i]? = some a:=g.w.at h
theorem SqF.monoW(g:Gw ι H ι' H')(h:SqF K H a vs):SqF K H' a vs:=by
 rcases h with⟨o,h⟩|h
 ·exact .inl ⟨o,g.frz _ _ _ h⟩
 ·exact .inr h
theorem SqZ.monoW(g:Gw ι H ι' H')(h:SqZ H a vs):SqZ H' a vs:=let ⟨o,e⟩:=h; ⟨o,g.frz _ _ _ e⟩
theorem SqZ.mono(g:Gr ι H ι' H')(h:SqZ H a vs):SqZ H' a vs:=h.monoW g.w
mutual
theorem Rep.monoW(g:Gw ι H ι' H'):∀{v:V} {d:D},Rep K ι H v d->Rep K ι' H' v d
 |_,_,.non=>.non
 |_,_,.bl b=>.bl b
 |_,_,.int i=>.int i
 |_,_,.str x=>.str x
 |_,_,.ty n=>.ty n
 |_,_,.tup h r=>.tup (g.tup _ _ h) (Reps.monoW g r)
 |_,_,.rol h r=>.rol (h.monoW g) (Reps.monoW g r)
 |_,_,.scr h r=>.scr (h.monoW g) (Reps.monoW g r)
 |_,_,.ref h=>.ref (g.at h)
 |_,_,.rod h e r=>.rod (g.frz _ _ _ h) e (Reps.monoW g r)
 |_,_,.rdT h e r=>.rdT (g.frz _ _ _ h) e (Reps.monoW g r)
 |_,_,.exc h hc hn=>.exc (g.frz _ _ _ h) hc hn
 |_,_,.ins h hn e r=>.ins (g.frz _ _ _ h) hn e (Reps.monoW g r)
theorem Reps.monoW(g:Gw ι H ι' H'):∀{vs:List V} {ds:List D},Reps K ι H vs ds->Reps K ι' H' vs ds
 |_,_,.nil=>.nil
 |_,_,.cons r rs=>.cons (Rep.monoW g r) (Reps.monoW g rs)
end
theorem Rep.mono(g:Gr ι H ι' H')(r:Rep K ι H v d):Rep K ι' H' v d:=r.monoW g.w
theorem Reps.mono(g:Gr ι H ι' H')(r:Reps K ι H vs ds):Reps K ι' H' vs ds:=r.monoW g.w
section
variable{K:Fg}{ι:List Addr}{H:Hp}
theorem Reps.len:Reps K ι H vs ds->vs.length=ds.length
 |.nil=>rfl
 |.cons _ rs=>by rw[aW,aW,rs.len]
theorem Reps.get:∀{vs:List V} {ds:List D} {i:Nat} {d:D},Reps K ι H vs ds->ds[i]? = some d->∃v,vs[i]? = some v/\Rep K ι H v d
 |_,_,_,_,.nil,e=>by simp at e
 |_,_,0,_,.cons r _,e=>by simp at e;subst e;exact⟨_,rfl,r⟩
 |_,_,i+1,d,.cons _ rs,e=>by
  obtain⟨u,h1,h2⟩:=Reps.get (i:=i) (d:=d) rs (by simpa using e)
  exact⟨u,by simpa using h1,h2⟩
theorem Reps.app:∀{vs us:List V} {ds es:List D},Reps K ι H vs ds->Reps K ι H us es->Reps K ι H (vs++us) (ds++es)
 |_,_,_,_,.nil,s=>s
 |_,_,_,_,.cons r rs,s=>.cons r (Reps.app rs s)
theorem Reps.set(q:Rep K ι H v d):∀{vs:List V} {ds:List D} (i:Nat),Reps K ι H vs ds->Reps K ι H (vs.set i v) (ds.set i d)
 |_,_,_,.nil=>.nil
 |_,_,0,.cons _ rs=>.cons q rs
 |_,_,i+1,.cons r rs=>.cons r (Reps.set q i rs)
theorem Reps.take:∀{vs:List V} {ds:List D} (n:Nat),Reps K ι H vs ds->Reps K ι H (vs.take n) (ds.take n)
 |_,_,0,_=>.nil
 |_,_,_+1,.nil=>.nil
 |_,_,n+1,.cons r rs=>.cons r (Reps.take n rs)
theorem Reps.drop:∀{vs:List V} {ds:List D} (n:Nat),Reps K ι H vs ds->Reps K ι H (vs.drop n) (ds.drop n)
 |_,_,0,r=>r
 |_,_,_+1,.nil=>.nil
 |_,_,n+1,.cons _ rs=>Reps.drop n rs
theorem Reps.snoc(r:Reps K ι H vs ds)(q:Rep K ι H v d):Reps K ι H (vs++[v]) (ds++[d]):=r.app (.cons q .nil)
theorem Reps.flat:∀{vs:List V} {ds:List D} (k:Nat),Reps K ι H vs ds->Reps K ι H (List.replicate k vs).flatten (List.replicate k ds).flatten
 |_,_,0,_=>.nil
 |vs,ds,k+1,r=>by
  rw[cA,cA,cJ,cJ];exact r.app (Reps.flat k r)
end
def KRep{κ:Type}(K:Fg)(ι:List Addr)(H:Hp)(us:List (κ×V))(kvs:List (κ×D)):Prop:=us.map (·.1)=kvs.map (·.1)/\Reps K ι H (us.map (·.2)) (kvs.map (·.2))
def ORep(K:Fg)(ι:List Addr)(H:Hp)(a:Addr):O->Prop
 |.lst xs=>∃vs,H a=some (.lst vs)/\Reps K ι H vs xs
 |.dK kvs=>∃us,H a=some (.dK us)/\KRep K ι H us kvs
 |.dT kvs=>∃us,H a=some (.dT us)/\KRep K ι H us kvs
 |.ins c fs=>∃C dx us,H a=some (.ins C dx us)/\PySem.W.nsIn K mainGlobals c=some (some (.ref C))/\KRep K ι H us fs
structure HRep (K:Fg) (ι:List Addr) (H:Hp) (h:Hd):Prop where
 nd:ι.Nodup
 len:ι.length=h.length
 obj:∀(i:Nat) (a:Addr) (o:O),ι[i]? = some a->h[i]? = some o->ORep K ι H a o
section
variable{K:Fg}{ι:List Addr}{H:Hp}{h:Hd}
theorem ORep.some(r:ORep K ι H a o):∃u,H a=some u/\(∀vs,u≠.tup vs)/\(∀o' u',u≠.frz o' u'):=by
 cases o with
 |lst xs=>obtain⟨vs,e,_⟩:=r;exact⟨_,e,λ_ z=>(by cases z),λ_ _ z=>(by cases z)⟩
 |dK kvs=>obtain⟨us,e,_⟩:=r;exact⟨_,e,λ_ z=>(by cases z),λ_ _ z=>(by cases z)⟩
 |dT kvs=>obtain⟨us,e,_⟩:=r;exact⟨_,e,λ_ z=>(by cases z),λ_ _ z=>(by cases z)⟩
 |ins c fs=>obtain⟨C,dx,us,e,_⟩:=r;exact⟨_,e,λ_ z=>(by cases z),λ_ _ z=>(by cases z)⟩
theorem HRep.at(r:HRep K ι H h){i:Nat}(e:ι[i]? = some a):∃o,h[i]? = some o/\ORep K ι H a o:=by
 have hi:i<h.length:=by rw[<-r.len];exact(ag.mp e).1
 exact⟨h[i],af hi,r.obj i a _ e (af hi)⟩
theorem HRep.addr(r:HRep K ι H h){i:Nat}(e:h[i]? = some o):∃a,ι[i]? = some a/\ORep K ι H a o:=by
 have hi:i<ι.length:=by rw[r.len];exact(ag.mp e).1
 exact⟨ι[i],af hi,r.obj i _ o (af hi) e⟩
theorem HRep.notin(r:HRep K ι H h)(e:H p=none):p∉ι:=λz=>by
 obtain⟨i,hi⟩:=bX z;obtain⟨o,_,q⟩:=r.at hi;obtain⟨u,q,_⟩:=q.some;rw[e]at q;cases q
theorem ORep.monoW(g:Gw ι H ι' H')(e:H' a=H a)(r:ORep K ι H a o):ORep K ι' H' a o:=by
 cases o with
 |lst xs=>obtain⟨vs,h1,h2⟩:=r;exact⟨vs,by rw[e];exact h1,h2.monoW g⟩
 |dK kvs=>obtain⟨us,h1,h2,h3⟩:=r;exact⟨us,by rw[e];exact h1,h2,h3.monoW g⟩
 |dT kvs=>obtain⟨us,h1,h2,h3⟩:=r;exact⟨us,by rw[e];exact h1,h2,h3.monoW g⟩
 |ins c fs=>obtain⟨C,dx,us,h1,hn,h2,h3⟩:=r;exact⟨C,dx,us,by rw[e];exact h1,hn,h2,h3.monoW g⟩
theorem ORep.mono(g:Gr ι H ι' H')(e:H' a=H a)(r:ORep K ι H a o):ORep K ι' H' a o:=r.monoW g.w e
theorem a3n(e:H p=none)(o:HO):Gr ι H ι (upd H p o) :=
 ⟨⟨[],by simp,by simp⟩,λa vs h=>by rw[jr (jy h e)];exact h,λa o u h=>by rw[jr (jy h e)];exact h,λa u h _=>by rw[jr (jy h e)];exact h,λa u h=>⟨u,by rw[jr (jy h e)];exact h⟩⟩
theorem HRep.aside(r:HRep K ι H h)(e:H p=none)(o:HO):HRep K ι (upd H p o) h:=by
 refine⟨r.nd,r.len,λi a o' e1 e2=>?_⟩;have q:=r.obj i a o' e1 e2;obtain⟨u,hu,_⟩:=q.some;exact q.mono (a3n e o) (jr (jy hu e))
theorem aea(e:H p=none)(o:HO):Gr ι H (ι++[p]) (upd H p o) :=
 ⟨⟨[p],rfl,by simpa using e⟩,(a3n (ι:=ι) e o).tup,(a3n (ι:=ι) e o).frz,(a3n (ι:=ι) e o).oth,(a3n (ι:=ι) e o).kp⟩
theorem HRep.add(r:HRep K ι H h)(e:H p=none)(q:ORep K (ι++[p]) (upd H p o) p ob):HRep K (ι++[p]) (upd H p o) (h++[ob]):=by
 refine⟨?_,by simp[r.len],λi a o' e1 e2=>?_⟩
 ·rw[cC];exact⟨r.nd,by simp,λa ha b hb z=>r.notin e (by rw[av.mp hb]at z;rw[<-z];exact ha)⟩
 ·by_cases hi:i<ι.length
  ·rw[aM hi]at e1;rw[aM (by rw[<-r.len];exact hi)]at e2
   have q:=r.obj i a o' e1 e2;obtain⟨u,hu,_⟩:=q.some;exact q.mono (aea e o) (jr (jy hu e))
  ·have hi2:i<(ι++[p]).length:=(ag.mp e1).1;have:i=ι.length:=by simp at hi2;omega
   subst this;rw[aO (aJ _)]at e1;rw[r.len,aO (aJ _)]at e2;simp at e1 e2;subst e1 e2;exact q
theorem a2p{i:Nat}(r:HRep K ι H h)(e:ι[i]? = some a)(o:HO):Gr ι H ι (upd H a o):=by
 obtain⟨_,_,q⟩:=r.at e;obtain⟨u,hu,n1,n2⟩:=q.some;refine⟨⟨[],by simp,by simp⟩,λb vs hb=>?_,λb o' u' hb=>?_,λb u' hb hn=>?_,λb u' hb=>?_⟩
 ·rw[jr (λz=>by subst z;rw[hu]at hb;exact n1 _ (bO hb))];exact hb
 ·rw[jr (λz=>by subst z;rw[hu]at hb;exact n2 _ _ (bO hb))];exact hb
 ·rw[jr (λz=>hn (by subst z;exact aQ e))];exact hb
 ·by_cases z:b=a
  ·subst z;exact⟨o,qu⟩
  ·exact⟨u',by rw[jr z];exact hb⟩
theorem HRep.put(r:HRep K ι H h){i:Nat}(e:ι[i]? = some a)(q:ORep K ι (upd H a o) a ob):HRep K ι (upd H a o) (h.set i ob):=by
 refine⟨r.nd,by rw[cI];exact r.len,λj b o' e1 e2=>?_⟩
 by_cases hj:i=j
 ·subst hj;rw[e]at e1;cases e1
  have hi:i<h.length:=by rw[<-r.len];exact(ag.mp e).1
  rw[bC hi]at e2;cases e2
  exact q
 ·rw[bK hj]at e2;have hne:b≠a:=λz=>by
   subst z;obtain⟨h1,g1⟩:=ag.mp e;obtain⟨h2,g2⟩:=ag.mp e1;have np:=bP.mp r.nd
   rcases Nat.lt_or_gt_of_ne hj with l|l
   ·exact np i j h1 h2 l (g1.trans g2.symm)
   ·exact np j i h2 h1 l (g2.trans g1.symm)
  exact(r.obj j b o' e1 e2).mono (a2p r e o) (jr hne)
end
structure SRep (K:Fg) (ι:List Addr) (H:Hp) (σ:St) (τ:Sd):Prop where
 len:σ.length=τ.length
 val:∀(i:Nat) (d:D),τ[i]? = some (some d)->∃v,σ[i]? = some (some v)/\Rep K ι H v d
theorem SRep.mono(g:Gr ι H ι' H')(s:SRep K ι H σ τ):SRep K ι' H' σ τ :=
 ⟨s.len,λi d e=>let ⟨v,h1,h2⟩:=s.val i d e; ⟨v,h1,h2.mono g⟩⟩
theorem SRep.set(s:SRep K ι H σ τ)(r:Rep K ι H v d)(i:Nat):SRep K ι H (σ.set i (some v)) (τ.set i (some d)):=by
 refine⟨by simp[s.len],λj d' e=>?_⟩
 by_cases hj:i=j
 ·subst hj;have hi:i<τ.length:=by
   have:=(ag.mp e).1
   simpa using this
  rw[bC hi]at e;cases e
  exact⟨v,by rw[bC (by rw[s.len];exact hi)],r⟩
 ·rw[bK hj]at e ⊢;exact s.val j d' e
abbrev XD:=Str->List Addr->Hp->Hd->Prop
def out{α β:Type}(K:Fg)(E:XD)(Rp:List Addr->Hp->β->α->Prop)(ι:List Addr)(H:Hp)(r:R α)(Q:β->Hp->Prop):Prop :=
 match r with
 |.ok a h=>∀ι' H' b,Gr ι H ι' H'->Rp ι' H' b a->HRep K ι' H' h->Q b H'
 |.ex c h=>∀ι' H',Gr ι H ι' H'->HRep K ι' H' h->E c ι' H' h
 |.no=>False
theorem a7r{α β:Type}{K:Fg}{E:XD}{Rp:List Addr->Hp->β->α->Prop}{ι ι1:List Addr}{H H1:Hp}{r:R α}{Q:β->Hp->Prop}(o:out K E Rp ι H r Q)(g:Gr ι H ι1 H1):out K E Rp ι1 H1 r Q:=by
 cases r with
 |ok a h=>exact λι' H' b g'=>o ι' H' b (g.trans g')
 |ex c h=>exact λι' H' g'=>o ι' H' (g.trans g')
 |no=>exact o
theorem ig{α β γ δ:Type}{K:Fg}{E:XD}{Rp:List Addr->Hp->β->α->Prop}{Sp:List Addr->Hp->δ->γ->Prop}{ι:List Addr}{H:Hp}{r:R α}{k:α->Hd->R γ}{Q:δ->Hp->Prop}{P:β->Hp->Prop}
  (o:out K E Sp ι H (r.bind k) Q) (hP:∀a h ι1 H1 b,Gr ι H ι1 H1->Rp ι1 H1 b a->HRep K ι1 H1 h->out K E Sp ι1 H1 (k a h) Q->P b H1):out K E Rp ι H r P:=by
 cases r with
 |ok a h=>exact λι' H' b g r' hr=>hP a h ι' H' b g r' hr (a7r o g)
 |ex c h=>exact o
 |no=>exact o
abbrev a3u(K:Fg):List Addr->Hp->V->D->Prop:=λι H v d=>Rep K ι H v d
abbrev ayy(K:Fg):List Addr->Hp->List V->List D->Prop:=λι H v d=>Reps K ι H v d
abbrev axl:List Addr->Hp->Bool->Bool->Prop:=λ_ _ a b=>a=b
abbrev b1k:List Addr->Hp->Option Int->Option Int->Prop:=λ_ _ a b=>a=b
def akb(K:Fg)(E:XD)(ι:List Addr)(H:Hp)(r:Fl)(N:Ends):Prop :=
 match r with
 |.nx τ h=>∀ι' H' σ,Gr ι H ι' H'->SRep K ι' H' σ τ->HRep K ι' H' h->N.nx σ H'
 |.bk τ h=>∀ι' H' σ,Gr ι H ι' H'->SRep K ι' H' σ τ->HRep K ι' H' h->N.bk σ H'
 |.ct τ h=>∀ι' H' σ,Gr ι H ι' H'->SRep K ι' H' σ τ->HRep K ι' H' h->N.ct σ H'
 |.rt d h=>∀ι' H' v,Gr ι H ι' H'->Rep K ι' H' v d->HRep K ι' H' h->N.rt v H'
 |.ex c h=>∀ι' H',Gr ι H ι' H'->HRep K ι' H' h->E c ι' H' h
 |.no=>False
theorem yo(o:akb K E ι H r N)(g:Gr ι H ι1 H1):akb K E ι1 H1 r N:=by
 cases r with
 |nx τ h=>exact λι' H' b g'=>o ι' H' b (g.trans g')
 |bk τ h=>exact λι' H' b g'=>o ι' H' b (g.trans g')
 |ct τ h=>exact λι' H' b g'=>o ι' H' b (g.trans g')
 |rt d h=>exact λι' H' b g'=>o ι' H' b (g.trans g')
 |ex c h=>exact λι' H' g'=>o ι' H' (g.trans g')
 |no=>exact o
theorem ul{α β:Type}{K:Fg}{E:XD}{Rp:List Addr->Hp->β->α->Prop}{ι:List Addr}{H:Hp}{r:R α}{k:α->Hd->Fl}{N:Ends}{P:β->Hp->Prop}
  (o:akb K E ι H (r.fl k) N) (hP:∀a h ι1 H1 b,Gr ι H ι1 H1->Rp ι1 H1 b a->HRep K ι1 H1 h->akb K E ι1 H1 (k a h) N->P b H1):out K E Rp ι H r P:=by
 cases r with
 |ok a h=>exact λι' H' b g r' hr=>hP a h ι' H' b g r' hr (yo o g)
 |ex c h=>exact o
 |no=>exact o
def lift{α β:Type}(K:Fg)(E:XD)(Rp:List Addr->Hp->β->α->Prop)(f:Sd->Hd->R α):St->Hp->(β->Hp->Prop)->Prop:=λσ H Q =>
 ∃ι τ h,SRep K ι H σ τ/\HRep K ι H h/\out K E Rp ι H (f τ h) Q
def aa0(K:Fg)(E:XD)(f:SS):TS:=λN σ H=>∃ι τ h,SRep K ι H σ τ/\HRep K ι H h/\akb K E ι H (f τ h) N
abbrev ME(X:Cx)(E:XD)(e:Expr)(f:SE):Prop:=PE X e (lift X.K E (a3u X.K) f)
abbrev MT(X:Cx)(E:XD)(e:Expr)(f:ST):Prop:=PT X e (lift X.K E axl f)
abbrev MW(X:Cx)(E:XD)(e:Expr)(f:ST):Prop:=PW X e (lift X.K E axl f)
abbrev MA(X:Cx)(E:XD)(es:List Expr)(f:SA):Prop:=PA X es (lift X.K E (ayy X.K) f)
abbrev MS(X:Cx)(E:XD)(st:Stmt)(f:SS):Prop:=PS X st (aa0 X.K E f)
abbrev MSs(X:Cx)(E:XD)(st:List Stmt)(f:SS):Prop:=PSs X st (aa0 X.K E f)
theorem PE.weak(h:PE X e t)(i:∀σ H Q,t' σ H Q->t σ H Q):PE X e t':=λaA s σ H Q I q=>h aA s σ H Q I (i _ _ _ q)
theorem PT.weak(h:PT X e t)(i:∀σ H Q,t' σ H Q->t σ H Q):PT X e t':=λaA s σ H Q I q=>h aA s σ H Q I (i _ _ _ q)
theorem PW.weak(h:PW X e t)(i:∀σ H Q,t' σ H Q->t σ H Q):PW X e t':=λwh aA s σ H Q I q=>h wh aA s σ H Q I (i _ _ _ q)
theorem PA.weak(h:PA X e t)(i:∀σ H Q,t' σ H Q->t σ H Q):PA X e t':=λpos aA s σ H Q I q=>h pos aA s σ H Q I (i _ _ _ q)
theorem PS.weak(h:PS X e t)(i:∀N σ H,t' N σ H->t N σ H):PS X e t':=λaA s σ H N I q=>h aA s σ H N I (i _ _ _ q)
theorem PSs.weak(h:PSs X e t)(i:∀N σ H,t' N σ H->t N σ H):PSs X e t':=λaA s σ H N I q=>h aA s σ H N I (i _ _ _ q)
abbrev LINE:Nat:=16777216
theorem ll{n:Nat}(h:n<=LINE):n<=sizeLine:=api h
def sV(i:Nat):SE:=λτ h=>match τ[i]? with|some (some d)=>.ok d h|_=>.no
def sC(d:D):SE:=λ_ h=>.ok d h
abbrev sI(i:Int):SE:=sC (.int i)
section
variable{X:Cx}{E:XD}{a b c e:Expr}{fa fb fc:SE}{pos:Pos}
theorem bh(i:Nat)(hN:X.N[i]? = some x:=by rfl)(hv:Vis X.env.scope x:=by first|exact Or.inl rfl|exact Or.inr (Or.inl rfl)|exact Or.inr (Or.inr rfl))(hd:(x == ("__debug__" : Str))=false:=by decide)
  (hcd:(x == ("__classdict__" : Str))=false:=by decide):ME X E (.Name x pos) (sV i):=by
 refine PE.weak (asj hN hv hd hcd) ?_
 rintro σ H Q ⟨ι,τ,h,S,Rh,o⟩
 unfold sV at o
 split at o
 ·rename_i d e;obtain⟨v,h1,h2⟩:=S.val i d e;exact⟨v,h1,o ι H v (.refl _ _) h2 Rh⟩
 ·exact o.elim
theorem au4(h:PE X e (tC v))(r:∀ι H,Rep X.K ι H v d):ME X E e (sC d) :=
 PE.weak h λσ H Q ⟨ι,τ,h,S,Rh,o⟩=>o ι H v (.refl _ _) (r ι H) Rh
theorem bj{i j pos}:ME X E (.Constant (.int i) j pos) (sC (.int i)):=au4 asl λ_ _=>.int i
theorem a7l{i j pos}:ME X E (.Constant (.bool i) j pos) (sC (.bl i)):=au4 axy λ_ _=>.bl i
theorem uh{i j pos}:ME X E (.Constant (.str i) j pos) (sC (.str i)):=au4 asn λ_ _=>.str i
theorem a2q{j pos}:ME X E (.Constant .none j pos) (sC .non):=au4 asm λ_ _=>.non
theorem abo(hg:Gl X x)(hm:X.mg x=none)(hv:bootBuiltins x=some (.type n))(hn:x ≠ "__name__":=by decide)(hd:(x == ("__debug__" : Str))=false:=by decide):ME X E (.Name x pos) (sC (.ty n)) :=
 au4 (aok (v:=.ty n) hg hm hv rfl hn hd) λ_ _=>.ty n
def s2(g:D->D->Hd->R D)(fa fb:SE):SE:=λτ h=>(fa τ h).bind λx h1=>(fb τ h1).bind λy h2=>g x y h2
def s1(g:D->Hd->R D)(fa:SE):SE:=λτ h=>(fa τ h).bind g
def a3y(K:Fg)(g:D->D->Hd->R D)(r:R2):Prop:=∀(E:XD) ι H h x y dx dy Q,Rep K ι H x dx->Rep K ι H y dy->HRep K ι H h->out K E (a3u K) ι H (g dx dy h) Q->r x y H Q
def b1l(K:Fg)(g:D->Hd->R D)(r:V->Hp->VK->Prop):Prop:=∀(E:XD) ι H h x dx Q,Rep K ι H x dx->HRep K ι H h->out K E (a3u K) ι H (g dx h) Q->r x H Q
def agk(K:Fg)(g:List D->Hd->R D)(r:List V->Hp->VK->Prop):Prop:=∀(E:XD) ι H h xs ds Q,Reps K ι H xs ds->HRep K ι H h->out K E (a3u K) ι H (g ds h) Q->r xs H Q
theorem axm(hs:a3y K g r)(q:lift K E (a3u K) (s2 g fa fb) σ H Q):tOp r (lift K E (a3u K) fa) (lift K E (a3u K) fb) σ H Q:=by
 obtain⟨ι,τ,h,S,Rh,o⟩:=q;refine⟨ι,τ,h,S,Rh,ig o λd h1 ι1 H1 v g1 r1 hr1 o1=>?_⟩;refine⟨ι1,τ,h1,S.mono g1,hr1,ig o1 λd2 h2 ι2 H2 u g2 r2 hr2 o2=>?_⟩;exact hs E ι2 H2 h2 v u d d2 Q (r1.mono g2) r2 hr2 o2
theorem ad9(ho:OpR X (binaryOp op) r)(hs:a3y X.K g r)(ha:ME X E a fa)(hb:ME X E b fb):ME X E (.BinOp a op b pos) (s2 g fa fb) :=
 PE.weak (ayc ho ha hb) λσ H Q q=>axm hs q
theorem a5j(ho:OpR X (compareOp op) r)(hs:a3y X.K g r)(ha:ME X E a fa)(hb:ME X E b fb)(hm:behindInMarks op b=false):ME X E (.Compare a [op] [b] pos) (s2 g fa fb) :=
 PE.weak (aos ho ha hb hm) λσ H Q q=>axm hs q
theorem ayz(ho:UnR X (unaryOp op) r)(hs:b1l X.K g r)(ha:ME X E a fa):ME X E (.UnaryOp op a pos) (s1 g fa):=by
 refine PE.weak (ayd ho ha) ?_
 rintro σ H Q ⟨ι,τ,h,S,Rh,o⟩
 exact⟨ι,τ,h,S,Rh,ig o λd h1 ι1 H1 v g1 r1 hr1 o1=>hs E ι1 H1 h1 v d Q r1 hr1 o1⟩
theorem az0(ho:IxR X r)(hs:a3y X.K g r)(ha:ME X E a fa)(hb:ME X E b fb)(hp:a9v b):ME X E (.Subscript a b pos) (s2 g fa fb) :=
 PE.weak (ayo ho ha hb hp) λσ H Q q=>axm hs q
def asB(d:D)(h:Hd):R Bool:=match d with|.bl b=>.ok b h|_=>.no
def sT(f:SE):ST:=λτ h=>(f τ h).bind asB
theorem apl(hi:∀σ H Q,lift K E (a3u K) f σ H Q->t σ H Q)(q:lift K E axl (sT f) σ H Q):atg t σ H Q:=by
 refine hi σ H _ ?_;obtain⟨ι,τ,h,S,Rh,o⟩:=q;refine⟨ι,τ,h,S,Rh,ig o λd h1 ι1 H1 v g1 r1 hr1 o1=>?_⟩
 cases r1 with
 |bl b=>exact⟨b,rfl,o1 ι1 H1 b (.refl _ _) rfl hr1⟩
 |_=>exact o1.elim
theorem aa1(ho:OpR X (compareOp op) r)(hs:a3y X.K g r)(ha:ME X E a fa)(hb:ME X E b fb)(hm:behindInMarks op b=false):MT X E (.Compare a [op] [b] pos) (sT (s2 g fa fb)) :=
 PT.weak (aot ho ha hb hm) λσ H Q q=>apl (λ_ _ _=>axm hs) q
def sCh(g g':D->D->Hd->R D)(fa fb fc:SE):SE:=λτ h=>(fa τ h).bind λx h1=>(fb τ h1).bind λy h2=>(g x y h2).bind λz h3=>match z with
 |.bl true=>(fc τ h3).bind λw h4=>g' y w h4
 |.bl false=>.ok (.bl false) h3
 |_=>.no
def tru(d:D)(h:Hd):R Bool:=match d with
 |.non=>.ok false h
 |.bl b=>.ok b h
 |.int i=>.ok (i != 0) h
 |.str x=>if x.length<=LINE then .ok ((x.length:Int) != 0) h else .no
 |.tup xs=>.ok (!xs.isEmpty) h
 |.rol xs=>.ok (!xs.isEmpty) h
 |.ref i=>match h[i]? with
  |some (.lst xs)=>.ok (!xs.isEmpty) h
  |some (.dK kvs)=>.ok (!kvs.isEmpty) h
  |_=>.no
 |_=>.no
theorem Reps.emp{K:Fg}{ι:List Addr}{H:Hp}{vs:List V}{ds:List D}(r:Reps K ι H vs ds):vs.isEmpty=ds.isEmpty:=by cases r<;>rfl
theorem KRep.emp{κ:Type}{K:Fg}{ι:List Addr}{H:Hp}{us:List (κ×V)}{kvs:List (κ×D)}(r:KRep K ι H us kvs):us.isEmpty=kvs.isEmpty:=by
 have:=aN List.length r.1
 cases us<;>cases kvs<;>simp at this ⊢
theorem apm{K:Fg}{ι:List Addr}{H:Hp}{h:Hd}{x:V}{d:D}{Q:Bool->Hp->Prop}(r:Rep K ι H x d)(hr:HRep K ι H h)(o:out K E axl ι H (tru d h) Q):∃k,ayh K x H k/\Q k H:=by
 cases r with
 |non=>exact⟨false,rfl,o ι H _ (.refl _ _) rfl hr⟩
 |bl b=>exact⟨b,rfl,o ι H _ (.refl _ _) rfl hr⟩
 |int i=>exact⟨_,rfl,o ι H _ (.refl _ _) rfl hr⟩
 |str x =>
  by_cases hl:x.length<=LINE
  ·simp only[tru,aR hl]at o;exact⟨_,⟨ll hl,rfl⟩,o ι H _ (.refl _ _) rfl hr⟩
  ·simp only[tru,bE hl]at o;exact o.elim
 |ty n=>exact o.elim
 |rod _ _ _=>exact o.elim
 |scr _ _=>exact o.elim
 |rdT _ _ _=>exact o.elim
 |exc _ _ _=>exact o.elim
 |ins _ _ _ _=>exact o.elim
 |tup e rs=>exact⟨_,.inr (.inl ⟨_,SqT.of e,rfl⟩),by rw[rs.emp];exact o ι H _ (.refl _ _) rfl hr⟩
 |rol e rs=>exact⟨_,.inl ⟨_,e.l,rfl⟩,by rw[rs.emp];exact o ι H _ (.refl _ _) rfl hr⟩
 |@ref a i e =>
  obtain⟨ob,h1,h2⟩:=hr.at e;simp only[tru,h1]at o
  cases ob with
  |lst xs =>
   obtain⟨vs,h3,h4⟩:=h2;exact⟨_,.inl ⟨_,SqL.of h3,rfl⟩,by rw[h4.emp];exact o ι H _ (.refl _ _) rfl hr⟩
  |dK kvs =>
   obtain⟨us,h3,h4⟩:=h2;exact⟨_,.inr (.inr ⟨_,h3,rfl⟩),by rw[h4.emp];exact o ι H _ (.refl _ _) rfl hr⟩
  |dT kvs=>exact o.elim
  |ins _ _=>exact o.elim
def a4m(f:SE):ST:=λτ h=>(f τ h).bind tru
theorem xm(ha:ME X E a fa)(he:∀whole,isTrue a X.env whole=(do let v <-whole;standAt a.pos;holding [v] (truthy v)):=by intro _;rfl):MT X E a (a4m fa):=by
 refine PT.weak (aks ha he) ?_
 rintro σ H Q ⟨ι,τ,h,S,Rh,o⟩
 exact⟨ι,τ,h,S,Rh,ig o λd h1 ι1 H1 v g1 r1 hr1 o1=>apm r1 hr1 o1⟩
def a8c(f g:ST):ST:=λτ h=>(f τ h).bind λb h1=>if b=true then g τ h1 else .ok false h1
def sOr(f g:ST):ST:=λτ h=>(f τ h).bind λb h1=>if b=true then .ok true h1 else g τ h1
def a6y(f:ST):ST:=λτ h=>(f τ h).bind λb h1=>.ok (!b) h1
variable{ga gb:ST}
theorem a5k(ha:MT X E a ga):MW X E (.BoolOp .And [a] pos) ga:=aol ha
theorem a2r(ha:MT X E a ga):MW X E (.BoolOp .Or [a] pos) ga:=aso ha
theorem a8d{aF:List Expr}(ha:MT X E a ga)(hb:MW X E (.BoolOp .And (b::aF) pos) gb):MW X E (.BoolOp .And (a::b::aF) pos) (a8c ga gb):=by
 refine PW.weak (asp ha hb) ?_
 rintro σ H Q ⟨ι,τ,h,S,Rh,o⟩
 refine⟨ι,τ,h,S,Rh,ig o λd h1 ι1 H1 v g1 r1 hr1 o1=>?_⟩;cases r1
 cases d with
 |true=>exact⟨ι1,τ,h1,S.mono g1,hr1,o1⟩
 |false=>exact o1 ι1 H1 false (.refl _ _) rfl hr1
theorem a5l{aF:List Expr}(ha:MT X E a ga)(hb:MW X E (.BoolOp .Or (b::aF) pos) gb):MW X E (.BoolOp .Or (a::b::aF) pos) (sOr ga gb):=by
 refine PW.weak (axz ha hb) ?_
 rintro σ H Q ⟨ι,τ,h,S,Rh,o⟩
 refine⟨ι,τ,h,S,Rh,ig o λd h1 ι1 H1 v g1 r1 hr1 o1=>?_⟩;cases r1
 cases d with
 |true=>exact o1 ι1 H1 true (.refl _ _) rfl hr1
 |false=>exact⟨ι1,τ,h1,S.mono g1,hr1,o1⟩
theorem a0o(ha:MT X E a ga):MT X E (.UnaryOp .Not a pos) (a6y ga):=by
 refine PT.weak (asq ha) ?_
 rintro σ H Q ⟨ι,τ,h,S,Rh,o⟩
 refine⟨ι,τ,h,S,Rh,ig o λd h1 ι1 H1 v g1 r1 hr1 o1=>?_⟩;cases r1
 exact o1 ι1 H1 _ (.refl _ _) rfl hr1
def a5v(f g:SE):SE:=λτ h=>(f τ h).bind λd h1=>match d with|.bl true=>g τ h1|.bl false=>.ok (.bl false) h1|_=>.no
def axn(f g:SE):SE:=λτ h=>(f τ h).bind λd h1=>match d with|.bl true=>.ok (.bl true) h1|.bl false=>g τ h1|_=>.no
def aa2(f:SE):SE:=λτ h=>(f τ h).bind λd h1=>match d with|.bl b=>.ok (.bl (!b)) h1|_=>.no
theorem aht{op}(ha:ME X E a fa):ME X E (.BoolOp op [a] pos) fa:=asr ha
theorem ahu{aF:List Expr}(ha:ME X E a fa)(hb:ME X E (.BoolOp .And (b::aF) pos) fb):ME X E (.BoolOp .And (a::b::aF) pos) (a5v fa fb):=by
 refine PE.weak (ass ha hb) ?_
 rintro σ H Q ⟨ι,τ,h,S,Rh,o⟩
 refine⟨ι,τ,h,S,Rh,ig o λd h1 ι1 H1 v g1 r1 hr1 o1=>?_⟩
 cases r1 with
 |bl k =>
  refine⟨k,rfl,?_⟩
  cases k with
  |true=>exact⟨ι1,τ,h1,S.mono g1,hr1,o1⟩
  |false=>exact o1 ι1 H1 _ (.refl _ _) (.bl _) hr1
 |_=>exact o1.elim
theorem au5(ha:ME X E a fa):ME X E (.UnaryOp .Not a pos) (aa2 fa):=by
 refine PE.weak (asu ha) ?_
 rintro σ H Q ⟨ι,τ,h,S,Rh,o⟩
 refine⟨ι,τ,h,S,Rh,ig o λd h1 ι1 H1 v g1 r1 hr1 o1=>?_⟩
 cases r1 with
 |bl k=>exact⟨k,rfl,o1 ι1 H1 _ (.refl _ _) (.bl _) hr1⟩
 |_=>exact o1.elim
def acu(c:ST)(f g:SE):SE:=λτ h=>(c τ h).bind λb h1=>if b=true then f τ h1 else g τ h1
theorem abp(hc:MT X E c ga)(ha:ME X E a fa)(hb:ME X E b fb):ME X E (.IfExp c a b pos) (acu ga fa fb):=by
 refine PE.weak (akl hc ha hb) ?_
 rintro σ H Q ⟨ι,τ,h,S,Rh,o⟩
 refine⟨ι,τ,h,S,Rh,ig o λd h1 ι1 H1 v g1 r1 hr1 o1=>?_⟩;cases r1
 cases d with
 |true=>exact⟨ι1,τ,h1,S.mono g1,hr1,o1⟩
 |false=>exact⟨ι1,τ,h1,S.mono g1,hr1,o1⟩
def bw:SA:=λ_ h=>.ok [] h
def ao(f:SE)(g:SA):SA:=λτ h=>(f τ h).bind λd h1=>(g τ h1).bind λds h2=>.ok (d::ds) h2
variable{es:List Expr}{ka:SA}
theorem au:MA X E [] bw:=PA.weak an7 λσ H Q ⟨ι,τ,h,S,Rh,o⟩=>o ι H [] (.refl _ _) .nil Rh
theorem aj(ha:ME X E e fa)(hr:MA X E es ka)(hs:starEach (e::es) X.env=(false,eval e X.env)::starEach es X.env:=by rfl):MA X E (e::es) (ao fa ka):=by
 refine PA.weak (ad3 ha hr hs) ?_
 rintro σ H Q ⟨ι,τ,h,S,Rh,o⟩
 refine⟨ι,τ,h,S,Rh,ig o λd h1 ι1 H1 v g1 r1 hr1 o1=>?_⟩;refine⟨ι1,τ,h1,S.mono g1,hr1,ig o1 λd2 h2 ι2 H2 u g2 r2 hr2 o2=>?_⟩;exact o2 ι2 H2 _ (.refl _ _) (.cons (r1.mono g2) r2) hr2
def a2o(ds:List D)(h:Hd):R D:=if ds.length<=LINE then .ok (.tup ds) h else .no
def a3z(ds:List D)(h:Hd):R D:=if ds.length<=LINE then .ok (.ref h.length) (h++[.lst ds]) else .no
def sA(g:List D->Hd->R D)(k:SA):SE:=λτ h=>(k τ h).bind g
theorem a4a(r:Reps K ι H vs ds)(hr:HRep K ι H h)(o:out K E (a3u K) ι H (.ok (.tup ds) h) Q):∀p,H p=none->Q (.ref p) (upd H p (.tup vs)):=λp hp =>
 o ι _ _ (a3n hp _) (.tup qu (r.mono (a3n hp _))) (hr.aside hp _)
theorem a3b(r:Reps K ι H vs ds)(hr:HRep K ι H h)(o:out K E (a3u K) ι H (.ok (.ref h.length) (h++[.lst ds])) Q):∀p,H p=none->Q (.ref p) (upd H p (.lst vs)):=λp hp =>
 o (ι++[p]) _ _ (aea hp _) (.ref (by rw[aO (by rw[hr.len];exact aJ _),hr.len];simp)) (hr.add hp ⟨_,qu,r.mono (aea hp _)⟩)
theorem ada{K:Fg}{ι:List Addr}{H:Hp}{h:Hd}{i:Nat}{a:Addr}{vs:List V}{ds:List D}{d:D}{v:V}{Q:VK}(r:Reps K ι H vs ds)(hr:HRep K ι H h)(hi:ι[i]? = some a)(rd:Rep K ι H v d)(o:out K E (a3u K) ι H (.ok d (h.set i (.lst ds))) Q):Q v (upd H a (.lst vs)) :=
 o ι _ _ (a2p hr hi _) (rd.mono (a2p hr hi _)) (hr.put hi ⟨_,qu,r.mono (a2p hr hi _)⟩)
theorem zp{x1}(h:MA X E es ka):ME X E (.Tuple es x1 pos) (sA a2o ka):=by
 refine PE.weak (atj h) ?_
 rintro σ H Q ⟨ι,τ,h,S,Rh,o⟩
 refine⟨ι,τ,h,S,Rh,ig o λd h1 ι1 H1 v g1 r1 hr1 o1=>?_⟩;unfold a2o at o1
 split at o1
 ·rename_i hl;exact⟨ll (by rw[r1.len];exact hl),a4a r1 hr1 o1⟩
 ·exact o1.elim
theorem zq(h:MA X E es ka):ME X E (.List es pos) (sA a3z ka):=by
 refine PE.weak (atk h) ?_
 rintro σ H Q ⟨ι,τ,h,S,Rh,o⟩
 refine⟨ι,τ,h,S,Rh,ig o λd h1 ι1 H1 v g1 r1 hr1 o1=>?_⟩;unfold a3z at o1
 split at o1
 ·rename_i hl;exact⟨ll (by rw[r1.len];exact hl),a3b r1 hr1 o1⟩
 ·exact o1.elim
theorem a5w{x:Str}{p:Pos}{id:String}{r:List V->Hp->VK->Prop}{g:List D->Hd->R D}(hc:CallR X (.builtin id) r)(hs:agk X.K g r)(hg:Gl X x)(hm:X.mg x=none)(hv:bootBuiltins x=some (.builtin id))(ha:MA X E (e::es) ka)(hn:x ≠ "__name__":=by decide)(hdb:(x == ("__debug__" : Str))=false:=by decide)
  (he:starEach (e::es) X.env=(false,eval e X.env)::starEach es X.env:=by rfl) (hpl:(backTo pos (starEach es X.env)).any (·.1)=false:=by rfl):ME X E (.Call (.Name x p) (e::es) [] pos) (sA g ka):=by
 refine PE.weak (al0 hc hg hm hv ha hn hdb he hpl) ?_
 rintro σ H Q ⟨ι,τ,h,S,Rh,o⟩
 exact⟨ι,τ,h,S,Rh,ig o λd h1 ι1 H1 v g1 r1 hr1 o1=>hs E ι1 H1 h1 v d Q r1 hr1 o1⟩
theorem a72{x:Str}{p:Pos}{id:String}{r:List V->Hp->VK->Prop}{g:List D->Hd->R D}(hc:CallR X (.type id) r)(hs:agk X.K g r)(hg:Gl X x)(hm:X.mg x=none)(hv:bootBuiltins x=some (.type id))(ha:MA X E (e::es) ka)(hn:x ≠ "__name__":=by decide)(hdb:(x == ("__debug__" : Str))=false:=by decide)
  (he:starEach (e::es) X.env=(false,eval e X.env)::starEach es X.env:=by rfl) (hpl:(backTo pos (starEach es X.env)).any (·.1)=false:=by rfl):ME X E (.Call (.Name x p) (e::es) [] pos) (sA g ka):=by
 refine PE.weak (ah5 hc hg hm hv ha hn hdb he hpl) ?_
 rintro σ H Q ⟨ι,τ,h,S,Rh,o⟩
 exact⟨ι,τ,h,S,Rh,ig o λd h1 ι1 H1 v g1 r1 hr1 o1=>hs E ι1 H1 h1 v d Q r1 hr1 o1⟩
end
def du(f g:SS):SS:=λτ h=>match f τ h with|.nx τ1 h1=>g τ1 h1|r=>r
def sNx:SS:=λτ h=>.nx τ h
def sy(f:SE):SS:=λτ h=>(f τ h).fl λd h1=>.rt d h1
def vp(f:SE):SS:=λτ h=>(f τ h).fl λ_ h1=>.nx τ h1
def sIf(c:ST)(f g:SS):SS:=λτ h=>(c τ h).fl λb h1=>if b=true then f τ h1 else g τ h1
def kj(i:Nat)(f:SE):SS:=λτ h=>(f τ h).fl λd h1=>.nx (τ.set i (some d)) h1
def aeb(i:Nat)(g:D->D->Hd->R D)(f:SE):SS:=λτ h=>match τ[i]? with
 |some (some x)=>(f τ h).fl λy h1=>(g x y h1).fl λz h2=>.nx (τ.set i (some z)) h2
 |_=>.no
section
variable{X:Cx}{E:XD}{e o:Expr}{es:List Expr}{fa fb fc:SE}{ga:ST}{st:Stmt}{sts a b:List Stmt}{f g:SS}{pos:Pos}
theorem iu:MSs X E [] sNx:=PSs.weak aom λN σ H ⟨ι,τ,h,S,Rh,o⟩=>o ι H σ (.refl _ _) S Rh
theorem au6(q:aa0 K E (du f g) N σ H):aa0 K E f {N with nx:=aa0 K E g N} σ H:=by
 obtain⟨ι,τ,h,S,Rh,o⟩:=q;refine⟨ι,τ,h,S,Rh,?_⟩;unfold du at o
 cases hf:f τ h with
 |nx τ1 h1 =>
  rw[hf]at o;exact λι1 H1 σ1 g1 S1 R1=>⟨ι1,τ1,h1,S1,R1,yo o g1⟩
 |_=>rw[hf]at o;exact o
theorem aq(h1:MS X E st f)(h2:MSs X E sts g):MSs X E (st::sts) (du f g):=PSs.weak (akm h1 h2) λN σ H q=>au6 q
theorem bu(h1:MS X E st f):MSs X E [st] f:=aon h1
theorem jc(he:ME X E e fa):MS X E (.Return (some e) pos) (sy fa):=by
 refine PS.weak (asv he) ?_
 rintro N σ H ⟨ι,τ,h,S,Rh,o⟩
 exact⟨ι,τ,h,S,Rh,ul o λd h1 ι1 H1 v g1 r1 hr1 o1=>o1 ι1 H1 v (.refl _ _) r1 hr1⟩
theorem um(he:ME X E e fa)(hs:swapsWith e none pos.line X.env=pure false:=by rfl):MS X E (.Expr e pos) (vp fa):=by
 refine PS.weak (aoo he hs) ?_
 rintro N σ H ⟨ι,τ,h,S,Rh,o⟩
 exact⟨ι,τ,h,S,Rh,ul o λd h1 ι1 H1 v g1 r1 hr1 o1=>o1 ι1 H1 σ (.refl _ _) (S.mono g1) hr1⟩
theorem qy(hc:MT X E c ga)(ha:MSs X E a f)(hb:MSs X E b g):MS X E (.If c a b pos) (sIf ga f g):=by
 refine PS.weak (ay4 hc ha hb) ?_
 rintro N σ H ⟨ι,τ,h,S,Rh,o⟩
 refine⟨ι,τ,h,S,Rh,ul o λd h1 ι1 H1 v g1 r1 hr1 o1=>?_⟩;cases r1
 cases d with
 |true=>exact⟨ι1,τ,h1,S.mono g1,hr1,o1⟩
 |false=>exact⟨ι1,τ,h1,S.mono g1,hr1,o1⟩
theorem au7(hN:X.N.Nodup)(hi:X.N[i]? = some x)(hx:Loc X.env.scope x)(he:ME X E e fa)(hs:swapsWith e (some (.Name x pos')) pos.line X.env=pure false:=by rfl)(hf:Hf X x:=by first|exact .inl rfl|exact .inr rfl|assumption) :
  MS X E (.Assign [.Name x pos'] e pos) (kj i fa):=by
 refine PS.weak (at5 hN hi hx he hs hf) ?_
 rintro N σ H ⟨ι,τ,h,S,Rh,o⟩
 exact⟨ι,τ,h,S,Rh,ul o λd h1 ι1 H1 v g1 r1 hr1 o1=>o1 ι1 H1 _ (.refl _ _) ((S.mono g1).set r1 i) hr1⟩
theorem abq(hN:X.N.Nodup)(hi:X.N[i]? = some x)(hx:Loc X.env.scope x)(ho:OpR X (inplaceOp op) r)(hs:a3y X.K gg r)(he:ME X E e fa)(hf:Hf X x:=by first|exact .inl rfl|exact .inr rfl|assumption) :
  MS X E (.AugAssign (.Name x pos') op e pos) (aeb i gg fa):=by
 refine PS.weak (at6 hN hi hx he ho hf) ?_
 rintro N σ H ⟨ι,τ,h,S,Rh,o⟩
 unfold aeb at o
 split at o
 ·rename_i d ed;obtain⟨v,h1,h2⟩:=S.val i d ed;refine⟨v,h1,ι,τ,h,S,Rh,ul o λd2 h3 ι1 H1 u g1 r1 hr1 o1=>?_⟩;refine hs E ι1 H1 h3 v u d d2 _ (h2.mono g1) r1 hr1 (ul o1 λd3 h4 ι2 H2 z g2 r2 hr2 o2=>?_);exact o2 ι2 H2 _ (.refl _ _) (((S.mono g1).mono g2).set r2 i) hr2
 ·exact o.elim
def put(o k v:D)(h:Hd):Option Hd:=match o,k with
 |.ref i,.int j=>match h[i]? with
  |some (.lst xs)=>match ixN xs.length j with
   |some m=>some (h.set i (.lst (xs.set m v)))
   |none=>none
  |_=>none
 |_,_=>none
theorem ahv{K:Fg}{ι:List Addr}{H:Hp}{h h':Hd}{o k v:V}{od kd vd:D}{Q:Hp->Prop}(r1:Rep K ι H o od)(r2:Rep K ι H k kd)(r3:Rep K ι H v vd)(hr:HRep K ι H h)(e:put od kd vd h=some h')
  (q:∀H',Gr ι H ι H'->HRep K ι H' h'->Q H'):atp o k v H Q:=by
 cases r1 with
 |@ref a i ha =>
  cases r2 with
  |int j =>
   obtain⟨ob,h1,h2⟩:=hr.at ha
   cases ob with
   |lst xs =>
    obtain⟨vs,h3,h4⟩:=h2;simp only[put,h1]at e
    cases hm:ixN xs.length j with
    |none=>rw[hm]at e;cases e
    |some m =>
     rw[hm]at e;cases e
     exact⟨a,vs,j,m,rfl,rfl,h3,by rw[h4.len];exact hm,q _ (a2p hr ha _) (hr.put ha ⟨_,qu,(h4.set r3 m).mono (a2p hr ha _)⟩)⟩
   |dK _=>simp only[put,h1]at e;cases e
   |dT _=>simp only[put,h1]at e;cases e
   |ins _ _=>simp only[put,h1]at e;cases e
  |_=>cases e
 |_=>cases e
def ab1(fe fo fi:SE):SS:=λτ h=>(fe τ h).fl λv h1=>(fo τ h1).fl λo h2=>(fi τ h2).fl λk h3=>match put o k v h3 with|some h4=>.nx τ h4|none=>.no
theorem a9a(he:ME X E e fa)(ho:ME X E o fb)(hi:ME X E i fc)
  (hs:swapsWithSole [.Subscript o i pos'] e pos.line X.env=pure false:=by rfl) (hw:swappedStores [.Subscript o i pos'] e X.env=pure none:=by rfl)
  (h1:(assignEach [.Subscript o i pos'] X.env).map (·.2)=[assign (.Subscript o i pos') X.env]:=by rfl)
  (ha:∀v,assign (.Subscript o i pos') X.env v=(do
   let ov <-holding [v] (eval o X.env)
   let iv <-holding [v,ov] (eval i X.env)
   standAt pos'
   holding [v,ov,iv] (setItem ov iv v)
   release [v,ov,iv] []):=by intro _;rfl):MS X E (.Assign [.Subscript o i pos'] e pos) (ab1 fa fb fc):=by
 refine PS.weak (an5 he (asz ho hi set_list ha) hs hw h1) ?_
 rintro N σ H ⟨ι,τ,h,S,Rh,oo⟩
 refine⟨ι,τ,h,S,Rh,ul oo λd h1 ι1 H1 v g1 r1 hr1 o1=>?_⟩;refine⟨ι1,τ,h1,S.mono g1,hr1,ul o1 λd2 h2 ι2 H2 u g2 r2 hr2 o2=>?_⟩;refine⟨ι2,τ,h2,(S.mono g1).mono g2,hr2,ul o2 λd3 h3 ι3 H3 w g3 r3 hr3 o3=>?_⟩
 cases hp:put d2 d3 d h3 with
 |none=>rw[hp]at o3;exact o3.elim
 |some h4 =>
  rw[hp]at o3;exact ahv (r2.mono g3) r3 ((r1.mono g2).mono g3) hr3 hp λH' g4 hr4=>o3 ι3 H' σ g4 ((((S.mono g1).mono g2).mono g3).mono g4) hr4
def sWh(c:ST)(f:SS):Nat->SS
 |0,_,_=>.no
 |n+1,τ,h=>(c τ h).fl λb h1=>if b=true then (match f τ h1 with|.nx τ2 h2=>sWh c f n τ2 h2|.ct τ2 h2=>sWh c f n τ2 h2|.bk τ2 h2=>.nx τ2 h2|r=>r) else .nx τ h1
theorem a5x(n:Nat)(hp:PassesOwn (model X.prog X.w) X.A X.env X.xe)(hc:MT X E c ga)(hb:MSs X E a f):MS X E (.While c a [] pos) (sWh ga f n):=by
 refine PS.weak (ako hp hc hb) λN σ H q=>?_;refine⟨λm σ H=>aa0 X.K E (sWh ga f m) N σ H,⟨n,q⟩,?_⟩
 rintro m σ1 H1 ⟨ι,τ,h,S,Rh,o⟩
 cases m with
 |zero=>exact o.elim
 |succ m =>
  refine⟨ι,τ,h,S,Rh,ul o λd h1 ι1 H1 v g1 r1 hr1 o1=>?_⟩;cases r1
  cases d with
  |false=>exact o1 ι1 H1 _ (.refl _ _) (S.mono g1) hr1
  |true =>
   refine⟨λσ' H'=>aa0 X.K E (sWh ga f m) N σ' H',λσ' H' q=>⟨m,fh m,q⟩,ι1,τ,h1,S.mono g1,hr1,?_⟩;rw[aR rfl]at o1
   cases hf:f τ h1 with
   |nx τ2 h2=>rw[hf]at o1;exact λι2 H2 σ2 g2 S2 R2=>⟨ι2,τ2,h2,S2,R2,yo o1 g2⟩
   |ct τ2 h2=>rw[hf]at o1;exact λι2 H2 σ2 g2 S2 R2=>⟨ι2,τ2,h2,S2,R2,yo o1 g2⟩
   |bk τ2 h2=>rw[hf]at o1;exact o1
   |rt d h2=>rw[hf]at o1;exact o1
   |ex c h2=>rw[hf]at o1;exact o1
   |no=>rw[hf]at o1;exact o1.elim
end
abbrev SG:=D->Sd->Hd->Fl
def apn(K:Fg)(E:XD)(g:SG):TG:=λv σ H Q=>∃ι τ h d,Rep K ι H v d/\SRep K ι H σ τ/\HRep K ι H h/\akb K E ι H (g d τ h) {nx:=Q,rt:=λ_ _=>False}
abbrev MG(X:Cx)(E:XD)(tg:Expr)(g:SG):Prop:=PG X tg (apn X.K E g)
abbrev SGs:=List D->Sd->Hd->Fl
def ahw(K:Fg)(E:XD)(g:SGs):TGs:=λvs σ H Q=>∃ι τ h ds,Reps K ι H vs ds/\SRep K ι H σ τ/\HRep K ι H h/\akb K E ι H (g ds τ h) {nx:=Q,rt:=λ_ _=>False}
abbrev MGs(X:Cx)(E:XD)(tg:List Expr)(g:SGs):Prop:=PGs X tg (ahw X.K E g)
theorem PG.weak(h:PG X e t)(i:∀v σ H Q,t' v σ H Q->t v σ H Q):PG X e t':=λaA s σ H v u Q I r q=>h aA s σ H v u Q I r (i _ _ _ _ q)
theorem PGs.weak(h:PGs X e t)(i:∀v σ H Q,t' v σ H Q->t v σ H Q):PGs X e t':=λaA s σ H v u Q I r q=>h aA s σ H v u Q I r (i _ _ _ _ q)
def kN(i:Nat):SG:=λd τ h=>.nx (τ.set i (some d)) h
def a5p:SGs:=λds τ h=>match ds with|[]=>.nx τ h|_=>.no
def jm(g:SG)(k:SGs):SGs:=λds τ h=>match ds with|d::r=>(match g d τ h with|.nx τ1 h1=>k r τ1 h1|_=>.no)|[]=>.no
def a4u(n:Nat)(k:SGs):SG:=λd τ h=>match d with|.tup ds=>if ds.length=n then k ds τ h else .no|_=>.no
section
variable{X:Cx}{E:XD}{e:Expr}{es:List Expr}{fa:SE}{pos:Pos}{g:SG}{ks:SGs}
theorem gk(hN:X.N.Nodup)(hi:X.N[i]? = some x)(hx:Loc X.env.scope x)(hf:Hf X x:=by first|exact .inl rfl|exact .inr rfl|assumption):MG X E (.Name x pos) (kN i) :=
 PG.weak (agq hN hi hx hf) λv σ H Q ⟨ι,τ,h,d,r,S,Rh,o⟩=>o ι H _ (.refl _ _) (S.set r i) Rh
theorem yp:MGs X E [] a5p:=by
 refine PGs.weak aop ?_
 rintro vs σ H Q ⟨ι,τ,h,ds,r,S,Rh,o⟩
 cases r with
 |nil=>exact⟨rfl,o ι H σ (.refl _ _) S Rh⟩
 |cons _ _=>exact o.elim
theorem alc(q:ahw K E (jm g ks) vs σ H Q):asx (apn K E g) (ahw K E ks) vs σ H Q:=by
 obtain⟨ι,τ,h,ds,r,S,Rh,o⟩:=q
 cases r with
 |nil=>exact o.elim
 |@cons v d vs ds r rs =>
  refine⟨v,vs,rfl,ι,τ,h,d,r,S,Rh,?_⟩;simp only[jm]at o
  cases hg:g d τ h with
  |nx τ1 h1 =>
   rw[hg]at o;exact λι1 H1 σ1 g1 S1 R1=>⟨ι1,τ1,h1,ds,rs.mono g1,S1,R1,yo o g1⟩
  |_=>rw[hg]at o;exact o.elim
theorem a1o(hc:X.calm=true)(h:MGs X E es ks)(hn:(assignEach es X.env).length=n:=by rfl)(hst:(assignEach es X.env).findIdx? (·.1)=none:=by rfl):MG X E (.Tuple es k pos) (a4u n ks):=by
 refine PG.weak (asy hc h hn hst) ?_
 rintro v σ H Q ⟨ι,τ,h,d,r,S,Rh,o⟩
 cases r with
 |@tup a vs xs e rs =>
  simp only[a4u]at o
  by_cases hl:xs.length=n
  ·rw[aR hl]at o;exact⟨a,vs,rfl,SqT.of e,by rw[rs.len];exact hl,ι,τ,h,xs,rs,S,Rh,o⟩
  ·rw[bE hl]at o;exact o.elim
 |_=>exact o.elim
def a7m(f:SE)(g:SG):SS:=λτ h=>(f τ h).fl λd h1=>match g d τ h1 with|.nx τ2 h2=>.nx τ2 h2|_=>.no
theorem a3o(he:ME X E e fa)(hg:MG X E tg g)(hs:swapsWithSole [tg] e pos.line X.env=pure false:=by rfl)(hw:swappedStores [tg] e X.env=pure none:=by rfl)
  (h1:(assignEach [tg] X.env).map (·.2)=[assign tg X.env]:=by rfl):MS X E (.Assign [tg] e pos) (a7m fa g):=by
 refine PS.weak (an5 he hg hs hw h1) ?_
 rintro N σ H ⟨ι,τ,h,S,Rh,o⟩
 refine⟨ι,τ,h,S,Rh,ul o λd h1 ι1 H1 v g1 r1 hr1 o1=>⟨ι1,τ,h1,d,r1,S.mono g1,hr1,?_⟩⟩
 cases hg:g d τ h1 with
 |nx τ1 h1=>rw[hg]at o1;exact o1
 |_=>rw[hg]at o1;exact o1.elim
end
structure Itm where
 xs:List D
 ck:Hd->Prop
def au8(K:Fg)(ι0:List Addr)(H0:Hp)(J:It)(it:Itm):Prop:=∀ι H h,Gr ι0 H0 ι H->HRep K ι H h->it.ck h->
 (∀(i:Nat) (d:D),it.xs[i]? = some d->J.go i H/\∀x H',J.yld i H x H'->Gr ι H ι H'/\Rep K ι H' x d/\HRep K ι H' h)/\J.stop it.xs.length H
abbrev b00(K:Fg):List Addr->Hp->It->Itm->Prop:=λι H J it=>au8 K ι H J it
abbrev SI:=Sd->Hd->R Itm
abbrev MI(X:Cx)(E:XD)(tg aE:Expr)(f:SI):Prop:=PI X tg aE (lift X.K E (b00 X.K) f)
def a0z(x:Str):List D:=x.cps.toList.map λc=>D.str ⟨#[c]⟩
def ahx(d:D)(h:Hd):R Itm:=match d with
 |.tup xs=>.ok ⟨xs,λ_=>True⟩ h
 |.rol xs=>.ok ⟨xs,λ_=>True⟩ h
 |.str x=>.ok ⟨a0z x,λ_=>True⟩ h
 |.ref i=>match h[i]? with
  |some (.lst xs)=>.ok ⟨xs,λh=>h[i]? = some (.lst xs)⟩ h
  |_=>.no
 |_=>.no
def sIt(f:SE):SI:=λτ h=>(f τ h).bind ahx
theorem ang(hl:∀ι H h,Gr ι0 H0 ι H->HRep K ι H h->ck h->∃vs,SqL K H a vs/\Reps K ι H vs xs):au8 K ι0 H0 (Itl K a) ⟨xs,ck⟩:=by
 intro ι H h g hr c
 obtain⟨vs,h1,h2⟩:=hl ι H h g hr c;refine⟨λi d e=>?_,⟨vs,h1,by rw[h2.len];exact aJ _⟩⟩
 obtain⟨v,e1,r⟩:=h2.get e;refine⟨⟨vs,v,h1,e1⟩,λx H' y=>?_⟩;obtain⟨rfl,y⟩:=y;have:=y vs h1;rw[e1]at this;cases this
 exact⟨.refl _ _,r,hr⟩
theorem xf(hl:ME X E l f):MI X E tg l (sIt f):=by
 rintro aA s σ H Rr I ⟨ι,τ,h,S,Rh,o⟩
 unfold sIt at o
 cases hf:f τ h with
 |no=>rw[hf]at o;exact o.elim
 |ex c h1 =>
  rw[hf]at o;exact ane hl aA s σ H Rr I ⟨ι,τ,h,S,Rh,by rw[hf];exact o⟩
 |ok d h1 =>
  rw[hf]at o
  cases d with
  |tup xs =>
   refine at8 hl aA s σ H Rr I ⟨ι,τ,h,S,Rh,?_⟩;rw[hf]
   intro ι1 H1 v g1 r1 hr1
   cases r1 with
   |@tup a vs _ e rs =>
    refine⟨a,rfl,⟨vs,SqT.of e⟩,o ι1 H1 _ g1 ?_ hr1⟩
    intro ι2 H2 h2 g2 hr2 _
    have e2:=g2.tup _ _ e;have rs2:=rs.mono g2;refine⟨λi d ed=>?_,⟨vs,SqT.of e2,by rw[rs2.len];exact aJ _⟩⟩
    obtain⟨v,e1,r⟩:=rs2.get ed;refine⟨⟨vs,v,SqT.of e2,e1⟩,λx H' y=>?_⟩;obtain⟨rfl,y⟩:=y;have:=y vs (SqT.of e2);rw[e1]at this;cases this
    exact⟨.refl _ _,r,hr2⟩
  |rol xs =>
   refine ags hl aA s σ H Rr I ⟨ι,τ,h,S,Rh,?_⟩;rw[hf]
   intro ι1 H1 v g1 r1 hr1
   cases r1 with
   |@rol a vs _ e rs =>
    refine⟨a,rfl,⟨vs,e.l⟩,o ι1 H1 _ g1 ?_ hr1⟩;exact ang (λι2 H2 h2 g2 hr2 _=>⟨vs,(e.mono g2).l,rs.mono g2⟩)
  |str x =>
   refine ane hl aA s σ H Rr I ⟨ι,τ,h,S,Rh,?_⟩;rw[hf]
   intro ι1 H1 v g1 r1 hr1
   cases r1
   refine⟨x,rfl,o ι1 H1 _ g1 ?_ hr1⟩
   intro ι2 H2 h2 g2 hr2 _
   refine⟨λi d ed=>?_,by show(a0z x).length=_;simp[a0z]⟩
   simp only[a0z,aP,aU]at ed;obtain⟨c,ec,rfl⟩:=ed;refine⟨by show i<x.cps.size;have:=(ag.mp ec).1;simpa using this,λy H' q=>?_⟩
   obtain⟨rfl,c',ec',rfl⟩:=q;rw[ec]at ec';cases ec'
   exact⟨.refl _ _,.str _,hr2⟩
  |ref i =>
   simp only[R.bind,ahx]at o
   cases ho:h1[i]? with
   |none=>rw[ho]at o;exact o.elim
   |some ob =>
    rw[ho]at o
    cases ob with
    |dK _=>exact o.elim
    |dT _=>exact o.elim
    |ins _ _=>exact o.elim
    |lst xs =>
     refine ags hl aA s σ H Rr I ⟨ι,τ,h,S,Rh,?_⟩;rw[hf]
     intro ι1 H1 v g1 r1 hr1
     cases r1 with
     |@ref a _ e =>
      obtain⟨vs,e1,rs⟩:=hr1.obj i a _ e ho;refine⟨a,rfl,⟨vs,SqL.of e1⟩,o ι1 H1 _ g1 ?_ hr1⟩;refine ang (λι2 H2 h2 g2 hr2 c=>?_);obtain⟨us,e3,rs3⟩:=hr2.obj i a _ (g2.at e) c;exact⟨us,SqL.of e3,rs3⟩
  |_=>exact o.elim
def rng(lo:Int)(n:Nat):List D:=(List.range n).map λi=>D.int (lo+(i:Nat))
def B62(j:Int):Prop := -(2^62)<=j/\j<2^62
instance (j:Int):Decidable (B62 j):=by unfold B62;exact inferInstance
def xn(ds:List D)(h:Hd):R Itm:=match ds with
 |[.int j]=>if B62 j then .ok ⟨rng 0 j.toNat,λ_=>True⟩ h else .no
 |_=>.no
def a91(ds:List D)(h:Hd):R Itm:=match ds with
 |[.int i,.int j]=>if B62 i/\B62 j then .ok ⟨rng i (j-i).toNat,λ_=>True⟩ h else .no
 |_=>.no
def sRg(g:List D->Hd->R Itm)(k:SA):SI:=λτ h=>(k τ h).bind g
theorem anh(lo:Int)(n:Nat):au8 K ι0 H0 (Itr lo n) ⟨rng lo n,λ_=>True⟩:=by
 intro ι H h g hr _
 refine⟨λi d ed=>?_,by show n<=(rng lo n).length;simp[rng]⟩
 simp only[rng,aP,aU]at ed;obtain⟨j,ej,rfl⟩:=ed;obtain⟨hj,e⟩:=ag.mp ej;simp at e hj;subst e;refine⟨hj,λy H' q=>?_⟩;obtain⟨rfl,rfl⟩:=q;exact⟨.refl _ _,.int _,hr⟩
theorem a0j(hg:Gl X "range")(hm:X.mg "range" = none)(ha:MA X E [a] k)(hs:starEach [a] X.env=[(false,eval a X.env)]:=by rfl):MI X E tg (.Call (.Name "range" p) [a] [] pos) (sRg xn k):=by
 rintro aA s σ H Rr I ⟨ι,τ,h,S,Rh,o⟩
 refine agt hg hm ha hs aA s σ H Rr I ⟨ι,τ,h,S,Rh,ig o λds h1 ι1 H1 vs g1 r1 hr1 o1=>?_⟩;unfold xn at o1
 split at o1
 ·rename_i j
  cases r1 with
  |cons r rs =>
   cases r;cases rs
   by_cases hb:B62 j
   ·rw[aR hb]at o1;exact⟨j,rfl,hb.1,hb.2,o1 ι1 H1 _ (.refl _ _) (anh 0 j.toNat) hr1⟩
   ·rw[bE hb]at o1;exact o1.elim
 ·exact o1.elim
theorem ahy(hg:Gl X "range")(hm:X.mg "range" = none)(ha:MA X E [a,b] k)(hs:starEach [a,b] X.env=[(false,eval a X.env),(false,eval b X.env)]:=by rfl)(hs2:starEach [b] X.env=[(false,eval b X.env)]:=by rfl):MI X E tg (.Call (.Name "range" p) [a,b] [] pos) (sRg a91 k):=by
 rintro aA s σ H Rr I ⟨ι,τ,h,S,Rh,o⟩
 refine agu hg hm ha hs hs2 aA s σ H Rr I ⟨ι,τ,h,S,Rh,ig o λds h1 ι1 H1 vs g1 r1 hr1 o1=>?_⟩;unfold a91 at o1
 split at o1
 ·rename_i i j
  cases r1 with
  |cons r rs =>
   cases r
   cases rs with
   |cons r rs =>
   cases r;cases rs
   by_cases hb:B62 i/\B62 j
   ·rw[aR hb]at o1;exact⟨i,j,rfl,⟨hb.1.1,hb.1.2,hb.2.1,hb.2.2⟩,o1 ι1 H1 _ (.refl _ _) (anh i _) hr1⟩
   ·rw[bE hb]at o1;exact o1.elim
 ·exact o1.elim
open Classical in
noncomputable def forL(ck:Hd->Prop)(g:SG)(b:SS):List D->Sd->Hd->Fl
 |[],τ,h=>if ck h then .nx τ h else .no
 | x::xs,τ,h=>if ck h then (match g x τ h with
   |.nx τ1 h1=>(match b τ1 h1 with
    |.nx τ2 h2=>forL ck g b xs τ2 h2
    |.ct τ2 h2=>forL ck g b xs τ2 h2
    |.bk τ2 h2=>.nx τ2 h2
    |r=>r)
   |_=>.no) else .no
noncomputable def a3v(f:SI)(g:SG)(b:SS):SS:=λτ h=>(f τ h).fl λit h1=>forL it.ck g b it.xs τ h1
theorem apo(ir:au8 K ι0 H0 J it)(S:SRep K ι0 H0 σ0 τ0)(Rh:HRep K ι0 H0 h0)(o:akb K E ι0 H0 (forL it.ck g b it.xs τ0 h0) N) :
  ∃W:Nat->Nat->St->Hp->Prop,(∃m,W 0 m σ0 H0)/\∀i m σ H,W i m σ H->
   (J.stop i H/\N.nx σ H)\/(J.go i H/\∃M:St->Hp->Prop,(∀σ' H',M σ' H'->∃m',m'<m/\W (i+1) m' σ' H')/\∀x H',J.yld i H x H'->apn K E g x σ H' λσ2 H2=>aa0 K E b {N with nx:=M,ct:=M,bk:=N.nx} σ2 H2):=by
 refine⟨λi m σ H=>m=it.xs.length-i/\i<=it.xs.length/\∃ι τ h,Gr ι0 H0 ι H/\SRep K ι H σ τ/\HRep K ι H h/\akb K E ι H (forL it.ck g b (it.xs.drop i) τ h) N,⟨_,rfl,aV _,ι0,τ0,h0,.refl _ _,S,Rh,o⟩,?_⟩
 rintro i m σ H ⟨rfl,hi,ι,τ,h,g0,S,Rh,o⟩
 by_cases hlt:i<it.xs.length
 ·rw[eB hlt,forL]at o
  by_cases hc:it.ck h
  ·rw[aR hc]at o;obtain⟨go,yl⟩:=(ir ι H h g0 Rh hc).1 i _ (af hlt);refine .inr ⟨go,λσ' H'=>it.xs.length-(i+1)<it.xs.length-i/\∃ι τ h,Gr ι0 H0 ι H'/\SRep K ι H' σ' τ/\HRep K ι H' h/\akb K E ι H' (forL it.ck g b (it.xs.drop (i+1)) τ h) N,λσ' H' q=>⟨_,q.1,rfl,hlt,q.2⟩,λx H' y=>?_⟩;obtain⟨g1,r1,hr1⟩:=yl x H' y;refine⟨ι,τ,h,_,r1,S.mono g1,hr1,?_⟩;have o':=yo o g1
   cases hg:g it.xs[i] τ h with
   |nx τ1 h1 =>
    rw[hg]at o';dsimp only at o'
    intro ι2 H2 σ2 g2 S2 R2
    refine⟨ι2,τ1,h1,S2,R2,?_⟩;have o2:=yo o' g2;have gg:=(g0.trans g1).trans g2
    cases hb:b τ1 h1 with
    |nx τ2 h2=>rw[hb]at o2;exact λι3 H3 σ3 g3 S3 R3=>⟨by omega,ι3,τ2,h2,gg.trans g3,S3,R3,yo o2 g3⟩
    |ct τ2 h2=>rw[hb]at o2;exact λι3 H3 σ3 g3 S3 R3=>⟨by omega,ι3,τ2,h2,gg.trans g3,S3,R3,yo o2 g3⟩
    |bk τ2 h2=>rw[hb]at o2;exact o2
    |rt d h2=>rw[hb]at o2;exact o2
    |ex c h2=>rw[hb]at o2;exact o2
    |no=>rw[hb]at o2;exact o2.elim
   |_=>rw[hg]at o';exact o'.elim
  ·rw[bE hc]at o;exact o.elim
 ·have e:i=it.xs.length:=by omega
  subst e;rw[bS (aJ _),forL]at o
  by_cases hc:it.ck h
  ·rw[aR hc]at o;exact .inl ⟨(ir ι H h g0 Rh hc).2,o ι H σ (.refl _ _) S Rh⟩
  ·rw[bE hc]at o;exact o.elim
theorem yq{X:Cx}(hp:PassesOwn (model X.prog X.w) X.A X.env X.xe)(hc:X.calm=true)(hi:MI X E tg aE f)(hg:MG X E tg g)(hb:MSs X E body b)(hs:∀x,foldedSetIterable aE X.env x=pure x:=by intro _;rfl):MS X E (.For tg aE body [] pos) (a3v f g b):=by
 refine PS.weak (at9 hp hc hi hg hb hs) ?_
 rintro N σ H ⟨ι,τ,h,S,Rh,o⟩
 exact⟨ι,τ,h,S,Rh,ul o λit h1 ι1 H1 J g1 r1 hr1 o1=>apo r1 (S.mono g1) hr1 o1⟩
end MI
namespace MI
open L2
open Classical in
noncomputable def mapR(ck:Hd->Prop)(f:D->Hd->R D):List D->Hd->R (List D)
 |[],h=>if ck h then .ok [] h else .no
 |x::xs,h=>if ck h then (f x h).bind λy h1=>(mapR ck f xs h1).bind λys h2=>.ok (y::ys) h2 else .no
def frs'(ix:List Nat)(τ:Sd):Sd:=ix.map λi=>(τ[i]?).join
def t1(d:D):Option Sd:=some [some d]
def a92(t:D->Option Sd)(fe:SE)(aF:Sd)(x:D)(h:Hd):R D:=match t x with|some ts=>fe (ts++aF) h|none=>.no
def apq(yd zs:List D)(h:Hd):R D:=.ok (.ref h.length) (h++[.lst (yd++zs)])
theorem au9(r:R D)(m:Hd->R (List D))(yd:List D):(r.bind λy h1=>(m h1).bind λys h2=>.ok (y::ys) h2).bind (apq yd)=r.bind λy h1=>(m h1).bind (apq (yd++[y])):=by
 cases r with
 |ok y h1 =>
  show((m h1).bind _).bind _=(m h1).bind _
  cases m h1 with
  |ok ys h2=>simp[R.bind,apq]
  |_=>rfl
 |_=>rfl
noncomputable def p6(fi:SI)(t:D->Option Sd)(fe:SE)(ix:List Nat):SE:=λτ h=>(fi τ h).bind λit h1=>if it.xs.length<=LINE then (mapR it.ck (a92 t fe (frs' ix τ)) it.xs h1).bind (apq []) else .no
def arz(K:Fg)(n:Nat)(g:TG)(t:D->Option Sd):Prop:=∀ι H v d ts (r:St) (Q:St->Hp->Prop),Rep K ι H v d->t d=some ts->(∀us:St,us.length=n->SRep K ι H us ts->Q (us++r) H)->g v (List.replicate n none++r) H Q
theorem aec:SRep K ι H [] []:=⟨rfl,λi d e=>by simp at e⟩
theorem abr(r:Rep K ι H v d)(s:SRep K ι H σ τ):SRep K ι H (some v::σ) (some d::τ):=by
 refine⟨by simp[s.len],λi d' e=>?_⟩
 cases i with
 |zero=>simp at e;subst e;exact⟨v,rfl,r⟩
 |succ i=>simpa using s.val i d' (by simpa using e)
theorem aed(s:SRep K ι H σ τ)(s':SRep K ι H σ' τ'):SRep K ι H (σ++σ') (τ++τ'):=by
 refine⟨by simp[s.len,s'.len],λi d e=>?_⟩
 by_cases hi:i<τ.length
 ·rw[aM hi]at e;rw[aM (by rw[s.len];exact hi)]
  exact s.val i d e
 ·rw[aO (by omega)]at e
  rw[aO (by rw[s.len];omega),s.len]
  exact s'.val _ d e
theorem aee(s:SRep K ι H σ τ)(ix:List Nat):SRep K ι H (ix.map λi=>(σ[i]?).join) (frs' ix τ):=by
 refine⟨by simp[frs'],λj d e=>?_⟩
 simp only[frs',aP,aU]at e;obtain⟨i,hi,e⟩:=e;have:τ[i]? = some (some d):=by
  cases q:τ[i]? with
  |none=>rw[q]at e;cases e
  |some o=>rw[q]at e;simp at e;rw[e]
 obtain⟨v,h1,h2⟩:=s.val i d this;exact⟨v,by simp[hi,h1],h2⟩
theorem yr:arz K 1 (afj 0) t1:=λι H v d ts r Q hr e q=>by
 cases e
 exact q [some v] rfl (abr hr aec)
theorem apr{us:St}(h:us.length=n):L2.Ext (List.replicate n none++r) (us++r):=by
 refine⟨by simp[h],λi v e=>?_⟩
 by_cases hi:i<n
 ·rw[aM (by simpa using hi),dO,aR hi]at e
  cases e
 ·rw[aO (by simpa using hi),dY]at e
  rw[aO (by omega),h]
  exact e
theorem aef(ir:au8 K ι0 H0 J it)(tg:arz K n g t)(S:SRep K ι0 H0 r rd)(Rh:HRep K ι0 H0 h0)(hl:it.xs.length<=LINE)
  (o:out K E (a3u K) ι0 H0 ((mapR it.ck (a92 t fe rd) it.xs h0).bind (apq [])) Q):ape J (List.replicate n none++r) g (lift K E (a3u K) fe) Q H0:=by
 refine⟨λi m ys H=>m=it.xs.length-i/\i<=it.xs.length/\ys.length<=i/\∃ι h yd,Gr ι0 H0 ι H/\HRep K ι H h/\Reps K ι H ys yd/\out K E (a3u K) ι H ((mapR it.ck (a92 t fe rd) (it.xs.drop i) h).bind (apq yd)) Q,
  ⟨_,rfl,aV _,aV _,ι0,h0,[],.refl _ _,Rh,.nil,o⟩,?_⟩
 rintro i m ys H ⟨rfl,hi,hy,ι,h,yd,g0,Rh,ry,o⟩
 by_cases hlt:i<it.xs.length
 ·rw[eB hlt,mapR]at o
  by_cases hc:it.ck h
  ·rw[aR hc,au9]at o;obtain⟨go,yl⟩:=(ir ι H h g0 Rh hc).1 i _ (af hlt);refine .inr ⟨go,Nat.lt_of_le_of_lt hy (bo hlt (ll hl)),λx H' y=>?_⟩;obtain⟨g1,r1,hr1⟩:=yl x H' y;have o':=a7r o g1
   cases ht:t it.xs[i] with
   |none=>simp only[a92,ht]at o';exact o'.elim
   |some ts =>
    simp only[a92,ht]at o';refine tg ι H' x _ ts r _ r1 ht λus hus su=>⟨apr hus,ι,ts++rd,h,aed su (S.mono (g0.trans g1)),hr1,ig o' λd2 h2 ι2 H2 u g2 r2 hr2 o2=>?_⟩;refine⟨it.xs.length-(i+1),by omega,rfl,hlt,by simp;omega,ι2,h2,yd++[d2],(g0.trans g1).trans g2,hr2,((ry.mono g1).mono g2).snoc r2,o2⟩
  ·rw[bE hc]at o;exact o.elim
 ·have e:i=it.xs.length:=by omega
  subst e;rw[bS (aJ _),mapR]at o
  by_cases hc:it.ck h
  ·rw[aR hc]at o;refine .inl ⟨(ir ι H h g0 Rh hc).2,a3b (E:=E) ry Rh ?_⟩;simpa[R.bind,apq] using o
  ·rw[bE hc]at o;exact o.elim
section
variable{X:Cx}{E:XD}{aD tg aE cnd:Expr}{aB:Scope}{pos:Pos}{cl:List (Str×Addr)}{ts fr:List Str}{ix:List Nat}{fi:SI}{g:TG}{t:D->Option Sd}{fe:SE}{fc:ST}
theorem zy(hc:X.calm=true)(S:CSc X aB cl ts fr ix)(hi:MI X E tg aE fi)(hg:∀C fp s H,PG (cxC X (ts++fr) aB cl C fp s H) tg g)(ht:arz X.K ts.length g t)(he:∀C fp s H,ME (cxC X (ts++fr) aB cl C fp s H) E aD fe)
  (hs:∀x,foldedSetIterable aE X.env x=pure x:=by intro _;rfl):ME X E (.ListComp aD [⟨tg,aE,[],0⟩] aB pos) (p6 fi t fe ix):=by
 refine PE.weak (ala (te:=lift X.K E (a3u X.K) fe) hc S hi hg he hs) ?_
 rintro σ H Q ⟨ι,τ,h,Sr,Rh,o⟩
 refine⟨ι,τ,h,Sr,Rh,ig o λit h1 ι1 H1 J g1 r1 hr1 o1=>?_⟩
 by_cases hl:it.xs.length<=LINE
 ·rw[aR hl]at o1;exact aef r1 ht (aee (Sr.mono g1) ix) hr1 hl o1
 ·rw[bE hl]at o1;exact o1.elim
end
mutual
def clo(n:Nat):D->Prop
 |.tup xs=>clos n xs
 |.rol xs=>clos n xs
 |.rod _ xs=>clos n xs
 |.scr xs=>clos n xs
 |.rdT _ xs=>clos n xs
 |.ins _ _ xs=>clos n xs
 |.ref i=>i<n
 |_=>True
def clos(n:Nat):List D->Prop
 |[]=>True
 |x::xs=>clo n x/\clos n xs
end
mutual
theorem Rep.clo:∀{v:V} {d:D},Rep K ι H v d->clo ι.length d
 |_,_,.non=>by simp[MI.clo]
 |_,_,.bl b=>by simp[MI.clo]
 |_,_,.int i=>by simp[MI.clo]
 |_,_,.str x=>by simp[MI.clo]
 |_,_,.ty n=>by simp[MI.clo]
 |_,_,.tup h r=>by simp only[MI.clo];exact Reps.clo r
 |_,_,.rol h r=>by simp only[MI.clo];exact Reps.clo r
 |_,_,.ref h=>by simp only[MI.clo];exact(ag.mp h).1
 |_,_,.rod h e r=>by simp only[MI.clo];exact Reps.clo r
 |_,_,.scr h r=>by simp only[MI.clo];exact Reps.clo r
 |_,_,.rdT h e r=>by simp only[MI.clo];exact Reps.clo r
 |_,_,.exc h hc hn=>by simp[MI.clo]
 |_,_,.ins h hn e r=>by simp only[MI.clo];exact Reps.clo r
theorem Reps.clo:∀{vs:List V} {ds:List D},Reps K ι H vs ds->clos ι.length ds
 |_,_,.nil=>by simp[MI.clos]
 |_,_,.cons r rs=>by simp only[MI.clos];exact⟨Rep.clo r,Reps.clo rs⟩
end
mutual
theorem Rep.cut:∀{v:V} {d:D},Rep K ι H v d->clo n d->Rep K (ι.take n) H v d
 |_,_,.non,_=>.non
 |_,_,.bl b,_=>.bl b
 |_,_,.int i,_=>.int i
 |_,_,.str x,_=>.str x
 |_,_,.ty n,_=>.ty n
 |_,_,.tup h r,c=>.tup h (Reps.cut r (by simpa only[MI.clo] using c))
 |_,_,.rol h r,c=>.rol h (Reps.cut r (by simpa only[MI.clo] using c))
 |_,_,.ref h,c=>.ref (by simp only[MI.clo]at c;rw[eP,aR c];exact h)
 |_,_,.rod h e r,c=>.rod h e (Reps.cut r (by simpa only[MI.clo] using c))
 |_,_,.scr h r,c=>.scr h (Reps.cut r (by simpa only[MI.clo] using c))
 |_,_,.rdT h e r,c=>.rdT h e (Reps.cut r (by simpa only[MI.clo] using c))
 |_,_,.exc h hc hn,_=>.exc h hc hn
 |_,_,.ins h hn e r,c=>.ins h hn e (Reps.cut r (by simpa only[MI.clo] using c))
theorem Reps.cut:∀{vs:List V} {ds:List D},Reps K ι H vs ds->clos n ds->Reps K (ι.take n) H vs ds
 |_,_,.nil,_=>.nil
 |_,_,.cons r rs,c=>by simp only[MI.clos]at c;exact .cons (Rep.cut r c.1) (Reps.cut rs c.2)
end
def vg(n:Nat):O->Prop
 |.lst xs=>clos n xs
 |.dK kvs=>clos n (kvs.map (·.2))
 |.dT kvs=>clos n (kvs.map (·.2))
 |.ins _ fs=>clos n (fs.map (·.2))
def aua(n:Nat)(h:Hd):Prop:=∀o∈h,vg n o
theorem ORep.clo(r:ORep K ι H a o):vg ι.length o:=by
 cases o with
 |lst xs=>obtain⟨vs,_,r⟩:=r;exact r.clo
 |dK kvs=>obtain⟨us,_,_,r⟩:=r;exact r.clo
 |dT kvs=>obtain⟨us,_,_,r⟩:=r;exact r.clo
 |ins _ _=>obtain⟨_,_,us,_,_,_,r⟩:=r;exact r.clo
theorem ORep.cut(r:ORep K ι H a o)(c:vg n o):ORep K (ι.take n) H a o:=by
 cases o with
 |lst xs=>obtain⟨vs,h,r⟩:=r;exact⟨vs,h,r.cut c⟩
 |dK kvs=>obtain⟨us,h,e,r⟩:=r;exact⟨us,h,e,r.cut c⟩
 |dT kvs=>obtain⟨us,h,e,r⟩:=r;exact⟨us,h,e,r.cut c⟩
 |ins _ _=>obtain⟨C,dx,us,h,hn,e,r⟩:=r;exact⟨C,dx,us,h,hn,e,r.cut c⟩
theorem HRep.clo(r:HRep K ι H h):aua h.length h:=λo ho=>by
 obtain⟨i,hi⟩:=bX ho;obtain⟨a,_,q⟩:=r.addr hi;rw[<-r.len];exact q.clo
theorem HRep.cut(r:HRep K ι H (h++g))(c:aua h.length h):HRep K (ι.take h.length) H h:=by
 refine⟨r.nd.sublist (List.take_sublist _ _),?_,λi a o e1 e2=>?_⟩
 ·have:=r.len
  rw[ai]at this;rw[bN];omega
 ·have hi:i<h.length:=(ag.mp e2).1;rw[eP,aR hi]at e1;exact(r.obj i a o e1 (by rw[aM hi];exact e2)).cut (c o (aQ e2))
def X0:XD:=λ_ _ _ _=>False
abbrev SF:=List D->Hd->R D
def a00(K:Fg)(n:Nat)(F:SF):Sp:=λvs H Q _=>vs.length=n/\∃ι ds h,Reps K ι H vs ds/\HRep K ι H h/\out K X0 (a3u K) ι H (F ds h) Q
def a8e(n:Nat)(ds:List D):Sd:=ds.map some++List.replicate (n-ds.length) none
def nq(b:SS)(n:Nat)(ds:List D)(h:Hd):R D:=match b (a8e n ds) h with
 |.rt d h1=>.ok d h1
 |.nx _ h1=>.ok .non h1
 |.ex c h1=>.ex c h1
 |_=>.no
def Rf(n:Nat)(r' r:R D):Prop:=match r with
 |.no=>True
 |.ok d h1=>∃g,r'=.ok d (h1++g)/\(g=[]\/(n<=h1.length/\clo h1.length d/\aua h1.length h1))
 |.ex c h1=>∃g,r'=.ex c (h1++g)/\(g=[]\/(n<=h1.length/\aua h1.length h1))
theorem Rf.same(h:r'=r):Rf n r' r:=by
 subst h
 cases r' with
 |ok d h1=>exact⟨[],by simp,.inl rfl⟩
 |ex c h1=>exact⟨[],by simp,.inl rfl⟩
 |no=>exact True.intro
theorem afz(r:Reps K ι H vs ds):SRep K ι H (start N vs) (a8e N.length ds):=by
 refine aed ?_ ?_
 ·clear N
  induction r using Reps.rec (motive_1:=λ_ _ _=>True) with
  |nil=>exact aec
  |cons r rs _ ih=>exact abr r ih
  |_=>trivial
 ·rw[r.len];exact⟨by simp,λi d e=>by rw[dO]at e;split at e<;>cases e⟩
theorem ani(g:Gr ι H ι' H')(hn:ι.length<=n):Gr ι H (ι'.take n) H':=by
 obtain⟨m,rfl,hm⟩:=g.pre;exact⟨⟨m.take (n-ι.length),by rw[List.take_append,bR hn],λa ha=>hm a (ei ha)⟩,g.tup,g.frz,g.oth,g.kp⟩
section
variable{P:Program}{w:World}{K:Fg}{mg:Str->Option Value}{base:Heap}
theorem aub(Fu:Fun K x qual st f fd)(S:FnScope N ps (bc st))
  (hb:∀(cdv:Value) (A:Around) (outer:List Env) (s:Shared) (H:Hp) (E:XK),Room k (A.deeper (PyProof.Rows.envOfC qual (bc st) s.heap.objs.size f cdv))->MSs (a5r CX0 P w K mg base N qual (bc st) f cdv A outer s H E).nox X0 (km st) b)
  (hF:∀ds h,ds.length=ps.length->clos h.length ds->aua h.length h->Rf h.length (nq b N.length ds h) (F ds h)):FnOk P w K mg base CX0 (k+1) f fd ps (a00 K ps.length F):=by
 refine Fu.ok S (λvs H Q E h=>h.1) λcdv A outer s H vs Q E hr h=>⟨_,hb cdv A outer s H E hr,?_⟩;obtain⟨hl,ι,ds,h,r,hr',o⟩:=h;refine⟨ι,a8e N.length ds,h,afz r,hr',?_⟩;have q:=hF ds h (by rw[<-r.len];exact hl) (by rw[<-hr'.len];exact r.clo) hr'.clo
 unfold nq at q
 cases hFd:F ds h with
 |no=>rw[hFd]at o;exact o.elim
 |ex c h1 =>
  rw[hFd]at q o;obtain⟨g,e,cl⟩:=q;have fin:∀ι' H',Gr ι H ι' H'->HRep K ι' H' (h1++g)->X0 c ι' H' (h1++g):=λι' H' g1 hr1=>by
   rcases cl with rfl|⟨hn,c2⟩
   ·rw[bT]at hr1;exact o ι' H' g1 hr1
   ·exact o (ι'.take h1.length) H' (ani g1 (by rw[hr'.len];exact hn)) (hr1.cut c2)
  cases hbd:b (a8e N.length ds) h with
  |ex c' h' =>
   rw[hbd]at e
   injection e with e1 e2
   subst e1 e2;exact fin
  |_=>rw[hbd]at e;cases e
 |ok d h1 =>
  rw[hFd]at q o;obtain⟨g,e,cl⟩:=q;have fin:∀ι' H' v,Gr ι H ι' H'->Rep K ι' H' v d->HRep K ι' H' (h1++g)->Q v H':=λι' H' v g1 r1 hr1=>by
   rcases cl with rfl|⟨hn,c1,c2⟩
   ·rw[bT]at hr1;exact o ι' H' v g1 r1 hr1
   ·exact o (ι'.take h1.length) H' v (ani g1 (by rw[hr'.len];exact hn)) (r1.cut c1) (hr1.cut c2)
  cases hbd:b (a8e N.length ds) h with
  |rt d' h' =>
   rw[hbd]at e
   injection e with e1 e2
   subst e1 e2;exact fin
  |nx τ' h' =>
   rw[hbd]at e
   injection e with e1 e2
   subst e1 e2;exact λι' H' σ' g1 S1 hr1=>fin ι' H' .non g1 .non hr1
  |_=>rw[hbd]at e;cases e
def sN(n:Nat)(F:SF):SF:=λds h=>if ds.length=n then F ds h else .no
theorem auc(r:Reps K ι H vs ds)(hr:HRep K ι H h)(o:out K X0 (a3u K) ι H (sN n F ds h) Q)(E:XK):a00 K n F vs H Q E:=by
 unfold sN at o
 split at o
 ·rename_i hl;exact⟨by rw[r.len];exact hl,ι,ds,h,r,hr,o⟩
 ·exact o.elim
end
theorem aps{X:Cx}(G:Dn X.prog X.w X.K X.mg X.base k x ps (a00 X.K n F) f fd)(hr:Room k X.A)(hg:Gl X x)(ha:MA X X0 (e::es) ka)
  (hdb:(x == ("__debug__" : Str))=false:=by decide) (he:starEach (e::es) X.env=(false,eval e X.env)::starEach es X.env:=by rfl) (hpl:(backTo pos (starEach es X.env)).any (·.1)=false:=by rfl):ME X X0 (.Call (.Name x p) (e::es) [] pos) (sA (sN n F) ka):=by
 refine PE.weak (ah3 G.ok hr hg G.m G.kp G.b .nil ad5 ha hdb he hpl) ?_
 rintro σ H Q ⟨ι,τ,h,S,Rh,o⟩
 refine⟨ι,τ,h,S,Rh,ig o λds h1 ι1 H1 vs g1 r1 hr1 o1=>?_⟩;rw[bT];exact auc r1 hr1 o1 _
section
variable{K:Fg}{E:XD}{ι:List Addr}{H:Hp}{h:Hd}{Q:VK}
theorem ans(o:out K E (a3u K) ι H (.ok d h) Q)(r:Rep K ι H v d)(hr:HRep K ι H h):Q v H:=o ι H v (.refl _ _) r hr
theorem HRep.lst(hr:HRep K ι H h){i:Nat}{a:Addr}{xs:List D}(e:ι[i]? = some a)(hi:h[i]? = some (.lst xs)):∃vs,H a=some (.lst vs)/\Reps K ι H vs xs:=hr.obj i a _ e hi
end
def b1m:D->D->Hd->R D
 |.int i,.int j,h=>.ok (.int (i+j)) h
 |.str x,.str y,h=>if x.length+y.length<=LINE then .ok (.str (x++y)) h else .no
 |.tup xs,.tup ys,h=>if xs≠[]/\xs.length+ys.length<=LINE then .ok (.tup (xs++ys)) h else .no
 |.ref i,.ref j,h=>match h[i]?,h[j]? with
  |some (.lst xs),some (.lst ys)=>if xs.length+ys.length<=LINE then .ok (.ref h.length) (h++[.lst (xs++ys)]) else .no
  |_,_=>.no
 |_,_,_=>.no
def acs:D->D->Hd->R D
 |.int i,.int j,h=>.ok (.int (i-j)) h
 |_,_,_=>.no
open Classical in
noncomputable def aud:D->D->Hd->R D
 |.int i,.int j,h=>if CMul i j then .ok (.int (i*j)) h else .no
 |.ref i,.int k,h=>match h[i]? with
  |some (.lst xs)=>if (-(2^63)<=k/\k<2^63)/\xs.length*k.toNat<=LINE then .ok (.ref h.length) (h++[.lst (List.replicate k.toNat xs).flatten]) else .no
  |_=>.no
 |_,_,_=>.no
def a7g:D->D->Hd->R D
 |.int i,.int j,h=>if 0<j then .ok (.int (i%j)) h else .no
 |_,_,_=>.no
def ab2:D->D->Hd->R D
 |.int i,.int j,h=>if 0<j/\j<1073741824 then .ok (.int (i / j)) h else .no
 |_,_,_=>.no
def a9b:D->D->Hd->R D
 |.int i,.int j,h=>if 0<=j/\j<=1000000/\i.natAbs<2^64 then .ok (.int (i^j.toNat)) h else .no
 |_,_,_=>.no
section
variable{X:Cx}{K:Fg}
theorem apt:a3y K acs (rI0 λi j=>.int (i-j)):=by
 intro E ι H h x y dx dy Q rx ry hr o
 cases rx with
 |int i =>
  cases ry with
  |int j=>exact⟨i,j,rfl,rfl,ans o (.int _) hr⟩
  |_=>exact o.elim
 |_=>exact o.elim
theorem apu:a3y K a7g (rI (λ_ j=>0<j) λi j=>.int (i%j)):=by
 intro E ι H h x y dx dy Q rx ry hr o
 cases rx with
 |int i =>
  cases ry with
  |int j =>
   by_cases hc:0<j
   ·simp only[a7g,aR hc]at o;exact⟨i,j,rfl,rfl,hc,ans o (.int _) hr⟩
   ·simp only[a7g,bE hc]at o;exact o.elim
  |_=>exact o.elim
 |_=>exact o.elim
theorem ahz:a3y K ab2 (rI ayf λi j=>.int (i / j)):=by
 intro E ι H h x y dx dy Q rx ry hr o
 cases rx with
 |int i =>
  cases ry with
  |int j =>
   by_cases hc:0<j/\j<1073741824
   ·simp only[ab2,aR hc]at o;exact⟨i,j,rfl,rfl,hc,ans o (.int _) hr⟩
   ·simp only[ab2,bE hc]at o;exact o.elim
  |_=>exact o.elim
 |_=>exact o.elim
theorem apv:a3y K a9b (rI azx λi j=>.int (i^j.toNat)):=by
 intro E ι H h x y dx dy Q rx ry hr o
 cases rx with
 |int i =>
  cases ry with
  |int j =>
   by_cases hc:0<=j/\j<=1000000/\i.natAbs<2^64
   ·simp only[a9b,aR hc]at o;exact⟨i,j,rfl,rfl,hc,ans o (.int _) hr⟩
   ·simp only[a9b,bE hc]at o;exact o.elim
  |_=>exact o.elim
 |_=>exact o.elim
theorem ai0:a3y K aud (λx y H Q=>rI CMul (λi j=>.int (i*j)) x y H Q\/atq x y H Q):=by
 intro E ι H h x y dx dy Q rx ry hr o
 cases rx with
 |int i =>
  cases ry with
  |int j =>
   by_cases hc:CMul i j
   ·simp only[aud,aR hc]at o;exact .inl ⟨i,j,rfl,rfl,hc,ans o (.int _) hr⟩
   ·simp only[aud,bE hc]at o;exact o.elim
  |_=>exact o.elim
 |@ref a i ha =>
  cases ry with
  |int k =>
   simp only[aud]at o
   split at o
   ·rename_i xs hx;obtain⟨vs,h3,h4⟩:=hr.lst ha hx
    split at o
    ·rename_i hc;exact .inr ⟨a,k,vs,rfl,rfl,h3,hc.1.1,hc.1.2,ll (by rw[h4.len];exact hc.2),a3b (h4.flat _) hr o⟩
    ·exact o.elim
   ·exact o.elim
  |_=>exact o.elim
 |_=>exact o.elim
variable{E:XD}{a b e:Expr}{es:List Expr}{fa fb:SE}{ka:SA}{pos:Pos}
theorem ai1(ha:ME X E a fa)(hb:ME X E b fb):ME X E (.BinOp a .Sub b pos) (s2 acs fa fb):=ad9 atb apt ha hb
theorem a9c(ha:ME X E a fa)(hb:ME X E b fb):ME X E (.BinOp a .Mod b pos) (s2 a7g fa fb):=ad9 atc apu ha hb
theorem anj(ha:ME X E a fa)(hb:ME X E b fb):ME X E (.BinOp a .FloorDiv b pos) (s2 ab2 fa fb):=ad9 aor ahz ha hb
theorem ai2(ha:ME X E a fa)(hb:ME X E b fb):ME X E (.BinOp a .Pow b pos) (s2 a9b fa fb):=ad9 atd apv ha hb
def a8z:D->Hd->R D
 |.int i,h=>.ok (.int (-i)) h
 |_,_=>.no
theorem a4b(ha:ME X E a fa):ME X E (.UnaryOp .USub a pos) (s1 a8z fa):=ayz ate (λE ι H h x dx Q rx hr o=>by
 cases rx with
 |int i=>exact⟨i,rfl,ans o (.int _) hr⟩
 |_=>exact o.elim) ha
def gLt:D->D->Hd->R D
 |.int i,.int j,h=>.ok (.bl (decide (i<j))) h
 |.str i,.str j,h=>.ok (.bl (decide (i.cps.toList<j.cps.toList))) h
 |_,_,_=>.no
def gLe:D->D->Hd->R D
 |.int i,.int j,h=>.ok (.bl (decide (i<=j))) h
 |.str i,.str j,h=>.ok (.bl (!decide (j.cps.toList<i.cps.toList))) h
 |_,_,_=>.no
def gGt:D->D->Hd->R D
 |.int i,.int j,h=>.ok (.bl (decide (j<i))) h
 |_,_,_=>.no
def gGe:D->D->Hd->R D
 |.int i,.int j,h=>.ok (.bl (decide (j<=i))) h
 |_,_,_=>.no
theorem a5y:a3y K gLt (λx y H Q=>rI0 (λi j=>.bl (decide (i<j))) x y H Q\/∃i j,x=.str i/\y=.str j/\Q (.bl (decide (i.cps.toList<j.cps.toList))) H):=by
 intro E ι H h x y dx dy Q rx ry hr o
 cases rx with
 |int i =>
  cases ry with
  |int j=>exact .inl ⟨i,j,rfl,rfl,ans o (.bl _) hr⟩
  |_=>exact o.elim
 |str i =>
  cases ry with
  |str j=>exact .inr ⟨i,j,rfl,rfl,ans o (.bl _) hr⟩
  |_=>exact o.elim
 |_=>exact o.elim
theorem aue:a3y K gLe (λx y H Q=>rI0 (λi j=>.bl (decide (i<=j))) x y H Q\/∃i j,x=.str i/\y=.str j/\Q (.bl (!decide (j.cps.toList<i.cps.toList))) H):=by
 intro E ι H h x y dx dy Q rx ry hr o
 cases rx with
 |int i =>
  cases ry with
  |int j=>exact .inl ⟨i,j,rfl,rfl,ans o (.bl _) hr⟩
  |_=>exact o.elim
 |str i =>
  cases ry with
  |str j=>exact .inr ⟨i,j,rfl,rfl,ans o (.bl _) hr⟩
  |_=>exact o.elim
 |_=>exact o.elim
theorem ank:a3y K gGt (rI0 λi j=>.bl (decide (j<i))):=by
 intro E ι H h x y dx dy Q rx ry hr o
 cases rx with
 |int i =>
  cases ry with
  |int j=>exact⟨i,j,rfl,rfl,ans o (.bl _) hr⟩
  |_=>exact o.elim
 |_=>exact o.elim
theorem aeg:a3y K gGe (rI0 λi j=>.bl (decide (j<=i))):=by
 intro E ι H h x y dx dy Q rx ry hr o
 cases rx with
 |int i =>
  cases ry with
  |int j=>exact⟨i,j,rfl,rfl,ans o (.bl _) hr⟩
  |_=>exact o.elim
 |_=>exact o.elim
def a5z:D->Bool
 |.non=>true
 |_=>false
theorem ai3(r:Rep K ι H x .non):x=.non:=by cases r;rfl
theorem aeh{b:Bool}(r:Rep K ι H x (.bl b)):x=.bl b:=by cases r;rfl
theorem ai4{i:Int}(r:Rep K ι H x (.int i)):x=.int i:=by cases r;rfl
theorem aei(r:Rep K ι H x d):decide (x=.non)=a5z d:=by cases r<;>simp[a5z]
def gIs(x y:D)(h:Hd):R D:=match y with
 |.non=>.ok (.bl (a5z x)) h
 |.bl j=>(match x with|.bl i=>.ok (.bl (i == j)) h|_=>.no)
 |_=>.no
def a7h(x y:D)(h:Hd):R D:=match y with
 |.non=>.ok (.bl (!a5z x)) h
 |.bl j=>(match x with|.bl i=>.ok (.bl (i != j)) h|_=>.no)
 |_=>.no
theorem aej:a3y K gIs (λx y H Q=>(y=.non/\Q (.bl (decide (x=.non))) H)\/∃i j,x=.bl i/\y=.bl j/\Q (.bl (i == j)) H):=by
 intro E ι H h x y dx dy Q rx ry hr o
 cases dy with
 |non=>exact .inl ⟨ai3 ry,by rw[aei rx];exact ans o (.bl _) hr⟩
 |bl j =>
  cases dx with
  |bl i=>exact .inr ⟨i,j,aeh rx,aeh ry,ans o (.bl _) hr⟩
  |_=>exact o.elim
 |_=>exact o.elim
theorem a8f:a3y K a7h (λx y H Q=>(y=.non/\Q (.bl (!decide (x=.non))) H)\/∃i j,x=.bl i/\y=.bl j/\Q (.bl (i != j)) H):=by
 intro E ι H h x y dx dy Q rx ry hr o
 cases dy with
 |non=>exact .inl ⟨ai3 ry,by rw[aei rx];exact ans o (.bl _) hr⟩
 |bl j =>
  cases dx with
  |bl i=>exact .inr ⟨i,j,aeh rx,aeh ry,ans o (.bl _) hr⟩
  |_=>exact o.elim
 |_=>exact o.elim
def a2s:D->Bool
 |.non=>true|.bl _=>true|.int _=>true|.str _=>true
 |_=>false
def fvD:D->Option V
 |.non=>some .non|.bl b=>some (.bl b)|.int i=>some (.int i)|.str x=>some (.str x)
 |_=>none
theorem ald{d:D}(r:Rep K ι H x d)(f:a2s d=true):fvD d=some x:=by
 cases r<;>first|rfl|(cases f;done)
theorem fvs{d e:D}{P:D->V->D->V->Prop}(h:∀d x e y,fvD d=some x->fvD e=some y->P d x e y)(r:Rep K ι H x d)(q:Rep K ι H y e)(f:a2s d=true)(g:a2s e=true):P d x e y:=h d x e y (ald r f) (ald q g)
def eqF:D->D->Bool
 |.non,.non=>true
 |.bl i,.bl j=>i == j
 |.int i,.int j=>i == j
 |.str i,.str j=>i == j
 |.int i,.bl j=>i == (if j then 1 else 0)
 |.bl i,.int j=>(if i then 1 else 0) == j
 |_,_=>false
end
section
variable{X:Cx}{K:Fg}{E:XD}{a b e o:Expr}{es:List Expr}{fa fb:SE}{ka:SA}{pos:Pos}
def a3c(d:D)(h:Hd):Option (List D):=match d with
 |.tup xs=>some xs
 |.rol xs=>some xs
 |.ref i=>match h[i]? with|some (.lst xs)=>some xs|_=>none
 |_=>none
def gIx(x y:D)(h:Hd):R D:=match y with
 |.int i=>(match x with
  |.str z=>if z.length<=LINE then (match atI z.cps.toList i with|some c=>.ok (.str ⟨#[c]⟩) h|none=>.no) else .no
  |x=>match a3c x h with
   |some xs=>(match atI xs i with|some d=>.ok d h|none=>.no)
   |none=>.no)
 |_=>.no
theorem aek(r:Reps K ι H vs xs)(e:atI xs i=some d):∃v,atI vs i=some v/\Rep K ι H v d:=by
 unfold atI at e ⊢;rw[r.len]
 cases hx:ixN xs.length i with
 |none=>rw[hx]at e;cases e
 |some j=>rw[hx]at e;exact r.get e
theorem auf:a3y K gIx (rIx K):=by
 intro E ι H h x y dx dy Q rx ry hr o
 cases ry with
 |int i =>
  have go:∀{p:Addr} {vs:List V} {xs:List D},Reps K ι H vs xs->out K E (a3u K) ι H (match atI xs i with|some d=>.ok d h|none=>.no) Q->∃v,atI vs i=some v/\Q v H:=λ{p vs xs} r o=>by
   cases he:atI xs i with
   |none=>rw[he]at o;exact o.elim
   |some d =>
    rw[he]at o;obtain⟨v,h1,h2⟩:=aek r he;exact⟨v,h1,ans o h2 hr⟩
  cases rx with
  |str z =>
   by_cases hc:z.length<=LINE
   ·simp only[gIx,aR hc]at o
    cases he:atI z.cps.toList i with
    |none=>rw[he]at o;exact o.elim
    |some c=>rw[he]at o;exact .inr (.inr ⟨z,i,c,rfl,rfl,ll hc,he,ans o (.str _) hr⟩)
   ·simp only[gIx,bE hc]at o;exact o.elim
  |@tup p vs xs hp r =>
   simp only[gIx,a3c]at o;obtain⟨v,h1,h2⟩:=go (p:=p) r o;exact .inr (.inl ⟨p,vs,i,v,rfl,rfl,SqT.of hp,h1,h2⟩)
  |@rol p vs xs hp r =>
   simp only[gIx,a3c]at o;obtain⟨v,h1,h2⟩:=go (p:=p) r o;exact .inl ⟨p,vs,i,v,rfl,rfl,hp.l,h1,h2⟩
  |@ref p j hp =>
   obtain⟨ob,e1,e2⟩:=hr.at hp
   cases ob with
   |lst xs =>
    simp only[gIx,a3c,e1]at o;obtain⟨vs,h3,h4⟩:=e2;obtain⟨v,h1,h2⟩:=go (p:=p) h4 o;exact .inl ⟨p,vs,i,v,rfl,rfl,SqL.of h3,h1,h2⟩
   |dK _=>simp only[gIx,a3c,e1]at o;exact o.elim
   |dT _=>simp only[gIx,a3c,e1]at o;exact o.elim
   |ins _ _=>simp only[gIx,a3c,e1]at o;exact o.elim
  |_=>exact o.elim
 |_=>exact o.elim
theorem apw(ha:ME X E a fa)(hb:ME X E b fb)(hp:a9v b):ME X E (.Subscript a b pos) (s2 gIx fa fb):=az0 ato auf ha hb hp
abbrev SO:=Sd->Hd->R (Option Int)
abbrev MO(X:Cx)(E:XD)(e:Option Expr)(f:SO):Prop:=PO X e (lift X.K E b1k f)
def oN:SO:=λ_ h=>.ok none h
def oS(f:SE):SO:=λτ h=>(f τ h).bind λd h1=>match d with|.int i=>.ok (some i) h1|_=>.no
theorem PO.weak{e:Option Expr}{t t':St->Hp->(Option Int->Hp->Prop)->Prop}(h:PO X e t)(i:∀σ H Q,t' σ H Q->t σ H Q):PO X e t':=λaA s σ H Q I q=>h aA s σ H Q I (i _ _ _ q)
theorem a0k:MO X E none oN:=PO.weak ap4 λσ H Q ⟨ι,τ,h,S,Rh,o⟩=>o ι H none (.refl _ _) rfl Rh
theorem yu(he:ME X E e fa):MO X E (some e) (oS fa):=by
 refine PO.weak (ap5 he) ?_
 rintro σ H Q ⟨ι,τ,h,S,Rh,o⟩
 refine⟨ι,τ,h,S,Rh,ig o λd h1 ι1 H1 v g1 r1 hr1 o1=>?_⟩
 cases r1 with
 |int i=>exact⟨i,rfl,o1 ι1 H1 _ (.refl _ _) rfl hr1⟩
 |_=>exact o1.elim
def whole(n:Nat)(lo hi:Option Int):Prop:=HT.sIx n 0 lo=0/\HT.sIx n n hi=n
instance (n:Nat) (lo hi:Option Int):Decidable (whole n lo hi):=by unfold whole;exact inferInstance
def gSl(d:D)(lo hi:Option Int)(h:Hd):R D:=match d with
 |.str z=>if z.length<=LINE then .ok (.str ⟨(a8y z.cps.toList lo hi).toArray⟩) h else .no
 |.tup xs=>if ¬ whole xs.length lo hi then .ok (.tup (a8y xs lo hi)) h else .no
 |.rol xs=>.ok (.ref h.length) (h++[.lst (a8y xs lo hi)])
 |.scr xs=>.ok (.ref h.length) (h++[.lst (a8y xs lo hi)])
 |.ref i=>match h[i]? with|some (.lst xs)=>.ok (.ref h.length) (h++[.lst (a8y xs lo hi)])|_=>.no
 |_=>.no
theorem a65(r:Reps K ι H vs xs)(lo hi:Option Int):Reps K ι H (an8 vs lo hi) (a8y xs lo hi):=by
 unfold an8 a8y;rw[r.len];exact(r.drop _).take _
theorem ael(rx:Rep K ι H x d)(hr:HRep K ι H h)(o:out K E (a3u K) ι H (gSl d lo hi h) Q):ayv x lo hi H Q\/ayn K x lo hi H Q\/ayp K x lo hi H Q:=by
 cases rx with
 |str z =>
  by_cases hc:z.length<=LINE
  ·simp only[gSl,aR hc]at o;exact .inl ⟨z,rfl,ll hc,ans o (.str _) hr⟩
  ·simp only[gSl,bE hc]at o;exact o.elim
 |@tup p vs xs hp r =>
  by_cases hc:¬ whole xs.length lo hi
  ·simp only[gSl,aR hc]at o;exact .inr (.inl ⟨p,vs,rfl,SqT.of hp,by rw[r.len];exact hc,a4a (a65 r lo hi) hr o⟩)
  ·simp only[gSl,bE hc]at o;exact o.elim
 |@rol p vs xs hp r=>exact .inr (.inr ⟨p,vs,rfl,hp.l,a3b (a65 r lo hi) hr o⟩)
 |@scr p vs xs hp r=>exact .inr (.inr ⟨p,vs,rfl,hp.l,a3b (a65 r lo hi) hr o⟩)
 |@ref p j hp =>
  obtain⟨ob,e1,e2⟩:=hr.at hp
  cases ob with
  |lst xs =>
   simp only[gSl,e1]at o;obtain⟨vs,h3,h4⟩:=e2;exact .inr (.inr ⟨p,vs,rfl,SqL.of h3,a3b (a65 h4 lo hi) hr o⟩)
  |dK _=>simp only[gSl,e1]at o;exact o.elim
  |dT _=>simp only[gSl,e1]at o;exact o.elim
  |ins _ _=>simp only[gSl,e1]at o;exact o.elim
 |_=>exact o.elim
theorem ai5(r:Rep K ι H x d)(f:a2s d=true):a5g x=true:=by cases r<;>first|rfl|cases f
theorem auh(r:Rep K ι H x d)(q:Rep K ι H y c):a2s d=true->a2s c=true->eqV x y=eqF d c:=λf g=>by
 refine fvs (P:=λd x c y=>eqV x y=eqF d c) (λd x e y h h'=>?_) r q f g
 cases d<;>first|(cases h;done)|(cases h;cases e<;>first|(cases h';done)|(cases h';rfl))
def inD(x:D)(xs:List D):Bool:=xs.any λy=>eqF y x
theorem ale(r:Reps K ι H vs xs)(f:xs.all a2s=true):vs.all a5g=true:=by
 induction r using Reps.rec (motive_1:=λ_ _ _=>True) with
 |nil=>rfl
 |cons r rs _ ih =>
  rw[fD,cE]at f ⊢;exact⟨ai5 r f.1,ih f.2⟩
 |_=>trivial
theorem aui(rx:Rep K ι H x d)(fx:a2s d=true)(r:Reps K ι H vs xs)(f:xs.all a2s=true):inV x vs=inD d xs:=by
 unfold inV inD
 induction r using Reps.rec (motive_1:=λ_ _ _=>True) with
 |nil=>rfl
 |cons r rs _ ih =>
  rw[fD,cE]at f;rw[e8,e8,ih f.2,auh r rx f.1 fx]
 |_=>trivial
def gIn(neg:Bool)(x y:D)(h:Hd):R D:=match y with
 |.str T=>(match x with
  |.str z=>(match z.cps.toList with|[c]=>.ok (.bl (if neg then !decide (c∈T.cps.toList) else decide (c∈T.cps.toList))) h|_=>.no)
  |_=>.no)
 |y=>match a3c y h with
  |some xs=>if a2s x=true/\xs.all a2s=true then .ok (.bl (if neg then !inD x xs else inD x xs)) h else .no
  |none=>.no
theorem one_sign{z:Str}(h:z.cps.toList=[c]):z=⟨#[c]⟩:=by
 obtain⟨cps⟩:=z
 congr
 exact Array.ext' (by simpa using h)
theorem anl(neg:Bool){r1:R2}(h1:∀c T H (Q:VK),Q (.bl (if neg then !decide (c∈T.cps.toList) else decide (c∈T.cps.toList))) H->r1 (.str ⟨#[c]⟩) (.str T) H Q):a3y K (gIn neg) (λx y H Q=>r1 x y H Q\/rIn K neg x y H Q):=by
 intro E ι H h x y dx dy Q rx ry hr o
 have go:∀{p:Addr} {vs:List V} {xs:List D},(SqL K H p vs\/SqT K H p vs)->Reps K ι H vs xs->out K E (a3u K) ι H (if a2s dx=true/\xs.all a2s=true then .ok (.bl (if neg then !inD dx xs else inD dx xs)) h else .no) Q->rIn K neg x (.ref p) H Q:=λ{p vs xs} sq r o=>by
  split at o
  ·rename_i hc;exact⟨p,vs,rfl,sq,ai5 rx hc.1,ale r hc.2,by rw[aui rx hc.1 r hc.2];exact ans o (.bl _) hr⟩
  ·exact o.elim
 cases ry with
 |str T =>
  cases rx with
  |str z =>
   simp only[gIn]at o
   split at o
   ·rename_i c hz;rw[one_sign hz];exact .inl (h1 c T H Q (ans o (.bl _) hr))
   ·exact o.elim
  |_=>exact o.elim
 |@tup p vs xs hp r=>simp only[gIn,a3c]at o;exact .inr (go (.inr (SqT.of hp)) r o)
 |@rol p vs xs hp r=>simp only[gIn,a3c]at o;exact .inr (go (.inl hp.l) r o)
 |@ref p j hp =>
  obtain⟨ob,e1,e2⟩:=hr.at hp
  cases ob with
  |lst xs =>
   simp only[gIn,a3c,e1]at o;obtain⟨vs,h3,h4⟩:=e2;exact .inr (go (.inl (SqL.of h3)) h4 o)
  |dK _=>simp only[gIn,a3c,e1]at o;exact o.elim
  |dT _=>simp only[gIn,a3c,e1]at o;exact o.elim
  |ins _ _=>simp only[gIn,a3c,e1]at o;exact o.elim
 |_=>exact o.elim
theorem apx:a3y K (gIn false) (λx y H Q=>(∃c T,x=.str ⟨#[c]⟩/\y=.str T/\Q (.bl (decide (c∈T.cps.toList))) H)\/rIn K false x y H Q):=anl false λc T H Q q=>⟨c,T,rfl,rfl,q⟩
theorem apy:a3y K (gIn true) (λx y H Q=>(∃c T,x=.str ⟨#[c]⟩/\y=.str T/\Q (.bl (!decide (c∈T.cps.toList))) H)\/rIn K true x y H Q):=anl true λc T H Q q=>⟨c,T,rfl,rfl,q⟩
def vh:List D->Hd->R D
 |[.str z],h=>if z.length<=LINE then .ok (.int z.length) h else .no
 |[x],h=>(match a3c x h with|some xs=>.ok (.int xs.length) h|none=>.no)
 |_,_=>.no
theorem apz:agk K vh (λxs H Q=>(∃p ys,xs=[.ref p]/\(SqL K H p ys\/SqT K H p ys)/\Q (.int ys.length) H)\/∃z,xs=[.str z]/\z.length<=sizeLine/\Q (.int z.length) H):=by
 intro E ι H h xs ds Q r hr o
 cases r with
 |nil=>exact o.elim
 |cons r rs =>
  cases rs with
  |cons _ _=>exact(show False by cases r<;>exact o).elim
  |nil =>
   cases r with
   |str z =>
    by_cases hc:z.length<=LINE
    ·simp only[vh,aR hc]at o;exact .inr ⟨z,rfl,ll hc,ans o (.int _) hr⟩
    ·simp only[vh,bE hc]at o;exact o.elim
   |@tup p vs xs hp r=>simp only[vh,a3c]at o;exact .inl ⟨p,vs,rfl,.inr (SqT.of hp),by rw[r.len];exact ans o (.int _) hr⟩
   |@rol p vs xs hp r=>simp only[vh,a3c]at o;exact .inl ⟨p,vs,rfl,.inl hp.l,by rw[r.len];exact ans o (.int _) hr⟩
   |@ref p j hp =>
    obtain⟨ob,e1,e2⟩:=hr.at hp
    cases ob with
    |lst xs =>
     simp only[vh,a3c,e1]at o;obtain⟨vs,h3,h4⟩:=e2;exact .inl ⟨p,vs,rfl,.inl (SqL.of h3),by rw[h4.len];exact ans o (.int _) hr⟩
    |dK _=>simp only[vh,a3c,e1]at o;exact o.elim
    |dT _=>simp only[vh,a3c,e1]at o;exact o.elim
    |ins _ _=>simp only[vh,a3c,e1]at o;exact o.elim
   |_=>exact o.elim
def axo:List D->Hd->R D
 |[.int i],h=>.ok (.int (if i<0 then -i else i)) h
 |_,_=>.no
theorem aq0:agk K axo (λxs H Q=>∃i,xs=[.int i]/\Q (.int (if i<0 then -i else i)) H):=by
 intro E ι H h xs ds Q r hr o
 unfold axo at o
 split at o
 ·cases r with|cons r rs=>cases r;cases rs;exact⟨_,rfl,ans o (.int _) hr⟩
 ·exact o.elim
def alf:List D->Hd->R D
 |[.int i,.int j],h=>.ok (.int (if j > i then j else i)) h
 |_,_=>.no
def aa3:List D->Hd->R D
 |[.int i,.int j],h=>.ok (.int (if j<i then j else i)) h
 |_,_=>.no
theorem alg:agk K aa3 (λxs H Q=>∃i j,xs=[.int i,.int j]/\Q (.int (if j<i then j else i)) H):=by
 intro E ι H h xs ds Q r hr o
 unfold aa3 at o
 split at o
 ·cases r with|cons r rs=>cases rs with|cons q rs=>cases r;cases q;cases rs;exact⟨_,_,rfl,ans o (.int _) hr⟩
 ·exact o.elim
def aq1:List D->Hd->R D
 |[.int i],h=>.ok (.int i) h
 |[.bl k],h=>.ok (.int (if k then 1 else 0)) h
 |_,_=>.no
theorem aq2:agk K aq1 (λxs H Q=>(∃i,xs=[.int i]/\Q (.int i) H)\/∃k,xs=[.bl k]/\Q (.int (if k then 1 else 0)) H):=by
 intro E ι H h xs ds Q r hr o
 unfold aq1 at o
 split at o
 ·cases r with|cons r rs=>cases r;cases rs;exact .inl ⟨_,rfl,ans o (.int _) hr⟩
 ·cases r with|cons r rs=>cases r;cases rs;exact .inr ⟨_,rfl,ans o (.int _) hr⟩
 ·exact o.elim
def tyD(d:D)(h:Hd):Option String:=match d with
 |.non=>some "NoneType" |.bl _=>some "bool" |.int _=>some "int" |.str _=>some "str" |.tup _=>some "tuple" |.rol _=>some "list"
 |.ref i=>(match h[i]? with|some (.lst _)=>some "list" |some (.dK _)=>some "dict" |_=>none)
 |_=>none
def agl(t T:String):Option Bool :=
 if t∈["NoneType","bool","int","str","tuple","list","dict"]/\T∈["bool","int","str","tuple","list","dict"] then some (t == T || (t == "bool" && T == "int")) else none
theorem ai6{t T:String}{b:Bool}(e:agl t T=some b):PySem.W.kitOne K (.type t) (.type T)=some b:=by
 unfold agl at e
 split at e
 ·rename_i h;obtain⟨h1,h2⟩:=h;simp only[aS,bp,cG]at h1 h2
  rcases h1 with rfl|rfl|rfl|rfl|rfl|rfl|rfl<;>rcases h2 with rfl|rfl|rfl|rfl|rfl|rfl<;>(cases e;rfl)
 ·cases e
def akc:List D->Hd->R D
 |[x,.ty T],h=>(match tyD x h with|some t=>(match agl t T with|some b=>.ok (.bl b) h|none=>.no)|none=>.no)
 |_,_=>.no
theorem auj(r:Rep K ι H x d)(hr:HRep K ι H h)(e:tyD d h=some t):TyOf K H x (.type t):=by
 cases r with
 |non=>cases e;exact .non
 |bl b=>cases e;exact .bl b
 |int b=>cases e;exact .int b
 |str b=>cases e;exact .str b
 |ty _=>cases e
 |tup hp r=>cases e;exact .tup hp
 |rol hp r=>cases e;obtain⟨o,hp⟩:=hp;exact .frz hp
 |scr _ _=>cases e
 |rod _ _ _=>cases e
 |rdT _ _ _=>cases e
 |exc _ _ _=>cases e
 |ins _ _ _ _=>cases e
 |ref hp =>
  obtain⟨ob,e1,e2⟩:=hr.at hp
  cases ob with
  |lst xs=>simp only[tyD,e1]at e;cases e;obtain⟨vs,h3,h4⟩:=e2;exact .lst h3
  |dK _=>simp only[tyD,e1]at e;cases e;obtain⟨vs,h3,h4⟩:=e2;exact .dK h3
  |dT _=>simp only[tyD,e1]at e;cases e
  |ins _ _=>simp only[tyD,e1]at e;cases e
theorem aq3:agk K akc (λxs H Q=>∃x T t b,xs=[x,.ty T]/\TyOf K H x t/\PySem.W.kitOne K t (.type T)=some b/\Q (.bl b) H):=by
 intro E ι H h xs ds Q r hr o
 unfold akc at o
 split at o
 ·rename_i d T
  cases r with
  |cons r rs =>
   cases rs with
   |cons q rs =>
    cases q;cases rs
    cases ht:tyD d h with
    |none=>rw[ht]at o;exact o.elim
    |some t =>
     rw[ht]at o
     cases hb:agl t T with
     |none=>simp only[hb]at o;exact o.elim
     |some b =>
      simp only[hb]at o;exact⟨_,T,.type t,b,rfl,auj r hr ht,ai6 hb,ans o (.bl _) hr⟩
 ·exact o.elim
end
section
variable{X:Cx}{K:Fg}{E:XD}{a b e o:Expr}{es:List Expr}{fa fb fo:SE}{ka:SA}{pos apos cpos:Pos}{name:Str}{idn:String}
def anm(K:Fg)(g:D->List D->Hd->R D)(r:V->List V->Hp->VK->Prop):Prop:=∀(E:XD) ι H h x dx xs ds Q,Rep K ι H x dx->Reps K ι H xs ds->HRep K ι H h->out K E (a3u K) ι H (g dx ds h) Q->r x xs H Q
def isL(d:D)(h:Hd):Bool:=match d with|.ref i=>(match h[i]? with|some (.lst _)=>true|_=>false)|.rol _=>true|_=>false
def sML(g:D->List D->Hd->R D)(f:SE)(k:SA):SE:=λτ h=>(f τ h).bind λd h1=>if isL d h1=true then (k τ h1).bind λds h2=>g d ds h2 else .no
theorem auk(r:Rep K ι H x d)(hr:HRep K ι H h)(e:isL d h=true):tyV K "list" x H:=by
 cases r with
 |rol hp _=>exact .inl ⟨rfl,_,hp.l⟩
 |ref hp =>
  obtain⟨ob,e1,e2⟩:=hr.at hp
  cases ob with
  |lst xs=>obtain⟨vs,h3,_⟩:=e2;exact .inl ⟨rfl,_,SqL.of h3⟩
  |dK _=>simp[isL,e1]at e
  |dT _=>simp[isL,e1]at e
  |ins _ _=>simp[isL,e1]at e
 |_=>cases e
theorem a73(slot:Slot "list" name idn)(hty:typeOf (.builtin idn)=pure (.type "method_descriptor"))(hm:MtR X idn r)(hs:anm X.K g r)(ho:ME X E o fo)(ha:MA X E (e::es) ka)
  (hbase:attributeBase o name X.env (eval o X.env)=eval o X.env:=by rfl)
  (hfew:((backTo cpos (starEach (e::es) X.env)).all (λx => !x.1) && (backToKw cpos (keywordEach [] X.env)).all (λx=>x.1.isSome)
   && decide ((e::es).length+([]:List Keyword).length+(if ([]:List Keyword).isEmpty then 0 else 1)<30))=true:=by rfl)
  (hline:(apos.endLine == cpos.line)=true:=by rfl) (hst:starEach (e::es) X.env=(false,eval e X.env)::starEach es X.env:=by rfl) (hplain:(backTo cpos (starEach es X.env)).any (·.1)=false:=by rfl) :
  ME X E (.Call (.Attribute o name apos) (e::es) [] cpos) (sML g fo ka):=by
 refine PE.weak (ayq PySem.F.plainAttrs_list slot hty hm ho ha hbase hfew hline hst hplain) ?_
 rintro σ H Q ⟨ι,τ,h,S,Rh,o⟩
 refine⟨ι,τ,h,S,Rh,ig o λd h1 ι1 H1 v g1 r1 hr1 o1=>?_⟩
 by_cases hc:isL d h1=true
 ·rw[aR hc]at o1;refine⟨auk r1 hr1 hc,ι1,τ,h1,S.mono g1,hr1,ig o1 λds h2 ι2 H2 vs g2 r2 hr2 o2=>?_⟩;exact hs E ι2 H2 h2 v d vs ds Q (r1.mono g2) r2 hr2 o2
 ·rw[bE hc]at o1;exact o1.elim
def a7s:D->List D->Hd->R D
 |.ref i,[y],h=>(match h[i]? with|some (.lst xs)=>if xs.length<LINE then .ok .non (h.set i (.lst (xs++[y]))) else .no|_=>.no)
 |_,_,_=>.no
theorem a1a:anm K a7s ahc:=by
 intro E ι H h x dx xs ds Q rx r hr o
 unfold a7s at o
 split at o
 ·rename_i i y
  cases rx with
  |@ref p _ hp =>
   cases r with
   |cons r1 rs =>
    cases rs
    split at o
    ·rename_i xs hx;obtain⟨vs,h3,h4⟩:=hr.lst hp hx
     split at o
     ·rename_i hc;exact⟨p,vs,_,rfl,rfl,h3,by rw[h4.len,aph];exact hc,ada (h4.snoc r1) hr hp .non o⟩
     ·exact o.elim
    ·exact o.elim
 ·exact o.elim
def sMS(g:D->List D->Hd->R D)(f:SE)(k:SA):SE:=λτ h=>(f τ h).bind λd h1=>match d with|.str z=>(k τ h1).bind λds h2=>g (.str z) ds h2|_=>.no
theorem ai7(slot:Slot "str" name idn)(hty:typeOf (.builtin idn)=pure (.type "method_descriptor"))(hm:MtR X idn r)(hs:anm X.K g r)(ho:ME X E o fo)(ha:MA X E (e::es) ka)
  (hbase:attributeBase o name X.env (eval o X.env)=eval o X.env:=by rfl)
  (hfew:((backTo cpos (starEach (e::es) X.env)).all (λx => !x.1) && (backToKw cpos (keywordEach [] X.env)).all (λx=>x.1.isSome)
   && decide ((e::es).length+([]:List Keyword).length+(if ([]:List Keyword).isEmpty then 0 else 1)<30))=true:=by rfl)
  (hline:(apos.endLine == cpos.line)=true:=by rfl) (hst:starEach (e::es) X.env=(false,eval e X.env)::starEach es X.env:=by rfl) (hplain:(backTo cpos (starEach es X.env)).any (·.1)=false:=by rfl) :
  ME X E (.Call (.Attribute o name apos) (e::es) [] cpos) (sMS g fo ka):=by
 refine PE.weak (ayx slot hty hm ho ha hbase hfew hline hst hplain) ?_
 rintro σ H Q ⟨ι,τ,h,S,Rh,o⟩
 refine⟨ι,τ,h,S,Rh,ig o λd h1 ι1 H1 v g1 r1 hr1 o1=>?_⟩
 cases r1 with
 |str z=>exact⟨⟨z,rfl⟩,ι1,τ,h1,S.mono g1,hr1,ig o1 λds h2 ι2 H2 vs g2 r2 hr2 o2=>hs E ι2 H2 h2 _ _ vs ds Q (.str z) r2 hr2 o2⟩
 |_=>exact o1.elim
def adb:D->List D->Hd->R D
 |.str T,[.str z],h=>(match z.cps.toList with|[c]=>.ok (.int (a5u T c)) h|_=>.no)
 |_,_,_=>.no
theorem aem:anm K adb (λx xs H Q=>∃T c,x=.str T/\xs=[.str ⟨#[c]⟩]/\Q (.int (a5u T c)) H):=by
 intro E ι H h x dx xs ds Q rx r hr o
 unfold adb at o
 split at o
 ·cases rx
  cases r with
  |cons r1 rs =>
   cases r1;cases rs
   split at o
   ·rename_i c hz;exact⟨_,c,rfl,by rw[one_sign hz],ans o (.int _) hr⟩
   ·exact o.elim
 ·exact o.elim
def abt:D->List D->Hd->R D
 |.str T,[.str z],h=>(match z.cps.toList with|[c]=>if c∈T.cps.toList then .ok (.int (a5u T c)) h else .no|_=>.no)
 |_,_,_=>.no
theorem ai8:anm K abt (λx xs H Q=>∃T c,x=.str T/\xs=[.str ⟨#[c]⟩]/\c∈T.cps.toList/\Q (.int (a5u T c)) H):=by
 intro E ι H h x dx xs ds Q rx r hr o
 unfold abt at o
 split at o
 ·cases rx
  cases r with
  |cons r1 rs =>
   cases r1;cases rs
   split at o
   ·rename_i c hz
    split at o
    ·rename_i hc;exact⟨_,c,rfl,by rw[one_sign hz],hc,ans o (.int _) hr⟩
    ·exact o.elim
   ·exact o.elim
 ·exact o.elim
def adc:List D->Option (List Str)
 |[]=>some []
 |.str z::r=>(adc r).map (z::·)
 |_::_=>none
theorem aa4:∀{vs:List V} {xs:List D} {zs:List Str},Reps K ι H vs xs->adc xs=some zs->vs=zs.map V.str
 |_,_,_,.nil,e=>by cases e;rfl
 |_,_,zs,.cons (d:=d) r rs,e=>by
  cases r with
  |str z =>
   simp only[adc,aU]at e;obtain⟨ws,h1,rfl⟩:=e;rw[aa4 rs h1];rfl
  |_=>cases e
def abu:D->List D->Hd->R D
 |.str sep,[.ref i],h=>(match h[i]? with|some (.lst xs)=>(match adc xs with|some zs=>if (zs.map (·.length)).sum+zs.length*sep.length<=16777216 then .ok (.str (Txt.join sep zs)) h else .no|none=>.no)|_=>.no)
 |.str sep,[.rol xs],h=>(match adc xs with|some zs=>if (zs.map (·.length)).sum+zs.length*sep.length<=16777216 then .ok (.str (Txt.join sep zs)) h else .no|none=>.no)
 |_,_,_=>.no
theorem aen:anm K abu (λx xs H Q=>∃sep p zs,x=.str sep/\xs=[.ref p]/\SqL K H p (zs.map V.str)/\(zs.map (·.length)).sum+zs.length*sep.length<=16777216/\Q (.str (Txt.join sep zs)) H):=by
 intro E ι H h x dx xs ds Q rx r hr o
 unfold abu at o
 split at o
 ·rename_i sep i;cases rx
  cases r with
  |cons r1 rs =>
   cases rs
   cases r1 with
   |@ref p _ hp =>
    split at o
    ·rename_i xs hx;obtain⟨vs,h3,h4⟩:=hr.lst hp hx
     split at o
     ·rename_i zs hz
      split at o
      ·rename_i hc;exact⟨sep,p,zs,rfl,rfl,SqL.of (by rw[h3,aa4 h4 hz]),hc,ans o (.str _) hr⟩
      ·exact o.elim
     ·exact o.elim
    ·exact o.elim
 ·rename_i sep xs;cases rx
  cases r with
  |cons r1 rs =>
   cases rs
   cases r1 with
   |@rol p vs xs hp r =>
    split at o
    ·rename_i zs hz
     split at o
     ·rename_i hc;exact⟨sep,p,zs,rfl,rfl,by rw[<-aa4 r hz];exact hp.l,hc,ans o (.str _) hr⟩
     ·exact o.elim
    ·exact o.elim
 ·exact o.elim
theorem a9d(z:Str):Reps K ι H (a3m z) (a0z z):=by
 unfold a3m a0z
 induction z.cps.toList with
 |nil=>exact .nil
 |cons c cs ih=>exact .cons (.str _) ih
def yg:List D->Hd->R D
 |[.str z],h=>if z.length<=LINE then .ok (.tup (a0z z)) h else .no
 |[x],h=>(match a3c x h with|some xs=>.ok (.tup xs) h|none=>.no)
 |_,_=>.no
theorem a4c:agk K yg (λxs H Q=>(∃p ys,xs=[.ref p]/\((SqL K H p ys/\∀l,H l=none->Q (.ref l) (upd H l (.tup ys)))\/(SqT K H p ys/\Q (.ref p) H)))\/∃z,xs=[.str z]/\z.length<=sizeLine/\∀l,H l=none->Q (.ref l) (upd H l (.tup (a3m z)))):=by
 intro E ι H h xs ds Q r hr o
 cases r with
 |nil=>exact o.elim
 |cons r rs =>
  cases rs with
  |cons _ _=>exact(show False by cases r<;>exact o).elim
  |nil =>
   cases r with
   |str z =>
    by_cases hc:z.length<=LINE
    ·simp only[yg,aR hc]at o;exact .inr ⟨z,rfl,ll hc,a4a (a9d z) hr o⟩
    ·simp only[yg,bE hc]at o;exact o.elim
   |@tup p vs xs hp r=>simp only[yg,a3c]at o;exact .inl ⟨p,vs,rfl,.inr ⟨SqT.of hp,ans o (.tup hp r) hr⟩⟩
   |@rol p vs xs hp r=>simp only[yg,a3c]at o;exact .inl ⟨p,vs,rfl,.inl ⟨hp.l,a4a r hr o⟩⟩
   |@ref p j hp =>
    obtain⟨ob,e1,e2⟩:=hr.at hp
    cases ob with
    |lst xs =>
     simp only[yg,a3c,e1]at o;obtain⟨vs,h3,h4⟩:=e2;exact .inl ⟨p,vs,rfl,.inl ⟨SqL.of h3,a4a h4 hr o⟩⟩
    |dK _=>simp only[yg,a3c,e1]at o;exact o.elim
    |dT _=>simp only[yg,a3c,e1]at o;exact o.elim
    |ins _ _=>simp only[yg,a3c,e1]at o;exact o.elim
   |_=>exact o.elim
def aq4:List D->Option (List Bool)
 |[]=>some []
 |.bl z::r=>(aq4 r).map (z::·)
 |_::_=>none
def aa5:List D->Option (List Int)
 |[]=>some []
 |.int z::r=>(aa5 r).map (z::·)
 |_::_=>none
theorem ade:∀{vs:List V} {xs:List D} {zs:List Bool},Reps K ι H vs xs->aq4 xs=some zs->vs=zs.map V.bl
 |_,_,_,.nil,e=>by cases e;rfl
 |_,_,zs,.cons (d:=d) r rs,e=>by
  cases r with
  |bl z =>
   simp only[aq4,aU]at e;obtain⟨ws,h1,rfl⟩:=e;rw[ade rs h1];rfl
  |_=>cases e
theorem a66:∀{vs:List V} {xs:List D} {zs:List Int},Reps K ι H vs xs->aa5 xs=some zs->vs=zs.map V.int
 |_,_,_,.nil,e=>by cases e;rfl
 |_,_,zs,.cons (d:=d) r rs,e=>by
  cases r with
  |int z =>
   simp only[aa5,aU]at e;obtain⟨ws,h1,rfl⟩:=e;rw[a66 rs h1];rfl
  |_=>cases e
theorem alh(bs:List Bool):aq4 (bs.map D.bl)=some bs:=by
 induction bs with
 |nil=>rfl
 |cons b bs ih=>simp[aq4,ih]
def ano:List D->Hd->R D
 |[.ref i],h=>(match h[i]? with|some (.lst xs)=>(match aq4 xs with|some bs=>.ok (.bl (bs.all id)) h|none=>.no)|_=>.no)
 |[.rol xs],h=>(match aq4 xs with|some bs=>.ok (.bl (bs.all id)) h|none=>.no)
 |_,_=>.no
theorem aq5:agk K ano (λxs H Q=>∃(p:Addr) (bs:List Bool),xs=[.ref p]/\SqL K H p (bs.map V.bl)/\Q (.bl (bs.all id)) H):=by
 intro E ι H h xs ds Q r hr o
 unfold ano at o
 split at o
 ·cases r with
  |cons r rs =>
   cases rs
   cases r with
   |@ref p _ hp =>
    split at o
    ·rename_i xs hx;obtain⟨vs,h3,h4⟩:=hr.lst hp hx
     split at o
     ·rename_i bs hb;exact⟨p,bs,rfl,SqL.of (by rw[h3,ade h4 hb]),ans o (.bl _) hr⟩
     ·exact o.elim
    ·exact o.elim
 ·cases r with
  |cons r rs =>
   cases rs
   cases r with
   |@rol p vs xs hp r =>
    split at o
    ·rename_i bs hb;exact⟨p,bs,rfl,by rw[<-ade r hb];exact hp.l,ans o (.bl _) hr⟩
    ·exact o.elim
 ·exact o.elim
def aul:List D->Hd->R D
 |[.ref i],h=>(match h[i]? with|some (.lst xs)=>(match aa5 xs with|some bs=>.ok (.int bs.sum) h|none=>.no)|_=>.no)
 |[.rol xs],h=>(match aa5 xs with|some bs=>.ok (.int bs.sum) h|none=>.no)
 |_,_=>.no
theorem aq6:agk K aul (λxs H Q=>∃(p:Addr) (ns:List Int),xs=[.ref p]/\SqL K H p (ns.map V.int)/\Q (.int ns.sum) H):=by
 intro E ι H h xs ds Q r hr o
 unfold aul at o
 split at o
 ·cases r with
  |cons r rs =>
   cases rs
   cases r with
   |@ref p _ hp =>
    split at o
    ·rename_i xs hx;obtain⟨vs,h3,h4⟩:=hr.lst hp hx
     split at o
     ·rename_i bs hb;exact⟨p,bs,rfl,SqL.of (by rw[h3,a66 h4 hb]),ans o (.int _) hr⟩
     ·exact o.elim
    ·exact o.elim
 ·cases r with
  |cons r rs =>
   cases rs
   cases r with
   |@rol p vs xs hp r =>
    split at o
    ·rename_i bs hb;exact⟨p,bs,rfl,by rw[<-a66 r hb];exact hp.l,ans o (.int _) hr⟩
    ·exact o.elim
 ·exact o.elim
end
end MI
theorem L2.Room.u(r:L2.Room k A):A.units+64<PySem.cLine:=r.units
namespace MI
open L2
mutual
def eqD:D->D->Bool
 |.non,.non=>true
 |.bl a,.bl b=>a == b
 |.bl a,.int b=>(if a then 1 else 0) == b
 |.int a,.bl b=>a == (if b then 1 else 0)
 |.int a,.int b=>a == b
 |.str a,.str b=>a == b
 |.tup xs,.tup ys=>a8g xs ys
 |_,_=>false
def a8g:List D->List D->Bool
 |[],[]=>true
 |x::xs,y::ys=>eqD x y && a8g xs ys
 |_,_=>false
end
def pur:Nat->D->Bool
 |_,.non=>true
 |_,.bl _=>true
 |_,.int _=>true
 |_,.str _=>true
 |n+1,.tup xs=>xs.all (pur n)
 |_,_=>false
def pairE(xs ys:List D)(j:Nat):Bool:=match xs[j]?,ys[j]? with|some x,some y=>eqD x y|_,_=>false
theorem a67:∀xs ys:List D,((List.range (min xs.length ys.length)).all (pairE xs ys) && xs.length == ys.length)=a8g xs ys
 |[],[]=>by simp[a8g]
 |[],_::_=>by simp[a8g]
 |_::_,[]=>by simp[a8g]
 |x::xs,y::ys=>by
  have ih:=a67 xs ys;rw[show min (x::xs).length (y::ys).length=min xs.length ys.length+1 by simp only[aW];omega,List.range_succ_eq_map]
  rw[fD,List.all_map];have e:(pairE (x::xs) (y::ys) ∘ Nat.succ)=pairE xs ys:=by funext j;simp[pairE]
  rw[e];simp only[a8g];rw[<-ih];have e2:((x::xs).length == (y::ys).length)=(xs.length == ys.length):=by simp
  rw[e2,Bool.and_assoc];rfl
section
variable{K:Fg}{ι:List Addr}{H:Hp}
theorem aa6{xs:List D}(r:Rep K ι H v (.tup xs)):∃a vs,v=.ref a/\H a=some (.tup vs)/\Reps K ι H vs xs:=by cases r with|@tup a vs _ h rs=>exact⟨a,vs,rfl,h,rs⟩
theorem anp(r:Rep K ι H v d)(q:Rep K ι H v e)(f:a2s d=true)(g:a2s e=true):eqD d e=true:=by
 have h:=ald r f;have h':=ald q g
 cases d<;>first|(cases h;done)|(cases h;cases e<;>first|(cases h';done)|(cases h';simp[eqD]))
theorem a2t(r:Rep K ι H v d)(p:pur n d=true):(∃xs,d=.tup xs)\/(a5g v=true/\a2s d=true):=by
 cases r<;>first|exact .inr ⟨rfl,rfl⟩|exact .inl ⟨_,rfl⟩|(cases n<;>cases p)
theorem aa7(r:Rep K ι H x d)(q:Rep K ι H y e)(f:a2s d=true)(g:a2s e=true):eqV x y=eqD d e:=by
 refine fvs (P:=λd x c y=>eqV x y=eqD d c) (λd x e y h h'=>?_) r q f g
 cases d<;>first|(cases h;done)|(cases h;cases e<;>first|(cases h';done)|(cases h';first|rfl|(simp[eqV,eqD];done)))
theorem ali:∀(n:Nat) {v:V} {d e:D},Rep K ι H v d->Rep K ι H v e->pur n d=true->pur n e=true->eqD d e=true:=by
 intro n
 induction n with
 |zero =>
  intro v d e r q p1 p2
  rcases a2t r p1 with⟨xs,rfl⟩|⟨f1,g1⟩
  ·cases p1
  rcases a2t q p2 with⟨xs,rfl⟩|⟨f2,g2⟩
  ·cases p2
  exact anp r q g1 g2
 |succ n ih =>
  intro v d e r q p1 p2
  rcases a2t r p1 with⟨xs,rfl⟩|⟨f1,g1⟩
  ·rcases a2t q p2 with⟨ys,rfl⟩|⟨f2,g2⟩
   ·obtain⟨a,vs,rfl,h,rs⟩:=aa6 r;obtain⟨b,us,z,h',qs⟩:=aa6 q;cases z
    rw[h]at h';cases h'
    simp only[eqD];simp only[pur,bZ]at p1 p2
    clear h r q
    induction rs using Reps.rec (motive_1:=λ_ _ _=>True) generalizing ys with
    |nil=>cases qs;rfl
    |cons r rs _ ih2 =>
     cases qs with
     |cons q qs =>
      simp only[a8g,cE];exact⟨ih r q (p1 _ (bA ..)) (p2 _ (bA ..)),ih2 _ qs (λx hx=>p1 x (bq _ hx)) (λx hx=>p2 x (bq _ hx))⟩
    |_=>trivial
   ·obtain⟨a,vs,rfl,h,rs⟩:=aa6 r;cases f2
  ·rcases a2t q p2 with⟨ys,rfl⟩|⟨f2,g2⟩
   ·obtain⟨a,vs,rfl,h,rs⟩:=aa6 q;cases f1
   ·exact anp r q g1 g2
open SeqAt in
theorem anq{s:Shared}(hok:HOk P w H s.heap):∀(n:Nat) (A:Around) {x y:V} {u v:Value} {d e:D},Rep K ι H x d->Rep K ι H y e->RelV x u->RelV y v->pur n d=true->pur n e=true->A.units+n<cLine->EqAt A s u v (eqD d e):=by
 intro n
 induction n with
 |zero =>
  intro A x y u v d e r q rx ry p1 p2 hu
  rcases a2t r p1 with⟨xs,rfl⟩|⟨f1,f2⟩
  ·cases p1
  ·rcases a2t q p2 with⟨xs,rfl⟩|⟨g1,g2⟩
   ·cases p2
   ·rw[<-aa7 r q f2 g2];exact aha rx ry f1 g1
 |succ n ih =>
  intro A x y u v d e r q rx ry p1 p2 hu
  rcases a2t r p1 with⟨xs,rfl⟩|⟨f1,f2⟩
  ·cases r with
   |@tup a vs _ ha rs =>
    cases rx
    obtain⟨_,its,r1,t1⟩:=(Rd.of ha).ok hok
    rcases a2t q p2 with⟨ys,rfl⟩|⟨g1,g2⟩
    ·cases q with
     |@tup b us _ hb qs =>
      cases ry
      obtain⟨_,its2,r2,t2⟩:=(Rd.of hb).ok hok
      by_cases hab:a=b
      ·subst hab;rw[ali (n+1) (.tup ha rs) (.tup hb qs) p1 p2];exact EqAt.same _
      ·have l1:its.toArray.size=xs.length:=by rw[aK,<-r1.length,rs.len]
       have l2:its2.toArray.size=ys.length:=by rw[aK,<-r2.length,qs.len]
       have:=RcAt.tuples (A:=A) (s:=s) (e:=pairE xs ys) t1 t2 (by omega) (λj h1 h2=>by
        have j1:j<xs.length:=by omega
        have j2:j<ys.length:=by omega
        obtain⟨v1,e1,q1⟩:=rs.get (af j1);obtain⟨v2,e2,q2⟩:=qs.get (af j2);obtain⟨u1,e3,q3⟩:=r1.get e1;obtain⟨u2,e4,q4⟩:=r2.get e2;have f1:its.toArray[j]=u1:=by simpa using (ag.mp e3).2
        have f2:its2.toArray[j]=u2:=by simpa using (ag.mp e4).2
        have pe:pairE xs ys j=eqD xs[j] ys[j]:=by simp[pairE,af j1,af j2]
        rw[f1,f2,pe];simp only[pur,bZ]at p1 p2;exact ih A.in1 q1 q2 q3 q4 (p1 _ (bG j1)) (p2 _ (bG j2)) (by rw[gB];omega))
       rw[l1,l2,a67]at this;exact EqAt.of_refs hab this
    ·have e0:eqD (.tup xs) e=false:=by cases e<;>first|rfl|(cases g2;done)
     rw[e0]
     cases y with
     |non=>cases ry;exact EqAt.tuple_none t1 (by omega)
     |bl b=>cases ry;exact EqAt.tuple_bool b t1 (by omega)
     |int b=>obtain⟨t,rfl⟩:=ry;exact EqAt.tuple_int b t t1 (by omega)
     |str b=>obtain⟨t,rfl⟩:=ry;exact EqAt.tuple_str b t t1 (by omega)
     |_=>cases g1
  ·rcases a2t q p2 with⟨ys,rfl⟩|⟨g1,g2⟩
   ·cases q with
    |@tup b us _ hb qs =>
     cases ry
     obtain⟨_,its2,r2,t2⟩:=(Rd.of hb).ok hok;have e0:eqD d (.tup ys)=false:=by cases d<;>first|rfl|(cases f2;done)
     rw[e0]
     cases x with
     |non=>cases rx;exact EqAt.none_tuple t2 (by omega)
     |bl b=>cases rx;exact EqAt.bool_tuple b t2 (by omega)
     |int b=>obtain⟨t,rfl⟩:=rx;exact EqAt.int_tuple b t t2 (by omega)
     |str b=>obtain⟨t,rfl⟩:=rx;exact EqAt.str_tuple b t t2 (by omega)
     |_=>cases f1
   ·rw[<-aa7 r q f2 g2];exact aha rx ry f1 g1
open SeqAt in
theorem aum(ry:RelV y u)(rx:RelV x v)(fy:a5g y=true)(fx:a5g x=true):RcAt A s u v (eqV y x):=by
 cases y with
 |non =>
  cases ry
  cases x with
  |non=>cases rx;exact RcAt.none_none
  |bl b=>cases rx;exact RcAt.none_bool b
  |int b=>obtain⟨t,rfl⟩:=rx;exact RcAt.none_int b t
  |str b=>obtain⟨t,rfl⟩:=rx;exact RcAt.none_str b t
  |_=>cases fx
 |bl a =>
  cases ry
  cases x with
  |non=>cases rx;exact RcAt.bool_none a
  |bl b=>cases rx;exact RcAt.bool_bool a b
  |int b=>obtain⟨t,rfl⟩:=rx;exact RcAt.bool_int a b t
  |str b=>obtain⟨t,rfl⟩:=rx;exact RcAt.bool_str a b t
  |_=>cases fx
 |int a =>
  obtain⟨t',rfl⟩:=ry
  cases x with
  |non=>cases rx;exact RcAt.int_none a t'
  |bl b=>cases rx;exact RcAt.int_bool a t' b
  |int b=>obtain⟨t,rfl⟩:=rx;exact RcAt.int_int a t' b t
  |str b=>obtain⟨t,rfl⟩:=rx;exact RcAt.int_str a t' b t
  |_=>cases fx
 |str a =>
  obtain⟨t',rfl⟩:=ry
  cases x with
  |non=>cases rx;exact RcAt.str_none a t'
  |bl b=>cases rx;exact RcAt.str_bool a t' b
  |int b=>obtain⟨t,rfl⟩:=rx;exact RcAt.str_int a t' b t
  |str b=>obtain⟨t,rfl⟩:=rx;exact RcAt.str_str a t' b t
  |_=>cases fx
 |_=>cases fy
open SeqAt in
theorem alj(ry:RelV y u)(rx:RelV x v)(fy:a5g y=true)(fx:a5g x=true):RcNeAt A s u v (!eqV y x):=by
 cases y with
 |non =>
  cases ry
  cases x with
  |non=>cases rx;exact RcNeAt.none_none
  |bl b=>cases rx;exact RcNeAt.none_bool b
  |int b=>obtain⟨t,rfl⟩:=rx;exact RcNeAt.none_int b t
  |str b=>obtain⟨t,rfl⟩:=rx;exact RcNeAt.none_str b t
  |_=>cases fx
 |bl a =>
  cases ry
  cases x with
  |non=>cases rx;exact RcNeAt.bool_none a
  |bl b=>cases rx;exact RcNeAt.bool_bool a b
  |int b=>obtain⟨t,rfl⟩:=rx;exact RcNeAt.bool_int a b t
  |str b=>obtain⟨t,rfl⟩:=rx;exact RcNeAt.bool_str a b t
  |_=>cases fx
 |int a =>
  obtain⟨t',rfl⟩:=ry
  cases x with
  |non=>cases rx;exact RcNeAt.int_none a t'
  |bl b=>cases rx;exact RcNeAt.int_bool a t' b
  |int b=>obtain⟨t,rfl⟩:=rx;exact RcNeAt.int_int a t' b t
  |str b=>obtain⟨t,rfl⟩:=rx;exact RcNeAt.int_str a t' b t
  |_=>cases fx
 |str a =>
  obtain⟨t',rfl⟩:=ry
  cases x with
  |non=>cases rx;exact RcNeAt.str_none a t'
  |bl b=>cases rx;exact RcNeAt.str_bool a t' b
  |int b=>obtain⟨t,rfl⟩:=rx;exact RcNeAt.str_int a t' b t
  |str b=>obtain⟨t,rfl⟩:=rx;exact RcNeAt.str_str a t' b t
  |_=>cases fx
 |_=>cases fy
open SeqAt in
theorem tops{s:Shared}{A:Around}(hok:HOk P w H s.heap)(r:Rep K ι H x d)(q:Rep K ι H y e)(rx:RelV x u)(ry:RelV y v)(p1:pur 60 d=true)(p2:pur 60 e=true)(hu:A.units+64<cLine) :
  RcAt A s u v (eqD d e)/\RcNeAt A s u v (!eqD d e):=by
 rcases a2t r p1 with⟨xs,rfl⟩|⟨f1,f2⟩
 ·cases r with
  |@tup a vs _ ha rs =>
   cases rx
   obtain⟨_,its,r1,t1⟩:=(Rd.of ha).ok hok
   rcases a2t q p2 with⟨ys,rfl⟩|⟨g1,g2⟩
   ·cases q with
    |@tup b us _ hb qs =>
     cases ry
     obtain⟨_,its2,r2,t2⟩:=(Rd.of hb).ok hok;have l1:its.toArray.size=xs.length:=by rw[aK,<-r1.length,rs.len]
     have l2:its2.toArray.size=ys.length:=by rw[aK,<-r2.length,qs.len]
     have step:∀j (h1:j<its.toArray.size) (h2:j<its2.toArray.size),EqAt A.in1 s its.toArray[j] its2.toArray[j] (pairE xs ys j):=λj h1 h2=>by
      have j1:j<xs.length:=by omega
      have j2:j<ys.length:=by omega
      obtain⟨v1,e1,q1⟩:=rs.get (af j1);obtain⟨v2,e2,q2⟩:=qs.get (af j2);obtain⟨u1,e3,q3⟩:=r1.get e1;obtain⟨u2,e4,q4⟩:=r2.get e2;have f1:its.toArray[j]=u1:=by simpa using (ag.mp e3).2
      have f2:its2.toArray[j]=u2:=by simpa using (ag.mp e4).2
      have pe:pairE xs ys j=eqD xs[j] ys[j]:=by simp[pairE,af j1,af j2]
      rw[f1,f2,pe];simp only[pur,bZ]at p1 p2;exact anq hok 59 A.in1 q1 q2 q3 q4 (p1 _ (bG j1)) (p2 _ (bG j2)) (by rw[gB];omega)
     have c1:=RcAt.tuples (A:=A) (s:=s) (e:=pairE xs ys) t1 t2 (by omega) step
     have c2:=RcNeAt.tuples (A:=A) (s:=s) (e:=pairE xs ys) t1 t2 (by omega) step
     rw[l1,l2,a67]at c1 c2;exact⟨c1,c2⟩
   ·have e0:eqD (.tup xs) e=false:=by cases e<;>first|rfl|(cases g2;done)
    rw[e0]
    cases y with
    |non=>cases ry;exact⟨RcAt.tuple_none t1 (by omega),RcNeAt.tuple_none t1 (by omega)⟩
    |bl b=>cases ry;exact⟨RcAt.tuple_bool b t1 (by omega),RcNeAt.tuple_bool b t1 (by omega)⟩
    |int b=>obtain⟨t,rfl⟩:=ry;exact⟨RcAt.tuple_int b t t1 (by omega),RcNeAt.tuple_int b t t1 (by omega)⟩
    |str b=>obtain⟨t,rfl⟩:=ry;exact⟨RcAt.tuple_str b t t1 (by omega),RcNeAt.tuple_str b t t1 (by omega)⟩
    |_=>cases g1
 ·rcases a2t q p2 with⟨ys,rfl⟩|⟨g1,g2⟩
  ·cases q with
   |@tup b us _ hb qs =>
    cases ry
    obtain⟨_,its2,r2,t2⟩:=(Rd.of hb).ok hok;have e0:eqD d (.tup ys)=false:=by cases d<;>first|rfl|(cases f2;done)
    rw[e0]
    cases x with
    |non=>cases rx;exact⟨RcAt.none_tuple t2 (by omega),RcNeAt.none_tuple t2 (by omega)⟩
    |bl b=>cases rx;exact⟨RcAt.bool_tuple b t2 (by omega),RcNeAt.bool_tuple b t2 (by omega)⟩
    |int b=>obtain⟨t,rfl⟩:=rx;exact⟨RcAt.int_tuple b t t2 (by omega),RcNeAt.int_tuple b t t2 (by omega)⟩
    |str b=>obtain⟨t,rfl⟩:=rx;exact⟨RcAt.str_tuple b t t2 (by omega),RcNeAt.str_tuple b t t2 (by omega)⟩
    |_=>cases f1
  ·rw[<-aa7 r q f2 g2];exact⟨aum rx ry f1 g1,alj rx ry f1 g1⟩
def b03(K:Fg):R2:=λx y H Q=>∃ι d e,Rep K ι H x d/\Rep K ι H y e/\pur 60 d=true/\pur 60 e=true/\Q (.bl (eqD d e)) H
def b04(K:Fg):R2:=λx y H Q=>∃ι d e,Rep K ι H x d/\Rep K ι H y e/\pur 60 d=true/\pur 60 e=true/\Q (.bl (!eqD d e)) H
theorem aeo{X:Cx}(hu:X.A.units+64<cLine):OpR X (compareOp .Eq) (b03 X.K):=by
 intro aA s σ H x y v u Q I rx ry h
 obtain⟨ι,d,e,r,q,p1,p2,hq⟩:=h;exact(tops (A:=X.A) I.hok r q rx ry p1 p2 hu).1 X.prog X.w X.xe _ ⟨.bl _,H,I,rfl,hq⟩
theorem a3p{X:Cx}(hu:X.A.units+64<cLine):OpR X (compareOp .NotEq) (b04 X.K):=by
 intro aA s σ H x y v u Q I rx ry h
 obtain⟨ι,d,e,r,q,p1,p2,hq⟩:=h;exact(tops (A:=X.A) I.hok r q rx ry p1 p2 hu).2 X.prog X.w X.xe _ ⟨.bl _,H,I,rfl,hq⟩
def hEq(x y:D)(h:Hd):R D:=if pur 60 x=true/\pur 60 y=true then .ok (.bl (eqD x y)) h else .no
def hNe(x y:D)(h:Hd):R D:=if pur 60 x=true/\pur 60 y=true then .ok (.bl (!eqD x y)) h else .no
theorem aa8:a3y K hEq (b03 K):=by
 intro E ι H h x y dx dy Q rx ry hr o
 unfold hEq at o
 split at o
 ·rename_i hc;exact⟨ι,dx,dy,rx,ry,hc.1,hc.2,ans o (.bl _) hr⟩
 ·exact o.elim
theorem a0l:a3y K hNe (b04 K):=by
 intro E ι H h x y dx dy Q rx ry hr o
 unfold hNe at o
 split at o
 ·rename_i hc;exact⟨ι,dx,dy,rx,ry,hc.1,hc.2,ans o (.bl _) hr⟩
 ·exact o.elim
end
section
variable{X:Cx}{E:XD}{K:Fg}
def a1l:D->D->Hd->R D
 |.int i,.int j,h=>.ok (.int (i+j)) h
 |.str x,.str y,h=>if x.length+y.length<=LINE then .ok (.str (x++y)) h else .no
 |_,_,_=>.no
theorem a07:a3y K a1l (λx y H Q=>rI0 (λi j=>.int (i+j)) x y H Q\/∃i j,x=.str i/\y=.str j/\i.length+j.length<=sizeLine/\Q (.str (i++j)) H):=by
 intro E ι H h x y dx dy Q rx ry hr o
 cases rx with
 |int i =>
  cases ry with
  |int j=>exact .inl ⟨i,j,rfl,rfl,ans o (.int _) hr⟩
  |_=>exact o.elim
 |str i =>
  cases ry with
  |str j =>
   by_cases hc:i.length+j.length<=LINE
   ·simp only[a1l,aR hc]at o;exact .inr ⟨i,j,rfl,rfl,ll hc,ans o (.str _) hr⟩
   ·simp only[a1l,bE hc]at o;exact o.elim
  |_=>exact o.elim
 |_=>exact o.elim
theorem aun:bootBuiltins "min" = some (.builtin "min"):=by first|exact PySem.boot_min|exact PyProof.Rows.boot_min
theorem aq7:bootBuiltins "bool" = some (.type "bool"):=by first|exact PySem.boot_bool|exact PyProof.Rows.boot_bool
theorem auo:bootBuiltins "sum" = some (.builtin "sum"):=by first|exact PySem.boot_sum|exact PyProof.Rows.boot_sum
theorem ie(h1:MG X E e g)(h2:MGs X E es ks)(hs:(assignEach (e::es) X.env).map (·.2)=assign e X.env::(assignEach es X.env).map (·.2):=by rfl):MGs X E (e::es) (jm g ks) :=
 PGs.weak (akn h1 h2 hs) λvs σ H Q q=>alc q
end
end MI
namespace ZP
open PySem.Builtin PySem.Builtin.SmallTypes
section
variable{prog:Program}{w:World}{A:Around}{E:Value->Shared->Prop}{s:Shared}
theorem adf{α:Type}{Q:α->Shared->Prop}(hh:A.handled=none)(q:∀h' e,(∀b o,s.heap.get? b=some o->h'.get? b=some o)->(∃o,h'.get? e=some o/\o.cls=.type "StopIteration")->E (.ref e) {s with heap:=h' }) :
  wpAny (model prog w) A (stopIteration:Sem α) Q E s:=by
 have none_first:firstArgMember (.type "StopIteration") []=pure Value.none:=by first|rfl|(simp only[firstArgMember];rfl)
 rw[stopIteration]
 apply aH
 rw[newExc,newTuple]
 apply aH
 apply cV _ (by size_fits)
 rw[none_first,pure_bind]
 apply cV _ (by size_fits)
 apply wpAny_raiseNew_none hh
 exact q _ _ (λb o z=>ar _ (ar _ z)) ⟨_,bb _ rfl,rfl⟩
theorem alk(hi:s.heap.IsTupleIter it t i)(ht:s.heap.IsTuple t aC)(hx:aC[i]? = some x)
  (q:∀h',h'.IsTupleIter it t (i+1)->Heap.SameBut it s.heap h'->Q x {s with heap:=h' }):wpAny (model prog w) A (nextOf (.ref it)) Q E s:=by
 have ty:=hi.typeIs;obtain⟨o,e1,e2,e3⟩:=id hi;obtain⟨p,f1,f2,n,f3⟩:=ht;rw[nextOf]
 apply aH
 apply cH (name:=Str.ofString "__next__") ty dn
 apply dR dn ty fM _ (fE _)
 change wpAny (model prog w) A.in1 (field (.ref it) 0>>=_) _ _ _
 apply aH;apply dC e1 e3 (x:=.ref t) rfl
 change wpAny (model prog w) A.in1 (field (.ref it) 1>>=_) _ _ _
 apply aH;apply dC e1 e3 (x:=.int i 0) rfl
 change wpAny (model prog w) A.in1 (seqItems? (.ref t)>>=_) _ _ _
 apply aH;apply eC f1 f3
 dsimp only;rw[dG,hx]
 apply aH
 obtain⟨c,dd,dt,sl⟩:=o;simp only at e2 e3;subst e2 e3
 apply wpAny_setField e1 rfl (fh 1)
 apply br
 exact⟨x,rfl,br (q _ ⟨_,Heap.get?_update_self _ e1 rfl,rfl,rfl⟩ (Heap.SameBut.update ..))⟩
theorem aq8{it t:Addr}{i:Nat}{aC:Array Value}{Q:Value->Shared->Prop}(hh:A.handled=none)(hi:s.heap.IsTupleIter it t i)(ht:s.heap.IsTuple t aC)(hx:aC[i]? = none)
  (q:∀h' e,Heap.ExtBut it s.heap h'->(∃o,h'.get? e=some o/\o.cls=.type "StopIteration")->E (.ref e) {s with heap:=h' }):wpAny (model prog w) A (nextOf (.ref it)) Q E s:=by
 have ty:=hi.typeIs;obtain⟨o,e1,e2,e3⟩:=id hi;obtain⟨p,f1,f2,n,f3⟩:=ht;rw[nextOf]
 apply aH
 apply cH (name:=Str.ofString "__next__") ty dn
 apply dR dn ty fM _ (fE _)
 change wpAny (model prog w) A.in1 (field (.ref it) 0>>=_) _ _ _
 apply aH;apply dC e1 e3 (x:=.ref t) rfl
 change wpAny (model prog w) A.in1 (field (.ref it) 1>>=_) _ _ _
 apply aH;apply dC e1 e3 (x:=.int i 0) rfl
 change wpAny (model prog w) A.in1 (seqItems? (.ref t)>>=_) _ _ _
 apply aH;apply eC f1 f3
 dsimp only;rw[dG,hx];dsimp only;obtain⟨c,dd,dt,sl⟩:=o;simp only at e2 e3;subst e2 e3
 apply aH;apply wpAny_rule
 apply aH;apply wpAny_setField e1 rfl (fT 1)
 apply adf (show A.in1.handled=none from hh)
 exact λh' e k z=>q h' e (λb o nb eb=>k b o ((Heap.SameBut.update ..).extBut b o nb eb)) z
theorem ai9{A:Around}(hh:A.handled=none)(it t:Addr)(ne:t≠it)(aC:Array Value):Draws prog w A it [it,t] aC.size (λi v=>aC[i]? = some v) (λi h=>h.IsTupleIter it t i/\h.IsTuple t aC) where
 live:=λ_ _ st=>let ⟨o,e,_⟩:=st.1; ⟨o,e⟩
 frame:=λ_ _ _ st k=>⟨let ⟨o,e,r⟩:=st.1; ⟨o,k it (by simp) o e,r⟩,let ⟨o,e,r⟩:=st.2; ⟨o,k t (by simp) o e,r⟩⟩
 item:=λi s Q E hi st q=>alk st.1 st.2 (fY hi) λh' a b=>q _ h' s.toks (fY hi) ⟨a,st.2.extBut b.extBut ne⟩ b
 done:=λs Q E st q=>aq8 hh st.1 st.2 (by simp) q
end
structure Ap (z TI TO i1 i2:Addr) (p q:List Addr):Prop where
 m1:i1∈p
 m2:i2∈q
 z1:z∉p
 z2:z∉q
 o1:TO∉p
 o2:TO∉q
 oz:TO≠z
 x1:i1∉q
 x2:i2∉p
section
variable{prog:Program}{w:World}{A:Around}{E:Value->Shared->Prop}{s:Shared}{z TI TO i1 i2:Addr}{p q:List Addr}{n1 n2 k:Nat}{P1 P2:Nat->Value->Prop}{S1 S2:Nat->Heap->Prop}{a b:Value}
theorem far{D:Draws prog w A i1 p n1 P1 S1}(sb:Heap.SameBut c h h')(nc:c∉p)(st:S1 k h):S1 k h':=D.frame _ _ _ st λx hx o e=>sb.extBut x o (λy=>nc (y ▸ hx)) e
theorem aia(hz:IsZip s.heap z TI TO .none)(hi:IsPair s.heap TI (.ref i1) (.ref i2))(ho:IsPair s.heap TO a b)(oz:TO≠z)
  (go:∀h1,IsZip h1 z TI TO .ellipsis->Heap.SameBut z s.heap h1->wpAny (model prog w) A (nextOf (.ref i1))
   (λx s2=>IsPair s2.heap TO a b/\∀h3,IsPair h3 TO x b->Heap.SameBut TO s2.heap h3->wpAny (model prog w) A (nextOf (.ref i2))
    (λy s4=>IsPair s4.heap TO x b/\∀h5,IsPair h5 TO x y->Heap.SameBut TO s4.heap h5->IsZip h5 z TI TO .ellipsis/\∀h8,IsZip h8 z TI TO (rawInt h5.objs.size)->IsPair h8 h5.objs.size x y->h8.objs.size=h5.objs.size+1->
     (∀c o,c≠z->h5.get? c=some o->h8.get? c=some o)->Q (.done (.ret (.ref h5.objs.size))) {s4 with heap:=h8})
    (λe s4=>wpAny (model prog w) A (setField (.ref z) 0 .none) (λ_ s5=>E e s5) E s4) {s2 with heap:=h3})
   (λe s2=>wpAny (model prog w) A (setField (.ref z) 0 .none) (λ_ s3=>E e s3) E s2) {s with heap:=h1}) :
  wpAny (model prog w) A (Builtin.«zip.__next__» ⟨[.ref z],[]⟩) Q E s:=by
 change wpAny (model prog w) A (field (.ref z) 2>>=_) _ _ _
 apply aH;apply dC hz rfl (x:=.bool false) rfl
 change wpAny (model prog w) A (field (.ref z) 3>>=_) _ _ _
 apply aH;apply dC hz rfl (x:=.ref TI) rfl
 apply aH;apply eC hi rfl
 change wpAny (model prog w) A (ownedTupleIsFree (.ref z)>>=_) _ _ _
 apply aH
 rw[ownedTupleIsFree]
 apply aH;apply dC hz rfl (x:=.none) rfl
 apply br
 rw[aR rfl]
 apply aH;apply wpAny_rule
 apply aH;apply dC hz rfl (x:=.ref TO) rfl
 apply aH;apply dU hz (fT _)
 intro h1 z1 b1
 apply aH
 simp only[List.zipIdx_cons,List.zipIdx_nil,List.forIn_cons,List.forIn_nil]
 apply aH;apply aH;apply wpAny_onRaise
 change wpAny (model prog w) A (nextOf (.ref i1)>>=_) _ _ _
 apply aH
 apply dE (go h1 z1 b1) _ λ_ _ r=>r
 rintro x s2 ⟨o2,g2⟩
 apply br
 apply aH;apply eC o2 rfl
 apply aH;apply wpAny_updateSeq_pair o2
 intro h3 o3 b3
 apply aH;apply wpAny_letGo;apply br
 apply aH;apply aH;apply wpAny_onRaise
 change wpAny (model prog w) A (nextOf (.ref i2)>>=_) _ _ _
 apply aH
 apply dE (g2 h3 o3 b3) _ λ_ _ r=>r
 rintro y s4 ⟨o4,g4⟩
 apply br
 apply aH;apply eC o4 rfl
 apply aH;apply wpAny_updateSeq_pair o4
 intro h5 o5 b5
 obtain⟨z5,g5⟩:=g4 h5 o5 b5
 apply aH;apply wpAny_letGo;apply br;apply br
 apply aH;apply eC o5 rfl
 apply aH;refine wpAny_newTuple ?_ (by show 2<=sizeLine;decide)
 change wpAny (model prog w) A (ownedTupleHandOut (.ref z) (.ref h5.objs.size)>>=_) _ _ _
 apply aH
 rw[ownedTupleHandOut];have z6:IsZip (h5.push {cls:=.type "tuple",data:=.seq #[x,y]}) z TI TO .ellipsis:=ar _ z5;have lt:z<h5.objs.size:=aX z5
 apply aH;apply dU z6 (fT _)
 intro h7 z7 b7
 apply dU z7 (by show 1<5;decide)
 intro h8 z8 b8
 apply br
 refine g5 h8 z8 (b8.extBut _ _ (Nat.ne_of_gt lt) (b7.extBut _ _ (Nat.ne_of_gt lt) (bb _ rfl))) ?_ λc o nc e=>b8.extBut _ _ nc (b7.extBut _ _ nc (ar _ e));rw[b8.1,b7.1,cM]
theorem alm{Q:Value->Shared->Prop}(D1:Draws prog w A i1 p n1 P1 S1)(D2:Draws prog w A i2 q n2 P2 S2)(ap:Ap z TI TO i1 i2 p q)(hz:IsZip s.heap z TI TO .none)(hi:IsPair s.heap TI (.ref i1) (.ref i2))(ho:IsPair s.heap TO a b)
  (s1:S1 k s.heap) (s2:S2 k s.heap) (k1:k<n1) (k2:k<n2)
  (hQ:∀x y h' tk,P1 k x->P2 k y->IsZip h' z TI TO (rawInt s.heap.objs.size)->IsPair h' TO x y->S1 (k+1) h'->S2 (k+1) h'->IsPair h' s.heap.objs.size x y->h'.objs.size=s.heap.objs.size+1->
   (∀c o,c≠z->c≠TO->c≠i1->c≠i2->s.heap.get? c=some o->h'.get? c=some o)->Q (.ref s.heap.objs.size) {s with heap:=h',toks:=tk}) :
  wpAny (model prog w) A (Builtin.«zip.__next__» ⟨[.ref z],[]⟩) (λfin s'=>∃v,fin=.done (.ret v)/\Q v s') E s:=by
 have ni1:i1≠z:=λe=>ap.z1 (e ▸ ap.m1);have ni2:i2≠z:=λe=>ap.z2 (e ▸ ap.m2);have no1:TO≠i1:=λe=>ap.o1 (e ▸ ap.m1);have no2:TO≠i2:=λe=>ap.o2 (e ▸ ap.m2);refine aia hz hi ho ap.oz λh1 z1 b1=>?_;refine D1.item k _ _ _ k1 (far (D:=D1) b1 ap.z1 s1) λx h2 t2 px st2 b2=>?_;refine⟨b2.extBut _ _ no1 (b1.extBut _ _ ap.oz ho),λh3 o3 b3=>?_⟩;refine D2.item k _ _ _ k2 (far (D:=D2) b3 ap.o2 (far (D:=D2) b2 ap.x1 (far (D:=D2) b1 ap.z2 s2))) λy h4 t4 py st4 b4=>?_;refine⟨b4.extBut _ _ no2 o3,λh5 o5 b5=>⟨b5.extBut _ _ ap.oz.symm (b4.extBut _ _ ni2.symm (b3.extBut _ _ ap.oz.symm (b2.extBut _ _ ni1.symm z1))),λh8 z8 t8 l8 k8=>⟨_,rfl,?_⟩⟩⟩
 have sz:h5.objs.size=s.heap.objs.size:=by rw[b5.1,b4.1,b3.1,b2.1,b1.1]
 have g1:S1 (k+1) h8:=D1.frame _ _ _ (far (D:=D1) b5 ap.o1 (far (D:=D1) b4 ap.x2 (far (D:=D1) b3 ap.o1 st2))) λc hc o e=>k8 c o (λy=>ap.z1 (y ▸ hc)) e;have g2:S2 (k+1) h8:=D2.frame _ _ _ (far (D:=D2) b5 ap.o2 st4) λc hc o e=>k8 c o (λy=>ap.z2 (y ▸ hc)) e;rw[sz]at z8 t8 l8 ⊢;exact hQ x y h8 t4 px py z8 (k8 _ _ ap.oz o5) g1 g2 t8 l8 λc o c1 c2 c3 c4 e=>k8 c o c1 (b5.extBut _ _ c2 (b4.extBut _ _ c4 (b3.extBut _ _ c2 (b2.extBut _ _ c3 (b1.extBut _ _ c1 e)))))
theorem aq9(D1:Draws prog w A i1 p n1 P1 S1)(D2:Draws prog w A i2 q n2 P2 S2)(ap:Ap z TI TO i1 i2 p q)(hz:IsZip s.heap z TI TO .none)(hi:IsPair s.heap TI (.ref i1) (.ref i2))(ho:IsPair s.heap TO a b)
  (s1:S1 k s.heap) (s2:S2 k s.heap) (kk:k=n1\/(k<n1/\k=n2))
  (hE:∀h' tk e,(∀c o,c≠z->c≠TO->c≠i1->c≠i2->s.heap.get? c=some o->h'.get? c=some o)->(∃o,h'.get? e=some o/\o.cls=.type "StopIteration")->E (.ref e) {s with heap:=h',toks:=tk}) :
  wpAny (model prog w) A (Builtin.«zip.__next__» ⟨[.ref z],[]⟩) Q E s:=by
 have ni1:i1≠z:=λe=>ap.z1 (e ▸ ap.m1);have ni2:i2≠z:=λe=>ap.z2 (e ▸ ap.m2);have no1:TO≠i1:=λe=>ap.o1 (e ▸ ap.m1);have stop:∀{h:Heap} {e:Addr},(∃o,h.get? e=some o/\o.cls=.type "StopIteration")->IsZip h z TI TO .ellipsis->e≠z:=λ{h e} ⟨o,eo,ec⟩ zz y=>by
  subst y;rw[zz]at eo;cases eo;simp at ec
 refine aia hz hi ho ap.oz λh1 z1 b1=>?_
 rcases kk with rfl|⟨k1,rfl⟩
 ·refine D1.done _ _ _ (far (D:=D1) b1 ap.z1 s1) λh2 e x2 st=>?_;have z2:IsZip h2 z TI TO .ellipsis:=x2 _ _ ni1.symm z1;have ne:=stop st z2;obtain⟨oe,f1,f2⟩:=st;refine dU z2 (fT _) λh3 _ b3=>?_;exact hE h3 _ e (λc o c1 _ c3 _ y=>b3.extBut _ _ c1 (x2 _ _ c3 (b1.extBut _ _ c1 y))) ⟨oe,b3.extBut _ _ ne f1,f2⟩
 ·refine D1.item k _ _ _ k1 (far (D:=D1) b1 ap.z1 s1) λx h2 t2 px st2 b2=>?_;refine⟨b2.extBut _ _ no1 (b1.extBut _ _ ap.oz ho),λh3 o3 b3=>?_⟩;refine D2.done _ _ _ (far (D:=D2) b3 ap.o2 (far (D:=D2) b2 ap.x1 (far (D:=D2) b1 ap.z2 s2))) λh4 e x4 st=>?_;have z4:IsZip h4 z TI TO .ellipsis:=x4 _ _ ni2.symm (b3.extBut _ _ ap.oz.symm (b2.extBut _ _ ni1.symm z1));have ne:=stop st z4;obtain⟨oe,f1,f2⟩:=st;refine dU z4 (fT _) λh5 _ b5=>?_;exact hE h5 _ e (λc o c1 c2 c3 c4 y=>b5.extBut _ _ c1 (x4 _ _ c4 (b3.extBut _ _ c2 (b2.extBut _ _ c3 (b1.extBut _ _ c1 y))))) ⟨oe,b5.extBut _ _ ne f1,f2⟩
theorem next_item{Q:Option Value->Shared->Prop}(D1:Draws prog w A.in1 i1 p n1 P1 S1)(D2:Draws prog w A.in1 i2 q n2 P2 S2)(ap:Ap z TI TO i1 i2 p q)(hz:IsZip s.heap z TI TO .none)(hi:IsPair s.heap TI (.ref i1) (.ref i2))(ho:IsPair s.heap TO a b)
  (s1:S1 k s.heap) (s2:S2 k s.heap) (k1:k<n1) (k2:k<n2)
  (hQ:∀x y h' tk,P1 k x->P2 k y->IsZip h' z TI TO (rawInt s.heap.objs.size)->IsPair h' TO x y->S1 (k+1) h'->S2 (k+1) h'->IsPair h' s.heap.objs.size x y->h'.objs.size=s.heap.objs.size+1->
   (∀c o,c≠z->c≠TO->c≠i1->c≠i2->s.heap.get? c=some o->h'.get? c=some o)->Q (some (.ref s.heap.objs.size)) {s with heap:=h',toks:=tk}):wpAny (model prog w) A (pyNext (.ref z)) Q E s:=by
 have ty:s.TypeIs (.ref z) "zip":=⟨_,hz,rfl⟩;rw[pyNext]
 apply aH;apply wpAny_attempt
 apply cH (name:=Str.ofString "__next__") ty fN
 apply dR fN ty F.entry_zip_next _ (F.args_zip_next_1 _)
 exact alm D1 D2 ap hz hi ho s1 s2 k1 k2 λx y h' tk c1 c2 c3 c4 c5 c6 c7 c8 c9=>br (hQ x y h' tk c1 c2 c3 c4 c5 c6 c7 c8 c9)
theorem next_end(D1:Draws prog w A.in1 i1 p n1 P1 S1)(D2:Draws prog w A.in1 i2 q n2 P2 S2)(ap:Ap z TI TO i1 i2 p q)(hz:IsZip s.heap z TI TO .none)(hi:IsPair s.heap TI (.ref i1) (.ref i2))(ho:IsPair s.heap TO a b)
  (s1:S1 k s.heap) (s2:S2 k s.heap) (kk:k=n1\/(k<n1/\k=n2))
  (hQ:∀h' tk,(∀c o,c≠z->c≠TO->c≠i1->c≠i2->s.heap.get? c=some o->h'.get? c=some o)->Q none {s with heap:=h',toks:=tk}):wpAny (model prog w) A (pyNext (.ref z)) Q E s:=by
 have ty:s.TypeIs (.ref z) "zip":=⟨_,hz,rfl⟩;rw[pyNext]
 apply aH;apply wpAny_attempt
 apply cH (name:=Str.ofString "__next__") ty fN
 apply dR fN ty F.entry_zip_next _ (F.args_zip_next_1 _)
 refine aq9 D1 D2 ap hz hi ho s1 s2 kk ?_
 rintro h' tk e kp ⟨o,f1,f2⟩
 refine aH (wpAny_isInstance (b:=true) (T := "StopIteration") ⟨o,f1,f2⟩ isSubtype_stop (br (hQ h' tk kp)))
end
end ZP
namespace ZP
open PySem.Builtin PySem.Builtin.SmallTypes L2
inductive Srk where
 |tup (a:Addr)|lst (a:Addr)|str (x:Str)
def Srk.v:Srk->V
 |.tup a=>.ref a
 |.lst a=>.ref a
 |.str x=>.str x
def its(H:Hp):Srk->Option (List V)
 |.tup a=>match H a with|some (.tup vs)=>some vs|_=>none
 |.lst a=>match H a with|some (.lst vs)=>some vs|some (.frz _ (.lst vs))=>some vs|_=>none
 |.str x=>some (a3m x)
def own(it:Addr)(t:Tok):Srk->Nat->Heap->Prop
 |.tup a,i,h=>h.IsTupleIter it a i
 |.lst a,i,h=>h.IsListIter it a i
 |.str x,i,h=>h.IsStrIter it (strIterType x) x t i
def iob(t:Tok):Srk->Obj
 |.tup a=>{cls:=.type "tuple_iterator",data:=.fields #[.ref a,.int 0 0]}
 |.lst a=>{cls:=.type "list_iterator",data:=.fields #[.ref a,.int 0 0]}
 |.str x=>{cls:=.type (strIterType x),data:=.fields #[.str x t,.int 0 0]}
def val(t:Tok):Srk->Value
 |.tup a=>.ref a
 |.lst a=>.ref a
 |.str x=>.str x t
def cont(h:Heap):Srk->List Value->Prop
 |.tup a,us=>h.IsTuple a us.toArray
 |.lst a,us=>h.IsList a us.toArray
 |.str x,us=>True
theorem b05{h:Heap}(e:h.get? it=some (iob t k)):own it t k 0 h:=by
 cases k with
 |tup a=>exact⟨_,e,rfl,rfl⟩
 |lst a=>exact⟨_,e,rfl,rfl⟩
 |str x=>exact⟨_,e,rfl,rfl⟩
theorem aa9(o:own it t k i h):∃ob,h.get? it=some ob/\∀v,ob.data≠.cell v:=by
 cases k with
 |tup a=>obtain⟨ob,e,_,d⟩:=o;exact⟨ob,e,λv z=>by rw[d]at z;cases z⟩
 |lst a=>obtain⟨ob,e,_,d⟩:=o;exact⟨ob,e,λv z=>by rw[d]at z;cases z⟩
 |str x=>obtain⟨ob,e,_,d⟩:=o;exact⟨ob,e,λv z=>by rw[d]at z;cases z⟩
theorem a7t{h':Heap}(o:own it t k i h)(kk:∀ob,h.get? it=some ob->h'.get? it=some ob):own it t k i h':=by
 cases k with
 |tup a=>obtain⟨ob,e,r⟩:=o;exact⟨ob,kk _ e,r⟩
 |lst a=>obtain⟨ob,e,r⟩:=o;exact⟨ob,kk _ e,r⟩
 |str x=>obtain⟨ob,e,r⟩:=o;exact⟨ob,kk _ e,r⟩
section
variable{P:Program}{w:World}{H:Hp}{s:Shared}
theorem aaa(I:Inv X aA σ H s)(e:its H k=some xs):∃us,cont s.heap k us/\((∀x,k≠.str x)->Vals xs us):=by
 cases k with
 |tup a =>
  cases q:H a with
  |none=>simp[its,q]at e
  |some o =>
   cases o with
   |tup vs =>
    simp[its,q]at e;subst e
    obtain⟨us,r,t,_⟩:=I.tuple (SqT.of q);exact⟨us,t,λ_=>r⟩
   |_=>simp[its,q]at e
 |lst a =>
  cases q:H a with
  |none=>simp[its,q]at e
  |some o =>
   cases o with
   |lst vs =>
    simp[its,q]at e;subst e
    obtain⟨us,r,t,_⟩:=I.list (SqL.of q);exact⟨us,t.isList,λ_=>r⟩
   |frz ob u =>
    cases u with
    |lst vs =>
     simp[its,q]at e;subst e
     obtain⟨us,r,t,_⟩:=I.list (.inl (.inr ⟨_,q⟩));exact⟨us,t.isList,λ_=>r⟩
    |_=>simp[its,q]at e
   |_=>simp[its,q]at e
 |str x=>exact⟨[],True.intro,λn=>absurd rfl (n x)⟩
theorem aab(I:Inv X aA σ H s)(e:its H k=some xs)(hn:H it=none) :
  ∃(cs:List Addr) (P1:Nat->Value->Prop) (S1:Nat->Heap->Prop),(∀A:Around,A.handled=none->Draws X.prog X.w A it (it::cs) xs.length P1 S1)/\(∀i,own it t k i s.heap->S1 i s.heap)/\(∀i h,S1 i h->own it t k i h)/\(∀c∈cs,H c≠none) /\
   ∀i v,P1 i v->∃x,xs[i]? = some x/\RelV x v:=by
 cases k with
 |tup a =>
  obtain⟨us,c,r⟩:=aaa I e;have r:=r (by intro x z;cases z)
  have ha:H a≠none:=λz=>by simp[its,z]at e
  have l:us.toArray.size=xs.length:=by rw[aK,r.length]
  refine⟨[a],λi v=>us.toArray[i]? = some v,λi h=>h.IsTupleIter it a i/\h.IsTuple a us.toArray,λA hA=>?_,λi o=>⟨o,c⟩,λi h z=>z.1,λc hc=>by rw[av.mp hc];exact ha,λi v z=>?_⟩
  ·have:=ai9 (prog:=X.prog) (w:=X.w) hA it a (λy=>ha (y ▸ hn)) us.toArray
   rw[l]at this;exact this
  ·have z':us[i]? = some v:=by simpa using z
   have hi:i<xs.length:=by rw[r.length];exact(ag.mp z').1
   obtain⟨u,e1,e2⟩:=r.get (af hi);rw[z']at e1;cases e1
   exact⟨_,af hi,e2⟩
 |lst a =>
  obtain⟨us,c,r⟩:=aaa I e;have r:=r (by intro x z;cases z)
  have ha:H a≠none:=λz=>by simp[its,z]at e
  have l:us.toArray.size=xs.length:=by rw[aK,r.length]
  refine⟨[a],λi v=>us.toArray[i]? = some v,λi h=>h.IsListIter it a i/\h.IsList a us.toArray,λA hA=>?_,λi o=>⟨o,c⟩,λi h z=>z.1,λc hc=>by rw[av.mp hc];exact ha,λi v z=>?_⟩
  ·have:=Draws.list (prog:=X.prog) (w:=X.w) hA it a (λy=>ha (y ▸ hn)) us.toArray
   rw[l]at this;exact this
  ·have z':us[i]? = some v:=by simpa using z
   have hi:i<xs.length:=by rw[r.length];exact(ag.mp z').1
   obtain⟨u,e1,e2⟩:=r.get (af hi);rw[z']at e1;cases e1
   exact⟨_,af hi,e2⟩
 |str x =>
  cases e
  have l:(a3m x).length=x.cps.size:=by simp[a3m]
  refine⟨[],λi v=>∃c u,x.cps[i]? = some c/\v=.str ⟨#[c]⟩ u,λi h=>h.IsStrIter it (strIterType x) x t i,λA hA=>?_,λi o=>o,λi h z=>z,λc hc=>(by cases hc),λi v z=>?_⟩
  ·rw[l]
   cases ha:x.cps.all (· < 128)
   ·have:=Draws.strWide (prog:=X.prog) (w:=X.w) hA it x t
    simpa[strIterType,ha] using this
   ·have:=Draws.strAscii (prog:=X.prog) (w:=X.w) hA it x t
    simpa[strIterType,ha] using this
  ·obtain⟨c,u,e1,rfl⟩:=z;exact⟨.str ⟨#[c]⟩,by simp[a3m,e1],⟨_,rfl⟩⟩
end
def ItZ(k1 k2:Srk):It where
 go:=λi H=>∃xs ys x y,its H k1=some xs/\its H k2=some ys/\xs[i]? = some x/\ys[i]? = some y
 yld:=λi H v H'=>∃xs ys x y p,its H k1=some xs/\its H k2=some ys/\xs[i]? = some x/\ys[i]? = some y/\H p=none/\v=.ref p/\H'=upd H p (.tup [x,y])
 stop:=λi H=>∃xs ys,its H k1=some xs/\its H k2=some ys/\(i=xs.length\/(i<xs.length/\i=ys.length))
def tnZ(z TI TO i1 i2:Addr)(t1 t2:Tok)(k1 k2:Srk)(i:Nat)(h:Heap):Prop :=
 IsZip h z TI TO .none/\IsPair h TI (.ref i1) (.ref i2)/\(∃a b,IsPair h TO a b)/\own i1 t1 k1 i h/\own i2 t2 k2 i h
structure Far (z TI TO i1 i2:Addr):Prop where
 a:TI≠z
 b:TO≠z
 c:i1≠z
 d:i2≠z
 e:TI≠TO
 f:TI≠i1
 g:TI≠i2
 h:TO≠i1
 i:TO≠i2
 j:i1≠i2
theorem aib{X:Cx}{aA:List (Addr×Obj)}{σ:St}{H:Hp}{s:Shared}{h':Heap}{t':Nat}{ch:List Addr}(I:Inv X aA σ H s)(hf:∀b∈ch,ab6 X aA H b)(k:∀b o,b∉ch->s.heap.get? b=some o->h'.get? b=some o) :
  Inv X aA σ H {s with heap:=h',toks:=t' }:=by
 have nit:∀b u,H b=some u->b∉ch:=λb u e z=>by rw[(hf b z).1]at e;cases e
 refine I.step (g':=s.gens) (d':=s.drawn) (ch:=ch) (λb hb=>?_) (λb o _ _ hc e _=>k b o hc e) (λb o _ _ hc e _=>⟨o.slots,k b o hc e⟩) (λ_ _ _ _ n=>n) (λb o hc e=>⟨o,k b o hc e⟩) (λ_ _ e=>e) (λ_ _ _ e=>e)
  (λb ps e=>⟨#[],by rw[e];simp⟩) (λm hm=>?_) (λb u e=>?_) I.bare
 ·obtain⟨_,f1,_,f3,f4,f5⟩:=hf b hb;exact⟨f3,f1,f4,f5⟩
 ·obtain⟨o,es,ep,ho,r⟩:=hm;exact⟨o,es,ep,k _ o (λz=>(hf _ z).2.1 rfl) ho,r⟩
 ·refine(I.hok b u e).stay (λc v hc q=>k c v ?_ q) (λ_ q=>q) λ_ _ q=>q
  rcases hc with z|z
  ·rw[z];exact nit b u e
  ·exact nit c _ z
theorem aln{P:Program}{w:World}{K:Fg}{elts:List Expr}{x1:Nat}{pos:Pos}{z TI TO i1 i2:Addr}{t1 t2:Tok}{k1 k2:Srk}(f:Far z TI TO i1 i2):Turn P w K (.Tuple elts x1 pos) (ItZ k1 k2) [z,TI,TO,i1,i2] z (tnZ z TI TO i1 i2 t1 t2 k1 k2) where
 mem:=by simp
 obj:=λi h st b hb=>by
  obtain⟨h1,h2,⟨a,b',h3⟩,h4,h5⟩:=st;simp only[aS,bp,cG]at hb
  rcases hb with rfl|rfl|rfl|rfl|rfl
  ·exact⟨_,h1,λv z=>(by cases z)⟩
  ·exact⟨_,h2,λv z=>(by cases z)⟩
  ·exact⟨_,h3,λv z=>(by cases z)⟩
  ·exact aa9 h4
  ·exact aa9 h5
 keep:=λi h h' st k=>by
  obtain⟨h1,h2,⟨a,b',h3⟩,h4,h5⟩:=st;exact⟨k z (by simp) _ h1,k TI (by simp) _ h2,⟨a,b',k TO (by simp) _ h3⟩,a7t h4 λob e=>k i1 (by simp) ob e,a7t h5 λob e=>k i2 (by simp) ob e⟩
 item:=by
  intro X hP hw hK hc i aA s σ H E I hf st hg
  subst hP hw hK;obtain⟨xs,ys,x,y,e1,e2,g1,g2⟩:=hg;obtain⟨h1,h2,⟨a,b,h3⟩,h4,h5⟩:=st;have n:∀c∈[z,TI,TO,i1,i2],H c=none:=λc hc=>(hf c hc).1;obtain⟨cs,P1,S1,D1,a1,b1,c1,d1⟩:=aab I (t:=t1) e1 (n i1 (by simp))
  obtain⟨ds,P2,S2,D2,a2,b2,c2,d2⟩:=aab I (t:=t2) e2 (n i2 (by simp))
  have hd:=I.ok.hd hc;have out1:∀c,H c=none->c∉cs:=λc e z=>c1 c z e;have out2:∀c,H c=none->c∉ds:=λc e z=>c2 c z e;have ap:Ap z TI TO i1 i2 (i1::cs) (i2::ds):=⟨by simp,by simp,by simp[f.c.symm,out1 z (n z (by simp))],by simp[f.d.symm,out2 z (n z (by simp))],by simp[f.h,out1 TO (n TO (by simp))],by simp[f.i,out2 TO (n TO (by simp))],f.b,by simp[f.j,out2 i1 (n i1 (by simp))],by simp[f.j.symm,out1 i2 (n i2 (by simp))]⟩
  refine next_item (D1 X.A.in1 hd) (D2 X.A.in1 hd) ap h1 h2 h3 (a1 i h4) (a2 i h5) (ag.mp g1).1 (ag.mp g2).1 λu v h' tk pu pv z' to' s1' s2' pr sz kp=>?_;obtain⟨x',q1,r1⟩:=d1 i u pu;obtain⟨y',q2,r2⟩:=d2 i v pv;rw[g1]at q1;cases q1
  rw[g2]at q2;cases q2
  refine⟨_,rfl,wpAny_letOwnedTupleGo_zip z' λh2' z2' sb=>?_⟩;have hp:H s.heap.objs.size=none:=I.hok.fresh (aJ _);have lt:∀c∈[z,TI,TO,i1,i2],c<s.heap.objs.size:=λc hc=>by
   simp only[aS,bp,cG]at hc
   rcases hc with rfl|rfl|rfl|rfl|rfl
   ·exact aX h1
   ·exact aX h2
   ·exact aX h3
   ·obtain⟨_,e,_⟩:=aa9 h4;exact aX e
   ·obtain⟨_,e,_⟩:=aa9 h5;exact aX e
  have all:∀c o,c∉[z,TI,TO,i1,i2]->s.heap.get? c=some o->h2'.get? c=some o:=λc o nc e=>by
   simp only[aS,bp,cG,not_or]at nc;exact(sb.2 c nc.1).trans (kp c o nc.1 nc.2.2.1 nc.2.2.2.1 nc.2.2.2.2 e)
  have nT:∀c∈[z,TI,TO,i1,i2],c≠s.heap.objs.size:=λc hc=>bW (lt c hc);have I0:Inv X aA σ (upd H s.heap.objs.size (.tup [x,y])) {s with heap:=s.heap.push {cls:=.type "tuple",data:=.seq #[u,v]} } :=
   I.laid (t':=s.toks) (o:=.tup [x,y]) (λb o e=>ar _ e) (aJ _) ⟨by show 2<=sizeLine;decide,[u,v],.cons r1 (.cons r2 .nil),⟨_,bb _ rfl,rfl,_,rfl⟩⟩
  have I1:Inv X aA σ (upd H s.heap.objs.size (.tup [x,y])) {s with heap:=h2',toks:=tk}:=by
   refine aib (s:={s with heap:=s.heap.push {cls:=.type "tuple",data:=.seq #[u,v]} }) (ch:=[z,TI,TO,i1,i2]) I0 (λb hb=>?_) λc o nc e=>?_
   ·obtain⟨f0,f1⟩:=hf b hb;exact⟨by rw[jr (nT b hb)];exact f0,f1⟩
   ·rcases Heap.get?_push_cases e with⟨rfl,rfl⟩|e
    ·exact(sb.2 _ (nT z (by simp)).symm).trans pr
    ·exact all c o nc e
  refine⟨.ref s.heap.objs.size,_,I1,rfl,⟨xs,ys,x,y,_,e1,e2,g1,g2,hp,rfl,rfl⟩,⟨z2',?_,⟨u,v,(sb.2 _ f.b).trans to'⟩,a7t (b1 _ _ s1') λob e=>(sb.2 _ f.c).trans e,a7t (b2 _ _ s2') λob e=>(sb.2 _ f.d).trans e⟩,λb hb=>?_⟩
  ·exact(sb.2 _ f.a).trans (kp TI _ f.a f.e f.f f.g h2)
  ·rw[jr (nT b hb)];exact n b hb
 done:=by
  intro X hP hw hK hc i aA s σ H E I hf st hg
  subst hP hw hK;obtain⟨xs,ys,e1,e2,g⟩:=hg;obtain⟨h1,h2,⟨a,b,h3⟩,h4,h5⟩:=st;have n:∀c∈[z,TI,TO,i1,i2],H c=none:=λc hc=>(hf c hc).1;obtain⟨cs,P1,S1,D1,a1,b1,c1,d1⟩:=aab I (t:=t1) e1 (n i1 (by simp))
  obtain⟨ds,P2,S2,D2,a2,b2,c2,d2⟩:=aab I (t:=t2) e2 (n i2 (by simp))
  have hd:=I.ok.hd hc;have out1:∀c,H c=none->c∉cs:=λc e z=>c1 c z e;have out2:∀c,H c=none->c∉ds:=λc e z=>c2 c z e;have ap:Ap z TI TO i1 i2 (i1::cs) (i2::ds):=⟨by simp,by simp,by simp[f.c.symm,out1 z (n z (by simp))],by simp[f.d.symm,out2 z (n z (by simp))],by simp[f.h,out1 TO (n TO (by simp))],by simp[f.i,out2 TO (n TO (by simp))],f.b,by simp[f.j,out2 i1 (n i1 (by simp))],by simp[f.j.symm,out1 i2 (n i2 (by simp))]⟩
  refine next_end (D1 X.A.in1 hd) (D2 X.A.in1 hd) ap h1 h2 h3 (a1 i h4) (a2 i h5) g λh' tk kp=>⟨rfl,aib I hf λc o nc e=>?_⟩;simp only[aS,bp,cG,not_or]at nc;exact kp c o nc.1 nc.2.2.1 nc.2.2.2.1 nc.2.2.2.2 e
 self:=λ_ _ _ _ _ st h=>wpAny_pyIter_zip st.1 h
theorem aic(c:cont h k us)(o:Obj):cont (h.push o) k us:=by
 cases k with
 |tup a=>obtain⟨ob,e,r⟩:=c;exact⟨ob,ar _ e,r⟩
 |lst a=>obtain⟨ob,e,r⟩:=c;exact⟨ob,ar _ e,r⟩
 |str x=>trivial
theorem aep{s:Shared}(c:cont s.heap k us)(q:Q (.ref s.heap.objs.size) {s with heap:=s.heap.push (iob t k)}) :
  wpAny (model prog w) A (pyIter (val t k)) Q E s:=by
 cases k with
 |tup a=>exact wpAny_pyIter_tuple c q
 |lst a=>exact fZ c q
 |str x=>exact wpAny_pyIter_strU q
def mk2(h:Heap)(t1 t2:Tok)(k1 k2:Srk):Heap:=(h.push (iob t1 k1)).push (iob t2 k2)
def mk5(h:Heap)(t1 t2:Tok)(k1 k2:Srk):Heap :=
 (((mk2 h t1 t2 k1 k2).push {cls:=.type "tuple",data:=.seq #[.ref h.objs.size,.ref (h.objs.size+1)]}).push {cls:=.type "tuple",data:=.seq #[.none,.none]}).push
  {cls:=.type "zip",data:=.fields #[.none,.bool false,.bool false,.ref (h.objs.size+2),.ref (h.objs.size+3)]}
theorem alo(t1 t2:Tok)(k1 k2:Srk)(us1 us2:List Value):Meets (Builtin.«zip.__new__» ⟨[.type "zip",val t1 k1,val t2 k2],[]⟩)
  (λ_ R s=>cont s.heap k1 us1/\cont s.heap k2 us2/\R (.ok (.ret (.ref (s.heap.objs.size+4)))) {s with heap:=mk5 s.heap t1 t2 k1 k2}) :=
 .of_wp λprog w A R s h=>by
  obtain⟨hp,g,d,tk,os⟩:=s;obtain⟨c1,c2,h⟩:=h;have sub:=sub_zip;have c1':cont (Shared.heap ⟨hp,g,d,tk,os⟩) k1 us1:=c1;have c2':cont (Shared.heap ⟨hp.push (iob t1 k1),g,d,tk,os⟩) k2 us2:=aic c2 _
  wp_walk using aep (t:=t1) c1',aep (t:=t2) c2'
  refine⟨_,rfl,?_⟩;simpa[mk5,mk2,cM,ownedTupleFields,Nat.add_assoc] using h
theorem az1(n:Nat):Far (n+4) (n+2) (n+3) n (n+1):=by
 refine⟨?_,?_,?_,?_,?_,?_,?_,?_,?_,?_⟩<;>(intro z;have z:(_:Nat)=_:=z;omega)
theorem b1p(n b:Nat)(h:b∈[n+4,n+2,n+3,n,n+1]):n<=b:=by
 simp only[aS,bp,cG]at h;omega
section
variable{X:Cx}{elts:List Expr}{x1:Nat}{tpos:Pos}
def b1q(ta:TA):TI:=λσ H R=>ta σ H λvs H1=>∃k1 k2 xs ys,vs=[Srk.v k1,Srk.v k2]/\its H1 k1=some xs/\its H1 k2=some ys/\R (ItZ k1 k2) H1
theorem anr{k:Srk}(r:RelV k.v u):∃t,u=val t k:=by
 cases k with
 |tup a=>cases r;exact⟨0,rfl⟩
 |lst a=>cases r;exact⟨0,rfl⟩
 |str x=>obtain⟨t,rfl⟩:=r;exact⟨t,rfl⟩
theorem aup(hg:Gl X "zip")(hm:X.mg "zip" = none)(hb:bootBuiltins "zip" = some (.type "zip"))(ha:PA X [e1,e2] ta)
  (h1:starEach [e1,e2] X.env=[(false,eval e1 X.env),(false,eval e2 X.env)]:=by rfl) (h2:starEach [e2] X.env=[(false,eval e2 X.env)]:=by rfl):PI X (.Tuple elts x1 tpos) (.Call (.Name "zip" p) [e1,e2] [] pos) (b1q ta):=by
 intro aA s σ H R I h
 refine dv (a95 I hg hm hb ?_ (by decide) (by decide))
 refine cW (thn (ha pos aA s σ H _ I h) λus s1 ⟨vs,H1,I1,r1,q1⟩=>?_) (by rw[h1,h2]) (by rw[h2];rfl)
 obtain⟨k1,k2,xs,ys,rfl,e1,e2,q⟩:=q1;obtain⟨v1,v2,rfl,rv1,rv2⟩:=vals2 r1;obtain⟨t1,rfl⟩:=anr rv1;obtain⟨t2,rfl⟩:=anr rv2;obtain⟨us1,c1,_⟩:=aaa I1 e1;obtain⟨us2,c2,_⟩:=aaa I1 e2;refine callType_new F.called_zip (by decide) (F.typeCall_zip_2 _ _) (F.newCall_zip_2 _ _) (λobj=>F.args_object_init_3 obj _ _) F.entry_zip_new (alo t1 t2 k1 k2 us1 us2) ⟨c1,c2,?_⟩
 have z2:(mk2 s1.heap t1 t2 k1 k2).objs.size=s1.heap.objs.size+2:=by simp[mk2,cM]
 have at0:(mk5 s1.heap t1 t2 k1 k2).get? s1.heap.objs.size=some (iob t1 k1):=by
  unfold mk5 mk2;exact ar _ (ar _ (ar _ (ar _ (bb _ (by cases k1<;>rfl)))))
 have at1:(mk5 s1.heap t1 t2 k1 k2).get? (s1.heap.objs.size+1)=some (iob t2 k2):=by
  unfold mk5 mk2;have:=bb (o:=iob t2 k2) (s1.heap.push (iob t1 k1)) (by cases k2<;>rfl)
  rw[cM]at this;exact ar _ (ar _ (ar _ this))
 have at2:IsPair (mk5 s1.heap t1 t2 k1 k2) (s1.heap.objs.size+2) (.ref s1.heap.objs.size) (.ref (s1.heap.objs.size+1)):=by
  unfold mk5;rw[<-z2];exact ar _ (ar _ (bb _ rfl))
 have at3:IsPair (mk5 s1.heap t1 t2 k1 k2) (s1.heap.objs.size+3) .none .none:=by
  unfold mk5;have:=bb (o:={cls:=.type "tuple",data:=.seq #[.none,.none]}) ((mk2 s1.heap t1 t2 k1 k2).push {cls:=.type "tuple",data:=.seq #[.ref s1.heap.objs.size,.ref (s1.heap.objs.size+1)]}) rfl;rw[cM,z2]at this;exact ar _ this
 have at4:IsZip (mk5 s1.heap t1 t2 k1 k2) (s1.heap.objs.size+4) (s1.heap.objs.size+2) (s1.heap.objs.size+3) .none:=by
  unfold mk5;have:=bb (o:={cls:=.type "zip",data:=.fields #[.none,.bool false,.bool false,.ref (s1.heap.objs.size+2),.ref (s1.heap.objs.size+3)]}) (((mk2 s1.heap t1 t2 k1 k2).push {cls:=.type "tuple",data:=.seq #[.ref s1.heap.objs.size,.ref (s1.heap.objs.size+1)]}).push {cls:=.type "tuple",data:=.seq #[.none,.none]}) rfl;rw[cM,cM,z2]at this;exact this
 have keepA:∀b o,s1.heap.get? b=some o->(mk5 s1.heap t1 t2 k1 k2).get? b=some o:=λb o e=>by
  unfold mk5 mk2;exact ar _ (ar _ (ar _ (ar _ (ar _ e))))
 have I2:Inv X aA σ H1 {s1 with heap:=mk5 s1.heap t1 t2 k1 k2}:=I1.kept (t':=s1.toks) keepA
 refine⟨⟨_,at4,rfl⟩,?_⟩;refine wpAny_pyIter_zip (s:={s1 with heap:=mk5 s1.heap t1 t2 k1 k2}) at4 ?_
 refine⟨s1.heap.objs.size+4,[s1.heap.objs.size+4,s1.heap.objs.size+2,s1.heap.objs.size+3,s1.heap.objs.size,s1.heap.objs.size+1],tnZ _ _ _ _ _ t1 t2 k1 k2,ItZ k1 k2,H1,rfl,I2,aln (az1 s1.heap.objs.size),
  ⟨at4,at2,⟨_,_,at3⟩,b05 at0,b05 at1⟩,λb hb=>?_,q⟩
 have:s1.heap.objs.size<=b:=b1p _ b hb
 exact I1.fpOk this (I1.hok.fresh this)
end
end ZP
namespace MI
open L2 ZP
def srcOf(d:D)(h:Hd):Option (List D×(Hd->Prop)):=match d with
 |.tup xs=>some (xs,λ_=>True)
 |.rol xs=>some (xs,λ_=>True)
 |.str x=>some (a0z x,λ_=>True)
 |.ref i=>(match h[i]? with|some (.lst xs)=>some (xs,λh=>h[i]? = some (.lst xs))|_=>none)
 |_=>none
def auq(x y:D)(h:Hd):R Itm:=match srcOf x h,srcOf y h with
 |some (xs,c1),some (ys,c2)=>.ok ⟨(xs.zip ys).map λp=>.tup [p.1,p.2],λh=>c1 h/\c2 h⟩ h
 |_,_=>.no
def aid(f g:SE):SI:=λτ h=>(f τ h).bind λx h1=>(g τ h1).bind λy h2=>auq x y h2
theorem ant(r:Rep K ι H v d)(hr:HRep K ι H h)(e:srcOf d h=some (xs,ck)) :
  ∃k:Srk,v=k.v/\ck h/\∀ι' H' h',Gr ι H ι' H'->HRep K ι' H' h'->ck h'->∃vs,its H' k=some vs/\Reps K ι' H' vs xs:=by
 cases r with
 |@tup a vs ys ha rs =>
  cases e
  exact⟨.tup a,rfl,True.intro,λι' H' h' g _ _=>⟨vs,by simp[its,g.tup _ _ ha],rs.mono g⟩⟩
 |@rol a vs ys ha rs =>
  cases e
  refine⟨.lst a,rfl,True.intro,λι' H' h' g _ _=>⟨vs,?_,rs.mono g⟩⟩;obtain⟨o,q⟩:=ha.mono g;simp[its,q]
 |str x =>
  cases e
  exact⟨.str x,rfl,True.intro,λι' H' h' g _ _=>⟨_,rfl,a9d x⟩⟩
 |@ref a i ha =>
  obtain⟨ob,e1,e2⟩:=hr.at ha
  cases ob with
  |lst zs =>
   simp only[srcOf,e1]at e;cases e
   refine⟨.lst a,rfl,e1,λι' H' h' g hr' c=>?_⟩;obtain⟨us,q1,q2⟩:=hr'.obj i a _ (g.at ha) c;exact⟨us,by simp[its,q1],q2⟩
  |dK _=>simp only[srcOf,e1]at e;cases e
  |dT _=>simp only[srcOf,e1]at e;cases e
  |ins _ _=>simp only[srcOf,e1]at e;cases e
 |_=>cases e
theorem anu(hg:Gl X "zip")(hm:X.mg "zip" = none)(hb:bootBuiltins "zip" = some (.type "zip"))(ha:ME X E e1 f)(hb':ME X E e2 g)
  (h1:starEach [e1,e2] X.env=[(false,eval e1 X.env),(false,eval e2 X.env)]:=by rfl) (h2:starEach [e2] X.env=[(false,eval e2 X.env)]:=by rfl) :
  MI X E (.Tuple elts x1 tpos) (.Call (.Name "zip" p) [e1,e2] [] pos) (aid f g):=by
 rintro aA s σ H Rr I ⟨ι,τ,h,S,Rh,o⟩
 refine aup hg hm hb (ad3 ha (ad3 hb' an7 (by rw[h2];rfl)) (by rw[h1,h2])) h1 h2 aA s σ H Rr I ?_
 refine⟨ι,τ,h,S,Rh,ig o λd h1 ι1 H1 v g1 r1 hr1 o1=>?_⟩;refine⟨ι1,τ,h1,S.mono g1,hr1,ig o1 λd2 h2 ι2 H2 u g2 r2 hr2 o2=>?_⟩;unfold auq at o2
 split at o2
 ·rename_i xs c1 ys c2 q1 q2;obtain⟨k1,rfl,k1c,k1f⟩:=ant (r1.mono g2) hr2 q1;obtain⟨k2,rfl,k2c,k2f⟩:=ant r2 hr2 q2;obtain⟨vs1,w1,w2⟩:=k1f ι2 H2 h2 (.refl _ _) hr2 k1c;obtain⟨vs2,w3,w4⟩:=k2f ι2 H2 h2 (.refl _ _) hr2 k2c;refine⟨k1,k2,vs1,vs2,rfl,w1,w3,o2 ι2 H2 _ (.refl _ _) ?_ hr2⟩
  intro ι3 H3 h3 g3 hr3 c
  obtain⟨us1,a1,a2⟩:=k1f ι3 H3 h3 g3 hr3 c.1;obtain⟨us2,a3,a4⟩:=k2f ι3 H3 h3 g3 hr3 c.2;refine⟨λi d ed=>?_,us1,us2,a1,a3,?_⟩
  ·simp only[aP,aU]at ed;obtain⟨⟨x,y⟩,ez,rfl⟩:=ed;obtain⟨ex,ey⟩:=eA.mp ez;obtain⟨v1,b1,b2⟩:=a2.get ex;obtain⟨v2,b3,b4⟩:=a4.get ey;refine⟨⟨us1,us2,v1,v2,a1,a3,b1,b3⟩,λx H' yl=>?_⟩;obtain⟨xs',ys',x',y',p,c1,c2,c3,c4,c5,rfl,rfl⟩:=yl;rw[a1]at c1;cases c1
   rw[a3]at c2;cases c2
   rw[b1]at c3;cases c3
   rw[b3]at c4;cases c4
   exact⟨a3n c5 _,.tup qu (.cons (b2.mono (a3n c5 _)) (.cons (b4.mono (a3n c5 _)) .nil)),hr3.aside c5 _⟩
  ·rw[ay,List.length_zip,a2.len,a4.len];omega
 ·exact o2.elim
theorem anv:bootBuiltins "zip" = some (.type "zip"):=by first|exact PySem.boot_zip|exact PyProof.Rows.boot_zip|rfl
end MI
namespace MI
open L2
def FrzOf(L:List Addr)(H H2:Hp):Prop:=∀a,(a∉L->H2 a=H a)/\(a∈L->∃o u,H a=some u/\H2 a=some (.frz o u))
def aeq(H:Hp)(L:List Addr):Prop:=∀a∈L,(∃xs,H a=some (.lst xs))\/(∃kvs,H a=some (.dK kvs))\/(∃kvs,H a=some (.dT kvs))\/∃C dx fs,H a=some (.ins C dx fs)
def still:HO->Prop
 |.lst _=>False|.dK _=>False|.dT _=>False|.ins _ _ _=>False
 |_=>True
theorem FrzOf.still(f:FrzOf L H H2)(ab:aeq H L)(e:H a=some u)(st:MI.still u):H2 a=some u:=by
 rw[(f a).1 λz=>?_]
 ·exact e
 ·rcases ab a z with⟨_,q⟩|⟨_,q⟩|⟨_,q⟩|⟨_,_,_,q⟩<;>(rw[e]at q;cases q;exact st)
theorem Inv.frz{X:Cx}{aA:List (Addr×Obj)}{σ:St}{H:Hp}{s:Shared}{L:List Addr}(I:Inv X aA σ H s)(ab:aeq H L):∃H2,FrzOf L H H2/\Inv X aA σ H2 s:=by
 have obj:∀a∈L,∀u,H a=some u->∃o,s.heap.get? a=some o:=λa ha u e=>by
  rcases ab a ha with⟨_,q⟩|⟨_,q⟩|⟨_,q⟩|⟨_,_,_,q⟩
  ·obtain⟨_,_,_,_,z⟩:=I.hok a _ q;exact⟨_,z⟩
  ·obtain⟨_,_,_,_,z⟩:=I.hok a _ q;obtain⟨o,_,_,z,_⟩:=z;exact⟨o,z⟩
  ·obtain⟨_,_,_,_,o,_,_,z,_⟩:=I.hok a _ q;exact⟨o,z⟩
  ·obtain⟨_,_,_,z,_⟩:=I.hok a _ q;exact⟨_,z⟩
 let H2:Hp:=λa=>if a∈L then (match s.heap.get? a,H a with|some o,some u=>some (.frz o u)|_,w=>w) else H a
 have f:FrzOf L H H2:=λa=>⟨λh=>by simp[H2,h],λh=>by
  obtain⟨u,e⟩:∃u,H a=some u:=by
   rcases ab a h with⟨_,q⟩|⟨_,q⟩|⟨_,q⟩|⟨_,_,_,q⟩<;>exact⟨_,q⟩
  obtain⟨o,eo⟩:=obj a h u e;exact⟨o,u,e,by simp[H2,h,e,eo]⟩⟩
 refine⟨H2,f,?_⟩;have mv:∀a u,ObjOk X.prog X.w H s.heap a u->ObjOk X.prog X.w H2 s.heap a u:=λa u x=>x.stay (λb v _ q=>q) (λc q=>f.still ab q True.intro) λc xs q=>f.still ab q True.intro;have ok:HOk X.prog X.w H2 s.heap:=λa u e=>by
  by_cases hl:a∈L
  ·obtain⟨u0,e0⟩:∃u,H a=some u:=by
    rcases ab a hl with⟨_,q⟩|⟨_,q⟩|⟨_,q⟩|⟨_,_,_,q⟩<;>exact⟨_,q⟩
   obtain⟨o,eo⟩:=obj a hl u0 e0;have e':H2 a=some (.frz o u0):=by simp[H2,hl,e0,eo]
   rw[e']at e;cases e
   exact⟨eo,mv a u0 (I.hok a u0 e0)⟩
  ·rw[(f a).1 hl]at e;exact mv a u (I.hok a u e)
 have fn:∀b,H b=none->H2 b=none:=λb n=>by
  rw[(f b).1 λz=>?_]
  ·exact n
  ·rcases ab b z with⟨_,q⟩|⟨_,q⟩|⟨_,q⟩|⟨_,_,_,q⟩<;>(rw[n]at q;cases q)
 have un:Un X.fs [] H H2 s.heap s.heap:=⟨λb o q _ _ _=>q,λb o q _ _ _=>⟨o.slots,q⟩,λb o _ n _=>fn b n,λb o q _=>⟨o,q⟩,λb xs q=>f.still ab q True.intro,λb o u q=>f.still ab q True.intro,λb ps q=>⟨#[],by rw[f.still ab q True.intro];simp⟩⟩
 exact I.un (t':=s.toks) un ok
theorem a9e(h:PE X e t):PE X e (λσ H Q=>t σ H λv H1=>∃L,aeq H1 L/\∀H2,FrzOf L H1 H2->Q v H2):=λaA s σ H Q I q =>
 thn (h aA s σ H _ I q) λu s' ⟨v,H1,I1,r,L,ab,k⟩=>let ⟨H2,f,I2⟩:=Inv.frz I1 ab; ⟨v,H2,I2,r,k H2 f⟩
def a0r{α β:Type}(f:α->Option β):List α->Option (List β)
 |[]=>some []
 |x::xs=>match f x,a0r f xs with|some y,some ys=>some (y::ys)|_,_=>none
open Classical in
noncomputable def a4v(n:Nat)(h:Hd):Nat->D->Option D
 |0,_=>none
 |k+1,d=>if clo n d then some d else match d with
  |.tup xs=>(a0r (a4v n h k) xs).map .tup
  |.rol xs=>(a0r (a4v n h k) xs).map .rol
  |.scr xs=>(a0r (a4v n h k) xs).map .scr
  |.rod ks xs=>(a0r (a4v n h k) xs).map (.rod ks)
  |.rdT ks xs=>(a0r (a4v n h k) xs).map (.rdT ks)
  |.ins c ks xs=>(a0r (a4v n h k) xs).map (.ins c ks)
  |.ref i=>match h[i]? with
   |some (.lst xs)=>(a0r (a4v n h k) xs).map .rol
   |some (.dK kvs)=>(a0r (a4v n h k) (kvs.map (·.2))).map (.rod (kvs.map (·.1)))
   |some (.dT kvs)=>(a0r (a4v n h k) (kvs.map (·.2))).map (.rdT (kvs.map (·.1)))
   |some (.ins c kvs)=>(a0r (a4v n h k) (kvs.map (·.2))).map (.ins c (kvs.map (·.1)))
   |none=>none
  |_=>none
open Classical in
noncomputable def aur(n:Nat)(h:Hd)(k:Nat)(o:O):Option O:=if vg n o then some o else match o with
 |.lst xs=>(a0r (a4v n h k) xs).map .lst
 |.dK kvs=>(a0r (a4v n h k) (kvs.map (·.2))).map λys=>.dK ((kvs.map (·.1)).zip ys)
 |.dT kvs=>(a0r (a4v n h k) (kvs.map (·.2))).map λys=>.dT ((kvs.map (·.1)).zip ys)
 |.ins c kvs=>(a0r (a4v n h k) (kvs.map (·.2))).map λys=>.ins c ((kvs.map (·.1)).zip ys)
abbrev FU:Nat:=20
noncomputable def acv(n:Nat):R D->R D
 |.ok d h1=>match a4v n h1 FU d,a0r (aur n h1 FU) (h1.take n) with|some d',some g=>.ok d' g|_,_=>.no
 |_=>.no
open Classical in
noncomputable def anw(n:Nat):R D->R D
 | .ok (.ref i) h1=>(match h1[i]? with
   |some o=>if n<=i/\vg n o/\∀u∈h1.take n,vg n u then .ok (.ref n) (h1.take n++[o]) else .no
   |none=>.no)
 |_=>.no
section
variable{K:Fg}{ι ι':List Addr}{H H' H2:Hp}{h1:Hd}{n:Nat}{L:List Addr}
theorem aer(f:FrzOf L H' H2)(ab:aeq H' L)(κ:List Addr):Gw κ H' κ H2:=⟨⟨[],by simp⟩,λa vs e=>f.still ab e True.intro,λa o u e=>f.still ab e True.intro⟩
theorem rm(ih:∀{v d d'},Rep K ι H v d->f d=some d'->Rep K κ H2 v d'):∀{vs:List V} {ds ds':List D},Reps K ι H vs ds->a0r f ds=some ds'->Reps K κ H2 vs ds'
 |_,_,_,.nil,e=>by cases e;exact .nil
 |_,x::xs,_,.cons r rs,e=>by
  unfold a0r at e
  split at e
  ·rename_i y ys h1 h2;cases e
   exact .cons (ih r h1) (rm ih rs h2)
  ·cases e
theorem a8h(hr:HRep K ι' H' h1)(hL:∀(i:Nat) a,ι'[i]? = some a->n<=i->a∈L)(f:FrzOf L H' H2)(ab:aeq H' L):∀(k:Nat) {v:V} {d d':D},Rep K ι' H' v d->a4v n h1 k d=some d'->Rep K (ι'.take n) H2 v d':=by
 intro k
 induction k with
 |zero=>intro v d d' r e;cases e
 |succ k ih =>
  intro v d d' r e
  unfold a4v at e
  split at e
  ·rename_i c;cases e
   exact(r.cut c).monoW (aer f ab _)
  ·rename_i c
   cases r with
   |tup h rs =>
    simp only[aU]at e;obtain⟨ys,e1,rfl⟩:=e;exact .tup (f.still ab h True.intro) (rm (λr e=>ih r e) rs e1)
   |rol h rs =>
    simp only[aU]at e;obtain⟨ys,e1,rfl⟩:=e;exact .rol (h.monoW (aer f ab ι')) (rm (λr e=>ih r e) rs e1)
   |scr h rs =>
    simp only[aU]at e;obtain⟨ys,e1,rfl⟩:=e;exact .scr (h.monoW (aer f ab ι')) (rm (λr e=>ih r e) rs e1)
   |rod h ek rs =>
    simp only[aU]at e;obtain⟨ys,e1,rfl⟩:=e;exact .rod (f.still ab h True.intro) ek (rm (λr e=>ih r e) rs e1)
   |rdT h ek rs =>
    simp only[aU]at e;obtain⟨ys,e1,rfl⟩:=e;exact .rdT (f.still ab h True.intro) ek (rm (λr e=>ih r e) rs e1)
   |@ref a i ha =>
    have hi:n<=i:=by
     simp only[clo]at c;omega
    obtain⟨o,u,e1,e2⟩:=(f a).2 (hL i a ha hi);obtain⟨ob,h3,h4⟩:=hr.at ha;simp only[h3]at e
    cases ob with
    |lst xs =>
     simp only[aU]at e;obtain⟨ys,e3,rfl⟩:=e;obtain⟨vs,h5,h6⟩:=h4;rw[e1]at h5;cases h5
     exact .rol ⟨o,e2⟩ (rm (λr e=>ih r e) h6 e3)
    |dK kvs =>
     simp only[aU]at e;obtain⟨ys,e3,rfl⟩:=e;obtain⟨us,h5,h6,h7⟩:=h4;rw[e1]at h5;cases h5
     exact .rod e2 h6 (rm (λr e=>ih r e) h7 e3)
    |dT kvs =>
     simp only[aU]at e;obtain⟨ys,e3,rfl⟩:=e;obtain⟨us,h5,h6,h7⟩:=h4;rw[e1]at h5;cases h5
     exact .rdT e2 h6 (rm (λr e=>ih r e) h7 e3)
    |ins c kvs =>
     simp only[aU]at e;obtain⟨ys,e3,rfl⟩:=e;obtain⟨C,dx,us,h5,hn,h6,h7⟩:=h4;rw[e1]at h5;cases h5
     exact .ins e2 hn h6 (rm (λr e=>ih r e) h7 e3)
   |non=>simp only[clo,dH]at c
   |exc _ _ _=>simp only[clo,dH]at c
   |ins h hn ek rs =>
    simp only[aU]at e;obtain⟨ys,e1,rfl⟩:=e;exact .ins (f.still ab h True.intro) hn ek (rm (λr e=>ih r e) rs e1)
   |bl b=>simp only[clo,dH]at c
   |int b=>simp only[clo,dH]at c
   |str b=>simp only[clo,dH]at c
   |ty b=>simp only[clo,dH]at c
theorem a68{κ:Type}{H:Hp}{us:List (κ×V)}{ks:List κ}{ys:List D}(e:us.map (·.1)=ks)(r:Reps K ι H (us.map (·.2)) ys):KRep K ι H us (ks.zip ys):=by
 have l:ks.length=ys.length:=by rw[<-e,ay,<-r.len,ay]
 refine⟨?_,?_⟩
 ·rw[List.map_fst_zip (by omega)];exact e
 ·rw[List.map_snd_zip (by omega)];exact r
theorem aqa(hr:HRep K ι' H' h1)(hL:∀(i:Nat) a,ι'[i]? = some a->n<=i->a∈L)(f:FrzOf L H' H2)(ab:aeq H' L){k:Nat}(na:a∉L)(r:ORep K ι' H' a o)(e:aur n h1 k o=some o'):ORep K (ι'.take n) H2 a o':=by
 have same:H2 a=H' a:=(f a).1 na;unfold aur at e
 split at e
 ·rename_i c;cases e
  exact(r.cut c).monoW (aer f ab _) same
 ·cases o with
  |lst xs =>
   simp only[aU]at e;obtain⟨ys,e1,rfl⟩:=e;obtain⟨vs,h3,h4⟩:=r;exact⟨vs,by rw[same];exact h3,rm (λr e=>a8h hr hL f ab k r e) h4 e1⟩
  |dK kvs =>
   simp only[aU]at e;obtain⟨ys,e1,rfl⟩:=e;obtain⟨us,h3,h4,h5⟩:=r;exact⟨us,by rw[same];exact h3,a68 h4 (rm (λr e=>a8h hr hL f ab k r e) h5 e1)⟩
  |dT kvs =>
   simp only[aU]at e;obtain⟨ys,e1,rfl⟩:=e;obtain⟨us,h3,h4,h5⟩:=r;exact⟨us,by rw[same];exact h3,a68 h4 (rm (λr e=>a8h hr hL f ab k r e) h5 e1)⟩
  |ins c kvs =>
   simp only[aU]at e;obtain⟨ys,e1,rfl⟩:=e;obtain⟨C,dx,us,h3,hn,h4,h5⟩:=r;exact⟨C,dx,us,by rw[same];exact h3,hn,a68 h4 (rm (λr e=>a8h hr hL f ab k r e) h5 e1)⟩
theorem a4n{α β:Type}{f:α->Option β}:∀{xs:List α} {ys:List β},a0r f xs=some ys->xs.length=ys.length/\∀(i:Nat) y,ys[i]? = some y->∃x,xs[i]? = some x/\f x=some y
 |[],_,e=>by cases e;exact⟨rfl,λi y e=>by simp at e⟩
 |x::xs,ys,e=>by
  unfold a0r at e
  split at e
  ·rename_i y ys h1 h2;cases e
   obtain⟨l,g⟩:=a4n h2;refine⟨by simp[l],λi z e=>?_⟩
   cases i with
   |zero=>simp at e;subst e;exact⟨x,rfl,h1⟩
   |succ i=>simpa using g i z (by simpa using e)
  ·cases e
theorem aie(hr:HRep K ι' H' h1)(M:List Addr)(hM:∀a∈M,a∈ι'):aeq H' M:=λa ha=>by
 obtain⟨i,hi⟩:=bX (hM a ha);obtain⟨o,_,q⟩:=hr.at hi
 cases o with
 |lst xs=>obtain⟨vs,h,_⟩:=q;exact .inl ⟨_,h⟩
 |dK xs=>obtain⟨vs,h,_⟩:=q;exact .inr (.inl ⟨_,h⟩)
 |dT xs=>obtain⟨vs,h,_⟩:=q;exact .inr (.inr (.inl ⟨_,h⟩))
 |ins _ _=>obtain⟨C,dx,vs,h,_⟩:=q;exact .inr (.inr (.inr ⟨_,_,_,h⟩))
theorem a8i{α:Type}{l:List α}(nd:l.Nodup){i j:Nat}{a:α}(h1:l[i]? = some a)(h2:l[j]? = some a):i=j:=by
 obtain⟨l1,e1⟩:=ag.mp h1;obtain⟨l2,e2⟩:=ag.mp h2
 rcases eY i j with l|l|l
 ·exact absurd (e1.trans e2.symm) (bP.mp nd i j l1 l2 l)
 ·exact l
 ·exact absurd (e2.trans e1.symm) (bP.mp nd j i l2 l1 l)
theorem aus(g:Gr ι H ι' H')(f:FrzOf L H' H2)(ab:aeq H' L)(hL:∀a∈L,H a=none)(hm:∀a∈m,H a=none):Gr ι H (ι++m) H2:=by
 refine⟨⟨m,rfl,hm⟩,λa vs e=>f.still ab (g.tup a vs e) True.intro,λa o u e=>f.still ab (g.frz a o u e) True.intro,λa u e hn=>?_,λa u e=>?_⟩
 ·rw[(f a).1 λz=>by rw[hL a z]at e;cases e]
  exact g.oth a u e hn
 ·obtain⟨u',e'⟩:=g.kp a u e;rw[(f a).1 λz=>by rw[hL a z]at e;cases e]
  exact⟨u',e'⟩
theorem aif{d d':D}{v:V}{g':Hd}(g:Gr ι H ι' H')(rb:Rep K ι' H' v d)(hr:HRep K ι' H' h1)(e:acv ι.length (.ok d h1)=.ok d' g') :
  ∃L,aeq H' L/\∀H2,FrzOf L H' H2->Gr ι H ι H2/\Rep K ι H2 v d'/\HRep K ι H2 g':=by
 obtain⟨m,rfl,hm⟩:=g.pre;have tk:(ι++m).take ι.length=ι:=by simp
 have ab:aeq H' m:=aie hr m λa ha=>cn _ ha;have hL:∀(i:Nat) a,(ι++m)[i]? = some a->ι.length<=i->a∈m:=λi a e hi=>by
  rw[aO hi]at e;exact aQ e
 refine⟨m,ab,λH2 f=>?_⟩;unfold acv at e;simp only at e
 split at e
 ·rename_i dd gg e1 e2;cases e
  refine⟨by simpa using aus g f ab hm (m:=[]) (by simp),by have:=a8h hr hL f ab FU rb e1;rwa[tk]at this,?_⟩
  obtain⟨l,gt⟩:=a4n e2;have hl:=hr.len;have ln:ι.length<=h1.length:=by rw[<-hl];simp
  refine⟨(cC.mp hr.nd).1,by rw[<-l,bN];omega,λi a o q1 q2=>?_⟩
  obtain⟨x,hx,fx⟩:=gt i o q2;have hi:i<ι.length:=(ag.mp q1).1;rw[eP,aR hi]at hx;have q3:(ι++m)[i]? = some a:=by rw[aM hi];exact q1
  have na:a∉m:=λz=>(cC.mp hr.nd).2.2 a (aQ q1) a z rfl;have:=aqa hr hL f ab na (hr.obj i a x q3 hx) fx
  rwa[tk]at this
 ·cases e
theorem alp(g:Gr ι H ι' H')(rb:Rep K ι' H' v d)(hr:HRep K ι' H' h1)(e:anw ι.length (.ok d h1)=.ok d' g') :
  ∃b,H b=none/\Gr ι H (ι++[b]) H'/\Rep K (ι++[b]) H' v d'/\HRep K (ι++[b]) H' g':=by
 obtain⟨m,rfl,hm⟩:=g.pre;have tk:(ι++m).take ι.length=ι:=by simp
 have up:∀b,Gw ι H' (ι++[b]) H':=λb=>⟨⟨[b],rfl⟩,λ_ _ h=>h,λ_ _ _ h=>h⟩
 cases rb with
 |@ref b i hb =>
  unfold anw at e;simp only at e
  split at e
  ·rename_i ob ho
   split at e
   ·rename_i hc;obtain⟨hi,c1,c2⟩:=hc;cases e
    have hb':=hb;rw[aO hi]at hb';have bm:b∈m:=aQ hb';obtain⟨nd1,nd2,nd3⟩:=cC.mp hr.nd;have hl:=hr.len;have ln:ι.length<=h1.length:=by rw[<-hl];simp
    have lt:(h1.take ι.length).length=ι.length:=by rw[bN];omega
    refine⟨b,hm b bm,⟨⟨[b],rfl,by simpa using hm b bm⟩,g.tup,g.frz,g.oth,g.kp⟩,.ref (by simp),?_⟩
    refine⟨cC.mpr ⟨nd1,by simp,λa ha c hc z=>nd3 a ha c (by rw[av.mp hc];exact bm) z⟩,by simp[lt],λj a o q1 q2=>?_⟩
    by_cases hj:j<ι.length
    ·rw[aM hj]at q1;rw[aM (by omega)]at q2
     have q2':=q2;rw[eP,aR hj]at q2';have:=(hr.obj j a o (by rw[aM hj];exact q1) q2').cut (c2 o (aQ q2))
     rw[tk]at this;exact this.monoW (up b) rfl
    ·have hj2:j<(ι++[b]).length:=(ag.mp q1).1;have:j=ι.length:=by simp at hj2;omega
     subst this;rw[aO (aJ _)]at q1;rw[aO (by omega),lt]at q2
     simp at q1 q2
     subst q1 q2;have:=(hr.obj i b ob hb ho).cut c1;rw[tk]at this;exact this.monoW (up b) rfl
   ·cases e
  ·cases e
 |_=>cases e
end
noncomputable def sZ(f:SE):SE:=λτ h=>acv h.length (f τ h)
abbrev b1r(Q:VK):VK:=λv H1=>∃L,aeq H1 L/\∀H2,FrzOf L H1 H2->Q v H2
theorem b06(q:lift K E (a3u K) (sZ fa) σ H Q):lift K E (a3u K) fa σ H (b1r Q):=by
 obtain⟨ι,τ,h,S,Rh,o⟩:=q;refine⟨ι,τ,h,S,Rh,?_⟩;unfold sZ at o;rw[<-Rh.len]at o
 cases hf:fa τ h with
 |ok d h1 =>
  rw[hf]at o
  intro ι' H' v g r hr
  cases hz:acv ι.length (.ok d h1) with
  |ok d' g' =>
   rw[hz]at o;obtain⟨L,ab,k⟩:=aif g r hr hz;refine⟨L,ab,λH2 f=>?_⟩;obtain⟨k1,k2,k3⟩:=k H2 f;exact o ι H2 v k1 k2 k3
  |ex c hx=>unfold acv at hz;simp only at hz;split at hz<;>cases hz
  |no=>rw[hz]at o;exact o.elim
 |ex c h1=>rw[hf]at o;exact o.elim
 |no=>rw[hf]at o;exact o.elim
theorem a9f(ha:ME X E e fa):ME X E e (sZ fa):=PE.weak (a9e ha) λσ H Q q=>b06 q
def refOf:D->Option Nat
 |.ref i=>some i
 |_=>none
def a1m(ds:List D):List Nat:=ds.filterMap refOf
def a0s:Nat->List D->List D
 |_,[]=>[]
 |k,d::ds=>match d with
  |.ref _=>.ref k::a0s (k+1) ds
  |d=>d::a0s k ds
def xq:Hd->List Nat->List O->Hd
 |h,i::is,o::os=>xq (h.set i o) is os
 |h,_,_=>h
def isRef(d:D):Prop:=∃i,d=.ref i
open Classical in
noncomputable def anx(m:Bool)(F:SF)(ds:List D)(h:Hd):R D:=match a0r (λi=>h[i]?) (a1m ds) with
 |none=>.no
 | some os=>if (a1m ds).Nodup/\(∀d∈ds,clo 0 d\/isRef d)/\(∀o∈os,vg 0 o) then
   (match (if m then anw os.length (F (a0s 0 ds) os) else acv os.length (F (a0s 0 ds) os)) with
   | .ok d h1=>if ∀o∈h1,vg 0 o then
     (if m then .ok (.ref h.length) (xq h (a1m ds) h1++h1.drop os.length)
      else if clo 0 d then .ok d (xq h (a1m ds) h1) else .no) else .no
   |_=>.no)
  else .no
noncomputable def gq(m:Bool)(n:Nat)(F:SF):SF:=λds h=>if ds.length=n then anx m F ds h else .no
section
variable{K:Fg}{ι ι':List Addr}{H H' H2:Hp}{h h1:Hd}{n:Nat}
theorem anz(κ:List Addr):Gw [] H κ H:=⟨⟨κ,rfl⟩,λ_ _ h=>h,λ_ _ _ h=>h⟩
theorem Rep.any(r:Rep K ι H v d)(c:MI.clo 0 d)(κ:List Addr):Rep K κ H v d:=by
 have:=r.cut c
 rw[List.take_zero]at this;exact this.monoW (anz κ)
theorem ORep.any(r:ORep K ι H a o)(c:vg 0 o)(κ:List Addr):ORep K κ H a o:=by
 have:=r.cut c
 rw[List.take_zero]at this;exact this.monoW (anz κ) rfl
theorem abv{α:Type}(l:List α):∀{is:List Nat},(∀i∈is,i<l.length)->∃ys,a0r (λi=>l[i]?) is=some ys
 |[],_=>⟨[],rfl⟩
 |i::is,hi=>by
  obtain⟨ys,e⟩:=abv l (is:=is) λj hj=>hi j (bq _ hj);have:=hi i bA;exact⟨l[i]::ys,by unfold a0r;rw[e,af this]⟩
theorem a74:∀{ds:List D} {vs:List V} {pre κ:List Addr},Reps K ι H vs ds->(∀d∈ds,clo 0 d\/isRef d)->a0r (λi=>ι[i]?) (a1m ds)=some κ->Reps K (pre++κ) H vs (a0s pre.length ds)
 |[],_,_,_,.nil,_,_=>.nil
 |d::ds,_,pre,κ,.cons r rs,hc,e=>by
  have hc':∀d∈ds,clo 0 d\/isRef d:=λx hx=>hc x (bq _ hx)
  by_cases hd:isRef d
  ·obtain⟨i,rfl⟩:=hd;have e':a0r (λi=>ι[i]?) (i::a1m ds)=some κ:=e;unfold a0r at e'
   split at e'
   ·rename_i a κ' h1 h2
    cases e'
    cases r with
    |ref ha =>
     rw[ha]at h1;cases h1
     have:=a74 (pre:=pre++[a]) rs hc' h2
     simp only[cB,fg,ai,aI]at this;refine .cons (.ref ?_) this;rw[aO (aJ _)];simp
   ·cases e'
  ·have c:=(hc d bA).resolve_right hd;have e1:a1m (d::ds)=a1m ds:=by
    unfold a1m
    cases d<;>first|rfl|exact absurd ⟨_,rfl⟩ hd
   have e2:a0s pre.length (d::ds)=d::a0s pre.length ds:=by
    cases d<;>first|rfl|exact absurd ⟨_,rfl⟩ hd
   rw[e1]at e;rw[e2];exact .cons (r.any c _) (a74 rs hc' e)
theorem a2u:∀{is:List Nat} {os:List O} {h:Hd},(xq h is os).length=h.length
 |[],_,_=>by simp[xq]
 |_::_,[],_=>by simp[xq]
 |i::is,o::os,h=>by rw[xq,a2u,cI]
theorem a75:∀{is:List Nat} {os:List O} {h:Hd},i∉is->(xq h is os)[i]? = h[i]?
 |[],_,_,_=>by simp[xq]
 |_::_,[],_,_=>by simp[xq]
 |j::is,o::os,h,n=>by
  rw[xq,a75 λz=>n (bq _ z),bK λz=>n (by rw[z];exact bA)]
theorem abw:∀{is:List Nat} {os:List O} {h:Hd} {j:Nat},is.Nodup->is[j]? = some i->os[j]? = some o->i<h.length->(xq h is os)[i]? = some o
 |[],_,_,_,_,e,_,_=>by simp at e
 |_::_,[],_,_,_,_,e,_=>by simp at e
 |k::is,o'::os,h,j,nd,e1,e2,hl=>by
  cases j with
  |zero =>
   simp at e1 e2
   subst e1 e2;rw[xq,a75 (dX.mp nd).1,bC hl]
  |succ j =>
   rw[xq];exact abw (j:=j) (dX.mp nd).2 (by simpa using e1) (by simpa using e2) (by simpa using hl)
theorem abx{α:Type}{l:List α}(nl:l.Nodup){is:List Nat}{ys:List α}(e:a0r (λi=>l[i]?) is=some ys)(ni:is.Nodup):ys.Nodup:=by
 obtain⟨le,g⟩:=a4n e;refine bP.mpr λi j hi hj lt z=>?_;obtain⟨x,h1,h2⟩:=g i _ (af hi);obtain⟨y,h3,h4⟩:=g j _ (af hj);rw[<-z]at h4;have:=a8i nl h2 h4;subst this;have:=a8i ni h1 h3;omega
theorem aes{is:List Nat}{κ m:List Addr}{g:Hd}(hr:HRep K ι H h)(e1:a0r (λi=>ι[i]?) is=some κ)(nd:is.Nodup)(gr:Gr κ H (κ++m) H2)(hg:HRep K (κ++m) H2 g)(cg:∀o∈g,vg 0 o)(hm:m.length<=1) :
  Gr ι H (ι++m) H2/\HRep K (ι++m) H2 (xq h is g++g.drop κ.length):=by
 obtain⟨l1,g1⟩:=a4n e1;have mn:∀a∈m,H a=none:=by
  obtain⟨m',e,hm'⟩:=gr.pre;rw[List.append_cancel_left e];exact hm'
 have sub:∀a∈κ,a∈ι:=λa ha=>by
  obtain⟨j,hj⟩:=bX ha;obtain⟨i,_,q⟩:=g1 j a hj;exact aQ q
 have some_of:∀a∈ι,∃u,H a=some u:=λa ha=>by
  obtain⟨i,hi⟩:=bX ha;obtain⟨o,_,q⟩:=hr.at hi;obtain⟨u,q,_⟩:=q.some;exact⟨u,q⟩
 have G:Gr ι H (ι++m) H2:=⟨⟨m,rfl,mn⟩,gr.tup,gr.frz,λa u e n=>gr.oth a u e λz=>n (sub a z),gr.kp⟩;have lg:=hg.len;rw[ai]at lg;refine⟨G,?_,?_,λj a o q1 q2=>?_⟩
 ·refine cC.mpr ⟨hr.nd,(cC.mp hg.nd).2.1,λa ha b hb z=>?_⟩;obtain⟨u,q⟩:=some_of a ha;rw[z,mn b hb]at q;cases q
 ·rw[ai,ai,a2u,bQ,hr.len];omega
 ·by_cases hj:j<ι.length
  ·rw[aM hj]at q1;rw[aM (by rw[a2u,<-hr.len];exact hj)]at q2
   by_cases hp:j∈is
   ·obtain⟨k,hk⟩:=bX hp;have hkl:k<κ.length:=by rw[<-l1];exact(ag.mp hk).1
    obtain⟨i,h3,h4⟩:=g1 k _ (af hkl);rw[hk]at h3;cases h3
    rw[q1]at h4;have hkg:k<g.length:=by omega
    have e5:=abw (h:=h) nd hk (af hkg) (by rw[<-hr.len];exact hj)
    rw[e5]at q2;cases q2
    have ea:(κ++m)[k]? = some a:=by rw[aM hkl,af hkl];exact h4.symm
    exact(hg.obj k a _ ea (af hkg)).any (cg _ (bG hkg)) _
   ·rw[a75 hp]at q2;have r:=hr.obj j a o q1 q2;obtain⟨u,hu,_⟩:=r.some;have na:a∉κ:=λz=>by
     obtain⟨k,hk⟩:=bX z;obtain⟨i,h3,h4⟩:=g1 k a hk;have:=a8i hr.nd q1 h4;subst this;exact hp (aQ h3)
    exact r.mono G (by rw[hu];exact gr.oth a u hu na)
  ·have q1':=q1;rw[aO (by omega)]at q1
   rw[aO (by rw[a2u,<-hr.len];omega),a2u,<-hr.len,List.getElem?_drop]at q2
   have ea:(κ++m)[κ.length+(j-ι.length)]? = some a:=by rw[aO (by omega)];simpa using q1
   exact(hg.obj _ a o ea q2).any (cg o (aQ q2)) _
theorem aac{m:Bool}{F:SF}{vs:List V}{ds:List D}{Q:VK}(r:Reps K ι H vs ds)(hr:HRep K ι H h)(o:out K X0 (a3u K) ι H (gq m n F ds h) Q)(E:XK) :
  a00 K n F vs H (λv H1=>∃L,aeq H1 L/\∀H2,FrzOf L H1 H2->Q v H2) E:=by
 unfold gq at o
 split at o
 ·rename_i hl;refine⟨by rw[r.len];exact hl,?_⟩
  unfold anx at o
  split at o
  ·exact o.elim
  ·rename_i os hos
   split at o
   ·rename_i hc;obtain⟨nd,hd,hcl⟩:=hc;obtain⟨l0,g0⟩:=a4n hos;obtain⟨κ,e1⟩:=abv ι (is:=a1m ds) λi hi=>by
     obtain⟨j,hj⟩:=bX hi;have hjl:j<os.length:=by rw[<-l0];exact(ag.mp hj).1
     obtain⟨x,h3,h4⟩:=g0 j _ (af hjl);rw[hj]at h3;cases h3
     rw[hr.len];exact(ag.mp h4).1
    obtain⟨l1,g1⟩:=a4n e1;have lk:κ.length=os.length:=by omega
    have R0:Reps K κ H vs (a0s 0 ds):=by simpa using a74 (pre:=[]) r hd e1
    have H0:HRep K κ H os:=by
     refine⟨abx hr.nd e1 nd,lk,λj a ob q1 q2=>?_⟩;obtain⟨i,h3,h4⟩:=g1 j a q1;obtain⟨i',h5,h6⟩:=g0 j ob q2;rw[h3]at h5;cases h5
     exact(hr.obj i a ob h4 h6).any (hcl ob (aQ q2)) _
    refine⟨κ,a0s 0 ds,os,R0,H0,?_⟩
    cases hF:F (a0s 0 ds) os with
    |no=>rw[hF]at o;cases m<;>exact o.elim
    |ex c hx=>rw[hF]at o;cases m<;>exact o.elim
    |ok d h1 =>
     rw[hF]at o
     intro ι' H' v g rb hr1
     rw[<-lk]at o
     cases m with
     |false =>
      simp only[dA,fB]at o
      cases hz:acv κ.length (.ok d h1) with
      |ok d' g' =>
       rw[hz]at o;simp only at o;obtain⟨L,ab,k⟩:=aif g rb hr1 hz;refine⟨L,ab,λH2 f=>?_⟩;obtain⟨k1,k2,k3⟩:=k H2 f
       split at o
       ·rename_i cg
        split at o
        ·rename_i cd;have q:=aes (m:=[]) hr e1 nd (by simpa using k1) (by simpa using k3) cg (by simp)
         have lg:=k3.len;have dr:g'.drop κ.length=[]:=bS (by omega)
         rw[dr,bT,bT]at q;exact o ι H2 v q.1 (k2.any cd _) q.2
        ·exact o.elim
       ·exact o.elim
      |ex c hx=>rw[hz]at o;exact o.elim
      |no=>rw[hz]at o;exact o.elim
     |true =>
      simp only[dk]at o
      cases hz:anw κ.length (.ok d h1) with
      |ok d' g' =>
       rw[hz]at o;simp only at o;obtain⟨b,hb,k1,k2,k3⟩:=alp g rb hr1 hz;refine⟨[],λa ha=>(by simp at ha),λH2 f=>?_⟩
       have e2:H2=H':=by funext a;exact(f a).1 (by simp)
       subst e2
       split at o
       ·rename_i cg;have q:=aes (m:=[b]) hr e1 nd k1 k3 cg (by simp)
        refine o (ι++[b]) H2 v q.1 ?_ q.2;have hd':d'=.ref κ.length:=by
         unfold anw at hz
         split at hz
         ·rename_i i h2 hh
          injection hh with z1 z2
          split at hz
          ·split at hz
           ·injection hz with z3 z4;exact z3.symm
           ·cases hz
          ·cases hz
         ·cases hz
        subst hd'
        cases k2 with
        |ref hk =>
         rw[aO (aJ _)]at hk;simp at hk;subst hk;exact .ref (by rw[<-hr.len];simp)
       ·exact o.elim
      |ex c hx=>rw[hz]at o;exact o.elim
      |no=>rw[hz]at o;exact o.elim
   ·exact o.elim
 ·exact o.elim
end
theorem a0t(m:Bool){X:Cx}(G:Dn X.prog X.w X.K X.mg X.base k x ps (a00 X.K n F) f fd)(hr:Room k X.A)(hg:Gl X x)(ha:MA X X0 (e::es) ka)
  (hdb:(x == ("__debug__" : Str))=false:=by decide) (he:starEach (e::es) X.env=(false,eval e X.env)::starEach es X.env:=by rfl) (hpl:(backTo pos (starEach es X.env)).any (·.1)=false:=by rfl):ME X X0 (.Call (.Name x p) (e::es) [] pos) (sA (gq m n F) ka):=by
 refine PE.weak (a9e (ah3 G.ok hr hg G.m G.kp G.b .nil ad5 ha hdb he hpl)) ?_
 rintro σ H Q ⟨ι,τ,h,S,Rh,o⟩
 refine⟨ι,τ,h,S,Rh,ig o λds h1 ι1 H1 vs g1 r1 hr1 o1=>?_⟩;rw[bT];exact aac r1 hr1 o1 _
theorem aig(m:Bool){X:Cx}(G:Dn X.prog X.w X.K X.mg X.base k x ps (a00 X.K n F) f fd)(hr:Room k X.A)(hg:Gl X x)(hdb:(x == ("__debug__" : Str))=false:=by decide) :
  ME X X0 (.Call (.Name x p) [] [] pos) (sA (gq m n F) bw):=by
 refine PE.weak (a9e (akx G.ok hr hg G.m G.kp G.b .nil ad5 hdb)) ?_
 rintro σ H Q ⟨ι,τ,h,S,Rh,o⟩
 exact aac (vs:=[]) .nil Rh o E0
def ab3:SS:=λ_ _=>.no
section
variable{X:Cx}{E:XD}
theorem a2v:MSs X E st ab3:=λ_ _ _ _ _ _ ⟨_,_,_,_,_,o⟩=>o.elim
end
theorem aut(h:PS X st t):PS X st (λD σ H=>t {D with nx:=λσ' H1=>∃L,aeq H1 L/\∀H2,FrzOf L H1 H2->D.nx σ' H2} σ H):=λaA s σ H D I q =>
 thn (h aA s σ H _ I q) λf s' k=>by
  cases f with
  |next =>
   obtain⟨σ',H1,I1,L,ab,k⟩:=k;obtain⟨H2,f,I2⟩:=Inv.frz I1 ab;exact⟨σ',H2,I2,k H2 f⟩
  |brk=>exact k
  |cont=>exact k
  |ret u=>exact k
theorem ao0(q:aa0 K E (kj i f) N σ H):lift K E (a3u K) f σ H (λv H1=>N.nx (σ.set i (some v)) H1):=by
 obtain⟨ι,τ,h,S,Rh,o⟩:=q;exact⟨ι,τ,h,S,Rh,ul o λd h1 ι1 H1 v g1 r1 hr1 o1=>o1 ι1 H1 _ (.refl _ _) ((S.mono g1).set r1 i) hr1⟩
theorem aih(ht:arz K n g t)(q:lift K E (a3u K) (p6 fi t fe ix) σ H Q):ahj (lift K E (b00 K) fi) (a3x n ix) g (lift K E (a3u K) fe) σ H Q:=by
 obtain⟨ι,τ,h,Sr,Rh,o⟩:=q;refine⟨ι,τ,h,Sr,Rh,ig o λit h1 ι1 H1 J g1 r1 hr1 o1=>?_⟩
 by_cases hl:it.xs.length<=LINE
 ·rw[aR hl]at o1;exact aef r1 ht (aee (Sr.mono g1) ix) hr1 hl o1
 ·rw[bE hl]at o1;exact o1.elim
section
variable{X:Cx}{E:XD}{aD tg aE cnd:Expr}{aB:Scope}{pos spos pos':Pos}{cl:List (Str×Addr)}{ts fr:List Str}{ix:List Nat}{fi:SI}{g:TG}{t:D->Option Sd}{fe:SE}{fc:ST}{i:Nat}{x:Str}
theorem aqb(hN:X.N.Nodup)(hi':X.N[i]? = some x)(hx:Loc X.env.scope x)(hc:X.calm=true)(S:CSc X aB cl ts fr ix)(hi:MI X E tg aE fi)(hg:∀C fp s H,PG (cxC X (ts++fr) aB cl C fp s H) tg g)(ht:arz X.K ts.length g t)(he:∀C fp s H,ME (cxC X (ts++fr) aB cl C fp s H) E aD fe)
  (hs:∀x,foldedSetIterable aE X.env x=pure x:=by intro _;rfl) (hsw:swapsWith (.ListComp aD [⟨tg,aE,[],0⟩] aB pos) (some (.Name x pos')) spos.line X.env=pure true:=by rfl) (hf:Hf X x:=by first|exact .inl rfl|exact .inr rfl|assumption) :
  MS X E (.Assign [.Name x pos'] (.ListComp aD [⟨tg,aE,[],0⟩] aB pos) spos) (kj i (p6 fi t fe ix)) :=
 PS.weak (ae7 (te:=lift X.K E (a3u X.K) fe) hN hi' hx hc S hi hg he hs hsw hf) λN σ H q=>aih ht (ao0 q)
theorem a69(hN:X.N.Nodup)(hi':X.N[i]? = some x)(hx:Loc X.env.scope x)(hc:X.calm=true)(S:CSc X aB cl ts fr ix)(hi:MI X E tg aE fi)(hg:∀C fp s H,PG (cxC X (ts++fr) aB cl C fp s H) tg g)(ht:arz X.K ts.length g t)(he:∀C fp s H,ME (cxC X (ts++fr) aB cl C fp s H) E aD fe)
  (hs:∀x,foldedSetIterable aE X.env x=pure x:=by intro _;rfl) (hsw:swapsWith (.ListComp aD [⟨tg,aE,[],0⟩] aB pos) (some (.Name x pos')) spos.line X.env=pure true:=by rfl) (hf:Hf X x:=by first|exact .inl rfl|exact .inr rfl|assumption) :
  MS X E (.Assign [.Name x pos'] (.ListComp aD [⟨tg,aE,[],0⟩] aB pos) spos) (kj i (sZ (p6 fi t fe ix))) :=
 PS.weak (aut (ae7 (te:=lift X.K E (a3u X.K) fe) hN hi' hx hc S hi hg he hs hsw hf)) λN σ H q=>aih ht (b06 (ao0 q))
end
theorem xr(Fu:Fun K x qual st f fd)(S:FnScope N ps (bc st))
  (hb:∀(cdv:Value) (A:Around) (outer:List Env) (s:Shared) (H:Hp) (E:XK),Room k (A.deeper (PyProof.Rows.envOfC qual (bc st) s.heap.objs.size f cdv))->MSs (a5r CX0 P w K mg base N qual (bc st) f cdv A outer s H E).nox X0 (km st) b) :
  FnOk P w K mg base CX0 (k+1) f fd ps (a00 K ps.length (nq b N.length)):=aub Fu S hb λds h _ _ _=>Rf.same rfl
end MI
namespace MI
open L2 HT
theorem ag0{s:Shared}(ht:PyProof.Rows.IsTup s.heap t aC)(hs:s.heap.IsSliceOf sl vl vu .none)(pl:IsPart vl lo)(pu:IsPart vu hi)
  (hw:HT.sIx aC.size 0 lo=0/\HT.sIx aC.size aC.size hi=aC.size) (h:Q (.ref t) s):wpAny (model prog w) A (getItem (.ref t) (.ref sl)) Q E s:=by
 obtain⟨os,f1,f2,f3⟩:=id hs;have ty:s.TypeIs (.ref sl) "slice":=⟨os,f1,f2⟩;have tt:s.TypeIs (.ref t) "tuple":=ht.typeIs;rw[getItem]
 try apply fA
 first|(apply aH;apply br)|skip
 apply aH;apply wpAny_sequenceKey tt (by decide)
 apply aH
 apply cH (name:=Str.ofString "__getitem__") tt cf
 apply dR cf tt PyProof.Rows.entry_tuple_getitem _ (PyProof.Rows.args_tuple_getitem _ _)
 change wpAny (model prog w) A.in1 (Builtin.Tuple.tupleItemsOf (.ref t)>>=_) _ _ s
 apply aH;apply PyProof.Rows.tupleItemsOf_ ht
 apply aH;apply wpAny_typeOf ty
 rw[aR (by decide)]
 apply aH;apply HT.a3l hs pl pu
 rw[hw.1,hw.2];dsimp only;rw[aR (by simp)]
 apply aH
 rw[Builtin.Tuple.tupleIsExact]
 apply aH;apply wpAny_typeOf tt
 apply br
 rw[aR (by decide)]
 apply aH;apply wpAny_rule
 apply br
 exact⟨_,rfl,br h⟩
def b07(K:Fg):V->Option Int->Option Int->Hp->VK->Prop:=λx lo hi H Q=>∃a xs,x=.ref a/\SqT K H a xs/\whole xs.length lo hi/\Q (.ref a) H
theorem alq:SlR X (b07 X.K):=by
 intro aA s σ H x v vl vu lo hi sl Q I rx hs pl pu h
 obtain⟨a,xs,rfl,hx,hw,q⟩:=h;cases rx
 obtain⟨its,r,ht,hz⟩:=I.tuple hx;have aG:its.toArray.size=xs.length:=by rw[aK];exact r.length.symm
 exact⟨"tuple",_,cf.lookup,ht.typeIs,ag0 ht hs pl pu (by rw[aG];exact hw) ⟨.ref a,H,I,rfl,q⟩⟩
def adg(d:D)(lo hi:Option Int)(h:Hd):R D:=match d with
 |.tup xs=>if whole xs.length lo hi then .ok (.tup xs) h else .ok (.tup (a8y xs lo hi)) h
 |d=>gSl d lo hi h
def a4y(f:SE)(l u:SO):SE:=λτ h=>(f τ h).bind λd h1=>(l τ h1).bind λlo h2=>(u τ h2).bind λhi h3=>adg d lo hi h3
theorem aqc(rx:Rep K ι H x d)(hr:HRep K ι H h)(o:out K E (a3u K) ι H (adg d lo hi h) Q):(ayv x lo hi H Q\/ayn K x lo hi H Q\/ayp K x lo hi H Q)\/b07 K x lo hi H Q:=by
 cases rx with
 |@tup p vs xs hp r =>
  by_cases hc:whole xs.length lo hi
  ·simp only[adg,aR hc]at o;exact .inr ⟨p,vs,rfl,SqT.of hp,by rw[r.len];exact hc,ans o (.tup hp r) hr⟩
  ·simp only[adg,bE hc]at o;exact .inl (.inr (.inl ⟨p,vs,rfl,SqT.of hp,by rw[r.len];exact hc,a4a (a65 r lo hi) hr o⟩))
 |non=>exact o.elim
 |bl _=>exact o.elim
 |int _=>exact o.elim
 |ty _=>exact o.elim
 |str z=>exact .inl (ael (.str z) hr o)
 |rol a b=>exact .inl (ael (.rol a b) hr o)
 |scr a b=>exact .inl (ael (.scr a b) hr o)
 |rod a b c=>exact o.elim
 |rdT a b c=>exact o.elim
 |exc a b c=>exact o.elim
 |ins _ _ _ _=>exact o.elim
 |ref a=>exact .inl (ael (.ref a) hr o)
theorem uo(he:ME X E e fa)(hl:MO X E lo l)(hu:MO X E hi u):ME X E (.Subscript e (.Slice lo hi none p2) pos) (a4y fa l u):=by
 refine PE.weak (al3 ((au0.or (atl.or ap8)).or alq) he hl hu) ?_
 rintro σ H Q ⟨ι,τ,h,S,Rh,o⟩
 refine⟨ι,τ,h,S,Rh,ig o λd h1 ι1 H1 v g1 r1 hr1 o1=>?_⟩;refine⟨ι1,τ,h1,S.mono g1,hr1,ig o1 λlo h2 ι2 H2 lv g2 r2 hr2 o2=>?_⟩;refine⟨ι2,τ,h2,(S.mono g1).mono g2,hr2,ig o2 λhi h3 ι3 H3 hv g3 r3 hr3 o3=>?_⟩
 cases r2;cases r3
 exact aqc ((r1.mono g2).mono g3) hr3 o3
end MI
namespace TPM
open PySem.W L2 HT MI
theorem a3q:fillsNumberSlot (.type "tuple") "mul" = pure false :=
 fillsNumberSlot_seq (id := "tuple.__mul__") (r:=some (.builtin "tuple.__rmul__")) ft.lookup (by decide +kernel) F.slot_tuple_rmul.lookup (by decide +kernel)
theorem aii(t:Addr)(aC:Array Value)(n:Nat)(dd:Option Addr)(sl:Array (Option Value))(x:Int)(u:Tok)(h0:aC.isEmpty=false)(h2:2<=x)(h3:x<2^63)(hz:aC.size*x.toNat<=sizeLine) :
  Meets (Builtin.«tuple.__mul__» ⟨[.ref t,.int x u],[]⟩) (λ_ R s=>s.heap.get? t=some {cls:=.type "tuple",dict:=dd,data:=.seq aC n,slots:=sl}/\R (.ok (.ret (.ref s.heap.objs.size))) {s with heap:=s.heap.push {cls:=.type "tuple",data:=.seq (List.foldl (λx1 x2=>x1++x2) #[] (List.replicate x.toNat aC))} }) :=
 .of_wp λprog w A R s h=>by
  obtain⟨hp,g,d,tk,os⟩:=s;obtain⟨hl,h⟩:=h;have c1:¬ (decide (x < -2^63) || decide (x≥2^63))=true:=by
   rw[eO,e9,e9];omega
  have c2:¬ (aC.isEmpty || x == 1)=true:=by
   rw[h0,Bool.false_or];simp;omega
  have c3:¬ (decide (x<=0) || aC.isEmpty)=true:=by
   rw[h0,Bool.or_false,e9];omega
  have ex:((aC.size:Nat):Int)*x=((aC.size*x.toNat:Nat):Int):=by
   rw[Int.natCast_mul,Int.toNat_of_nonneg (by omega)]
  have sl':(sizeLine:Nat)<=(2^63-1) / 8:=by decide
  have c4:¬ (aC.size:Int)*x > (2^63-1) / 8:=by rw[ex];omega
  have c5:¬ Builtin.Tuple.tupleTooMany ((aC.size:Int)*x)=true:=by
   rw[ex];simp only[Builtin.Tuple.tupleTooMany,e9];omega
  wp_walk
  rw[bE c1]
  wp_walk
  rw[bE c2]
  wp_walk
  rw[bE c3]
  wp_walk
  rw[bE c4]
  wp_walk
  rw[bE c5]
  wp_walk
  have fs:¬ (List.foldl (λx1 x2=>x1++x2) #[] (List.replicate x.toNat aC)).size > sizeLine:=by
   have:=foldl_rep aC.toList x.toNat []
   rw[cN,Array.toArray_toList]at this;rw[show(#[]:Array Value)=([]:List Value).toArray from rfl,this,aK,len_rep,dN,fS]
   omega
  rw[bE fs]
  wp_walk
  exact⟨_,rfl,h⟩
theorem a7i(a:Int)(t:Tok)(l:Addr)(aC:Array Value)(n:Nat)(dd:Option Addr)(sl:Array (Option Value)) :
  Meets (Builtin.«int.__rmul__» ⟨[.int a t,.ref l],[]⟩) (λ_ R s=>s.heap.get? l=some {cls:=.type "tuple",dict:=dd,data:=.seq aC n,slots:=sl}/\R (.ok (.ret Value.notImplemented)) s):=by
 refine .of_wp λprog w A R s h=>?_;obtain⟨hp,g,d,tk,os⟩:=s;obtain⟨hl,h⟩:=h
 wp_walk
 exact⟨_,rfl,h⟩
theorem aby:seqRepeat? (.type "tuple")=pure (some (.builtin "tuple.__mul__")):=by
 unfold seqRepeat?;rw[seqSlot_of (T := "tuple") (name := "__mul__") (id := "tuple.__mul__") ft.lookup (by decide +kernel),seqSlot_of (T := "tuple") (name := "__rmul__") (id := "tuple.__rmul__") F.slot_tuple_rmul.lookup (by decide +kernel)]
 rfl
def alr(K:Fg):R2:=λx y H Q=>∃a k xs,x=.ref a/\y=.int k/\SqT K H a xs/\xs≠[]/\2<=k/\k<2^63/\xs.length*k.toNat<=sizeLine/\∀p,H p=none->Q (.ref p) (upd H p (.tup (List.replicate k.toNat xs).flatten))
theorem aqd:OpR X (binaryOp .Mult) (alr X.K):=by
 intro aA s σ H x y v u Q I rx ry h
 obtain⟨a,k,xs,rfl,rfl,ha,hx,h1,h2,hz,q⟩:=h;cases rx
 obtain⟨t,rfl⟩:=ry;obtain⟨its,r1,p1,_⟩:=I.tuple ha;obtain⟨⟨cls,dd,data,sl⟩,ho,hc,n,hd⟩:=id p1;simp only at hc hd;subst hc hd;have he:its.toArray.isEmpty=false:=by
  cases its with
  |nil=>exact(hx (r1.nil_iff.mp rfl)).elim
  |cons _ _=>rfl
 have hz2:its.toArray.size*k.toNat<=sizeLine:=by rw[aK,<-r1.length];exact hz
 have hnew:List.foldl (λx1 x2=>x1++x2) #[] (List.replicate k.toNat its.toArray)=(List.replicate k.toNat its).flatten.toArray:=by
  have:=foldl_rep its k.toNat []
  rw[cN]at this;exact this
 refine dD (T := "tuple") (U := "int") (by decide) ⟨_,ho,rfl⟩ (λs'=>eI s' k t) a3q fJ cZ aby fk.lookup
  (cP cZ (eI s k t) fq (eX _ _) (a7i k t a its.toArray n dd sl)
   ⟨ho,rfl,⟨_,ho,rfl⟩,cP ft ⟨_,ho,rfl⟩ F.entry_tuple_mul (F.args_tuple_mul_2 _ _) (aii a its.toArray n dd sl k t he h1 h2 hz2) ⟨ho,?_⟩⟩)
 rw[hnew];refine⟨.ref s.heap.objs.size,_,I.laid (t':=s.toks) (o:=.tup (List.replicate k.toNat xs).flatten) (λb ob q=>ar _ q) (aJ _) ?_,rfl,q _ (I.hok.fresh (aJ _))⟩;exact⟨by rw[len_rep,fS];exact hz,_,r1.rep k.toNat,PyProof.Rows.IsTup.new _ _⟩
end TPM
namespace MI
open L2 TPM
open Classical in
noncomputable def als(x y:D)(h:Hd):R D:=match x,y with
 |.tup xs,.int k=>if (xs≠[]/\2<=k/\k<2^63)/\xs.length*k.toNat<=LINE then .ok (.tup (List.replicate k.toNat xs).flatten) h else .no
 |x,y=>aud x y h
theorem aad:a3y K als (λx y H Q=>(rI CMul (λi j=>.int (i*j)) x y H Q\/atq x y H Q)\/alr K x y H Q):=by
 intro E ι H h x y dx dy Q rx ry hr o
 cases rx with
 |@tup a vs xs ha rs =>
  cases ry with
  |int k =>
   simp only[als]at o
   split at o
   ·rename_i hc;refine .inr ⟨a,k,vs,rfl,rfl,SqT.of ha,λz=>?_,hc.1.2.1,hc.1.2.2,ll (by rw[rs.len];exact hc.2),a4a (rs.flat _) hr o⟩
    subst z;cases rs
    exact hc.1.1 rfl
   ·exact o.elim
  |_=>exact o.elim
 |int i=>exact .inl (ai0 _ _ _ _ _ _ _ _ _ (.int i) ry hr o)
 |ref e=>exact .inl (ai0 _ _ _ _ _ _ _ _ _ (.ref e) ry hr o)
 |_=>exact o.elim
end MI
namespace L2
open PyProof.Rows
theorem alu:azw X (axj X.K):=by
 intro aA s σ H o i ov iv Q I ro ri h
 obtain⟨p,xs,k,z,rfl,rfl,hq,he,q⟩:=h;cases ro
 obtain⟨t,rfl⟩:=ri;obtain⟨its,r,pl,hz⟩:=I.list hq;obtain⟨j,h1,h2,h3,h4,h5⟩:=a9u he;obtain⟨w,ew,rw'⟩:=r.get h2;have len:=r.length;have l63:=a7e;have done:EP X aA σ Q w s:=⟨z,H,I,rw',q⟩
 by_cases neg:k<0
 ·have ej:(k+(its.toArray.size:Int)).toNat=j:=by
   rw[gH neg h4]at h1;rw[aK,<-len];exact bO h1
  exact wpAny_getItem_list_neg pl.isList neg (by rw[aK];omega) (by omega) (by rw[ej];simpa using ew) done
 ·have ej:k.toNat=j:=by
   rw[gP (by omega) h5]at h1
   exact bO h1
  exact wpAny_getItem_list pl.isList (by omega) (by omega) (by rw[ej];simpa using ew) done
end L2
namespace MI
open L2
def akd(x y:D)(h:Hd):R D:=match x,y with
 |.ref p,.int i=>(match h[p]? with|some (.lst xs)=>(match atI xs i with|some d=>.ok d h|none=>.no)|_=>.no)
 |_,_=>.no
theorem aqe:a3y K akd (axj K):=by
 intro E ι H h x y dx dy Q rx ry hr o
 cases rx with
 |@ref p i hp =>
  cases ry with
  |int k =>
   simp only[akd]at o
   split at o
   ·rename_i xs hx;obtain⟨vs,h3,h4⟩:=hr.lst hp hx
    split at o
    ·rename_i d he;obtain⟨v,h1,h2⟩:=aek h4 he;exact⟨p,vs,k,v,rfl,rfl,SqL.of h3,h1,ans o h2 hr⟩
    ·exact o.elim
   ·exact o.elim
  |_=>exact o.elim
 |_=>exact o.elim
def a4w(g:D->D->Hd->R D)(fo fi fe:SE):SS:=λτ h=>(fo τ h).fl λo h1=>(fi τ h1).fl λi h2=>(akd o i h2).fl λx h3=>(fe τ h3).fl λy h4=>(g x y h4).fl λz h5=>match put o i z h5 with|some h6=>.nx τ h6|none=>.no
section
variable{X:Cx}{E:XD}{e o i:Expr}{fa fb fc:SE}{pos:Pos}
theorem adh(ho:ME X E o fa)(hi:ME X E i fb)(he:ME X E e fc)(hp:OpR X (inplaceOp op) r)(hs:a3y X.K gg r)
  (ha:∀ov iv new,augStore i ov iv new=(do holding [new,ov,iv] (setItem ov iv new);release [new,ov,iv] [];pure .next):=by intros;rfl):MS X E (.AugAssign (.Subscript o i tpos) op e pos) (a4w gg fa fb fc):=by
 refine PS.weak (aoq ho hi alu he hp set_list ha) ?_
 rintro N σ H ⟨ι,τ,h,S,Rh,oo⟩
 refine⟨ι,τ,h,S,Rh,ul oo λd h1 ι1 H1 v g1 r1 hr1 o1=>?_⟩;refine⟨ι1,τ,h1,S.mono g1,hr1,ul o1 λd2 h2 ι2 H2 u g2 r2 hr2 o2=>?_⟩;refine aqe E ι2 H2 h2 v u d d2 _ (r1.mono g2) r2 hr2 (ul o2 λd3 h3 ι3 H3 w g3 r3 hr3 o3=>?_);have S3:=((S.mono g1).mono g2).mono g3;refine⟨ι3,τ,h3,S3,hr3,ul o3 λd4 h4 ι4 H4 y g4 r4 hr4 o4=>?_⟩;refine hs E ι4 H4 h4 w y d3 d4 _ (r3.mono g4) r4 hr4 (ul o4 λd5 h5 ι5 H5 z g5 r5 hr5 o5=>?_)
 cases hq:put d d2 d5 h5 with
 |none=>rw[hq]at o5;exact o5.elim
 |some h6 =>
  rw[hq]at o5;exact ahv ((((r1.mono g2).mono g3).mono g4).mono g5) (((r2.mono g3).mono g4).mono g5) r5 hr5 hq λH' g6 hr6=>o5 ι5 H' σ g6 (((S3.mono g4).mono g5).mono g6) hr6
end
end MI
namespace TPM
open PySem.W L2 HT MI
theorem ag1(t b:Addr)(items2:Array Value)(n n2:Nat)(dd dd2:Option Addr)(sl sl2:Array (Option Value)) :
  Meets (Builtin.«tuple.__add__» ⟨[.ref t,.ref b],[]⟩) (λ_ R s=>s.heap.get? t=some {cls:=.type "tuple",dict:=dd,data:=.seq #[] n,slots:=sl}/\s.heap.get? b=some {cls:=.type "tuple",dict:=dd2,data:=.seq items2 n2,slots:=sl2}/\R (.ok (.ret (.ref b))) s):=by
 refine .of_wp λprog w A R s h=>?_;obtain⟨hp,g,d,tk,os⟩:=s;obtain⟨hl,hb,h⟩:=h
 wp_walk
 refine wpAny_of_eq sub_tuple_self ?_
 wp_walk
 exact⟨_,rfl,h⟩
def auu(K:Fg):R2:=λx y H Q=>∃a b ys,x=.ref a/\y=.ref b/\SqT K H a []/\SqT K H b ys/\Q (.ref b) H
theorem aqf:OpR X (binaryOp .Add) (auu X.K):=by
 intro aA s σ H x y v u Q I rx ry h
 obtain⟨a,b,ys,rfl,rfl,ha,hb,q⟩:=h;cases rx
 cases ry
 obtain⟨its,r1,p1,_⟩:=I.tuple ha;obtain⟨its2,r2,p2,_⟩:=I.tuple hb;cases r1
 obtain⟨⟨cls,dd,data,sl⟩,ho,hc,n,hd⟩:=id p1;obtain⟨⟨cls2,dd2,data2,sl2⟩,ho2,hc2,n2,hd2⟩:=id p2;simp only at hc hd hc2 hd2;subst hc hd hc2 hd2;exact concat_meets ⟨_,ho,rfl⟩ ⟨_,ho2,rfl⟩ gz seq_tuple_add F.slot_tuple_add F.entry_tuple_add (F.args_tuple_add_2 _ _) (ag1 a b its2.toArray n n2 dd dd2 sl sl2) ⟨ho,ho2,⟨.ref b,H,I,rfl,q⟩⟩
end TPM
namespace L2
open PyProof.Rows
section
variable{X:Cx}
theorem Inv.lstR(I:Inv X aA σ H s)(hH:Rd H l (.lst xs)):xs.length<=sizeLine/\∃(its:List Value) (n:Nat),Vals xs its/\xs.length=its.length/\s.heap.get? l=some {cls:=.type "list",data:=.seq its.toArray n}:=by
 obtain⟨z,its,n,r,e⟩:=hH.ok I.hok;exact⟨z,its,n,r,r.length,e⟩
def auv:R2:=λx y H Q=>∃l b xs zs,x=.ref l/\y=.ref b/\Rd H l (.lst xs)/\Rd H b (.lst zs)/\xs.length+zs.length<=sizeLine/\∀p,H p=none->Q (.ref p) (upd H p (.lst (xs++zs)))
theorem aqg:OpR X (binaryOp .Add) auv:=λaA s σ H x y v u Q I rx ry ⟨l,b,xs,zs,ex,ey,h1,h2,hz,q⟩=>by
 subst ex ey;cases rx
 cases ry
 obtain⟨_,as,_,va,la,ea⟩:=I.lstR h1;obtain⟨_,bs,_,vb,lb,eb⟩:=I.lstR h2;have app:as.toArray++bs.toArray=(as++bs).toArray:=by simp
 refine PySem.P.add_list ea eb ?_ (by simp;omega)
 rw[app];exact⟨.ref _,_,I.lnew (t':=s.toks) (va.append vb) (by simpa using hz),rfl,q _ I.fresh⟩
def auw:V->List V->Hp->VK->Prop:=λx vs H Q=>∃l b xs zs,x=.ref l/\vs=[.ref b]/\H l=some (.lst xs)/\Rd H b (.lst zs)/\xs.length+zs.length<=sizeLine/\Q .non (upd H l (.lst (xs++zs)))
theorem ag2:MtM X "list.extend" auw:=λaA s σ H x vs v us Q I rx rv ⟨l,b,xs,zs,ex,ev,h1,h2,hz,q⟩=>by
 subst ex ev;cases rx
 obtain⟨u,rfl,ru⟩:=rv.one;cases ru
 obtain⟨_,as,n,va,la,ea⟩:=I.lstM h1;obtain⟨_,bs,m,vb,lb,eb⟩:=I.lstR h2;have few:as.toArray.size+bs.toArray.size<=sizeLine:=by simp;omega
 have long:¬ (!as.toArray.isEmpty && Builtin.List.listTooLong (as.toArray.size+bs.toArray.size))=true:=by rw[a7p few,gL];exact bF
 exact cP F.slot_list_extend ⟨_,ea,rfl⟩ F.entry_list_extend (F.args_list_extend_2 _ _) (AutoSeq1.list_extend_list_list_0 l as.toArray n b bs.toArray m long (by simp;omega) (by omega))
  ⟨ea,eb,.non,_,I.lset (its':=as++bs) h1 ea (by simp) (va.append vb) (by simpa using hz),rfl,q⟩
def auy:R2:=λx y H Q=>∃l k xs,x=.ref l/\y=.int k/\Rd H l (.lst xs) /\ -(2^63)<=k/\k<2^63/\xs.length*k.toNat<=sizeLine/\∀p,H p=none->Q (.ref p) (upd H p (.lst (List.replicate k.toNat xs).flatten))
theorem aqh(its:List Value)(k:Nat):List.foldl (λx1 x2=>x1++x2) #[] (List.replicate (if its.toArray.isEmpty=true then 0 else k) its.toArray)=(List.replicate k its).flatten.toArray:=by
 have g:∀m:Nat,List.foldl (λx1 x2=>x1++x2) #[] (List.replicate m its.toArray)=(List.replicate m its).flatten.toArray:=λm=>by simpa using foldl_rep its m []
 cases its with
 |nil=>simp
 |cons a r=>rw[bE (by simp),g]
theorem aqi:OpR X (binaryOp .Mult) auy:=λaA s σ H x y v u Q I rx ry ⟨l,k,xs,ex,ey,h1,k1,k2,hz,q⟩=>by
 subst ex ey;cases rx
 obtain⟨t,rfl⟩:=ry;obtain⟨_,as,n,va,la,ea⟩:=I.lstR h1;have few:as.toArray.size*k.toNat<=sizeLine:=by rw[aK,<-la];exact hz
 have top:(sizeLine:Nat)<=(2^63-1) / 8:=by decide
 refine dD (T := "list") (U := "int") (by decide) ⟨_,ea,rfl⟩ (λs'=>eI s' k t) noFill_list_mul fJ cZ repeat_list fk.lookup
  (cP cZ (eI s k t) fq (eX _ _) (int___rmul___int_list k t l as.toArray n)
   ⟨ea,rfl,⟨_,ea,rfl⟩,cP F.slot_list_mul ⟨_,ea,rfl⟩ F.entry_list_mul (F.args_list_mul_2 _ _)
    (eL l as.toArray n k t (by rw[fitsIndex_both k1 k2];exact bF) (by omega) (by rw[a7p few];exact bF)) ⟨ea,?_⟩⟩)
 rw[aqh];exact⟨.ref _,_,I.lnew (t':=s.toks) (va.rep k.toNat) (by rw[len_rep,fS];exact hz),rfl,q _ I.fresh⟩
end
end L2
namespace MI
open L2 TPM
def a0u(d:D)(h:Hd):Option (List D):=match d with
 |.rol xs=>some xs
 |.ref i=>(match h[i]? with|some (.lst xs)=>some xs|_=>none)
 |_=>none
section
variable{K:Fg}{ι:List Addr}{H:Hp}{h:Hd}
theorem a4o(r:Rep K ι H x d)(hr:HRep K ι H h)(e:a0u d h=some xs):∃a vs,x=.ref a/\Rd H a (.lst vs)/\Reps K ι H vs xs:=by
 cases r with
 |@rol a vs ys hp rs=>cases e;exact⟨a,vs,rfl,.inr hp,rs⟩
 |@ref a i hp =>
  obtain⟨ob,e1,e2⟩:=hr.at hp;simp only[a0u,e1]at e
  cases ob with
  |lst ys=>cases e;obtain⟨vs,h3,h4⟩:=e2;exact⟨a,vs,rfl,.inl h3,h4⟩
  |_=>cases e
 |_=>cases e
def p7:D->D->Hd->R D
 |.int i,.int j,h=>.ok (.int (i+j)) h
 |.str x,.str y,h=>if x.length+y.length<=LINE then .ok (.str (x++y)) h else .no
 |.tup [],.tup ys,h=>.ok (.tup ys) h
 |.tup (x::xs),.tup ys,h=>if (x::xs).length+ys.length<=LINE then .ok (.tup (x::xs++ys)) h else .no
 |x,y,h=>match a0u x h,a0u y h with
  |some xs,some ys=>if xs.length+ys.length<=LINE then .ok (.ref h.length) (h++[.lst (xs++ys)]) else .no
  |_,_=>.no
theorem aae(e1:a0u x h=some xs)(e2:a0u y h=some ys):p7 x y h=if xs.length+ys.length<=LINE then .ok (.ref h.length) (h++[.lst (xs++ys)]) else .no:=by
 cases x<;>first|(cases e1;done)|(cases y<;>first|(cases e2;done)|(simp only[p7,e1,e2]))
theorem aqj(x y:D)(h:Hd):(∃i j,x=.int i/\y=.int j)\/(∃i j,x=.str i/\y=.str j)\/(∃xs ys,x=.tup xs/\y=.tup ys)\/(∃xs ys,a0u x h=some xs/\a0u y h=some ys)\/p7 x y h=.no:=by
 cases e1:a0u x h with
 |some xs =>
  cases e2:a0u y h with
  |some ys=>exact .inr (.inr (.inr (.inl ⟨xs,ys,rfl,rfl⟩)))
  |none =>
   refine .inr (.inr (.inr (.inr ?_)))
   cases x<;>first|(cases e1;done)|(simp only[p7,e1,e2])
 |none =>
  cases x with
  |int i=>cases y<;>first|exact .inl ⟨_,_,rfl,rfl⟩|exact .inr (.inr (.inr (.inr rfl)))
  |str i=>cases y<;>first|exact .inr (.inl ⟨_,_,rfl,rfl⟩)|exact .inr (.inr (.inr (.inr rfl)))
  |tup i=>cases y<;>first|exact .inr (.inr (.inl ⟨_,_,rfl,rfl⟩))|(cases i<;>exact .inr (.inr (.inr (.inr rfl))))
  |_=>refine .inr (.inr (.inr (.inr ?_)));simp only[p7,e1]
theorem alv:a3y K p7 (λx y H Q=>(rI0 (λi j=>.int (i+j)) x y H Q\/(∃i j,x=.str i/\y=.str j/\i.length+j.length<=sizeLine/\Q (.str (i++j)) H)\/atm K x y H Q\/auv x y H Q)\/auu K x y H Q):=by
 intro E ι H h x y dx dy Q rx ry hr o
 rcases aqj dx dy h with⟨i,j,rfl,rfl⟩|⟨i,j,rfl,rfl⟩|⟨xs,ys,rfl,rfl⟩|⟨xs,ys,e1,e2⟩|e
 ·cases rx;cases ry
  exact .inl (.inl ⟨i,j,rfl,rfl,ans o (.int _) hr⟩)
 ·cases rx;cases ry
  simp only[p7]at o
  split at o
  ·rename_i hc;exact .inl (.inr (.inl ⟨i,j,rfl,rfl,ll hc,ans o (.str _) hr⟩))
  ·exact o.elim
 ·cases rx with
  |@tup a vs _ ha r1 =>
  cases ry with
  |@tup b us _ hb r2 =>
  cases xs with
  |nil=>cases r1;exact .inr ⟨a,b,us,rfl,rfl,SqT.of ha,SqT.of hb,ans o (.tup hb r2) hr⟩
  |cons z xs =>
   simp only[p7]at o
   split at o
   ·rename_i hc;refine .inl (.inr (.inr (.inl ⟨a,b,vs,us,rfl,rfl,SqT.of ha,SqT.of hb,λz=>(by subst z;cases r1),ll (by rw[r1.len,r2.len];exact hc),λz=>?_,λ_=>?_⟩)))
    ·subst z;cases r2
     rw[bT]at o;exact ans o (.tup ha r1) hr
    ·exact a4a (r1.app r2) hr o
   ·exact o.elim
 ·rw[aae e1 e2]at o;obtain⟨a,vs,rfl,h1,h2⟩:=a4o rx hr e1;obtain⟨b,us,rfl,h3,h4⟩:=a4o ry hr e2
  split at o
  ·rename_i hc;exact .inl (.inr (.inr (.inr ⟨a,b,vs,us,rfl,rfl,h1,h3,ll (by rw[h2.len,h4.len];exact hc),a3b (h2.app h4) hr o⟩)))
  ·exact o.elim
 ·rw[e]at o;exact o.elim
theorem qw(ha:ME X E a fa)(hb:ME X E b fb):ME X E (.BinOp a .Add b pos) (s2 p7 fa fb) :=
 ad9 (OpR.or (ata.or (afn.or (ap6.or aqg))) aqf) alv ha hb
open Classical in
noncomputable def a3t(x y:D)(h:Hd):R D:=match y with
 |.int k=>(match x with
  |.int i=>if CMul i k then .ok (.int (i*k)) h else .no
  |_=>match a0u x h with
   |some xs=>if (-(2^63)<=k/\k<2^63)/\xs.length*k.toNat<=LINE then .ok (.ref h.length) (h++[.lst (List.replicate k.toNat xs).flatten]) else .no
   |none=>.no)
 |_=>.no
theorem alw:a3y K a3t (λx y H Q=>rI CMul (λi j=>.int (i*j)) x y H Q\/auy x y H Q):=by
 intro E ι H h x y dx dy Q rx ry hr o
 cases dy with
 |int k =>
  obtain rfl:=ai4 ry
  cases hx:a0u dx h with
  |some xs =>
   obtain⟨a,vs,rfl,h1,h2⟩:=a4o rx hr hx;have o':out K E (a3u K) ι H (if (-(2^63)<=k/\k<2^63)/\xs.length*k.toNat<=LINE then .ok (.ref h.length) (h++[.lst (List.replicate k.toNat xs).flatten]) else .no) Q:=by
    cases dx<;>first|(cases hx;done)|(simp only[a3t,hx]at o;exact o)
   split at o'
   ·rename_i hc;exact .inr ⟨a,k,vs,rfl,rfl,h1,hc.1.1,hc.1.2,ll (by rw[h2.len];exact hc.2),a3b (h2.flat _) hr o'⟩
   ·exact o'.elim
  |none =>
   cases dx with
   |int i =>
    obtain rfl:=ai4 rx
    by_cases hc:CMul i k
    ·simp only[a3t,aR hc]at o;exact .inl ⟨i,k,rfl,rfl,hc,ans o (.int _) hr⟩
    ·simp only[a3t,bE hc]at o;exact o.elim
   |_=>simp only[a3t,hx]at o;exact o.elim
 |_=>exact o.elim
theorem aaf(ha:ME X E a fa)(hb:ME X E b fb):ME X E (.BinOp a .Mult b pos) (s2 a3t fa fb):=ad9 (an6.or aqi) alw ha hb
def aij:D->List D->Hd->R D
 |.ref i,[.tup ys],h=>(match h[i]? with|some (.lst xs)=>if xs.length+ys.length<=LINE then .ok .non (h.set i (.lst (xs++ys))) else .no|_=>.no)
 |.ref i,[y],h=>(match h[i]?,a0u y h with|some (.lst xs),some ys=>if xs.length+ys.length<=LINE then .ok .non (h.set i (.lst (xs++ys))) else .no|_,_=>.no)
 |_,_,_=>.no
theorem alx:anm K aij (λx vs H Q=>auw x vs H Q\/ae9 K x vs H Q):=by
 intro E ι H h x dx xs ds Q rx r hr o
 unfold aij at o
 split at o
 ·rename_i i ys
  cases rx with
  |@ref p _ hp =>
   cases r with
   |cons r1 rs =>
    cases rs
    cases r1 with
    |@tup b us zs hb rb =>
     split at o
     ·rename_i xs hx;obtain⟨vs,h3,h4⟩:=hr.lst hp hx
      split at o
      ·rename_i hc;exact .inr ⟨p,b,vs,us,rfl,rfl,h3,SqT.of hb,ll (by rw[h4.len,rb.len];exact hc),ada (h4.app rb) hr hp .non o⟩
      ·exact o.elim
     ·exact o.elim
 ·rename_i i y _
  cases rx with
  |@ref p _ hp =>
   cases r with
   |cons r1 rs =>
    cases rs
    split at o
    ·rename_i xs ys hx hy;obtain⟨vs,h3,h4⟩:=hr.lst hp hx;obtain⟨b,us,rfl,h5,h6⟩:=a4o r1 hr hy
     split at o
     ·rename_i hc;exact .inl ⟨p,b,vs,us,rfl,rfl,h3,h5,ll (by rw[h4.len,h6.len];exact hc),ada (h4.app h6) hr hp .non o⟩
     ·exact o.elim
    ·exact o.elim
 ·exact o.elim
end
end MI
namespace MI
open L2
def a9g(d:D)(h:Hd):Option (List Int):=match d with
 |.ref i=>(match h[i]? with|some (.lst xs)=>aa5 xs|_=>none)
 |.rol xs=>aa5 xs
 |_=>none
theorem abz(r:Rep K ι H v d)(hr:HRep K ι H h)(e:a9g d h=some ns):∃p,v=.ref p/\SqL K H p (ns.map V.int):=by
 unfold a9g at e
 split at e
 ·cases r with
  |@ref p _ hp =>
   split at e
   ·rename_i xs hx;obtain⟨vs,h3,h4⟩:=hr.lst hp hx;exact⟨p,rfl,SqL.of (by rw[h3,a66 h4 e])⟩
   ·cases e
 ·cases r with
  |@rol p vs xs hp r=>exact⟨p,rfl,by rw[<-a66 r e];exact hp.l⟩
 ·cases e
end MI
namespace L2
open PyProof.Rows
section
variable{X:Cx}
theorem aag:CallR X (.builtin "sorted") (λxs H Q=>∃(p:Addr) (ns:List Int),xs=[.ref p]/\SqL X.K H p (ns.map V.int)/\ns.length<64/\∀l,H l=none->Q (.ref l) (upd H l (.lst ((PySem.W.sortI ns).map V.int)))):=by
 intro aA s σ H xs us Q I r ⟨p,ns,e,hq,h64,q⟩
 subst e;obtain⟨u,rfl,ru⟩:=vals1 r;cases ru
 obtain⟨its,r',pl,hz⟩:=I.list hq;have hI:IntsAre its ns:=intsAre_of r';have hl:its.length=ns.length:=by have:=r'.length;simp at this;omega
 refine sorted_ints pl.isList hI (by omega) λout ns' a1 a2 a3=>?_
 obtain⟨e,he⟩:=sortedAll_at s.heap its out;have e2:ns'=PySem.W.sortI ns:=PySem.W.eq_sortI a2 a3;subst e2;have ln:(PySem.W.sortI ns).length=ns.length:=(PySem.W.sortI_perm ns).length_eq;refine⟨.ref (s.heap.objs.size+1),_,I.laid (t':=s.toks) (λ_ _=>sortedAll_old) (gO _) (show ObjOk X.prog X.w _ _ _ (.lst ((PySem.W.sortI ns).map V.int)) from ⟨by rw[ay,ln];have:=dW;omega,out.toList,e,a89 a1,by simpa[seqObj] using he⟩),rfl,q _ (I.hok.fresh (gO _))⟩
end
end L2
namespace MI
open L2
def a5m:List D->Hd->R D
 |[d],h=>(match a9g d h with|some ns=>if ns.length<64 then .ok (.ref h.length) (h++[.lst ((PySem.W.sortI ns).map D.int)]) else .no|none=>.no)
 |_,_=>.no
theorem a9h:∀ns:List Int,Reps K ι H (ns.map V.int) (ns.map D.int)
 |[]=>.nil
 |n::ns=>.cons (.int n) (a9h ns)
theorem ag3:agk K a5m (λxs H Q=>∃(p:Addr) (ns:List Int),xs=[.ref p]/\SqL K H p (ns.map V.int)/\ns.length<64/\∀l,H l=none->Q (.ref l) (upd H l (.lst ((PySem.W.sortI ns).map V.int)))):=by
 intro E ι H h xs ds Q r hr o
 unfold a5m at o
 split at o
 ·cases r with
  |cons r rs =>
   cases rs
   split at o
   ·rename_i ns e
    split at o
    ·rename_i hl;obtain⟨p,rfl,q⟩:=abz r hr e;exact⟨p,ns,rfl,q,hl,a3b (a9h _) hr o⟩
    ·exact o.elim
   ·exact o.elim
 ·exact o.elim
end MI
namespace L2
open PyProof.Rows
def ixI(n:Int):List Int->Option Nat
 |[]=>none
 |a::l=>if a=n then some 0 else (ixI n l).map (·+1)
theorem aet:∀{l:List Int} {j:Nat},ixI n l=some j->l[j]? = some n/\∀i,i<j->l[i]?≠some n
 |[],_,h=>by cases h
 |a::l,j,h=>by
  unfold ixI at h
  split at h
  ·rename_i e;cases h
   exact⟨by rw[e];rfl,λi hi=>absurd hi (Nat.not_lt_zero i)⟩
  ·rename_i e;obtain⟨k,hk,rfl⟩:=aU.mp h;obtain⟨h1,h2⟩:=aet hk;refine⟨h1,λi hi=>?_⟩
   cases i with
   |zero=>intro z;exact e (bO z)
   |succ i=>exact h2 i (Nat.lt_of_succ_lt_succ hi)
theorem aeu:∀{l:List Int},n∈l->∃j,ixI n l=some j
 |[],h=>by cases h
 |a::l,h=>by
  unfold ixI
  split
  ·exact⟨0,rfl⟩
  ·rename_i e
   rcases aS.mp h with h|h
   ·exact absurd h.symm e
   ·obtain⟨j,hj⟩:=aeu h;exact⟨j+1,by rw[hj];rfl⟩
def eqI(n:Int):Value->Bool
 |.int a _=>a == n
 |_=>false
def aik(K:Fg):V->List V->Hp->VK->Prop:=λx vs H Q=>∃(l:Addr) (ns:List Int) (n:Int) (j:Nat),x=.ref l/\vs=[.int n]/\SqL K H l (ns.map V.int)/\ixI n ns=some j/\Q (.int (j:Nat)) H
theorem ail:MtR X "list.index" (aik X.K):=by
 intro aA s σ H x vs v us Q I rx rv h
 obtain⟨l,ns,n,j,rfl,rfl,hq,hj,q⟩:=h;cases rx
 obtain⟨u,rfl,ru⟩:=rv.one;obtain⟨t,rfl⟩:=ru;obtain⟨its,r,⟨⟨cls,dict,data,slots⟩,m,e1,e2,e3,e4⟩,hz⟩:=I.list hq;have e2:cls=.type "list":=e2;have e3:dict=none:=e3;have e4:data=.seq its.toArray m:=e4;subst e2 e3 e4;have hl:its.length=ns.length:=by have:=r.length;simp at this;omega
 have each:∀i (h:i<its.length),∃a t,its[i]=.int a t/\ns[i]? = some a:=λi h=>by
  obtain⟨y,h1,h2⟩:=r.get (show(ns.map V.int)[i]? = some (V.int (ns[i]'(by omega))) by rw[aP,af (by omega)];rfl)
  obtain⟨t,rfl⟩:=h2;exact⟨_,t,(ag.mp h1).2,af _⟩
 obtain⟨p1,p2⟩:=aet hj;have jl:j<ns.length:=(ag.mp p1).1;rw[ay]at hz;rw[dW]at hz;refine cP F.slot_list_index ⟨_,e1,rfl⟩ F.entry_list_index (F.args_list_index_2 _ _)
  (SeqAt.list_indexAt l its.toArray m none slots (.int n t) (eqI n) j (by simp;omega) (by omega) ?_ ?_) ⟨e1,λy hy=>?_,.int (j:Nat),H,I.tok _,⟨_,rfl⟩,q⟩
 ·obtain⟨a,t,h1,h2⟩:=each j (by omega)
  rw[p1]at h2;cases h2
  rw[List.getElem_toArray,h1];exact dS _
 ·intro i hi hij
  obtain⟨a,t,h1,h2⟩:=each i (by simpa using hi)
  rw[List.getElem_toArray,h1];exact cp.mpr λz=>p2 i hij (by rw[h2,z])
 ·obtain⟨i,hi,rfl⟩:=List.getElem_of_mem (List.mem_toArray.mp hy);obtain⟨a,t',h1,_⟩:=each i hi;rw[h1];exact SeqAt.EqAt.int_int a t' n t
end L2
namespace MI
open L2
def a8j(d:D)(ds:List D)(h:Hd):R D:=match a9g d h,ds with
 |some ns,[.int n]=>(match ixI n ns with|some j=>.ok (.int (j:Nat)) h|none=>.no)
 |_,_=>.no
theorem ag4:anm K a8j (aik K):=by
 intro E ι H h x dx xs ds Q rx r hr o
 unfold a8j at o
 split at o
 ·rename_i ns n e
  cases r with
  |cons r rs =>
   cases r;cases rs
   split at o
   ·rename_i j hj;obtain⟨p,rfl,q⟩:=abz rx hr e;exact⟨p,ns,n,j,rfl,rfl,q,hj,ans o (.int _) hr⟩
   ·exact o.elim
 ·exact o.elim
def ake:D->Option Key
 |.int i=>some (.inl i)
 |.str x=>some (.inr x)
 |_=>none
def as3:D->Option (List Key)
 |.tup xs=>a0r ake xs
 |_=>none
def ac0{κ:Type}[DecidableEq κ](kvs:List (κ×D))(k:κ):Option D:=(kvs.find? λkv=>decide (kv.1=k)).map (·.2)
def putD{κ:Type}[DecidableEq κ](kvs:List (κ×D))(k:κ)(d:D):List (κ×D):=if (kvs.any λkv=>decide (kv.1=k))=true then kvs.map λkv=>if kv.1=k then (kv.1,d) else kv else kvs++[(k,d)]
section
variable{K:Fg}{ι:List Addr}{H:Hp}{h:Hd}
theorem aah{v:V}{d:D}{k:Key}(r:Rep K ι H v d)(e:ake d=some k):v=kV k:=by
 cases r with
 |int i=>cases e;rfl
 |str x=>cases e;rfl
 |_=>cases e
theorem aev:∀{vs:List V} {ds:List D} {ks:List Key},Reps K ι H vs ds->a0r ake ds=some ks->vs=ks.map kV
 |_,_,_,.nil,e=>by cases e;rfl
 |_,d::ds,_,.cons r rs,e=>by
  unfold a0r at e
  split at e
  ·rename_i y ys h1 h2;cases e
   rw[aah r h1,aev rs h2];rfl
  ·cases e
theorem aim{v:V}{d:D}{ks:List Key}(r:Rep K ι H v d)(e:as3 d=some ks):∃b,v=.ref b/\H b=some (.tup (ks.map kV)):=by
 cases r with
 |@tup a vs xs hp rs=>exact⟨a,rfl,by rw[<-aev rs e];exact hp⟩
 |_=>cases e
theorem aai{κ:Type}[DecidableEq κ](k:κ):∀{us:List (κ×V)} {kvs:List (κ×D)},KRep K ι H us kvs->match ac0 kvs k with|some d=>∃v,ae4 us k=some v/\Rep K ι H v d|none=>ae4 us k=none
 |[],[],_=>rfl
 |[],_::_,r=>by have:=aN List.length r.1;simp at this
 |_::_,[],r=>by have:=aN List.length r.1;simp at this
 |(a,v)::us,(b,d)::kvs,r=>by
  obtain⟨e,rs⟩:=r;simp only[ba,eQ]at e;obtain⟨e1,e2⟩:=e;subst e1
  cases rs with
  |cons r1 rs =>
   by_cases hk:a=k
   ·simp only[ac0,ae4,d0,hk,gQ,fO];exact⟨v,rfl,r1⟩
   ·have ih:=aai k (us:=us) (kvs:=kvs) ⟨e2,rs⟩;simp only[ac0,ae4,d0,hk,decide_false]at ih ⊢;exact ih
theorem aew{κ:Type}[DecidableEq κ]{us:List (κ×V)}{kvs:List (κ×D)}(k:κ){v:V}{d:D}(r:KRep K ι H us kvs)(rv:Rep K ι H v d):KRep K ι H (putK us k v) (putD kvs k d):=by
 have anyEq:∀{us:List (κ×V)} {kvs:List (κ×D)},us.map (·.1)=kvs.map (·.1)->(us.any λkv=>decide (kv.1=k))=(kvs.any λkv=>decide (kv.1=k)):=λ{us kvs} e=>by
  have h1:(us.any λkv=>decide (kv.1=k))=(us.map (·.1)).any λa=>decide (a=k):=by rw[List.any_map];rfl
  have h2:(kvs.any λkv=>decide (kv.1=k))=(kvs.map (·.1)).any λa=>decide (a=k):=by rw[List.any_map];rfl
  rw[h1,h2,e]
 have rmap:∀{us:List (κ×V)} {kvs:List (κ×D)},KRep K ι H us kvs->KRep K ι H (us.map λkv=>if kv.1=k then (kv.1,v) else kv) (kvs.map λkv=>if kv.1=k then (kv.1,d) else kv):=λ{us}=>by
  induction us with
  |nil=>intro kvs r;cases kvs with
   |nil=>exact⟨rfl,.nil⟩
   |cons _ _=>have:=aN List.length r.1;simp at this
  |cons a us ih=>intro kvs r;cases kvs with
   |nil=>have:=aN List.length r.1;simp at this
   |cons b kvs =>
    obtain⟨e,rs⟩:=r;simp only[ba,eQ]at e;obtain⟨e1,e2⟩:=e
    cases rs with
    |cons r1 rs =>
     obtain⟨i1,i2⟩:=ih ⟨e2,rs⟩;obtain⟨a1,a2⟩:=a;obtain⟨b1,b2⟩:=b;simp only at e1;subst e1
     by_cases hk:a1=k
     ·simp only[ba,hk,dk];exact⟨by simp only[ba,i1],.cons rv i2⟩
     ·simp only[ba,hk,fB];exact⟨by simp only[ba,i1],.cons r1 i2⟩
 have ae:=anyEq r.1;unfold putK putD;rw[ae]
 split
 ·exact rmap r
 ·exact⟨by simp[r.1],by simpa using r.2.snoc rv⟩
def az2(x y:D)(h:Hd):Option (Option D):=match x with
 |.ref i=>(match h[i]? with
  |some (.dK kvs)=>(ake y).map λk=>ac0 kvs k
  |some (.dT kvs)=>(as3 y).map λk=>ac0 kvs k
  |_=>none)
 |.rod ks xs=>(ake y).map λk=>ac0 (ks.zip xs) k
 |.rdT ks xs=>(as3 y).map λk=>ac0 (ks.zip xs) k
 |_=>none
def az3(K:Fg)(ι:List Addr)(H:Hp)(a:Addr)(y:V):Option D->Prop
 |some d=>∃v,axk H a y (some v)/\Rep K ι H v d
 |none=>axk H a y none
theorem ain{κ:Type}{us:List (κ×V)}{ks:List κ}{xs:List D}(e:us.map (·.1)=ks)(r:Reps K ι H (us.map (·.2)) xs):KRep K ι H us (ks.zip xs):=a68 e r
theorem aqk(rx:Rep K ι H x dx)(ry:Rep K ι H y dy)(hr:HRep K ι H h)(e:az2 dx dy h=some r):∃a,x=.ref a/\az3 K ι H a y r:=by
 have goK:∀{a:Addr} {us:List (Key×V)} {kvs:List (Key×D)},Rd H a (.dK us)->KRep K ι H us kvs->(ake dy).map (λk=>ac0 kvs k)=some r->az3 K ι H a y r:=λ{a us kvs} rd kr e=>by
  simp only[aU]at e;obtain⟨k,ek,rfl⟩:=e;have ey:=aah ry ek;have q:=aai k kr
  cases hv:ac0 kvs k with
  |none=>rw[hv]at q;exact .inl ⟨us,k,rd,ey,q.symm⟩
  |some d=>rw[hv]at q;obtain⟨v,q1,q2⟩:=q;exact⟨v,.inl ⟨us,k,rd,ey,q1.symm⟩,q2⟩
 have goT:∀{a:Addr} {us:List (List Key×V)} {kvs:List (List Key×D)},Rd H a (.dT us)->KRep K ι H us kvs->(as3 dy).map (λk=>ac0 kvs k)=some r->az3 K ι H a y r:=λ{a us kvs} rd kr e=>by
  simp only[aU]at e;obtain⟨k,ek,rfl⟩:=e;obtain⟨b,ey,eb⟩:=aim ry ek;have q:=aai k kr
  cases hv:ac0 kvs k with
  |none=>rw[hv]at q;exact .inr ⟨us,k,b,rd,ey,eb,q.symm⟩
  |some d=>rw[hv]at q;obtain⟨v,q1,q2⟩:=q;exact⟨v,.inr ⟨us,k,b,rd,ey,eb,q1.symm⟩,q2⟩
 cases rx with
 |@ref a i ha =>
  obtain⟨ob,e1,e2⟩:=hr.at ha;simp only[az2,e1]at e
  cases ob with
  |lst _=>cases e
  |dK kvs=>obtain⟨us,h3,h4⟩:=e2;exact⟨a,rfl,goK (.inl h3) h4 e⟩
  |dT kvs=>obtain⟨us,h3,h4⟩:=e2;exact⟨a,rfl,goT (.inl h3) h4 e⟩
  |ins _ _=>cases e
 |@rod a o us ks xs hp ek rs=>exact⟨a,rfl,goK (.inr ⟨o,hp⟩) (ain ek rs) e⟩
 |@rdT a o us ks xs hp ek rs=>exact⟨a,rfl,goT (.inr ⟨o,hp⟩) (ain ek rs) e⟩
 |_=>cases e
def as4(neg:Bool)(y x:D)(h:Hd):R D:=match az2 x y h with
 |some r=>.ok (.bl (if neg then !r.isSome else r.isSome)) h
 |none=>.no
def aio:R2:=λy x H Q=>∃a o,x=.ref a/\axk H a y o/\Q (.bl (!o.isSome)) H
theorem u1{A:Around}(hu:A.units+64<cLine):A.units+1<cLine:=by omega
theorem aip{X:Cx}(hu:X.A.units+64<cLine):OpR X (compareOp .NotIn) aio:=λaA s σ H y x v u Q I ry rx ⟨a,o,ex,g,q⟩=>by
 subst ex;obtain rfl:u=Value.ref a:=rx;exact apa (u1 hu) I g ry λs3 I3=>⟨.bl (!o.isSome),H,I3,rfl,q⟩
theorem ag5:a3y K (as4 true) aio:=by
 intro E ι H h y x dy dx Q ry rx hr o
 unfold as4 at o
 split at o
 ·rename_i r e;obtain⟨a,rfl,q⟩:=aqk rx ry hr e
  cases r with
  |none=>exact⟨a,none,rfl,q,ans o (.bl _) hr⟩
  |some d=>obtain⟨v,q,_⟩:=q;exact⟨a,some v,rfl,q,ans o (.bl _) hr⟩
 ·exact o.elim
variable{X:Cx}{E:XD}{a b e o i:Expr}{fa fb fc:SE}{pos:Pos}
def as5(o k v:D)(h:Hd):Option Hd:=match o with
 |.ref i=>(match h[i]? with
  |some (.dK kvs)=>(match ake k with|some kk=>if kvs.length<LINE then some (h.set i (.dK (putD kvs kk v))) else none|none=>none)
  |some (.dT kvs)=>(match as3 k with|some kk=>if kvs.length<LINE then some (h.set i (.dT (putD kvs kk v))) else none|none=>none)
  |_=>none)
 |_=>none
def aaj(fe fo fi:SE):SS:=λτ h=>(fe τ h).fl λv h1=>(fo τ h1).fl λo h2=>(fi τ h2).fl λk h3=>match as5 o k v h3 with|some h4=>.nx τ h4|none=>.no
theorem KRep.mono{κ:Type}{ι':List Addr}{H':Hp}{us:List (κ×V)}{kvs:List (κ×D)}(g:Gr ι H ι' H')(r:KRep K ι H us kvs):KRep K ι' H' us kvs:=⟨r.1,r.2.mono g⟩
theorem aly{h':Hd}{o k v:V}{od kd vd:D}{Q:Hp->Prop}(r1:Rep K ι H o od)(r2:Rep K ι H k kd)(r3:Rep K ι H v vd)(hr:HRep K ι H h)(e:as5 od kd vd h=some h')(q:∀H',Gr ι H ι H'->HRep K ι H' h'->Q H') :
  ∃a H4,o=.ref a/\ays H a k v H4/\Q H4:=by
 cases r1 with
 |@ref a i ha =>
  obtain⟨ob,h1,h2⟩:=hr.at ha;simp only[as5,h1]at e
  cases ob with
  |lst _=>cases e
  |dK kvs =>
   obtain⟨us,h3,h4⟩:=h2
   cases hk:ake kd with
   |none=>simp only[hk]at e;cases e
   |some kk =>
    simp only[hk]at e
    split at e
    ·rename_i hl;cases e
     have lu:us.length=kvs.length:=by simpa using aN List.length h4.1
     exact⟨a,_,rfl,.inl ⟨us,kk,h3,aah r2 hk,by rw[aph,lu];exact hl,rfl⟩,q _ (a2p hr ha _) (hr.put ha ⟨_,qu,(aew kk h4 r3).mono (a2p hr ha _)⟩)⟩
    ·cases e
  |dT kvs =>
   obtain⟨us,h3,h4⟩:=h2
   cases hk:as3 kd with
   |none=>simp only[hk]at e;cases e
   |some kk =>
    simp only[hk]at e
    split at e
    ·rename_i hl;cases e
     have lu:us.length=kvs.length:=by simpa using aN List.length h4.1
     obtain⟨b,eb,tb⟩:=aim r2 hk;exact⟨a,_,rfl,.inr ⟨us,kk,b,h3,eb,tb,by rw[aph,lu];exact hl,rfl⟩,q _ (a2p hr ha _) (hr.put ha ⟨_,qu,(aew kk h4 r3).mono (a2p hr ha _)⟩)⟩
    ·cases e
  |ins _ _=>cases e
 |_=>cases e
theorem aql(hu:X.A.units+64<cLine)(he:ME X E e fa)(ho:ME X E o fb)(hi:ME X E i fc)(hs:swapsWith e (some (.Subscript o i pos')) pos.line X.env=pure false:=by rfl):MS X E (.Assign [.Subscript o i pos'] e pos) (aaj fa fb fc):=by
 refine PS.weak (apb (u1 hu) ho hi he hs) ?_
 rintro N σ H ⟨ι,τ,h,S,Rh,oo⟩
 refine⟨ι,τ,h,S,Rh,ul oo λd h1 ι1 H1 v g1 r1 hr1 o1=>?_⟩;refine⟨ι1,τ,h1,S.mono g1,hr1,ul o1 λd2 h2 ι2 H2 u g2 r2 hr2 o2=>?_⟩;refine⟨ι2,τ,h2,(S.mono g1).mono g2,hr2,ul o2 λd3 h3 ι3 H3 w g3 r3 hr3 o3=>?_⟩
 cases hp:as5 d2 d3 d h3 with
 |none=>rw[hp]at o3;exact o3.elim
 |some h4 =>
  rw[hp]at o3;exact aly (r2.mono g3) r3 ((r1.mono g2).mono g3) hr3 hp λH' g4 hr4=>o3 ι3 H' σ g4 ((((S.mono g1).mono g2).mono g3).mono g4) hr4
def gD1(x y:D)(h:Hd):R D:=match ake x with
 |some k=>.ok (.ref h.length) (h++[.dK [(k,y)]])
 |none=>.no
theorem aiq{p:Addr}{o:HO}{ob:O}(hr:HRep K ι H h)(pn:p∉ι)(gw:Gw ι H (ι++[p]) (upd H p o))(q:ORep K (ι++[p]) (upd H p o) p ob):HRep K (ι++[p]) (upd H p o) (h++[ob]):=by
 refine⟨cC.mpr ⟨hr.nd,by simp,λa ha b hb z=>pn (by rw[av.mp hb]at z;rw[<-z];exact ha)⟩,by simp[hr.len],λj a o' q1 q2=>?_⟩
 by_cases hj:j<ι.length
 ·rw[aM hj]at q1;rw[aM (by rw[<-hr.len];exact hj)]at q2
  exact(hr.obj j a o' q1 q2).monoW gw (jr λz=>pn (by rw[<-z];exact aQ q1))
 ·have hj2:j<(ι++[p]).length:=(ag.mp q1).1;have:j=ι.length:=by simp at hj2;omega
  subst this;rw[aO (aJ _)]at q1;rw[hr.len,aO (aJ _)]at q2;simp at q1 q2;subst q1 q2;exact q
theorem az4(ha:ME X E a fa)(hb:ME X E b fb):ME X E (.Dict [some a] [b] pos) (s2 gD1 fa fb):=by
 refine PE.weak (apd (al7 ha hb apc) rfl rfl (by simp) (by simp)) ?_
 rintro σ H Q ⟨ι,τ,h,S,Rh,o⟩ p hp
 have pn:p∉ι:=Rh.notin hp;have g0:Gr ι H ι (upd H p (.dK [])):=a3n hp _;unfold s2 at o;refine⟨ι,τ,h,S.mono g0,Rh.aside hp _,?_⟩
 cases hfa:fa τ h with
 |no=>rw[hfa]at o;exact o.elim
 |ex c hx=>rw[hfa]at o;exact a7r (Rp:=a3u X.K) (r:=.ex c hx) (Q:=Q) o g0
 |ok d h1 =>
  rw[hfa]at o
  intro ι1 H1 v g1 r1 hr1
  refine⟨ι1,τ,h1,(S.mono g0).mono g1,hr1,?_⟩;simp only[R.bind]at o
  cases hfb:fb τ h1 with
  |no=>rw[hfb]at o;exact o.elim
  |ex c hx=>rw[hfb]at o;exact a7r (Rp:=a3u X.K) (r:=.ex c hx) (Q:=Q) o (g0.trans g1)
  |ok d2 h2 =>
   rw[hfb]at o
   intro ι2 H2 u g2 r2 hr2
   have g12:=g1.trans g2;have e2:H2 p=some (.dK []):=g12.oth p _ qu pn;simp only[gD1]at o
   cases hk:ake d with
   |none=>rw[hk]at o;exact o.elim
   |some k =>
    rw[hk]at o;refine⟨e2,[(k,u)],?_,by simp,?_⟩
    ·rw[aah (r1.mono g2) hk];rfl
    ·obtain⟨m,em,hm⟩:=g12.pre;have nm:∀c∈m,c≠p/\H c=none:=λc hc=>by
      have q:=hm c hc
      by_cases z:c=p
      ·subst z;rw[qu]at q;cases q
      ·rw[jr z]at q;exact⟨z,q⟩
     have pn2:p∉ι2:=λz=>by
      rw[em]at z
      rcases aY.mp z with z|z
      ·exact pn z
      ·exact(nm p z).1 rfl
     have ne:∀{c u'},H c=some u'->c≠p:=λe=>jy e hp;have up:∀{c u'},H c=some u'->(upd H p (.dK [])) c=some u':=λe=>by rw[jr (ne e)];exact e
     have gw:Gw ι2 H2 (ι2++[p]) (upd H2 p (.dK [(k,u)])):=⟨⟨[p],rfl⟩,λc vs e=>by rw[jr (λz=>by subst z;rw[e2]at e;cases e)];exact e,λc o u' e=>by rw[jr (λz=>by subst z;rw[e2]at e;cases e)];exact e⟩
     have G:Gr ι H (ι2++[p]) (upd H2 p (.dK [(k,u)])):=by
      refine⟨⟨m++[p],by rw[em];simp,λc hc=>?_⟩,λc vs e=>?_,λc o u' e=>?_,λc u' e hn=>?_,λc u' e=>?_⟩
      ·rcases aY.mp hc with hc|hc
       ·exact(nm c hc).2
       ·rw[av.mp hc];exact hp
      ·rw[jr (ne e)];exact g12.tup _ _ (up e)
      ·rw[jr (ne e)];exact g12.frz _ _ _ (up e)
      ·rw[jr (ne e)];exact g12.oth _ _ (up e) hn
      ·obtain⟨w,q⟩:=g12.kp _ _ (up e);exact⟨w,by rw[jr (ne e)];exact q⟩
     refine o (ι2++[p]) _ (.ref p) G (.ref (by rw[aO (by rw[hr2.len];exact aJ _),hr2.len];simp)) (aiq hr2 pn2 gw ⟨_,qu,rfl,.cons (r2.monoW gw) .nil⟩)
end
end MI
namespace MI
open L2 ZP
def aqm(x:D)(h:Hd):R Itm:=match srcOf x h with
 |some (xs,c)=>.ok ⟨((List.range xs.length).zip xs).map λp=>.tup [.int (p.1:Nat),p.2],c⟩ h
 |none=>.no
def auz(f:SE):SI:=λτ h=>(f τ h).bind aqm
end MI
namespace MI
open L2
def b1t(lo:Int)(n:Nat):List D:=(List.range n).map λi=>D.int (lo-(i:Nat))
def av0(ds:List D)(h:Hd):R Itm:=match ds with
 |[.int i,.int j,.int k]=>if k = -1/\B62 i/\B62 j then .ok ⟨b1t i (i-j).toNat,λ_=>True⟩ h else .no
 |_=>.no
theorem air:bootBuiltins "sorted" = some (.builtin "sorted"):=by decide +kernel
theorem dq{α β:Type}(a:α)(h:Hd)(k:α->Hd->R β):(R.ok a h).bind k=k a h:=rfl
theorem a2w{α:Type}(a:α)(h:Hd)(k:α->Hd->Fl):(R.ok a h).fl k=k a h:=rfl
def thn(r:Fl)(g:SS):Fl:=match r with|.nx τ h=>g τ h|r=>r
theorem yw(f g:SS)(τ:Sd)(h:Hd):du f g τ h=thn (f τ h) g:=by unfold du thn;cases f τ h<;>rfl
theorem zr(τ:Sd)(h:Hd)(g:SS):thn (.nx τ h) g=g τ h:=rfl
theorem ac1(d:D)(h:Hd)(g:SS):thn (.rt d h) g=.rt d h:=rfl
def toR(r:Fl):R D:=match r with|.rt d h1=>.ok d h1|.nx _ h1=>.ok .non h1|.ex c h1=>.ex c h1|_=>.no
theorem dm(b:SS)(n:Nat)(ds:List D)(h:Hd):nq b n ds h=toR (b (a8e n ds) h):=by unfold nq toR;cases b (a8e n ds) h<;>rfl
theorem ac2(d:D)(h:Hd):toR (.rt d h)=.ok d h:=rfl
theorem aex(τ:Sd)(h:Hd):toR (.nx τ h)=.ok .non h:=rfl
theorem a0v:∀{xs:List D},clos n xs↔∀x∈xs,clo n x
 |[]=>by simp[clos]
 |x::xs=>by simp[clos,a0v (xs:=xs)]
theorem dw(i:Int):clo n (.int i):=by simp[clo]
theorem g8(i:Str):clo n (.str i):=by simp[clo]
theorem a0p(i:Bool):clo n (.bl i):=by simp[clo]
theorem a1b:clo n .non:=by simp[clo]
theorem qx:clos n []:=by simp[clos]
theorem cu(a:clo n x)(b:clos n xs):clos n (x::xs):=by simp only[clos];exact⟨a,b⟩
theorem uq(h:clos n xs):clo n (.tup xs):=by simpa[clo] using h
theorem nu(h:clos n xs):clo n (.rol xs):=by simpa[clo] using h
theorem fj{α:Type}{n:Nat}{f:α->D}{l:List α}(h:∀a∈l,clo n (f a)):clos n (l.map f):=by
 rw[a0v]
 intro x hx
 obtain⟨a,ha,rfl⟩:=bU.mp hx;exact h a ha
mutual
theorem ac3(hm:n<=m):∀{d:D},clo n d->clo m d
 |.non,_=>by simp[clo]
 |.bl _,_=>by simp[clo]
 |.int _,_=>by simp[clo]
 |.str _,_=>by simp[clo]
 |.ty _,_=>by simp[clo]
 |.tup xs,h=>by simp only[clo]at h ⊢;exact a01 hm h
 |.rol xs,h=>by simp only[clo]at h ⊢;exact a01 hm h
 |.scr xs,h=>by simp only[clo]at h ⊢;exact a01 hm h
 |.rod _ xs,h=>by simp only[clo]at h ⊢;exact a01 hm h
 |.rdT _ xs,h=>by simp only[clo]at h ⊢;exact a01 hm h
 |.exc _,_=>by simp[clo]
 |.ins _ _ xs,h=>by simp only[clo]at h ⊢;exact a01 hm h
 |.ref i,h=>by simp only[clo]at h ⊢;omega
theorem a01(hm:n<=m):∀{xs:List D},clos n xs->clos m xs
 |[],_=>by simp[clos]
 |x::xs,h=>by simp only[clos]at h ⊢;exact⟨ac3 hm h.1,a01 hm h.2⟩
end
theorem lz(hm:n<=m)(h:vg n o):vg m o:=by
 cases o with
 |lst xs=>exact a01 hm h
 |dK kvs=>exact a01 hm h
 |dT kvs=>exact a01 hm h
 |ins _ _=>exact a01 hm h
theorem adi{α:Type}{f:α->Option α}:∀{xs:List α},(∀x∈xs,f x=some x)->a0r f xs=some xs
 |[],_=>rfl
 |x::xs,h=>by
  unfold a0r;rw[h x bA,adi λy hy=>h y (bq _ hy)]
theorem a1p(c:clo n d):a4v n h (k+1) d=some d:=by unfold a4v;rw[aR c]
theorem alz(c:vg n o):aur n h k o=some o:=by unfold aur;rw[aR c]
theorem a6a{n k i:Nat}{h:Hd}{xs:List D}(hi:n<=i)(e:h[i]? = some (.lst xs))(c:clos n xs):a4v n h (k+2) (.ref i)=some (.rol xs):=by
 unfold a4v;rw[bE (by simp only[clo];omega)]
 simp only[e];rw[adi λx hx=>a1p (a0v.mp c x hx)];rfl
theorem aak(e:a0r (a4v n h k) xs=some ys)(nc:¬ clos n xs):a4v n h (k+1) (.tup xs)=some (.tup ys):=by
 unfold a4v;rw[bE (by simpa only[clo] using nc)]
 simp only[e,fO]
theorem a4d{α β:Type}{f:α->Option β}{x:α}{y:β}{xs:List α}{ys:List β}(h:f x=some y)(t:a0r f xs=some ys):a0r f (x::xs)=some (y::ys):=by unfold a0r;rw[h,t]
theorem a8k{n:Nat}{d d':D}{h1:Hd}(e:a4v n h1 FU d=some d')(c:∀o∈h1.take n,vg n o):acv n (.ok d h1)=.ok d' (h1.take n):=by
 unfold acv;simp only[e];rw[adi λo ho=>alz (c o ho)]
theorem p8{h1:Hd}(e:clo n d)(c:∀o∈h1.take n,vg n o):acv n (.ok d h1)=.ok d (h1.take n):=a8k (a1p e) c
theorem a1q(hi:n<=i)(e:h1[i]? = some (.lst xs))(cx:clos n xs)(c:∀o∈h1.take n,vg n o):acv n (.ok (.ref i) h1)=.ok (.rol xs) (h1.take n):=a8k (a6a hi e cx) c
theorem a4e(e:f τ h=.ok (.ref h.length) (h++[.lst xs]))(cx:clos h.length xs)(c:∀o∈h,vg h.length o):sZ f τ h=.ok (.rol xs) h:=by
 unfold sZ;rw[e,a1q (aJ _) (by simp) cx (by simpa using c)]
 simp
def Pu(F:SF)(n:Nat)(ds:List D)(d:D):Prop:=∀h,gq false n F ds h=.ok d h
def Dr(F:SF)(n:Nat)(ds:List D)(o:O)(d:D)(o':O):Prop:=∀p h,h[p]? = some o->gq false n F (.ref p::ds) h=.ok d (h.set p o')
theorem a4p:∀{ds:List D},(∀d∈ds,clo 0 d)->a1m ds=[]/\a0s 0 ds=ds/\∀k,a0s k ds=ds
 |[],_=>⟨rfl,rfl,λ_=>rfl⟩
 |d::ds,h=>by
  obtain⟨a,b,c⟩:=a4p (ds:=ds) λx hx=>h x (bq _ hx);have hd:=h d bA;have nr:refOf d=none:=by cases d<;>first|rfl|(simp only[clo]at hd;omega)
  refine⟨?_,?_,λk=>?_⟩
  ·simpa[a1m,nr] using a
  ·cases d<;>first|(simp only[clo]at hd;omega)|(simp only[a0s,b])
  ·cases d<;>first|(simp only[clo]at hd;omega)|(simp only[a0s,c])
theorem Pu.of{ds:List D}(hn:ds.length=n)(cd:∀x∈ds,clo 0 x)(e:F ds []=r)(z:acv 0 r=.ok d [])(c:clo 0 d):Pu F n ds d:=λh=>by
 obtain⟨p1,p2,_⟩:=a4p cd;unfold gq;rw[aR hn];unfold anx;rw[p1];simp only[a0r,eM,dA,fB];rw[aR ⟨gM,λx hx=>.inl (cd x hx),λo ho=>by simp at ho⟩,p2,e,z]
 simp[c,xq]
theorem Dr.of{ds:List D}(hn:ds.length+1=n)(cd:∀x∈ds,clo 0 x)(co:vg 0 o)(e:F (.ref 0::ds) [o]=r)(z:acv 1 r=.ok d [o'])(c:clo 0 d)(co':vg 0 o'):Dr F n ds o d o':=λp h hp=>by
 obtain⟨p1,_,p3⟩:=a4p cd;have e1:a1m (.ref p::ds)=[p]:=by
  have:a1m (.ref p::ds)=p::a1m ds:=rfl
  rw[this,p1]
 have e2:a0s 0 (.ref p::ds)=.ref 0::ds:=by
  have:a0s 0 (.ref p::ds)=.ref 0::a0s 1 ds:=rfl
  rw[this,p3]
 unfold gq;rw[aR (by simpa using hn)]
 unfold anx;rw[e1];simp only[a0r,hp,aI,dA,fB];have all:∀x∈(D.ref p::ds),clo 0 x\/isRef x:=λx hx=>by
  rcases aS.mp hx with rfl|hx
  ·exact .inr ⟨p,rfl⟩
  ·exact .inl (cd x hx)
 rw[aR ⟨by simp,all,λu hu=>by rw[av.mp hu];exact co⟩,e2,e,z]
 simp[c,co',xq]
theorem ao1{ds:List D}(hn:ds.length=n)(cd:∀x∈ds,clo 0 x)(e:F ds []=.ok (.ref i) h1)(ho:h1[i]? = some o)(co:vg 0 o)(h:Hd):gq true n F ds h=.ok (.ref h.length) (h++[o]):=by
 obtain⟨p1,p2,_⟩:=a4p cd;unfold gq;rw[aR hn];unfold anx;rw[p1];simp only[a0r,eM,dk];rw[aR ⟨gM,λx hx=>.inl (cd x hx),λo ho=>by simp at ho⟩,p2,e]
 unfold anw;simp only[ho];rw[aR ⟨aV _,co,by simp⟩]
 simp[co,xq]
theorem am0(g:SG)(b:SS)(τ:Sd)(h:Hd):forL (λ_=>True) g b [] τ h=.nx τ h:=by rw[forL,aR True.intro]
def trn(r:Fl)(k:Sd->Hd->Fl):Fl:=match r with|.nx τ h=>k τ h|.ct τ h=>k τ h|.bk τ h=>.nx τ h|r=>r
theorem ais(g:SG)(b:SS)(x:D)(xs:List D)(τ τ1:Sd)(h h1:Hd)(e:g x τ h=.nx τ1 h1):forL (λ_=>True) g b (x::xs) τ h=trn (b τ1 h1) (forL (λ_=>True) g b xs):=by
 rw[forL,aR True.intro,e];dsimp only;unfold trn
 cases b τ1 h1<;>rfl
theorem av1(τ:Sd)(h:Hd)(k:Sd->Hd->Fl):trn (.nx τ h) k=k τ h:=rfl
theorem av2(d:D)(h:Hd)(k:Sd->Hd->Fl):trn (.rt d h) k=.rt d h:=rfl
theorem aal{g:SG}{b:SS}{α:Type}(f:α->D)(I:List α->Sd->Hd->Prop)(Rt:D->Hd->Prop):∀(xs pre:List α) (τ:Sd) (h:Hd),
  (∀pre' x post τ h,pre++xs=pre'++x::post->I pre' τ h->∃τ1 h1,g (f x) τ h=.nx τ1 h1/\((∃τ2 h2,b τ1 h1=.nx τ2 h2/\I (pre'++[x]) τ2 h2)\/∃d h2,b τ1 h1=.rt d h2/\Rt d h2))->I pre τ h->
  (∃τ' h',forL (λ_=>True) g b (xs.map f) τ h=.nx τ' h'/\I (pre++xs) τ' h')\/∃d h',forL (λ_=>True) g b (xs.map f) τ h=.rt d h'/\Rt d h'
 |[],pre,τ,h,_,i0=>.inl ⟨τ,h,am0 ..,by simpa using i0⟩
 |x::xs,pre,τ,h,st,i0=>by
  obtain⟨τ1,h1,e1,q⟩:=st pre x xs τ h rfl i0;rw[ba,ais _ _ _ _ _ _ _ _ e1]
  rcases q with⟨τ2,h2,e2,i2⟩|⟨d,h2,e2,r⟩
  ·rw[e2,av1];have:=aal f I Rt xs (pre++[x]) τ2 h2 (λpre' y post τ h e=>st pre' y post τ h (by simpa using e)) i2
   simpa using this
  ·rw[e2,av2];exact .inr ⟨d,h2,rfl,r⟩
theorem uc{g:SG}{b:SS}{α:Type}(f:α->D)(I:List α->Sd->Hd->Prop)(xs:List α)(τ:Sd)(h:Hd)
  (st:∀pre x post τ h,xs=pre++x::post->I pre τ h->∃τ1 h1,g (f x) τ h=.nx τ1 h1/\∃τ2 h2,b τ1 h1=.nx τ2 h2/\I (pre++[x]) τ2 h2) (i0:I [] τ h) :
  ∃τ' h',forL (λ_=>True) g b (xs.map f) τ h=.nx τ' h'/\I xs τ' h':=by
 rcases aal f I (λ_ _=>False) xs [] τ h (λpre' x post τ h e i=>let ⟨τ1,h1,a,b⟩:=st pre' x post τ h e i; ⟨τ1,h1,a,.inl b⟩) i0 with⟨τ',h',a,b⟩|⟨_,_,_,z⟩
 ·exact⟨τ',h',a,b⟩
 ·exact z.elim
theorem aam{f:D->Hd->R D}{α:Type}(g:α->D)(I:List α->List D->Hd->Prop):∀(xs pre:List α) (ys:List D) (h:Hd),
  (∀pre' x post ys h,pre++xs=pre'++x::post->I pre' ys h->∃y h',f (g x) h=.ok y h'/\I (pre'++[x]) (ys++[y]) h')->I pre ys h->∃zs h',mapR (λ_=>True) f (xs.map g) h=.ok zs h'/\I (pre++xs) (ys++zs) h'
 |[],pre,ys,h,_,i0=>⟨[],h,by rw[dM,mapR,aR True.intro],by simpa using i0⟩
 |x::xs,pre,ys,h,st,i0=>by
  obtain⟨y,h1,e1,i1⟩:=st pre x xs ys h rfl i0;obtain⟨zs,h',e2,i2⟩:=aam g I xs (pre++[x]) (ys++[y]) h1 (λpre' z post ys h e=>st pre' z post ys h (by simpa using e)) i1
  refine⟨y::zs,h',?_,by simpa using i2⟩
  rw[ba,mapR,aR True.intro,e1];show(mapR _ f (xs.map g) h1).bind _=_;rw[e2];rfl
theorem ac4{f:D->Hd->R D}{α:Type}(g F:α->D){h:Hd}:∀{xs:List α},(∀x∈xs,f (g x) h=.ok (F x) h)->mapR (λ_=>True) f (xs.map g) h=.ok (xs.map F) h
 |[],_=>by rw[dM,mapR,aR True.intro];rfl
 |x::xs,st=>by
  rw[ba,mapR,aR True.intro,st x bA];show(mapR _ f (xs.map g) h).bind _=_;rw[ac4 g F λy hy=>st y (bq _ hy)];rfl
theorem ait(I:Nat->Sd->Hd->Prop)(N:Sd->Hd->Prop)(Rt:D->Hd->Prop)
  (st:∀m τ h,I m τ h->(∃h1,c τ h=.ok false h1/\N τ h1)\/∃h1,c τ h=.ok true h1/\((∃τ2 h2 m',f τ h1=.nx τ2 h2/\m'<m/\I m' τ2 h2)\/∃d h2,f τ h1=.rt d h2/\Rt d h2)) :
  ∀(m n:Nat) (τ:Sd) (h:Hd),m<n->I m τ h->(∃τ' h',sWh c f n τ h=.nx τ' h'/\N τ' h')\/∃d h',sWh c f n τ h=.rt d h'/\Rt d h':=by
 intro m
 induction m using Nat.strongRecOn with
 |ind m ih =>
  intro n τ h hn i0
  cases n with
  |zero=>omega
  |succ n =>
   rcases st m τ h i0 with⟨h1,e1,q⟩|⟨h1,e1,q⟩
   ·exact .inl ⟨τ,h1,by rw[sWh,e1];rfl,q⟩
   ·rcases q with⟨τ2,h2,m',e2,lt,i2⟩|⟨d,h2,e2,r⟩
    ·have e3:sWh c f (n+1) τ h=sWh c f n τ2 h2:=by
      rw[sWh,e1,a2w,aR rfl,e2]
     rw[e3];exact ih m' lt n τ2 h2 (by omega) i2
    ·refine .inr ⟨d,h2,?_,r⟩;rw[sWh,e1,a2w,aR rfl,e2]
structure KD (P:Program) (w:World) (K:Fg) (a:Addr) (kvs:List (Str×Str)):Prop where
 sys:(a == sysModules)=false
 ex:∃(o:Obj) (vs:List (Key×Value)),K.lookup a=some o/\KV (kvs.map λp=>((.inr p.1:Key),V.str p.2)) vs/\∀h:Heap,h.get? a=some o->h.DictOf (vf P w) a vs
section
variable{X:Cx}{E:XD}{e:Expr}{fa:SE}{pos p:Pos}{a:Addr}{kvs:List (Str×Str)}{x:Str}
theorem KD.at(kd:KD X.prog X.w X.K a kvs)(I:Inv X aA σ H s):∃vs,KV (kvs.map λp=>((.inr p.1:Key),V.str p.2)) vs/\s.heap.DictOf (vf X.prog X.w) a vs:=by
 obtain⟨o,vs,l,r,d⟩:=kd.ex;exact⟨vs,r,d _ (I.bk _ _ (I.mod.kin _ _ l))⟩
end
mutual
def toPy:D->Option PyData
 |.non=>some .none
 |.bl b=>some (.bool b)
 |.int i=>some (.int i)
 |.str x=>some (.str x)
 |.tup xs=>(aqn xs).map .tuple
 |.rol xs=>(aqn xs).map .list
 |.rod [] []=>some (.dict [])
 |_=>none
def aqn:List D->Option (List PyData)
 |[]=>some []
 |x::xs=>match toPy x,aqn xs with|some p,some ps=>some (p::ps)|_,_=>none
end
mutual
def noL:D->Bool
 |.rol _=>false
 |.tup xs=>b08 xs
 |_=>true
def b08:List D->Bool
 |[]=>true
 |x::xs=>noL x && b08 xs
end
open Classical in
theorem uw:CallR X (.builtin "isinstance") (λxs H Q=>∃a o us T b,xs=[.ref a,.ty T]/\H a=some (.frz o (.dK us))/\PySem.W.kitOne X.K (.type "dict") (.type T)=some b/\Q (.bl b) H):=by
 intro aA s σ H xs us Q I r h
 obtain⟨a,o,kv,T,b,rfl,ea,e,q⟩:=h;obtain⟨u,w',rfl,rx,rt⟩:=vals2 r;cases rt
 obtain rfl:u=Value.ref a:=rx
 obtain⟨_,_,_,vs,_,p⟩:=(show ObjOk X.prog X.w H s.heap a (.frz o (.dK kv)) from I.hok a _ ea)
 obtain⟨o',es,ep,h1,h2,_⟩:=p;exact cw g7 I.kIn ⟨o',h1,h2.1⟩ e (λz=>nomatch z) λtk=>⟨.bl b,H,I.tok tk,rfl,q⟩
def a0g:List D->Hd->R D
 |[.rod ks xs,.ty T],h=>(match agl "dict" T with|some b=>.ok (.bl b) h|none=>.no)
 |ds,h=>akc ds h
theorem a1r:agk K a0g (λxs H Q=>(∃x T t b,xs=[x,.ty T]/\TyOf K H x t/\PySem.W.kitOne K t (.type T)=some b/\Q (.bl b) H)\/∃a o us T b,xs=[.ref a,.ty T]/\H a=some (.frz o (.dK us))/\PySem.W.kitOne K (.type "dict") (.type T)=some b/\Q (.bl b) H):=by
 intro E ι H h xs ds Q r hr o
 unfold a0g at o
 split at o
 ·split at o
  ·rename_i b hb
   cases r with
   |cons r1 rs =>
    cases rs with
    |cons r2 rs2 =>
     cases rs2
     cases r2
     cases r1 with
     |rod hp ek rr=>exact .inr ⟨_,_,_,_,b,rfl,hp,ai6 hb,ans o (.bl _) hr⟩
  ·exact o.elim
 ·exact .inl (aq3 E ι H h xs _ Q r hr o)
end MI
namespace SRC
open L2 MI
noncomputable def a1c:SE :=
 (s2 p7 (s2 a3t (sI 2) (sA axo (ao (sV 0) bw))) (sA aq1 (ao (s2 gLt (sV 0) (sI 0)) bw)))
noncomputable def a1s:SS :=
 (du (kj 1 (sZ (p6 (sIt (sZ (a4y (sV 0) oN (oS (sI 63))))) t1 a1c [])))
 (sy (sA a3z (ao (sV 1) (ao (sI 0) (ao (sI 0) (ao (sI 0) (ao (s2 a7g (sA aul (ao (sV 1) bw)) (sI 2147483647)) bw))))))))
noncomputable def a4q:SS :=
 (du (a4w a1l (sV 0) (sI 3) (sI 1))
 (du (sIf (a8c (sT (s2 hEq (s2 gIx (sV 0) (sI 2)) (sI 0))) (sT (s2 gLt (s2 gIx (sV 0) (sI 1)) (sA vh (ao (s2 gIx (sV 0) (sI 0)) bw)))))
 (du (kj 2 (s2 gIx (s2 gIx (sV 0) (sI 0)) (s2 gIx (sV 0) (sI 1))))
 (du (a4w a1l (sV 0) (sI 1) (sI 1))
 (sIf (sT (s2 gGe (sV 2) (s2 a9b (sI 10) (sI 18))))
 (ab1 (sV 2) (sV 0) (sI 2))
 (ab1 (s2 a7g (s2 p7 (s2 a3t (s2 gIx (sV 0) (sI 4)) (sI 31)) (sV 2)) (sI 2147483647)) (sV 0) (sI 4)))))
 sNx)
 (du (sIf (sT (s2 gGt (s2 gIx (sV 0) (sI 2)) (sI 0)))
 (du (kj 3 (s2 a7g (s2 gIx (sV 0) (sI 2)) (sV 1)))
 (du (a4w ab2 (sV 0) (sI 2) (sV 1))
 (sy (sV 3))))
 sNx)
 (du (kj 3 (s2 a7g (s2 a9b (s2 p7 (s2 p7 (s2 gIx (sV 0) (sI 4)) (sI 1)) (s2 a3t (s2 gIx (sV 0) (sI 3)) (sI 7919))) (sI 3)) (sI 2147483647)))
 (sy (s2 a7g (s2 ab2 (s2 a7g (s2 a9b (s2 p7 (s2 a3t (sV 3) (sI 48271)) (s2 gIx (sV 0) (sI 3))) (sI 2)) (sI 2147483629)) (sI 64)) (sV 1)))))))
noncomputable def a1d:SS :=
 (du (kj 0 (sC (.str " !\"#$&'()*+,-./0123456789:;<=>?@ABCDEFGHIJKLMNOPQRSTUVWXYZ[\\]^_`")))
 (sy (s2 p7 (sV 0) (sC (.str "abcdefghijklmnopqrstuvwxyz{|}~\n")))))
noncomputable def a1e(ak:SF)(qi:SF):SS :=
 (du (kj 4 (sA (gq false 2 ak) (ao (sV 0) (ao (sA vh (ao (sV 1) bw)) bw))))
 (du (aeb 2 a1l (s2 gIx (sV 1) (sV 4)))
 (kj 1 (s2 p7 (a4y (sV 1) oN (oS (sV 4))) (a4y (sV 1) (oS (s2 p7 (sV 4) (sI 1))) oN)))))
noncomputable def a1t(ak:SF)(qi:SF):SS :=
 (du (kj 1 (sA (gq false 0 qi) bw))
 (du (kj 2 (sC (.str "")))
 (du (a3v (sRg xn (ao (s2 p7 (sI 1) (sA (gq false 2 ak) (ao (sV 0) (ao (sI 6) bw)))) bw)) (kN 3) (a1e ak qi))
 (sy (sV 2)))))
noncomputable def v7(ak:SF):SE :=
 (sA (gq false 2 ak) (ao (sV 1) (ao (sV 2) bw)))
noncomputable def a08(ak:SF):SE :=
 (acu (a8c (sT (s2 gLt (s2 gIx (sV 2) (sV 0)) (sI 0))) (sT (s2 gLe (sV 0) (sV 3)))) (s2 acs (sV 1) (sI 1)) (sV 0))
noncomputable def xu(ak:SF):SE :=
 (sV 1)
noncomputable def v8(ak:SF):SS :=
 (du (kj 7 (sZ (p6 (sIt (sV 1)) t1 (v7 ak) [0,2])))
 (du (sIf (sT (s2 gGt (sV 5) (sI 0)))
 (kj 7 (sZ (p6 (sIt (sV 7)) t1 (a08 ak) [2,3,4])))
 sNx)
 (du (sIf (a8c (sT (s2 hEq (sV 5) (sI 1))) (sT (s2 hEq (sV 4) (s2 acs (sV 2) (sI 1)))))
 (kj 7 (sZ (p6 (sIt (sV 7)) t1 (xu ak) [4])))
 sNx)
 (vp (sML a7s (sV 6) (ao (sV 7) bw))))))
noncomputable def a0m:SS :=
 (sIf (sOr (a6y (a4m (sA a0g (ao (sV 2) (ao (sC (.ty "int")) bw))))) (a4m (sA a0g (ao (sV 2) (ao (sC (.ty "bool")) bw)))))
 (sy (sC (.bl false)))
 sNx)
noncomputable def a0w:SS :=
 (du (sIf (sOr (a6y (a4m (sA a0g (ao (sV 0) (ao (sC (.ty "tuple")) bw))))) (sT (s2 hNe (sA vh (ao (sV 0) bw)) (sV 1))))
 (sy (sC (.bl false)))
 sNx)
 (du (a3v (sIt (sV 0)) (kN 2) a0m)
 (sy (sC (.bl true)))))
end SRC
namespace L2
open PySem.W PyProof.Rows Builtin Builtin.ObjectAttr Builtin.Getset_descriptor
section
variable{prog:Program}{w:World}{A:Around}{E:Value->Shared->Prop}{s:Shared}{K:Frag}{x D:Addr}{ox:Obj}{odo:Option Obj}
structure XKit (K:Frag) (D:Addr):Prop where
 ga:findIn K (.ref D) "__getattribute__" = some (some (.builtin "BaseException.__getattribute__"))
 gn:findIn K (.ref D) "__getattr__" = some none
 cl:(clsIn K D).isSome=true
 ca:findIn K (.ref D) "__class__" = some (some (.builtin "object.__class__"))
 sp:specialIn K (.builtin "object.__class__") "__get__" = some (some (.builtin "getset_descriptor.__get__"))
 tk:takesIn K (.builtin "object.__class__")=some true
 ob:mroIn K D (.type "object")=some true
 be:subIn K (.ref D) (.type "BaseException")=some true
 kc:kitCls K (.ref D) (.ref D)=some true
abbrev ExAt(x D:Addr)(h:Heap):Prop:=∃o,h.get? x=some o/\o.cls=.ref D
theorem ExAt.ty(I:ExAt x D h):Looks M h (typeOf (.ref x)) (.ref D):=by
 obtain⟨o,q,c⟩:=I;exact c ▸ (Looks.ld q).andThen .now
theorem XKit.at(Z:XKit K D):∃c o cd sl,K.lookup D=some ⟨c,o,.cls cd,sl⟩:=by
 have:=Z.cl
 unfold clsIn at this
 split at this
 ·exact⟨_,_,_,_, ‹_›⟩
 ·cases this
theorem XKit.no(Z:XKit K D){its:List Value}(X:K.In h)(q:h.get? tp=some ⟨.type "tuple",dd,.seq its.toArray n,sl⟩):(Value.ref D == .ref tp)=false :=
 cp.mpr λe=>by
  obtain⟨_,_,_,_,lo⟩:=Z.at;rw[Value.ref.inj e]at lo;have:=X _ _ lo;rw[q]at this;cases this
end
end L2
namespace AT
open L2
theorem am1{α:Type}(x0:α)(xs:List α):atI (x0::xs) 0=some x0:=zx (j:=0) rfl
theorem am2{α:Type}(x0 x1:α)(xs:List α):atI (x0::x1::xs) 1=some x1:=zx (j:=1) rfl
theorem am3{α:Type}(x0 x1 x2:α)(xs:List α):atI (x0::x1::x2::xs) 2=some x2:=zx (j:=2) rfl
theorem am4{α:Type}(x0 x1 x2 x3:α)(xs:List α):atI (x0::x1::x2::x3::xs) 3=some x3:=zx (j:=3) rfl
theorem am5{α:Type}(x0 x1 x2 x3 x4:α)(xs:List α):atI (x0::x1::x2::x3::x4::xs) 4=some x4:=zx (j:=4) rfl
theorem am6{α:Type}(x0 x1 x2 x3 x4 x5:α)(xs:List α):atI (x0::x1::x2::x3::x4::x5::xs) 5=some x5:=zx (j:=5) rfl
theorem am7{α:Type}(x0 x1 x2 x3 x4 x5 x6:α)(xs:List α):atI (x0::x1::x2::x3::x4::x5::x6::xs) 6=some x6:=zx (j:=6) rfl
theorem am8{α:Type}(x0 x1 x2 x3 x4 x5 x6 x7:α)(xs:List α):atI (x0::x1::x2::x3::x4::x5::x6::x7::xs) 7=some x7:=zx (j:=7) rfl
theorem x10:ixN 1 0=some 0:=rfl
theorem x20:ixN 2 0=some 0:=rfl
theorem x21:ixN 2 1=some 1:=rfl
theorem x30:ixN 3 0=some 0:=rfl
theorem x31:ixN 3 1=some 1:=rfl
theorem x32:ixN 3 2=some 2:=rfl
theorem x40:ixN 4 0=some 0:=rfl
theorem x41:ixN 4 1=some 1:=rfl
theorem x42:ixN 4 2=some 2:=rfl
theorem x43:ixN 4 3=some 3:=rfl
theorem x50:ixN 5 0=some 0:=rfl
theorem x51:ixN 5 1=some 1:=rfl
theorem x52:ixN 5 2=some 2:=rfl
theorem x53:ixN 5 3=some 3:=rfl
theorem x54:ixN 5 4=some 4:=rfl
theorem x60:ixN 6 0=some 0:=rfl
theorem x61:ixN 6 1=some 1:=rfl
theorem x62:ixN 6 2=some 2:=rfl
theorem x63:ixN 6 3=some 3:=rfl
theorem x64:ixN 6 4=some 4:=rfl
theorem x65:ixN 6 5=some 5:=rfl
theorem x70:ixN 7 0=some 0:=rfl
theorem x71:ixN 7 1=some 1:=rfl
theorem x72:ixN 7 2=some 2:=rfl
theorem x73:ixN 7 3=some 3:=rfl
theorem x74:ixN 7 4=some 4:=rfl
theorem x75:ixN 7 5=some 5:=rfl
theorem x76:ixN 7 6=some 6:=rfl
def b09(x:Int):Int:=if x<0 then -x else x
theorem aiu(x:Int)(h:MI.Hd):MI.axo [.int x] h=.ok (.int (b09 x)) h:=rfl
theorem p18(h:MI.Hd):MI.a9b (.int 10) (.int 18) h=.ok (.int 1000000000000000000) h:=by rw[MI.a9b,aR (by decide)];rfl
theorem av3{i:Int}(c:0<=j/\j<=1000000/\i.natAbs<2^64):MI.a9b (.int i) (.int j) h=.ok (.int (i^j.toNat)) h:=by rw[MI.a9b,aR c]
end AT
namespace MI
open L2 SeqAt
def b0a(neg:Bool)(K:Fg):R2:=λx y H Q=>∃(ι:List Addr) (p q:Addr) (vs us:List V) (xs ys:List D),x=.ref p/\y=.ref q/\Rd H p (.lst vs)/\Rd H q (.lst us)/\Reps K ι H vs xs/\Reps K ι H us ys/\xs.all (pur 59)=true/\ys.all (pur 59)=true/\Q (.bl (if neg then !a8g xs ys else a8g xs ys)) H
theorem am9(I:Inv X aA σ H s)(hu:X.A.units+64<cLine)(h1:Rd H p (.lst vs))(h2:Rd H q (.lst us))(rs:Reps X.K ι H vs xs)(qs:Reps X.K ι H us ys)(p1:xs.all (pur 59)=true)(p2:ys.all (pur 59)=true) :
  RcAt X.A s (.ref p) (.ref q) (a8g xs ys)/\RcNeAt X.A s (.ref p) (.ref q) (!a8g xs ys):=by
 obtain⟨its,r1,pl1,z1⟩:=I.list (.inl h1);obtain⟨its2,r2,pl2,z2⟩:=I.list (.inl h2);have l1:its.toArray.size=xs.length:=by rw[aK,<-r1.length,rs.len]
 have l2:its2.toArray.size=ys.length:=by rw[aK,<-r2.length,qs.len]
 by_cases hl:xs.length=ys.length
 ·have step:∀j (h1:j<its.toArray.size) (h2:j<its2.toArray.size),EqAt X.A.in1 s its.toArray[j] its2.toArray[j] (pairE xs ys j):=λj h1 h2=>by
   have j1:j<xs.length:=by omega
   have j2:j<ys.length:=by omega
   obtain⟨v1,e1,q1⟩:=rs.get (af j1);obtain⟨v2,e2,q2⟩:=qs.get (af j2);obtain⟨u1,e3,q3⟩:=r1.get e1;obtain⟨u2,e4,q4⟩:=r2.get e2;have f1:its.toArray[j]=u1:=by simpa using (ag.mp e3).2
   have f2:its2.toArray[j]=u2:=by simpa using (ag.mp e4).2
   have pe:pairE xs ys j=eqD xs[j] ys[j]:=by simp[pairE,af j1,af j2]
   rw[f1,f2,pe];rw[bZ]at p1 p2;exact anq I.hok 59 X.A.in1 q1 q2 q3 q4 (p1 _ (bG j1)) (p2 _ (bG j2)) (by rw[gB];omega)
  have c1:=RcAt.lists (A:=X.A) (s:=s) (e:=pairE xs ys) pl1.isList pl2.isList (by omega) (by omega) step
  have c2:=RcNeAt.lists (A:=X.A) (s:=s) (e:=pairE xs ys) pl1.isList pl2.isList (by omega) (by omega) step
  have ea:=a67 xs ys;rw[hl,Nat.min_self,dS,Bool.and_true,<-hl]at ea;rw[l1,ea]at c1 c2;exact⟨c1,c2⟩
 ·have ne:(its.toArray.size != its2.toArray.size)=true:=by rw[l1,l2];simpa using hl
  have ea:=a67 xs ys;rw[cp.mpr hl,gL]at ea;rw[<-ea];exact⟨RcAt.lists_lengths pl1.isList pl2.isList ne (by omega),RcNeAt.lists_lengths pl1.isList pl2.isList ne (by omega)⟩
theorem aiv{X:Cx}(hu:X.A.units+64<cLine):OpR X (compareOp .NotEq) (b0a true X.K):=by
 intro aA s σ H x y v u Q I rx ry h
 obtain⟨ι,p,q,vs,us,xs,ys,rfl,rfl,h1,h2,r1,r2,p1,p2,hq⟩:=h
 cases rx;cases ry
 exact(am9 I hu h1 h2 r1 r2 p1 p2).2 X.prog X.w X.xe _ ⟨.bl _,H,I,rfl,hq⟩
def agm(neg:Bool)(x y:D)(h:Hd):R D:=match a0u x h,a0u y h with
 |some xs,some ys=>if xs.all (pur 59)=true/\ys.all (pur 59)=true then .ok (.bl (if neg then !a8g xs ys else a8g xs ys)) h else .no
 |_,_=>.no
theorem adk(neg:Bool):a3y K (agm neg) (b0a neg K):=by
 intro E ι H h x y dx dy Q rx ry hr o
 unfold agm at o
 split at o
 ·rename_i xs ys e1 e2
  split at o
  ·rename_i hc;obtain⟨a,vs,rfl,h1,r1⟩:=a4o rx hr e1;obtain⟨b,us,rfl,h2,r2⟩:=a4o ry hr e2;exact⟨ι,a,b,vs,us,xs,ys,rfl,rfl,h1,h2,r1,r2,hc.1,hc.2,ans o (.bl _) hr⟩
  ·exact o.elim
 ·exact o.elim
end MI
namespace SETH
def it:Nat->Nat->Nat
 |0,x=>x
 |n+1,x=>it n (5*x+1)
open PySem.SetTable
end SETH
namespace RCH
open L2 MI
noncomputable def yx(jg:SF):SE :=
 (sA (gq false 2 jg) (ao (sV 1) (ao (sV 0) bw)))
noncomputable def yh(jg:SF):SS :=
 (sy (sA yg (ao (sZ (p6 (sRg xn (ao (sA vh (ao (s2 gIx (sV 0) (sI 1)) bw)) bw)) t1 (yx jg) [0])) bw)))
noncomputable def mj:SS :=
 (du (sIf (sT (s2 hNe (s2 gIx (sV 4) (sV 11)) (s1 a8z (sI 1))))
 (sy (s2 p7 (sV 9) (sV 10)))
 sNx)
 (sIf (sT (s2 (as4 true) (sV 11) (sV 6)))
 (du (aaj (sC (.bl true)) (sV 6) (sV 11))
 (vp (sML a7s (sV 5) (ao (sA a2o (ao (sV 11) (ao (s2 p7 (sV 9) (sV 10)) bw))) bw))))
 sNx))
noncomputable def yc:ST :=
 (sT (s2 gLt (sV 7) (sA vh (ao (sV 5) bw))))
noncomputable def ug:SS :=
 (du (a7m (s2 gIx (sV 5) (sV 7)) (a4u 2 (jm (kN 8) (jm (kN 9) a5p))))
 (du (a3v (aid (sV 2) (s2 gIx (sV 3) (sV 8))) (a4u 2 (jm (kN 10) (jm (kN 11) a5p))) mj)
 (aeb 7 a1l (sI 1))))
noncomputable def a02:SS :=
 (du (a7m (sV 0) (a4u 3 (jm (kN 2) (jm (kN 3) (jm (kN 4) a5p)))))
 (du (kj 5 (sA a3z (ao (sA a2o (ao (sV 1) (ao (sC (.str "")) bw))) bw)))
 (du (kj 6 (s2 gD1 (sV 1) (sC (.bl true))))
 (du (kj 7 (sI 0))
 (du (sWh yc ug 100000)
 (sy (sC .non)))))))
noncomputable def a4r(jb:SF):SE :=
 (s2 a7h (sV 0) (sC .non))
noncomputable def a76(jb:SF):SS :=
 (sy (sA yg (ao (sZ (p6 (sIt (sA (gq false 1 jb) (ao (sV 0) bw))) t1 (a4r jb) [])) bw)))
noncomputable def yz:SE :=
 (sC (.bl false))
noncomputable def zb:SS :=
 (sIf (sOr (sT (s2 gGe (s2 gIx (s2 gIx (sV 0) (sI 2)) (sV 4)) (sI 0))) (a4m (s2 gIx (sV 1) (sV 4))))
 (ab1 (sC (.bl true)) (sV 1) (sV 3))
 sNx)
noncomputable def vy:SS :=
 (a3v (sIt (s2 gIx (s2 gIx (sV 0) (sI 1)) (sV 3))) (kN 4) zb)
noncomputable def vz:SS :=
 (a3v (sRg xn (ao (sA vh (ao (sV 1) bw)) bw)) (kN 3) vy)
noncomputable def a0y:SS :=
 (du (kj 1 (p6 (sIt (s2 gIx (sV 0) (sI 1))) t1 yz []))
 (du (a3v (sRg xn (ao (sA vh (ao (sV 1) bw)) bw)) (kN 2) vz)
 (sy (sV 1))))
end RCH
namespace MI
open L2
def Bz(j:Int):Prop:=0<=j/\j<2^62
instance (j:Int):Decidable (Bz j):=by unfold Bz;exact inferInstance
end MI
namespace STP
open L2 MI
noncomputable def a0h:SE :=
 (s2 (gIn false) (sV 0) (sV 1))
noncomputable def ye:SS :=
 (sy (a5v (sA a0g (ao (sV 1) (ao (sC (.ty "str")) bw))) (sA ano (ao (sZ (p6 (sIt (sV 1)) t1 a0h [0])) bw))))
noncomputable def a03(o6:SF):SS :=
 (sy (s2 gIx (sA (gq false 3 o6) (ao (sV 0) (ao (sV 1) (ao (sV 2) bw)))) (s1 a8z (sI 1))))
noncomputable def uz:SS :=
 (vp (sML a7s (sV 6) (ao (s2 gIx (s2 gIx (sV 4) (s2 gIx (sV 6) (s1 a8z (sI 1)))) (sMS abt (sV 3) (ao (sV 7) bw))) bw)))
noncomputable def wg:SS :=
 (du (a7m (sV 0) (a4u 3 (jm (kN 3) (jm (kN 4) (jm (kN 5) a5p)))))
 (du (kj 6 (sA a3z (ao (sV 1) bw)))
 (du (a3v (sIt (sV 2)) (kN 7) uz)
 (sy (sV 6)))))
end STP
namespace TPM
open PySem.W L2 HT MI
theorem ag6(t:Addr)(aC:Array Value)(n:Nat)(dd:Option Addr)(sl:Array (Option Value))(u:Tok) :
  Meets (Builtin.«tuple.__mul__» ⟨[.ref t,.int 1 u],[]⟩) (λ_ R s=>s.heap.get? t=some {cls:=.type "tuple",dict:=dd,data:=.seq aC n,slots:=sl}/\R (.ok (.ret (.ref t))) s) :=
 .of_wp λprog w A R s h=>by
  obtain⟨hp,g,d,tk,os⟩:=s;obtain⟨hl,h⟩:=h
  wp_walk
  exact⟨_,rfl,h⟩
def aqo(K:Fg):R2:=λx y H Q=>∃a xs,x=.ref a/\y=.int 1/\SqT K H a xs/\Q (.ref a) H
theorem aqp:OpR X (binaryOp .Mult) (aqo X.K):=by
 intro aA s σ H x y v u Q I rx ry h
 obtain⟨a,xs,rfl,rfl,ha,q⟩:=h;cases rx
 obtain⟨t,rfl⟩:=ry;obtain⟨its,r1,p1,_⟩:=I.tuple ha;obtain⟨⟨cls,dd,data,sl⟩,ho,hc,n,hd⟩:=id p1;simp only at hc hd;subst hc hd;exact dD (T := "tuple") (U := "int") (by decide) ⟨_,ho,rfl⟩ (λs'=>eI s' 1 t) a3q fJ cZ aby fk.lookup
  (cP cZ (eI s 1 t) fq (eX _ _) (a7i 1 t a its.toArray n dd sl)
   ⟨ho,rfl,⟨_,ho,rfl⟩,cP ft ⟨_,ho,rfl⟩ F.entry_tuple_mul (F.args_tuple_mul_2 _ _) (ag6 a its.toArray n dd sl t) ⟨ho,.ref a,H,I,rfl,q⟩⟩)
end TPM
namespace MI
open L2 TPM
noncomputable def ama(x y:D)(h:Hd):R D:=match x,y with
 |.tup xs,.int k=>if k=1 then .ok (.tup xs) h else als (.tup xs) (.int k) h
 |x,y=>als x y h
theorem a7u:a3y K ama (λx y H Q=>((rI CMul (λi j=>.int (i*j)) x y H Q\/atq x y H Q)\/alr K x y H Q)\/aqo K x y H Q):=by
 intro E ι H h x y dx dy Q rx ry hr o
 cases rx with
 |@tup a vs xs ha rs =>
  cases ry with
  |int k =>
   simp only[ama]at o
   split at o
   ·rename_i hc;subst hc;exact .inr ⟨a,vs,rfl,rfl,SqT.of ha,ans o (.tup ha rs) hr⟩
   ·exact .inl (aad _ _ _ _ _ _ _ _ _ (.tup ha rs) (.int k) hr o)
  |_=>exact o.elim
 |int i=>exact .inl (aad _ _ _ _ _ _ _ _ _ (.int i) ry hr o)
 |ref e=>exact .inl (aad _ _ _ _ _ _ _ _ _ (.ref e) ry hr o)
 |_=>exact o.elim
end MI
namespace MI
open L2
abbrev S(l:List Nat):Str:=⟨l.toArray⟩
theorem a6b(l:List Nat):(S l).cps.toList=l:=by simp
theorem ac6(l:List Nat):(S l).length=l.length:=by simp[Str.length]
theorem amb(x:Str):S x.cps.toList=x:=by cases x;simp
theorem aqq(a b:List Nat):S a++S b=S (a++b):=by rw[<-amb (S a++S b),ayw]
theorem az5(h:S a=S b):a=b:=by
 have:=aN (λx:Str=>x.cps.toList) h
 simpa using this
theorem az6(a b:List Nat):(S a == S b)=decide (a=b):=by
 by_cases h:a=b
 ·subst h;simp
 ·have:¬ S a=S b:=λz=>h (az5 z)
  simp[h]
section
variable{h:Hd}{a b l:List Nat}{i:Nat}{c:Nat}
theorem as6(hl:l.length<=LINE)(e:l[i]? = some c):gIx (.str (S l)) (.int (i:Nat)) h=.ok (.str (S [c])) h:=by
 unfold gIx;simp only[ac6,aR hl,a6b,zx e]
theorem adl(hl:a.length+b.length<=LINE):p7 (.str (S a)) (.str (S b)) h=.ok (.str (S (a++b))) h:=by
 unfold p7;simp only[ac6,aR hl,aqq]
theorem a7n(hl:l.length<=LINE):vh [.str (S l)] h=.ok (.int l.length) h:=by
 unfold vh;simp only[ac6,aR hl]
theorem av4(k:Nat)(hl:l.length<=LINE):adg (.str (S l)) none (some (k:Int)) h=.ok (.str (S (l.take k))) h:=by
 show gSl (.str (S l)) none (some (k:Int)) h=_;unfold gSl;simp only[ac6,aR hl,a6b,ahq]
theorem ac8(k:Nat)(hl:l.length<=LINE):adg (.str (S l)) (some (k:Int)) none h=.ok (.str (S (l.drop k))) h:=by
 show gSl (.str (S l)) (some (k:Int)) none h=_;unfold gSl;simp only[ac6,aR hl,a6b,abn]
end
section
variable{h:Hd}{i j:Int}{xs ys:List D}
theorem a86:gIx (.tup xs) (.int i) h=(match atI xs i with|some d=>.ok d h|none=>.no):=rfl
theorem a9i:gIx (.rol xs) (.int i) h=(match atI xs i with|some d=>.ok d h|none=>.no):=rfl
theorem a9j:gIx (.ref k) (.int i) h=(match a3c (.ref k) h with|some xs=>(match atI xs i with|some d=>.ok d h|none=>.no)|none=>.no):=rfl
theorem a5n:vh [.tup xs] h=.ok (.int xs.length) h:=rfl
theorem a3d:vh [.rol xs] h=.ok (.int xs.length) h:=rfl
theorem a8l:vh [.ref k] h=(match a3c (.ref k) h with|some xs=>.ok (.int xs.length) h|none=>.no):=rfl
theorem zu:p7 (.int i) (.int j) h=.ok (.int (i+j)) h:=rfl
theorem a2e:a1l (.int i) (.int j) h=.ok (.int (i+j)) h:=rfl
open Classical in
theorem a7j:a3t (.int i) (.int j) h=if CMul i j then .ok (.int (i*j)) h else .no:=by unfold a3t;rfl
theorem qm(b:Bool):tru (.bl b) h=.ok b h:=rfl
theorem aan:tru (.int i) h=.ok (i != 0) h:=rfl
theorem aao:tru (.rol xs) h=.ok (!xs.isEmpty) h:=rfl
theorem aap:tru (.tup xs) h=.ok (!xs.isEmpty) h:=rfl
theorem aaq:tru .non h=.ok false h:=rfl
theorem ag7:hEq (.int i) (.int j) h=.ok (.bl (i == j)) h:=rfl
theorem ag8:hNe (.int i) (.int j) h=.ok (.bl (!(i == j))) h:=rfl
theorem aqr(a b:Str):hNe (.str a) (.str b) h=.ok (.bl (!(a == b))) h:=rfl
theorem amc(a b:Bool):hEq (.bl a) (.bl b) h=.ok (.bl (a == b)) h:=rfl
theorem amd(a b:Bool):hNe (.bl a) (.bl b) h=.ok (.bl (!(a == b))) h:=rfl
theorem aey(x:D):gIs x .non h=.ok (.bl (a5z x)) h:=by cases x<;>rfl
theorem a4f(x:D):a7h x .non h=.ok (.bl (!a5z x)) h:=by cases x<;>rfl
theorem ame(a b:Bool):gIs (.bl a) (.bl b) h=.ok (.bl (a == b)) h:=rfl
theorem a7v(a b:Bool):a7h (.bl a) (.bl b) h=.ok (.bl (a != b)) h:=rfl
theorem axp:a5z (.int i)=false:=rfl
theorem axq(x:Str):a5z (.str x)=false:=rfl
theorem axr:a5z .non=true:=rfl
theorem axs:a5z (.tup xs)=false:=rfl
end
theorem az7(n:Nat):rng 0 n=(List.range n).map λi:Nat=>D.int (i:Nat):=by
 unfold rng;exact eF λi _=>by rw[Int.zero_add]
theorem az8(a:Int)(n:Nat):rng a n=(List.range n).map λi:Nat=>D.int (a+(i:Nat)):=rfl
theorem adm(h:n<=LINE):B62 (n:Int):=by
 have:n<=16777216:=h
 unfold B62;omega
theorem a9k(h:Hd)(z:n<=LINE):xn [.int (n:Nat)] h=.ok ⟨(List.range n).map λi:Nat=>D.int (i:Nat),λ_=>True⟩ h:=by
 unfold xn;simp only[adm z,dk,dG,az7]
theorem av5(h:Hd)(za:a<=LINE)(z:n<=LINE):a91 [.int (a:Nat),.int (n:Nat)] h=.ok ⟨(List.range (n-a)).map λi:Nat=>D.int ((a+i:Nat)),λ_=>True⟩ h:=by
 unfold a91;simp only[adm z,adm za,and_self,dk,az8];rw[show((n:Int)-(a:Int)).toNat=n-a by omega]
 congr 2
theorem az9(e:f τ h=.ok d h):ao f bw τ h=.ok [d] h:=by unfold ao bw;rw[e];rfl
theorem aca(e:f τ h=.ok c h)(e':g τ h=.ok d h):ao f (ao g bw) τ h=.ok [c,d] h:=by unfold ao;rw[e,dq,e',dq];rfl
theorem aar(e:f τ h=.ok (.int (n:Nat)) h)(z:n<=LINE):sRg xn (ao f bw) τ h=.ok ⟨(List.range n).map λi:Nat=>D.int (i:Nat),λ_=>True⟩ h:=by
 unfold sRg;rw[az9 e,dq];exact a9k h z
theorem aiw(e':g τ h=.ok (.int (a:Nat)) h)(e:f τ h=.ok (.int (n:Nat)) h)(za:a<=LINE)(z:n<=LINE):sRg a91 (ao g (ao f bw)) τ h=.ok ⟨(List.range (n-a)).map λi:Nat=>D.int ((a+i:Nat)),λ_=>True⟩ h:=by
 unfold sRg;rw[aca e' e,dq];exact av5 h za z
theorem bf(e:τ[i]? = some (some d)):sV i τ h=.ok d h:=by unfold sV;rw[e]
theorem vq{fi:SI}{t:D->Option Sd}{fe:SE}{ix:List Nat}{τ:Sd}{h:Hd}{α:Type}(g F:α->D)(xs:List α)(e:fi τ h=.ok ⟨xs.map g,λ_=>True⟩ h)(z:xs.length<=LINE)
  (st:∀x∈xs,a92 t fe (frs' ix τ) (g x) h=.ok (F x) h):p6 fi t fe ix τ h=.ok (.ref h.length) (h++[.lst (xs.map F)]):=by
 unfold p6;rw[e,dq];dsimp only;rw[aR (by rw[ay];exact z),ac4 g F st]
 rfl
theorem xj(fe:SE)(r:Sd)(x:D)(h:Hd):a92 t1 fe r x h=fe (some x::r) h:=rfl
theorem amf(i:Nat)(ix:List Nat)(τ:Sd):frs' (i::ix) τ=(τ[i]?).join::frs' ix τ:=rfl
theorem aqs(τ:Sd):frs' [] τ=[]:=rfl
section
variable{f k f1 f2 f3:SE}{c c1 c2:ST}{g p q:SS}{τ τ1:Sd}{h h1 h2 h3 h4:Hd}{a b d v:D}{i:Nat}{t u:Bool}
theorem b0b(d:D)(τ:Sd)(h:Hd):sC d τ h=.ok d h:=rfl
theorem b1v(e3:G [] h=.ok v h1):sA G bw τ h=.ok v h1:=e3
theorem a09(e1:f τ h=.ok a h1)(e3:G [a] h1=.ok v h2):sA G (ao f bw) τ h=.ok v h2:=by
 have:ao f bw τ h=.ok [a] h1:=by unfold ao;rw[e1];rfl
 unfold sA;rw[this,dq,e3]
theorem uy(e1:f τ h=.ok a h1)(e2:k τ h1=.ok b h2)(e3:G [a,b] h2=.ok v h3):sA G (ao f (ao k bw)) τ h=.ok v h3:=by
 have:ao f (ao k bw) τ h=.ok [a,b] h2:=by unfold ao;rw[e1,dq,e2];rfl
 unfold sA;rw[this,dq,e3]
theorem akf(e0:f1 τ h=.ok d h1)(e1:f τ h1=.ok a h2)(e2:k τ h2=.ok b h3)(e3:G [d,a,b] h3=.ok v h4):sA G (ao f1 (ao f (ao k bw))) τ h=.ok v h4:=by
 have:ao f1 (ao f (ao k bw)) τ h=.ok [d,a,b] h3:=by unfold ao;rw[e0,dq,e1,dq,e2];rfl
 unfold sA;rw[this,dq,e3]
theorem qp(e:f τ h=.ok d h1):du (kj i f) g τ h=g (τ.set i (some d)) h1:=by
 rw[yw];unfold kj;rw[e];rfl
theorem acw(e:f τ h=.ok d h1):kj i f τ h=.nx (τ.set i (some d)) h1:=by
 unfold kj;rw[e];rfl
theorem mq(e:p τ h=.nx τ1 h1):du p g τ h=g τ1 h1:=by rw[yw,e];rfl
theorem a6c(e:p τ h=.rt d h1):du p g τ h=.rt d h1:=by rw[yw,e];rfl
theorem ifT(e:c τ h=.ok true h1):sIf c p q τ h=p τ h1:=by unfold sIf;rw[e];rfl
theorem ifF(e:c τ h=.ok false h1):sIf c p q τ h=q τ h1:=by unfold sIf;rw[e];rfl
theorem ifN(e:c τ h=.ok false h1):du (sIf c p sNx) g τ h=g τ h1:=by rw[yw,ifF e];rfl
theorem tof(e:f τ h=.ok (.bl t) h1):sT f τ h=.ok t h1:=by unfold sT;rw[e];rfl
theorem zc(e:f τ h=.ok d h1)(e':tru d h1=.ok t h2):a4m f τ h=.ok t h2:=by unfold a4m;rw[e,dq,e']
theorem aez(e:c1 τ h=.ok true h1)(e':c2 τ h1=.ok t h2):a8c c1 c2 τ h=.ok t h2:=by unfold a8c;rw[e,dq,aR rfl,e']
theorem amg(e:c1 τ h=.ok false h1):a8c c1 c2 τ h=.ok false h1:=by unfold a8c;rw[e,dq,bE (by simp)]
theorem orT(e:c1 τ h=.ok true h1):sOr c1 c2 τ h=.ok true h1:=by unfold sOr;rw[e,dq,aR rfl]
theorem orF(e:c1 τ h=.ok false h1)(e':c2 τ h1=.ok t h2):sOr c1 c2 τ h=.ok t h2:=by unfold sOr;rw[e,dq,bE (by simp),e']
theorem av6(e:c τ h=.ok t h1):a6y c τ h=.ok (!t) h1:=by unfold a6y;rw[e];rfl
theorem acx(e:c τ h=.ok true h1):a6y c τ h=.ok false h1:=av6 e
theorem aza(e:c τ h=.ok false h1):a6y c τ h=.ok true h1:=av6 e
theorem ud(e:f τ h=.ok d h1):sy f τ h=.rt d h1:=by unfold sy;rw[e];rfl
theorem aqt(e:f τ h=.ok (.bl true) h1)(e':k τ h1=.ok d h2):a5v f k τ h=.ok d h2:=by unfold a5v;rw[e,dq];exact e'
theorem a1u(e1:f τ h=.ok d h1)(l:isL d h1=true)(e2:A τ h1=.ok ds h2)(e3:G d ds h2=.ok v h3):vp (sML G f A) τ h=.nx τ h3:=by
 unfold vp sML;rw[e1,dq,aR l,e2,dq,e3];rfl
theorem azb(e1:f τ h=.ok d h1)(l:isL d h1=true)(e2:A τ h1=.ok ds h2)(e3:G d ds h2=.ok v h3):sML G f A τ h=.ok v h3:=by
 unfold sML;rw[e1,dq,aR l,e2,dq,e3]
theorem arg1(e:f τ h=.ok d h1):ao f bw τ h=.ok [d] h1:=by unfold ao bw;rw[e];rfl
theorem u6(e1:f τ h=.ok a h1)(e2:k τ h1=.ok b h2)(e3:G a b h2=.ok v h3):s2 G f k τ h=.ok v h3:=by
 unfold s2;rw[e1,dq,e2,dq,e3]
theorem a1n(e:τ[i]? = some (some a))(e3:G a d h=.ok v h3):s2 G (sV i) (sC d) τ h=.ok v h3:=u6 (bf e) (b0b _ _ _) e3
theorem ckk:sC d τ h=.ok d h:=rfl
theorem tvc(e:τ[i]? = some (some a))(e3:G a d h=.ok (.bl t) h3):sT (s2 G (sV i) (sC d)) τ h=.ok t h3:=tof (u6 (bf e) (b0b _ _ _) e3)
theorem t2s(e1:f τ h=.ok a h1)(e2:k τ h1=.ok b h2)(e3:G a b h2=.ok (.bl t) h3):sT (s2 G f k) τ h=.ok t h3:=tof (u6 e1 e2 e3)
theorem ifr(e:c τ h=.ok true h1)(e2:f τ h1=.ok d h2):sIf c (sy f) q τ h=.rt d h2:=aw (ifT e) (ud e2)
theorem ets{rr:R D}(e:f τ h=.ok d h1)(e2:toR (g (τ.set i (some d)) h1)=rr):toR (du (kj i f) g τ h)=rr:=by rw[qp e,e2]
theorem eti{rr:R D}(e:c τ h=.ok false h1)(e2:toR (g τ h1)=rr):toR (du (sIf c p sNx) g τ h)=rr:=by rw[ifN e,e2]
theorem etr{fa fb:Fl}{rr:R D}(e:fa=fb)(e2:toR fb=rr):toR fa=rr:=by rw[e,e2]
theorem zf(e1:f τ h=.ok a h1)(e3:G a h1=.ok v h2):s1 G f τ h=.ok v h2:=by
 unfold s1;rw[e1,dq,e3]
theorem aix(ht:τ[i]? = some (some a))(e:f τ h=.ok b h1)(e2:G a b h1=.ok d h2):aeb i G f τ h=.nx (τ.set i (some d)) h2:=by
 unfold aeb;rw[ht];dsimp only;rw[e,a2w,e2];rfl
theorem a7o(e:f τ h=.ok d h1)(e2:G d τ h1=.nx τ1 h2):a7m f G τ h=.nx τ1 h2:=by
 unfold a7m;rw[e,a2w,e2]
theorem ag9(e1:f1 τ h=.ok v h1)(e2:f2 τ h1=.ok a h2)(e3:f3 τ h2=.ok b h3)(e4:put a b v h3=some h4):ab1 f1 f2 f3 τ h=.nx τ h4:=by
 unfold ab1;rw[e1,a2w,e2,a2w,e3,a2w,e4]
theorem av7(e1:f1 τ h=.ok v h1)(e2:f2 τ h1=.ok a h2)(e3:f3 τ h2=.ok b h3)(e4:as5 a b v h3=some h4):aaj f1 f2 f3 τ h=.nx τ h4:=by
 unfold aaj;rw[e1,a2w,e2,a2w,e3,a2w,e4]
theorem a4x{fi:SI}{G:SG}{b:SS}{xs:List D}{ck:Hd->Prop}(e:fi τ h=.ok ⟨xs,ck⟩ h1):du (a3v fi G b) g τ h=thn (forL ck G b xs τ h1) g:=by
 rw[yw];unfold a3v;rw[e];rfl
theorem a93(e:f τ h=.ok d h1)(e2:ahx d h1=.ok ⟨xs,ck⟩ h1):sIt f τ h=.ok ⟨xs,ck⟩ h1:=by
 unfold sIt;rw[e,dq,e2]
theorem a3r(e:h[i]? = some (.lst xs))(z:xs.length<LINE):a7s (.ref i) [a] h=.ok .non (h.set i (.lst (xs++[a]))):=by
 unfold a7s;simp only[e,aR z]
theorem amh(e:h[i]? = some (.lst xs))(hj:j<xs.length):put (.ref i) (.int (j:Nat)) v h=some (h.set i (.lst (xs.set j v))):=by
 have:ixN xs.length (j:Int)=some j:=by unfold ixN;rw[aR (by omega),aR (by omega)];simp
 unfold put;simp only[e,this]
theorem a3s(e:h[i]? = some (.lst xs))(hj:xs[j]? = some y):gIx (.ref i) (.int (j:Nat)) h=.ok y h:=by
 rw[a9j];unfold a3c;simp only[e,zx hj]
theorem as7(hj:xs[j]? = some y):gIx (.rol xs) (.int (j:Nat)) h=.ok y h:=by
 rw[a9i];simp only[zx hj]
theorem a5q(hj:xs[j]? = some y):gIx (.tup xs) (.int (j:Nat)) h=.ok y h:=by
 rw[a86];simp only[zx hj]
theorem a4g(e:h[i]? = some (.lst xs)):vh [.ref i] h=.ok (.int (xs.length:Nat)) h:=by
 rw[a8l];unfold a3c;simp only[e]
theorem div_ii(c:0<y/\y<1073741824):ab2 (.int x) (.int y) h=.ok (.int (x / y)) h:=by unfold ab2;exact aR c
theorem a9l(c:0<y):a7g (.int x) (.int y) h=.ok (.int (x%y)) h:=by unfold a7g;exact aR c
theorem b0c(c:y<x):gGt (.int x) (.int y) h=.ok (.bl true) h:=by unfold gGt;simp only[c,gQ]
theorem b0d(c:¬ y<x):gGt (.int x) (.int y) h=.ok (.bl false) h:=by unfold gGt;simp only[c,decide_false]
theorem akg(c:x<y):gLt (.int x) (.int y) h=.ok (.bl true) h:=by unfold gLt;simp only[c,gQ]
theorem ao2(c:¬ x<y):gLt (.int x) (.int y) h=.ok (.bl false) h:=by unfold gLt;simp only[c,decide_false]
theorem a6d(c:x=y):hEq (.int x) (.int y) h=.ok (.bl true) h:=by rw[ag7,c,dS]
theorem a6e(c:¬ x=y):hEq (.int x) (.int y) h=.ok (.bl false) h:=by rw[ag7,cp.mpr c]
theorem adn(c:x=y):hNe (.int x) (.int y) h=.ok (.bl false) h:=by rw[ag8,c,dS];rfl
theorem av8(c:¬ x=y):hNe (.int x) (.int y) h=.ok (.bl true) h:=by rw[ag8,cp.mpr c];rfl
theorem a8m(x:Int):a8z (.int x) h=.ok (.int (-x)) h:=rfl
theorem af0(x y:Int):MI.acs (.int x) (.int y) h=.ok (.int (x-y)) h:=rfl
theorem fu(h:n<=1000000):n<=LINE:=by show n<=16777216;omega
theorem a2x(h:n<=1000000):n<LINE:=by show n<16777216;omega
theorem aqu:MI.a2o [a,b] h=.ok (.tup [a,b]) h:=by unfold MI.a2o;rw[aR (fu (by simp))]
theorem as8:MI.a2o [a,b,v] h=.ok (.tup [a,b,v]) h:=by unfold MI.a2o;rw[aR (fu (by simp))]
end
end MI
namespace L2
open PyProof.Rows
theorem af1(x:Array Nat):∀(n:Nat) (a:Array Nat),(List.replicate n x).foldl (·++·) a=(a.toList++(List.replicate n x.toList).flatten).toArray
 |0,a=>by simp
 |n+1,a=>by rw[cA,List.foldl_cons,af1 x n];simp[cA]
theorem ami{α:Type}(n:Nat)(l:List α):(List.replicate n l).flatten.length=n*l.length:=by simp
def av9:R2:=λx y H Q=>∃z k,x=.str z/\y=.int k /\ -1000000<=k/\k<=1000000/\z.length*k.toNat<=sizeLine/\Q (.str ⟨((List.replicate k.toNat z.cps.toList).flatten).toArray⟩) H
theorem aqv{X:Cx}:OpR X (binaryOp .Mult) av9:=by
 intro aA s σ H x y v u Q I rx ry ⟨z,k,ex,ey,k1,k2,hz,q⟩
 subst ex ey;obtain⟨t,rfl⟩:=rx;obtain⟨t',rfl⟩:=ry;refine P.mul_str (by rw[bJ (by omega),bJ (by omega)];rfl) (λh1 h2=>?_) (λ_ _=>?_) ?_
 ·have hs:=dW;have hx:z.length<=sizeLine:=by
   have:1<=k.toNat:=by omega
   exact cq (Nat.le_mul_of_pos_right _ this) hz
  have:(1000000000:Int)<=(2^63-1) / k:=by
   rw[Int.le_ediv_iff_mul_le (by omega)]
   omega
  omega
 ·exact bJ (Nat.not_lt.mpr hz)
 ·split
  ·rename_i h1;have:k.toNat=0:=by omega
   refine⟨by decide,.str _,H,I.tok _,⟨_,rfl⟩,?_⟩
   rw[this]at q;exact q
  ·split
   ·rename_i h1 h2;rw[eO]at h2;refine⟨.str z,H,I,⟨_,rfl⟩,?_⟩;have e:(⟨((List.replicate k.toNat z.cps.toList).flatten).toArray⟩:Str)=z:=by
     rcases h2 with h2|h2
     ·have:k=1:=by simpa using h2
      subst this;simp
     ·have h0:z.length=0:=by simpa using h2
      have:z.cps.toList=[]:=gv.mp (by rw[dN];exact h0)
      rw[this];obtain⟨c⟩:=z;have:c = #[]:=by simpa using this
      subst this;simp
    rw[e]at q;exact q
   ·have e:(⟨(List.replicate k.toNat z.cps).foldl (·++·) #[]⟩:Str)=⟨((List.replicate k.toNat z.cps.toList).flatten).toArray⟩:=by rw[af1];simp
    rw[e];refine⟨?_,.str _,H,I.tok _,⟨_,rfl⟩,q⟩;show((List.replicate k.toNat z.cps.toList).flatten).toArray.size<=_;have hl:((List.replicate k.toNat z.cps.toList).flatten).toArray.size=z.length*k.toNat:=by
     rw[aK,ami];exact fS _ _
    omega
def azc(i j:Int):Prop:=i.natAbs<2^1000/\j.natAbs<2^1000
theorem aqw{X:Cx}:OpR X (binaryOp .Mult) (rI azc λi j=>.int (i*j)):=opI λ_ _ _ _ _ _ _ hc q=>P.mul_int q (IntMulOk.of_le (intBits_le_iff.mpr hc.1) (intBits_le_iff.mpr hc.2) (by omega))
end L2
namespace MI
open L2 TPM
open Classical in
noncomputable def acb(x y:D)(h:Hd):R D:=match x,y with
 |.str z,.int k=>if (-1000000<=k/\k<=1000000)/\z.length*k.toNat<=LINE then .ok (.str ⟨((List.replicate k.toNat z.cps.toList).flatten).toArray⟩) h else .no
 |.int i,.int j=>if azc i j then .ok (.int (i*j)) h else ama (.int i) (.int j) h
 |x,y=>ama x y h
theorem amj{K:Fg}:a3y K acb (λx y H Q=>((((rI CMul (λi j=>.int (i*j)) x y H Q\/atq x y H Q)\/alr K x y H Q)\/aqo K x y H Q)\/rI azc (λi j=>.int (i*j)) x y H Q)\/av9 x y H Q):=by
 intro E ι H h x y dx dy Q rx ry hr o
 cases rx with
 |str z =>
  cases ry with
  |int k =>
   simp only[acb]at o
   split at o
   ·rename_i hc;exact .inr ⟨z,k,rfl,rfl,hc.1.1,hc.1.2,ll hc.2,ans o (.str _) hr⟩
   ·exact o.elim
  |_=>exact o.elim
 |int i =>
  cases ry with
  |int j =>
   simp only[acb]at o
   split at o
   ·rename_i hc;exact .inl (.inr ⟨i,j,rfl,rfl,hc,ans o (.int _) hr⟩)
   ·exact .inl (.inl (a7u _ _ _ _ _ _ _ _ _ (.int i) (.int j) hr o))
  |_=>exact o.elim
 |@tup a vs xs ha rs=>exact .inl (.inl (a7u _ _ _ _ _ _ _ _ _ (.tup ha rs) ry hr o))
 |ref e=>exact .inl (.inl (a7u _ _ _ _ _ _ _ _ _ (.ref e) ry hr o))
 |_=>first|exact o.elim|exact .inl (.inl (a7u _ _ _ _ _ _ _ _ _ (by assumption) ry hr o))
theorem aqx{X:Cx}{E:XD}{a b:Expr}{fa fb:SE}{pos:Pos}(ha:ME X E a fa)(hb:ME X E b fb):ME X E (.BinOp a .Mult b pos) (s2 acb fa fb):=ad9 (((((an6.or atr).or aqd).or aqp).or aqw).or aqv) amj ha hb
open Classical in
theorem ava{l:List Nat}{k:Nat}{h:Hd}(hk:k<=1000)(hl:l.length<=1000):acb (.str (S l)) (.int (k:Nat)) h=.ok (.str (S (List.replicate k l).flatten)) h:=by
 have:acb (.str (S l)) (.int (k:Nat)) h=if (-1000000<=(k:Int)/\(k:Int)<=1000000)/\(S l).length*(k:Int).toNat<=LINE then .ok (.str ⟨((List.replicate (k:Int).toNat (S l).cps.toList).flatten).toArray⟩) h else .no:=rfl
 have hz:(S l).length*(k:Int).toNat<=LINE:=by
  rw[ac6,dG];exact fu (cq (Nat.mul_le_mul hl hk) (by omega))
 rw[this,aR ⟨by omega,hz⟩,dG]
end MI
namespace CAS
open L2 MI
noncomputable def a0a(ak:SF):SS :=
 (vp (sML a7s (sV 3) (ao (acu (sT (s2 hEq (sA (gq false 2 ak) (ao (sV 0) (ao (sI 3) bw))) (sI 0))) (sA (gq false 2 ak) (ao (sV 0) (ao (sI 6) bw))) (s1 a8z (sI 1))) bw)))
noncomputable def v7(ak:SF):SE :=
 (sA (gq false 2 ak) (ao (sV 1) (ao (sV 2) bw)))
noncomputable def a08(ak:SF):SE :=
 (acu (a8c (sT (s2 gLt (s2 gIx (sV 2) (sV 0)) (sI 0))) (sT (s2 gLe (sV 0) (sV 3)))) (s2 acs (sV 1) (sI 1)) (sV 0))
noncomputable def xu(ak:SF):SE :=
 (sV 1)
noncomputable def v8(ak:SF):SS :=
 (du (kj 7 (sZ (p6 (sIt (sV 1)) t1 (v7 ak) [0,2])))
 (du (sIf (sT (s2 gGt (sV 5) (sI 0)))
 (kj 7 (sZ (p6 (sIt (sV 7)) t1 (a08 ak) [2,3,4])))
 sNx)
 (du (sIf (a8c (sT (s2 hEq (sV 5) (sI 1))) (sT (s2 hEq (sV 4) (s2 acs (sV 2) (sI 1)))))
 (kj 7 (sZ (p6 (sIt (sV 7)) t1 (xu ak) [4])))
 sNx)
 (vp (sML a7s (sV 6) (ao (sV 7) bw))))))
noncomputable def a8n(ak:SF):SS :=
 (du (kj 3 (sA a3z (ao (s1 a8z (sI 1)) bw)))
 (du (a3v (sRg a91 (ao (sI 1) (ao (sV 2) bw))) (kN 4) (a0a ak))
 (du (kj 5 (sA (gq false 2 ak) (ao (sV 0) (ao (sI 3) bw))))
 (du (kj 6 (sA a3z bw))
 (du (a3v (sRg xn (ao (sV 2) bw)) (kN 4) (v8 ak))
 (sy (sA a2o (ao (sV 6) (ao (sV 3) bw)))))))))
noncomputable def a2f(ak:SF):SE :=
 (s1 a8z (sI 1))
noncomputable def a94(ak:SF):SE :=
 (s2 gIx (sV 2) (sA (gq false 2 ak) (ao (sV 1) (ao (sA vh (ao (sV 2) bw)) bw))))
noncomputable def a2g(ak:SF):SE :=
 (s1 a8z (sI 1))
noncomputable def v9(ak:SF):SS :=
 (du (kj 9 (sMS adb (sV 1) (ao (sV 8) bw)))
 (du (sIf (sT (s2 gLt (s2 gIx (s2 gIx (sV 3) (sV 7)) (sV 9)) (sI 0)))
 (du (ab1 (sA vh (ao (sV 3) bw)) (s2 gIx (sV 3) (sV 7)) (sV 9))
 (du (vp (sML a7s (sV 3) (ao (p6 (sIt (sV 1)) t1 (a2g ak) []) bw)))
 (vp (sML a7s (sV 4) (ao (s1 a8z (sI 1)) bw)))))
 sNx)
 (kj 7 (s2 gIx (s2 gIx (sV 3) (sV 7)) (sV 9)))))
noncomputable def a0b(ak:SF):SS :=
 (du (kj 6 (sMS abu (sC (.str "")) (ao (sZ (p6 (sRg xn (ao (s2 p7 (sI 1) (sA (gq false 2 ak) (ao (sV 0) (ao (sI 4) bw)))) bw)) t1 (a94 ak) [0,1])) bw)))
 (du (sIf (a8c (sT (s2 (agm true) (sV 2) (sZ (sA a3z bw)))) (sT (s2 hEq (sA (gq false 2 ak) (ao (sV 0) (ao (sI 2) bw))) (sI 0))))
 (kj 6 (a4y (s2 p7 (s2 gIx (sV 2) (sA (gq false 2 ak) (ao (sV 0) (ao (sA vh (ao (sV 2) bw)) bw)))) (sV 6)) oN (oS (sI 6))))
 sNx)
 (du (vp (sML a7s (sV 2) (ao (sV 6) bw)))
 (du (kj 7 (sI 0))
 (du (a3v (sIt (sV 6)) (kN 8) (v9 ak))
 (ab1 (sA (gq false 2 ak) (ao (sV 0) (ao (sI 6) bw))) (sV 4) (sV 7)))))))
noncomputable def a0c(ak:SF):SS :=
 (du (kj 7 (sA (gq false 2 ak) (ao (sV 0) (ao (sA vh (ao (sV 3) bw)) bw))))
 (du (kj 9 (sA (gq false 2 ak) (ao (sV 0) (ao (sA vh (ao (sV 1) bw)) bw))))
 (sIf (sT (s2 gLt (s2 gIx (s2 gIx (sV 3) (sV 7)) (sV 9)) (sI 0)))
 (ab1 (s2 p7 (sI 1) (sA (gq false 2 ak) (ao (sV 0) (ao (s2 acs (sA vh (ao (sV 3) bw)) (sI 1)) bw)))) (s2 gIx (sV 3) (sV 7)) (sV 9))
 sNx)))
noncomputable def a4z(ak:SF):SE :=
 (acu (sT (s2 gGe (sV 0) (sI 0))) (sV 0) (sA vh (ao (sV 1) bw)))
noncomputable def a2h(ak:SF):SE :=
 (sZ (p6 (sIt (sV 0)) t1 (a4z ak) [1]))
noncomputable def a5a(ak:SF):SE :=
 (sA vh (ao (sV 1) bw))
noncomputable def a3e(ak:SF):SS :=
 (du (kj 2 (sA a3z bw))
 (du (kj 3 (sA a3z (ao (p6 (sIt (sV 1)) t1 (a2f ak) []) bw)))
 (du (kj 4 (sA a3z (ao (s1 a8z (sI 1)) bw)))
 (du (a3v (sRg xn (ao (s2 p7 (sI 1) (sA (gq false 2 ak) (ao (sV 0) (ao (sI 5) bw)))) bw)) (kN 5) (a0b ak))
 (du (a3v (sRg xn (ao (sA (gq false 2 ak) (ao (sV 0) (ao (sI 3) bw))) bw)) (kN 5) (a0c ak))
 (du (kj 10 (sZ (p6 (sIt (sV 3)) t1 (a2h ak) [3])))
 (sy (sA a2o (ao (sV 2) (ao (sZ (s2 p7 (sV 10) (sZ (sA a3z (ao (sZ (p6 (sIt (sV 1)) t1 (a5a ak) [3])) bw))))) (ao (sZ (s2 p7 (sV 4) (sZ (sA a3z (ao (s1 a8z (sI 1)) bw))))) bw)))))))))))
noncomputable def a1v:SS :=
 (sIf (sT (s2 (gIn true) (sV 5) (sV 3)))
 (vp (sML a7s (sV 3) (ao (sV 5) bw)))
 sNx)
noncomputable def a4h:ST :=
 (sT (s2 gLt (sV 4) (sA vh (ao (sV 3) bw))))
noncomputable def a1w:SS :=
 (du (a3v (sIt (s2 gIx (sV 1) (s2 gIx (sV 3) (sV 4)))) (kN 5) a1v)
 (aeb 4 a1l (sI 1)))
noncomputable def a4i:SE :=
 (sML a8j (sV 1) (ao (sV 0) bw))
noncomputable def a1x:SE :=
 (sA yg (ao (sZ (p6 (sIt (s2 gIx (sV 1) (sV 0))) t1 a4i [2])) bw))
noncomputable def a1y:SE :=
 (s2 gIx (sV 1) (sV 0))
noncomputable def a6f:SS :=
 (du (kj 3 (sA a3z (ao (sI 0) bw)))
 (du (kj 4 (sI 0))
 (du (sWh a4h a1w 100000)
 (du (kj 3 (sA a5m (ao (sV 3) bw)))
 (du (kj 6 (sA yg (ao (sZ (p6 (sIt (sV 3)) t1 a1x [1,3])) bw)))
 (sy (sA a2o (ao (sV 0) (ao (sV 6) (ao (sA yg (ao (sZ (p6 (sIt (sV 3)) t1 a1y [2])) bw)) bw))))))))))
noncomputable def a6g(ak:SF)(jw:SF)(sr:SF)(kh:SF)(jk:SF):SE :=
 (s2 gIx (sV 2) (sA (gq false 2 ak) (ao (sV 1) (ao (sA vh (ao (sV 2) bw)) bw))))
noncomputable def zg(ak:SF)(jw:SF)(sr:SF)(kh:SF)(jk:SF):SS :=
 (du (kj 9 (s2 gIx (sV 7) (sA (gq false 2 ak) (ao (sV 0) (ao (sA vh (ao (sV 7) bw)) bw)))))
 (du (kj 10 (sA (gq false 2 ak) (ao (sV 0) (ao (sI 6) bw))))
 (du (sIf (sT (s2 hEq (sV 10) (sI 0)))
 (kj 9 (a4y (sV 9) oN (oS (sA (gq false 2 ak) (ao (sV 0) (ao (sA vh (ao (sV 9) bw)) bw))))))
 sNx)
 (du (sIf (sT (s2 hEq (sV 10) (sI 1)))
 (kj 9 (s2 gIx (sV 3) (sA (gq false 2 ak) (ao (sV 0) (ao (sA vh (ao (sV 3) bw)) bw)))))
 sNx)
 (aeb 6 a1l (sV 9))))))
noncomputable def a4s(ak:SF)(jw:SF)(sr:SF)(kh:SF)(jk:SF):SS :=
 (du (kj 1 (sA (gq false 2 ak) (ao (sV 0) (ao (sI 4) bw))))
 (du (kj 2 (sA (gq false 2 ak) (ao (sV 0) (ao (sI 8) bw))))
 (du (kj 3 (sA (gq false 1 jk) (ao (sV 0) bw)))
 (du (sIf (sT (s2 hEq (sV 1) (sI 0)))
 (du (a7m (sA (gq false 3 kh) (ao (sV 0) (ao (sV 3) (ao (s2 p7 (sI 1) (sA (gq false 2 ak) (ao (sV 0) (ao (s2 gIx (sA a2o (ao (sI 8) (ao (sI 32) bw))) (s2 ab2 (sV 2) (sI 7))) bw)))) bw)))) (a4u 2 (jm (kN 4) (jm (kN 5) a5p))))
 (kj 6 (sMS abu (sC (.str "")) (ao (sZ (p6 (sRg xn (ao (sA (gq false 2 ak) (ao (sV 0) (ao (sI 25) bw))) bw)) t1 (a6g ak jw sr kh jk) [0,3])) bw))))
 (du (a7m (sA (gq false 2 jw) (ao (sV 0) (ao (sV 3) bw))) (a4u 3 (jm (kN 7) (jm (kN 4) (jm (kN 5) a5p)))))
 (du (kj 6 (sC (.str "")))
 (a3v (sRg xn (ao (sA (gq false 2 ak) (ao (sV 0) (ao (sI 12) bw))) bw)) (kN 8) (zg ak jw sr kh jk)))))
 (du (sIf (sT (s2 hEq (sV 2) (sI 3)))
 (kj 6 (a4y (s2 acb (sV 6) (sI 240)) oN (oS (sA (gq false 2 ak) (ao (sV 0) (ao (sI 241) bw))))))
 sNx)
 (sy (sA a2o (ao (sA (gq false 3 sr) (ao (sV 3) (ao (sV 4) (ao (sV 5) bw)))) (ao (sV 6) bw)))))))))
end CAS
namespace MI
open L2
structure CK (K:Fg) (mg:Str->Option Value) (c:Str) (C:Addr) (ks:List Str):Prop where
 m:mg c=some (.ref C)
 ns:PySem.W.nsIn K mainGlobals c=some (some (.ref C))
 cl:Cls K C
 na:∀k∈ks,NoAttr K C k
def azd(K:Fg)(ta:TE)(f:Str):TE:=λσ H Q=>ta σ H λx H1=>∃a C dx fs v,x=.ref a/\Rd H1 a (.ins C dx fs)/\Cls K C/\NoAttr K C f/\fs.lookup f=some v/\Q v H1
section
variable{X:Cx}{E:XD}
theorem aqy(he:PE X e ta)(hb:attributeBase e f X.env (eval e X.env)=eval e X.env):PE X (.Attribute e f pos) (azd X.K ta f):=by
 intro aA s σ H Q I h
 refine aov hb (L2.thn (he aA s σ H _ I h) λu s1 ⟨x,H1,I1,rx,a,C,dx,fs,v,ex,ea,c,n,l,q⟩=>?_);subst ex;obtain rfl:u=Value.ref a:=rx
 rcases ea with ea|⟨o,ea⟩
 ·exact a97 I1 ea c n l λu' s2 I2 ru=>⟨v,H1,I2,ru,q⟩
 ·obtain⟨_,_,_,ne,ob,mA,nn,r,_⟩:=I1.hok a _ ea;obtain⟨u,hu,ru⟩:=RelO.some_of (v:=v) (o:=mA f) (by rw[<-l];exact r f)
  exact ah0 I1.kIn ⟨ob,nn,ne⟩ (c.get f) c.hd n hu (ab8 ru) ⟨v,H1,I1.tok _,ru,q⟩
theorem a6h{us:List (Str×V)}:∀{us:List (Str×V)} {kvs:List (Str×D)},KRep K ι H us kvs->kvs.lookup k=some d->∃v,us.lookup k=some v/\Rep K ι H v d
 |[],[],_,e=>by cases e
 |[],_::_,r,_=>by cases r.1
 |_::_,[],r,_=>by cases r.1
 |(k1,v1)::us,(k2,d2)::kvs,⟨h1,h2⟩,e=>by
  simp only[ba,eQ]at h1;obtain⟨rfl,h1⟩:=h1
  cases h2 with
  |cons r rs =>
   rw[List.lookup_cons]at e ⊢
   cases hk:k == k1 with
   |true=>rw[hk]at e;cases e;exact⟨_,rfl,r⟩
   |false=>rw[hk]at e;exact a6h (us:=us) ⟨h1,rs⟩ e
def axt(c k:Str):D->Hd->Option D
 |.ins c' ks xs,_=>if c'=c then (ks.zip xs).lookup k else none
 |.ref i,h=>(match h[i]? with|some (.ins c' fs)=>if c'=c then fs.lookup k else none|_=>none)
 |_,_=>none
def a2i(c k:Str)(d:D)(h:Hd):R D:=match axt c k d h with
 |some x=>.ok x h
 |none=>.no
theorem pq{c k:Str}{C:Addr}{ks:List Str}(hk:CK X.K X.mg c C ks)(hf:k∈ks)(he:ME X E e f)(hb:attributeBase e k X.env (eval e X.env)=eval e X.env:=by rfl):ME X E (.Attribute e k pos) (s1 (a2i c k) f):=by
 refine PE.weak (aqy he hb) λσ H Q ⟨ι,τ,h,S,Rh,o⟩=>?_;refine⟨ι,τ,h,S,Rh,ig o λd h1 ι1 H1 v g1 r1 hr1 o1=>?_⟩;unfold a2i at o1
 split at o1
 ·rename_i x hx
  cases r1 with
  |@ref a i ha =>
   obtain⟨ob,e1,e2⟩:=hr1.at ha;simp only[axt,e1]at hx
   cases ob with
   |ins c' fs =>
    simp only at hx
    split at hx
    ·rename_i hc;subst hc;obtain⟨C',dx,us,h3,hn,kr⟩:=e2;rw[hk.ns]at hn;cases hn
     obtain⟨v,l,r⟩:=a6h (us:=us) kr hx;exact⟨a,C,dx,us,v,rfl,.inl h3,hk.cl,hk.na _ hf,l,o1 ι1 H1 v (.refl _ _) r hr1⟩
    ·cases hx
   |_=>cases hx
  |@ins a C' dx oo c' us ks' xs h3 hn ek rs =>
   simp only[axt]at hx
   split at hx
   ·rename_i hc;subst hc;rw[hk.ns]at hn;cases hn
    obtain⟨v,l,r⟩:=a6h (us:=us) (a68 ek rs) hx;exact⟨a,C,dx,us,v,rfl,.inr ⟨oo,h3⟩,hk.cl,hk.na _ hf,l,o1 ι1 H1 v (.refl _ _) r hr1⟩
   ·cases hx
  |_=>cases hx
 ·exact o1.elim
def ado(c:Str)(n:Nat)(F:SF)(ds:List D)(h:Hd):R D:=if ds.length=n then (match F (.ref h.length::ds) (h++[.ins c []]) with
 |.ok .non h'=>.ok (.ref h.length) h'
 |_=>.no) else .no
theorem aqz{c:Str}{C:Addr}{ks:List Str}(hk:CK X.K X.mg c C ks)(M:Mk X.K C f)(G:FnOk X.prog X.w X.K X.mg X.base CX0 k f fd ps (a00 X.K (n+1) F))(hb:Binds X.K fd ps [])(hr:Room (k+1) X.A)(ha:MA X X0 (e::es) ka)(hg:Gl X c:=by rfl)
  (hdb:(c == ("__debug__" : Str))=false:=by decide) (he:starEach (e::es) X.env=(false,eval e X.env)::starEach es X.env:=by rfl) (hpl:(backTo pos (starEach es X.env)).any (·.1)=false:=by rfl) :
  ME X X0 (.Call (.Name c p) (e::es) [] pos) (sA (ado c n F) ka):=by
 refine PE.weak (ap1 M G hr hg hk.m hb .nil ad5 ha hdb he hpl) λσ H Q ⟨ι,τ,h,S,Rh,o⟩=>?_;refine⟨ι,τ,h,S,Rh,ig o λds h1 ι1 H1 vs g1 r1 hr1 o1=>?_⟩
 intro x dx nx nd ne
 unfold ado at o1
 split at o1
 ·rename_i hl;have n2:upd H1 dx (.own x) x=none:=by rw[jr ne.symm];exact nx
  have g2:Gr ι1 H1 (ι1++[x]) (upd (upd H1 dx (.own x)) x (.ins C dx [])):=(a3n nd _).trans (aea n2 _);have hr2:HRep X.K (ι1++[x]) (upd (upd H1 dx (.own x)) x (.ins C dx [])) (h1++[.ins c []]):=(hr1.aside nd _).add n2 ⟨C,dx,[],qu,hk.ns,rfl,.nil⟩;have ix:(ι1++[x])[h1.length]? = some x:=by rw[<-hr1.len];simp
  rw[bT];refine⟨by rw[aW,r1.len,hl],ι1++[x],.ref h1.length::ds,_,.cons (.ref ix) (r1.mono g2),hr2,?_⟩
  split at o1
  ·rename_i h' hF;rw[hF]
   intro ι' H' v g r hr'
   cases r
   exact⟨rfl,o1 ι' H' _ (g2.trans g) (.ref (g.at ix)) hr'⟩
  ·exact o1.elim
 ·exact o1.elim
structure Di (P:Program) (w:World) (K:Fg) (mg:Str->Option Value) (base:Heap) (k:Nat) (c:Str) (C:Addr) (ks ps:List Str) (n:Nat) (F:SF) (f:Addr) (fd:FuncData):Prop where
 ok:FnOk P w K mg base CX0 k f fd ps (a00 K (n+1) F)
 b:Binds K fd ps []
 mke:Mk K C f
 ck:CK K mg c C ks
theorem avb{X:Cx}{ks ps:List Str}(G:Di X.prog X.w X.K X.mg X.base k c C ks ps n F f fd)(hr:Room k' X.A)(hk:k+1<=k')(ha:MA X X0 (e::es) ka)(hg:Gl X c:=by rfl)
  (hdb:(c == ("__debug__" : Str))=false:=by decide) (he:starEach (e::es) X.env=(false,eval e X.env)::starEach es X.env:=by rfl) (hpl:(backTo pos (starEach es X.env)).any (·.1)=false:=by rfl) :
  ME X X0 (.Call (.Name c p) (e::es) [] pos) (sA (ado c n F) ka):=aqz G.ck G.mke G.ok G.b (hr.mono hk) ha hg hdb he hpl
def aiy{α:Type}(f:Str)(v:α):List (Str×α)->List (Str×α)
 |[]=>[(f,v)]
 |(g,x)::r=>if g=f then (g,v)::r else (g,x)::aiy f v r
theorem a6i{k:Str}(q:Rep K ι H v d):∀{us:List (Str×V)} {kvs:List (Str×D)},KRep K ι H us kvs->KRep K ι H (a81 k v us) (aiy k d kvs)
 |[],[],_=>⟨rfl,.cons q .nil⟩
 |[],_::_,r=>by cases r.1
 |_::_,[],r=>by cases r.1
 |(k1,v1)::us,(k2,d2)::kvs,⟨h1,h2⟩=>by
  simp only[ba,eQ]at h1;obtain⟨rfl,h1⟩:=h1
  cases h2 with
  |cons r rs =>
   unfold a81 aiy
   split
   ·exact⟨by simp[h1],.cons q rs⟩
   ·have ih:=a6i (k:=k) q (us:=us) (kvs:=kvs) ⟨h1,rs⟩;exact⟨by simp[ih.1],.cons r ih.2⟩
def a2y(c k:Str)(fo fe:SE):SS:=λτ h=>(fe τ h).fl λy h1=>(fo τ h1).fl λx h2=>match x with
 |.ref i=>(match h2[i]? with
  |some (.ins c' fs)=>if c'=c/\fs.length<1000 then .nx τ (h2.set i (.ins c (aiy k y fs))) else .no
  |_=>.no)
 |_=>.no
theorem a0q{c k:Str}{C:Addr}{ks:List Str}(hk:CK X.K X.mg c C ks)(hf:k∈ks)(ho:ME X E o fo)(he:ME X E e fe)(hs:swapsWith e (some (.Attribute o k pos')) pos.line X.env=pure false:=by rfl) :
  MS X E (.Assign [.Attribute o k pos'] e pos) (a2y c k fo fe):=by
 refine PS.weak (ati ho he hs) λN σ H ⟨ι,τ,h,S,Rh,o⟩=>?_;refine⟨ι,τ,h,S,Rh,ul o λy h1 ι1 H1 v g1 r1 hr1 o1=>⟨ι1,τ,h1,S.mono g1,hr1,ul o1 λx h2 ι2 H2 u g2 r2 hr2 o2=>?_⟩⟩
 split at o2
 ·rename_i i
  cases r2 with
  |@ref a _ ha =>
   split at o2
   ·rename_i c' fs hx
    split at o2
    ·rename_i hc;obtain⟨rfl,hl⟩:=hc;obtain⟨C',dx,us,h3,hn,kr⟩:=hr2.obj i a _ ha hx;rw[hk.ns]at hn;cases hn
     have lu:us.length=fs.length:=by simpa using aN List.length kr.1
     have gp:=a2p hr2 ha (.ins C dx (a81 k v us));exact⟨a,C,dx,us,rfl,h3,hk.cl,hk.na _ hf,by omega,o2 ι2 _ σ gp (((S.mono g1).mono g2).mono gp) (hr2.put ha ⟨C,dx,_,qu,hk.ns,let q:=a6i (k:=k) (r1.mono g2) kr; ⟨q.1,q.2.mono gp⟩⟩)⟩
    ·exact o2.elim
   ·exact o2.elim
 ·exact o2.elim
end
def as9(c m:Str)(d:D)(h:Hd):Bool:=match d with
 |.ref i=>(match h[i]? with
  |some (.ins c' fs)=>decide (c'=c) && (fs.lookup m).isNone
  |_=>false)
 |_=>false
theorem acd{k:Str}:∀{us:List (Str×V)} {kvs:List (Str×D)},us.map (·.1)=kvs.map (·.1)->kvs.lookup k=none->us.lookup k=none
 |[],_,_,_=>rfl
 |_::_,[],r,_=>by cases r
 |(k1,v1)::us,(k2,d2)::kvs,r,e=>by
  simp only[ba,eQ]at r;obtain⟨rfl,r⟩:=r;rw[List.lookup_cons]at e ⊢
  cases hk:k == k1 with
  |true=>rw[hk]at e;cases e
  |false=>rw[hk]at e;exact acd r e
theorem ar0{K:Fg}{mg:Str->Option Value}{ks:List Str}(hk:CK K mg c C ks)(r:Rep K ι H v d)(hr:HRep K ι H h)(e:as9 c m d h=true):∃a dx fs,v=.ref a/\H a=some (.ins C dx fs)/\fs.lookup m=none:=by
 cases r with
 |@ref a i ha =>
  obtain⟨ob,e1,e2⟩:=hr.at ha;simp only[as9,e1]at e
  cases ob with
  |ins c' fs =>
   simp only[cE,e9]at e;obtain⟨rfl,e⟩:=e;obtain⟨C',dx,us,h3,hn,kr⟩:=e2;rw[hk.ns]at hn;cases hn
   exact⟨a,dx,us,rfl,h3,acd kr.1 (Option.isNone_iff_eq_none.mp e)⟩
  |_=>cases e
 |_=>cases e
noncomputable def sMe(b:Bool)(c m:Str)(n:Nat)(F:SF)(fo:SE)(ka:SA):SE:=λτ h=>(fo τ h).bind λd h1=>if as9 c m d h1=true then (ka τ h1).bind λds h2=>gq b n F (d::ds) h2 else .no
structure Dm (P:Program) (w:World) (K:Fg) (mg:Str->Option Value) (base:Heap) (k:Nat) (C:Addr) (m:Str) (ps:List Str) (n:Nat) (F:SF) (f:Addr) (fd:FuncData):Prop where
 ok:FnOk P w K mg base CX0 k f fd ps (a00 K n F)
 b:Binds K fd ps []
 mt:Meth K C m f
section
variable{X:Cx}
theorem ace{b:Bool}{ks:List Str}{F:SF}{fo:SE}{ka:SA}(hk:CK X.K X.mg c C ks){σ:St}{H:Hp}{Q:VK}(q:lift X.K X0 (a3u X.K) (sMe b c m n F fo ka) σ H Q) :
  aoz C m (a00 X.K n F) [] E0 (lift X.K X0 (a3u X.K) fo) (lift X.K X0 (ayy X.K) ka) σ H (λv H1=>∃L,aeq H1 L/\∀H2,FrzOf L H1 H2->Q v H2):=by
 obtain⟨ι,τ,h,S,Rh,o⟩:=q;refine⟨ι,τ,h,S,Rh,ig o λd h1 ι1 H1 v g1 r1 hr1 o1=>?_⟩
 split at o1
 ·rename_i e;obtain⟨a,dx,fs,rfl,h3,l⟩:=ar0 hk r1 hr1 e;refine⟨a,dx,fs,rfl,h3,l,ι1,τ,h1,S.mono g1,hr1,ig o1 λds h2 ι2 H2 vs g2 r2 hr2 o2=>?_⟩;rw[bT];exact aac (.cons (r1.mono g2) r2) hr2 o2 _
 ·exact o1.elim
theorem a1f(b:Bool){ks ps:List Str}(hk:CK X.K X.mg c C ks)(G:Dm X.prog X.w X.K X.mg X.base k C m ps n F f fd)(hr:Room k X.A)(ho:ME X X0 o fo)(ha:MA X X0 (e::es) ka)
  (hst:starEach (e::es) X.env=(false,eval e X.env)::starEach es X.env:=by rfl) (hpl:(backTo pos (starEach es X.env)).any (·.1)=false:=by rfl)
  (ht:eval (.Call (.Attribute o m apos) (e::es) [] pos) X.env=(do
   let ov <-eval o X.env
   standAt apos.atName
   let (f,first) <-holding [ov] (getMethod ov m pl)
   callWith pos f first (backTo pos (starEach (e::es) X.env)) (backToKw pos (keywordEach [] X.env))):=by rfl) :
  ME X X0 (.Call (.Attribute o m apos) (e::es) [] pos) (sMe b c m n F fo ka) :=
 PE.weak (a9e (ap0 ho hk.cl G.mt G.ok hr G.b .nil ad5 ha hst hpl ht)) λ_ _ _ q=>ace hk q
theorem jn(b:Bool){ks ps:List Str}(hk:CK X.K X.mg c C ks)(G:Dm X.prog X.w X.K X.mg X.base k C m ps n F f fd)(hr:Room k X.A)(ho:ME X X0 o fo)
  (ht:eval (.Call (.Attribute o m apos) [] [] pos) X.env=(do
   let ov <-eval o X.env
   standAt apos.atName
   let (f,first) <-holding [ov] (getMethod ov m pl)
   callWith pos f first (backTo pos (starEach [] X.env)) (backToKw pos (keywordEach [] X.env))):=by rfl) :
  ME X X0 (.Call (.Attribute o m apos) [] [] pos) (sMe b c m n F fo bw):=by
 refine PE.weak (a9e (aky ho hk.cl G.mt G.ok hr G.b .nil ad5 ht)) λσ H Q q=>?_;obtain⟨ι,τ,h,S,Rh,o⟩:=ace hk q;refine⟨ι,τ,h,S,Rh,?_⟩
 revert o
 generalize fo τ h=r
 intro o
 cases r with
 |ok d h1 =>
  intro ι' H' v g r' hr'
  obtain⟨a,dx,fs,e1,e2,e3,ι2,τ2,h2,S2,Rh2,o2⟩:=o ι' H' v g r' hr';exact⟨a,dx,fs,e1,e2,e3,o2 ι2 H' [] (.refl _ _) .nil Rh2⟩
 |ex c h1=>exact o
 |no=>exact o
structure Dc (P:Program) (w:World) (K:Fg) (mg:Str->Option Value) (base:Heap) (k:Nat) (c:Str) (m:Str) (ps:List Str) (n:Nat) (F:SF) (f:Addr) (fd:FuncData):Prop where
 ok:FnOk P w K mg base CX0 k f fd ps (a00 K n F)
 b:Binds K fd ps []
 cl:∃C mc,mg c=some (.ref C)/\PySem.W.specialIn K (.ref C) "__getattribute__" = some (some (.builtin "type.__getattribute__"))/\PySem.W.readsIn K C mc=true/\PySem.W.findCls K (.ref C) mc m=some (.val (.ref f))/\PySem.W.handedIn (.ref f)=true
 kp:PySem.W.keepIn K (.ref f)=true
theorem ar3(b:Bool){ps:List Str}(G:Dc X.prog X.w X.K X.mg X.base k c m ps n F f fd)(hr:Room k X.A)(hg:Gl X c)(ha:MA X X0 (e::es) ka)(hdb:(c == ("__debug__" : Str))=false:=by decide)
  (hst:starEach (e::es) X.env=(false,eval e X.env)::starEach es X.env:=by rfl) (hpl:(backTo pos (starEach es X.env)).any (·.1)=false:=by rfl)
  (ht:eval (.Call (.Attribute (.Name c p) m apos) (e::es) [] pos) X.env=(do
   let ov <-eval (.Name c p) X.env
   standAt apos.atName
   let (f,first) <-holding [ov] (getMethod ov m pl)
   callWith pos f first (backTo pos (starEach (e::es) X.env)) (backToKw pos (keywordEach [] X.env))):=by rfl) :
  ME X X0 (.Call (.Attribute (.Name c p) m apos) (e::es) [] pos) (sA (gq b n F) ka):=by
 obtain⟨C,mc,m1,m2,m3,m4,m5⟩:=G.cl;have main:PE X (.Call (.Attribute (.Name c p) m apos) (e::es) [] pos) (aoy (a00 X.K n F) [] E0 (lift X.K X0 (ayy X.K) ka)):=by
  intro aA s σ H Q I h
  refine eZ (pl:=pl) (L2.thn (aoj hg m1 (v:=.ref C) rfl hdb aA s σ H (λx H1=>x=.ref C/\H1=H) I ⟨rfl,rfl⟩) λu s1 ⟨x,H1,I1,rx,ex,eh⟩=>?_) ht;subst ex eh;obtain rfl:u=Value.ref C:=rx;refine PySem.W.method_cls I1.kIn m2 (PySem.W.cls_value I1.kIn m3 m4 m5 ?_);have I2:=I1.tok (s1.toks+1);refine eK (h₀:=X.base) I.ok.mod.kin G.kp (L2.thn (ha pos aA _ σ H1 _ I2 h) λus s2 ⟨vs,H2,I2,r,q2⟩=>⟨I2.kIn,?_⟩) hst hpl;exact ab9 G.ok hr G.b .nil ad5 I2 r q2
 refine PE.weak (a9e main) ?_
 rintro σ H Q ⟨ι,τ,h,S,Rh,o⟩
 refine⟨ι,τ,h,S,Rh,ig o λds h1 ι1 H1 vs g1 r1 hr1 o1=>?_⟩;rw[bT];exact aac r1 hr1 o1 _
variable{E:XD}
def avc(c k:Str)(d:D)(h:Hd):Option D:=match d with
 |.ref i=>(match h[i]? with|some (.ins c' fs)=>if c'=c then fs.lookup k else none|_=>none)
 |_=>none
def akh(c k:Str)(y x:D)(h:Hd):Option Hd:=match x with
 |.ref i=>(match h[i]? with
  |some (.ins c' fs)=>if c'=c/\fs.length<1000 then some (h.set i (.ins c (aiy k y fs))) else none
  |_=>none)
 |_=>none
def aga(c k:Str)(gg:D->D->Hd->R D)(fo fe:SE):SS:=λτ h=>(fo τ h).fl λx h1=>match avc c k x h1 with
 |some v=>(fe τ h1).fl λy h2=>(gg v y h2).fl λz h3=>match akh c k z x h3 with
  |some h4=>.nx τ h4
  |none=>.no
 |none=>.no
theorem adp{c k:Str}{C:Addr}{ks:List Str}(hk:CK X.K X.mg c C ks)(hf:k∈ks)(ho:ME X E o fo)(he:ME X E e fe)(hp:OpR X (inplaceOp op) r)(hs:a3y X.K gg r):MS X E (.AugAssign (.Attribute o k tpos) op e pos) (aga c k gg fo fe):=by
 refine PS.weak (ah1 (rd:=r) ho he λaA s σ H x y u v Q I rx ry q=>hp aA s σ H x y u v Q I rx ry q) ?_
 rintro N σ H ⟨ι,τ,h,S,Rh,oo⟩
 refine⟨ι,τ,h,S,Rh,ul oo λx h1 ι1 H1 v g1 r1 hr1 o1=>?_⟩
 split at o1
 ·rename_i w hw
  cases r1 with
  |@ref a i ha =>
   obtain⟨ob,e1,e2⟩:=hr1.at ha;simp only[avc,e1]at hw
   cases ob with
   |ins c' fs =>
    simp only at hw
    split at hw
    ·rename_i hc;subst hc;obtain⟨C',dx,us,h3,hn,kr⟩:=e2;rw[hk.ns]at hn;cases hn
     obtain⟨v,l,r⟩:=a6h (us:=us) kr hw;refine⟨a,C,dx,us,v,rfl,h3,hk.cl,hk.na _ hf,l,ι1,τ,h1,S.mono g1,hr1,ul o1 λy h2 ι2 H2 u g2 r2 hr2 o2=>?_⟩;refine hs E ι2 H2 h2 v u w y _ (r.mono g2) r2 hr2 (ul o2 λz h4 ι3 H3 zv g3 r3 hr3 o3=>?_);have ha3:ι3[i]? = some a:=g3.at (g2.at ha)
     split at o3
     ·rename_i h5 hq;obtain⟨ob3,e3,e4⟩:=hr3.at ha3;simp only[akh,e3]at hq
      cases ob3 with
      |ins c2 fs2 =>
       simp only at hq
       split at hq
       ·rename_i hc;obtain⟨rfl,hl⟩:=hc;cases hq
        obtain⟨C2,dx2,us2,h6,hn2,kr2⟩:=e4;rw[hk.ns]at hn2;cases hn2
        have lu:us2.length=fs2.length:=by simpa using aN List.length kr2.1
        have gp:=a2p hr3 ha3 (.ins C dx2 (a81 k zv us2));exact⟨dx2,us2,h6,by omega,o3 ι3 _ σ gp ((((S.mono g1).mono g2).mono g3).mono gp) (hr3.put ha3 ⟨C,dx2,_,qu,hk.ns,let q:=a6i (k:=k) r3 kr2; ⟨q.1,q.2.mono gp⟩⟩)⟩
       ·cases hq
      |_=>cases hq
     ·exact o3.elim
    ·cases hw
   |_=>cases hw
  |_=>cases hw
 ·exact o1.elim
end
end MI
namespace STM
open L2 MI
noncomputable def a6j(ut:SF):SS :=
 (du (sIf (a6y (a4m (sA (gq false 2 ut) (ao (sV 0) (ao (sV 1) bw)))))
 ab3
 sNx)
 (sy (sV 1)))
noncomputable def a6k(a3k:SF):SS :=
 (du (a2y "Stream" "table" (sV 0) (sV 1))
 (du (a2y "Stream" "hope" (sV 0) (sA (gq false 1 a3k) (ao (sV 1) bw)))
 (du (a2y "Stream" "phase" (sV 0) (sC (.str "open")))
 (du (a2y "Stream" "start" (sV 0) (sI 0))
 (a2y "Stream" "fed" (sV 0) (sI 0))))))
noncomputable def a5b:SS :=
 (sy (s1 (a2i "Stream" "phase") (sV 0)))
noncomputable def a6l:SS :=
 (sy (s1 (a2i "Stream" "fed") (sV 0)))
noncomputable def a1g:SS :=
 (sy (acu (sT (s2 hEq (s1 (a2i "Stream" "phase") (sV 0)) (sC (.str "stopped")))) (s1 (a2i "Stream" "start") (sV 0)) (sC .non)))
noncomputable def a1h:SS :=
 (du (sIf (sT (s2 hEq (s1 (a2i "Stream" "phase") (sV 0)) (sC (.str "closed"))))
 ab3
 sNx)
 (sIf (sT (s2 hEq (s1 (a2i "Stream" "phase") (sV 0)) (sC (.str "stopped"))))
 ab3
 sNx))
noncomputable def a6m(dh:SF)(ww:SF):SS :=
 (du (vp (sMe false "Stream" "look_ended" 1 dh (sV 0) bw))
 (aga "Stream" "fed" a1l (sV 0) (sA vh (ao (sA (gq false 2 ww) (ao (s2 gIx (s1 (a2i "Stream" "table") (sV 0)) (sI 0)) (ao (sV 1) bw))) bw))))
noncomputable def a6n(wz:SF)(jd:SF):SS :=
 (du (vp (sA (gq false 2 wz) (ao (sV 0) (ao (sV 1) bw))))
 (vp (sMe false "Stream" "begin" 2 jd (sV 0) (ao (sI 0) bw))))
noncomputable def a5c:SS :=
 (du (a2y "Stream" "start" (sV 0) (sV 1))
 (du (a2y "Stream" "at" (sV 0) (sV 1))
 (du (a2y "Stream" "room" (sV 0) (sI 0))
 (du (a2y "Stream" "last" (sV 0) (sC .non))
 (a2y "Stream" "rest" (sV 0) (sC (.str "")))))))
noncomputable def a6o(wy:SF)(gj:SF):SS :=
 (du (vp (sMe false "Stream" "take" 2 wy (sV 0) (ao (sV 1) bw)))
 (sy (sMe true "Stream" "read" 2 gj (sV 0) (ao (sV 1) bw))))
noncomputable def a04(dh:SF)(bx:SF)(gj:SF):ST :=
 (a8c (sT (s2 hEq (s1 (a2i "Stream" "phase") (sV 0)) (sC (.str "open")))) (sT (s2 gLt (s1 (a2i "Stream" "start") (sV 0)) (s1 (a2i "Stream" "fed") (sV 0)))))
noncomputable def ur(dh:SF)(bx:SF)(gj:SF):SS :=
 (du (kj 2 (sMe false "Stream" "settle" 2 bx (sV 0) (ao (sV 1) bw)))
 (vp (sML aij (sV 1) (ao (sMe false "Stream" "read" 2 gj (sV 0) (ao (sV 2) bw)) bw))))
noncomputable def a0d(dh:SF)(bx:SF)(gj:SF):SS :=
 (du (vp (sMe false "Stream" "look_ended" 1 dh (sV 0) bw))
 (du (kj 1 (sA a3z bw))
 (du (sWh (a04 dh bx gj) (ur dh bx gj) 100000)
 (du (sIf (sT (s2 hEq (s1 (a2i "Stream" "phase") (sV 0)) (sC (.str "open"))))
 (a2y "Stream" "phase" (sV 0) (sC (.str "closed")))
 sNx)
 (sy (sV 1))))))
noncomputable def a0n(bx:SF)(jz:SF):ST :=
 (a8c (sT (s2 hNe (sV 3) (sC (.str "")))) (sT (s2 hEq (s1 (a2i "Stream" "phase") (sV 0)) (sC (.str "open")))))
noncomputable def v4(bx:SF)(jz:SF):SS :=
 (du (vp (sMe false "Stream" "go" 2 jz (sV 0) (ao (s2 gIx (sV 3) (sI 0)) bw)))
 (du (kj 3 (a4y (sV 3) (oS (sI 1)) oN))
 (sIf (a6y (a4m (s2 gIx (s1 (a2i "Stream" "hope") (sV 0)) (s1 (a2i "Stream" "room") (sV 0)))))
 (kj 3 (s2 p7 (sMe false "Stream" "settle" 2 bx (sV 0) (ao (sV 2) bw)) (sV 3)))
 sNx)))
noncomputable def wj(bx:SF)(jz:SF):SS :=
 (du (kj 2 (sA a3z bw))
 (du (kj 3 (sV 1))
 (du (sWh (a0n bx jz) (v4 bx jz) 100000)
 (sy (sV 2)))))
noncomputable def a3f(qj:SF):SS :=
 (du (aga "Stream" "at" a1l (sV 0) (sI 1))
 (du (a2y "Stream" "room" (sV 0) (sA (gq false 3 qj) (ao (s1 (a2i "Stream" "table") (sV 0)) (ao (s1 (a2i "Stream" "room") (sV 0)) (ao (sV 1) bw)))))
 (du (kj 2 (s2 gIx (s2 gIx (s1 (a2i "Stream" "table") (sV 0)) (sI 2)) (s1 (a2i "Stream" "room") (sV 0))))
 (sIf (sT (s2 hNe (sV 2) (s1 a8z (sI 1))))
 (du (a2y "Stream" "last" (sV 0) (sA a2o (ao (sV 2) (ao (s1 (a2i "Stream" "at") (sV 0)) bw))))
 (a2y "Stream" "rest" (sV 0) (sC (.str ""))))
 (sIf (sT (s2 a7h (s1 (a2i "Stream" "last") (sV 0)) (sC .non)))
 (aga "Stream" "rest" a1l (sV 0) (sV 1))
 sNx)))))
noncomputable def a1z(jd:SF):SS :=
 (du (a7m (s1 (a2i "Stream" "last") (sV 0)) (a4u 2 (jm (kN 1) (jm (kN 2) a5p))))
 (du (kj 3 (s1 (a2i "Stream" "rest") (sV 0)))
 (du (vp (sMe false "Stream" "begin" 2 jd (sV 0) (ao (sV 2) bw)))
 (sy (sV 3)))))
noncomputable def a6p(jd:SF):SS :=
 (du (a2y "Stream" "phase" (sV 0) (sC (.str "stopped")))
 (du (vp (sMe false "Stream" "begin" 2 jd (sV 0) (ao (s1 (a2i "Stream" "start") (sV 0)) bw)))
 (sy (sC (.str "")))))
noncomputable def a6q:SS :=
 (sy (s1 (a2i "Stream" "rest") (sV 0)))
noncomputable def a4j(qg:SF)(wu:SF):SS :=
 (du (sIf (sT (s2 gIs (s1 (a2i "Stream" "last") (sV 0)) (sC .non)))
 (sy (sMe false "Stream" "stop" 1 wu (sV 0) bw))
 sNx)
 (du (a7m (s1 (a2i "Stream" "last") (sV 0)) (a4u 2 (jm (kN 2) (jm (kN 3) a5p))))
 (du (vp (sML a7s (sV 1) (ao (sA a2o (ao (sV 2) (ao (s1 (a2i "Stream" "start") (sV 0)) (ao (sV 3) bw)))) bw)))
 (sy (sMe false "Stream" "go_behind" 1 qg (sV 0) bw)))))
noncomputable def a5d(ph:SF):SS :=
 (sy (sMe false "Stream" "stopped_at" 1 ph (sV 0) bw))
noncomputable def yz:SE :=
 (sC (.bl false))
noncomputable def zb:SS :=
 (sIf (sOr (sT (s2 gGe (s2 gIx (s2 gIx (sV 0) (sI 2)) (sV 4)) (sI 0))) (a4m (s2 gIx (sV 1) (sV 4))))
 (ab1 (sC (.bl true)) (sV 1) (sV 3))
 sNx)
noncomputable def vy:SS :=
 (a3v (sIt (s2 gIx (s2 gIx (sV 0) (sI 1)) (sV 3))) (kN 4) zb)
noncomputable def vz:SS :=
 (a3v (sRg xn (ao (sA vh (ao (sV 1) bw)) bw)) (kN 3) vy)
noncomputable def a0y:SS :=
 (du (kj 1 (p6 (sIt (s2 gIx (sV 0) (sI 1))) t1 yz []))
 (du (a3v (sRg xn (ao (sA vh (ao (sV 1) bw)) bw)) (kN 2) vz)
 (sy (sV 1))))
noncomputable def a2j:SS :=
 (sIf (a6y (a4m (sV 6)))
 (du (kj 4 (s2 gIx (s2 gIx (s2 gIx (sV 0) (sI 1)) (sV 4)) (sMS adb (s2 gIx (sV 0) (sI 0)) (ao (s2 gIx (sV 2) (sV 7)) bw))))
 (du (sIf (sT (s2 gGe (s2 gIx (s2 gIx (sV 0) (sI 2)) (sV 4)) (sI 0)))
 (kj 5 (sA a2o (ao (s2 gIx (s2 gIx (sV 0) (sI 2)) (sV 4)) (ao (s2 p7 (sV 7) (sI 1)) bw))))
 sNx)
 (kj 6 (aa2 (s2 gIx (sV 1) (sV 4))))))
 sNx)
noncomputable def a3g:SS :=
 (du (kj 4 (sI 0))
 (du (kj 5 (sC .non))
 (du (kj 6 (sC (.bl false)))
 (du (a3v (sRg a91 (ao (sV 3) (ao (sA vh (ao (sV 2) bw)) bw))) (kN 7) a2j)
 (sy (sA a2o (ao (sV 6) (ao (sV 5) (ao (sV 4) bw)))))))))
noncomputable def a2a(ju:SF):ST :=
 (a8c (sT (s2 gLt (sV 5) (sA vh (ao (sV 2) bw)))) (sOr (a4m (sV 6)) (a4m (sV 3))))
noncomputable def a2b(ju:SF):SS :=
 (du (sIf (sT (s2 gIs (sV 7) (sC .non)))
 (sy (sA a2o (ao (sV 4) (ao (sC (.str "stopped")) (ao (sV 5) (ao (sI 0) (ao (sC .non) bw)))))))
 sNx)
 (du (vp (sML a7s (sV 4) (ao (sA a2o (ao (s2 gIx (sV 7) (sI 0)) (ao (sV 5) (ao (s2 gIx (sV 7) (sI 1)) bw)))) bw)))
 (du (kj 5 (s2 gIx (sV 7) (sI 1)))
 (a7m (sA (gq false 4 ju) (ao (sV 0) (ao (sV 1) (ao (sV 2) (ao (sV 5) bw))))) (a4u 3 (jm (kN 6) (jm (kN 7) (jm (kN 8) a5p))))))))
noncomputable def a6r(ju:SF):SS :=
 (du (kj 4 (sA a3z bw))
 (du (kj 5 (sI 0))
 (du (a7m (sA (gq false 4 ju) (ao (sV 0) (ao (sV 1) (ao (sV 2) (ao (sV 5) bw))))) (a4u 3 (jm (kN 6) (jm (kN 7) (jm (kN 8) a5p)))))
 (du (sWh (a2a ju) (a2b ju) 100000)
 (du (sIf (a4m (sV 3))
 (sy (sA a2o (ao (sV 4) (ao (sC (.str "closed")) (ao (sV 5) (ao (sI 0) (ao (sC .non) bw)))))))
 sNx)
 (sy (sA a2o (ao (sV 4) (ao (sC (.str "open")) (ao (sV 5) (ao (sV 8) (ao (sV 7) bw))))))))))))
noncomputable def a1i(jh:SF):SS :=
 (sIf (sOr (a6y (a4m (sA (gq false 2 jh) (ao (sV 2) (ao (sI 3) bw))))) (sT (s2 hNe (sV 2) (sV 3))))
 ab3
 sNx)
noncomputable def a2c(jh:SF):SS :=
 (du (sIf (sOr (a6y (a4m (sA a0g (ao (sV 0) (ao (sC (.ty "list")) bw))))) (sT (s2 hNe (sA vh (ao (sV 0) bw)) (sA vh (ao (sV 1) bw)))))
 ab3
 sNx)
 (du (a3v (aid (sV 0) (sV 1)) (a4u 2 (jm (kN 2) (jm (kN 3) a5p))) (a1i jh))
 (sy (sC (.bl true)))))
end STM
namespace MI
open L2
def kF(c k:Str)(fo:SE):SG:=λd τ h=>(fo τ h).fl λx h1=>match akh c k d x h1 with
 |some h2=>.nx τ h2
 |none=>.no
theorem a9m{X:Cx}{E:XD}{c k:Str}{C:Addr}{ks:List Str}(hk:CK X.K X.mg c C ks)(hf:k∈ks)(ho:ME X E o fo):MG X E (.Attribute o k pos) (kF c k fo):=by
 intro aA s σ H v u Q I r ⟨ι,τ,h,d,rd,S,Rh,oo⟩
 refine PySem.W.kas_attr (L2.thn (ho aA s σ H (λy H2=>∃a dx fs,y=.ref a/\H2 a=some (.ins C dx fs)/\fs.length<1000/\Q σ (upd H2 a (.ins C dx (a81 k v fs)))) I ⟨ι,τ,h,S,Rh,ul oo λx h1 ι1 H1 y g1 r1 hr1 o1=>?_⟩) λov s1 ⟨y,H2,I2,ry,a,dx,fs,ey,ea,l,q⟩=>?_)
 ·split at o1
  ·rename_i h2 hq
   cases r1 with
   |@ref a i ha =>
    obtain⟨ob,e1,e2⟩:=hr1.at ha;simp only[akh,e1]at hq
    cases ob with
    |ins c' fs =>
     simp only at hq
     split at hq
     ·rename_i hc;obtain⟨rfl,hl⟩:=hc;cases hq
      obtain⟨C',dx,us,h3,hn,kr⟩:=e2;rw[hk.ns]at hn;cases hn
      have lu:us.length=fs.length:=by simpa using aN List.length kr.1
      have gp:=a2p hr1 ha (.ins C dx (a81 k v us));exact⟨a,dx,us,rfl,h3,by omega,o1 ι1 _ σ gp ((S.mono g1).mono gp) (hr1.put ha ⟨C,dx,_,qu,hk.ns,let q:=a6i (k:=k) (rd.mono g1) kr; ⟨q.1,q.2.mono gp⟩⟩)⟩
     ·cases hq
    |_=>cases hq
   |_=>cases hq
  ·exact o1.elim
 ·subst ey;obtain rfl:ov=Value.ref a:=ry;exact a70 I2 ea hk.cl (hk.na _ hf) l r λs3 I3=>⟨σ,_,I3,q⟩
end MI
namespace TWN
open L2 MI
noncomputable def a5e:SS :=
 (sy (sA a2o (ao (s1 (a2i "Stream" "phase") (sV 0)) (ao (s1 (a2i "Stream" "start") (sV 0)) (ao (s1 (a2i "Stream" "fed") (sV 0)) (ao (s1 (a2i "Stream" "room") (sV 0)) (ao (s1 (a2i "Stream" "last") (sV 0)) (ao (s1 (a2i "Stream" "rest") (sV 0)) bw))))))))
noncomputable def a6s(az:SF)(iz:SF):SS :=
 (sy (sA (gq true 2 iz) (ao (s1 (a2i "Stream" "table") (sV 0)) (ao (sMe false "Stream" "stand" 1 az (sV 0) bw) bw))))
noncomputable def a6t(ji:SF):SS :=
 (du (kj 2 (sA (ado "Stream" 1 ji) (ao (sV 0) bw)))
 (du (a7m (sV 1) (a4u 6 (jm (kF "Stream" "phase" (sV 2)) (jm (kF "Stream" "start" (sV 2)) (jm (kF "Stream" "fed" (sV 2)) (jm (kF "Stream" "room" (sV 2)) (jm (kF "Stream" "last" (sV 2)) (jm (kF "Stream" "rest" (sV 2)) a5p))))))))
 (du (a2y "Stream" "at" (sV 2) (s1 (a2i "Stream" "fed") (sV 2)))
 (sy (sV 2)))))
noncomputable def a2k(ak:SF):SE :=
 (s2 gIx (sV 1) (sV 0))
noncomputable def a2l(ak:SF):SS :=
 (du (kj 6 (sA (gq false 2 ak) (ao (sV 0) (ao (s2 p7 (sA vh (ao (sV 3) bw)) (sI 1)) bw))))
 (du (vp (sML a7s (sV 4) (ao (a4y (sV 3) oN (oS (sV 6))) bw)))
 (kj 3 (a4y (sV 3) (oS (sV 6)) oN))))
noncomputable def a05(ak:SF):SS :=
 (du (kj 2 (sA (gq false 2 ak) (ao (sV 0) (ao (sI 5) bw))))
 (du (sIf (sT (s2 hEq (sV 2) (sI 0)))
 (sy (s2 p7 (sZ (p6 (sRg xn (ao (sA aa3 (ao (sI 40) (ao (sA vh (ao (sV 1) bw)) bw))) bw)) t1 (a2k ak) [1])) (sZ (sA a3z (ao (a4y (sV 1) (oS (sI 40)) oN) bw)))))
 sNx)
 (du (kj 3 (sV 1))
 (du (kj 4 (sA a3z bw))
 (du (a3v (sRg xn (ao (s2 p7 (sV 2) (sA (gq false 2 ak) (ao (sV 0) (ao (sI 5) bw)))) bw)) (kN 5) (a2l ak))
 (sy (s2 p7 (sV 4) (sZ (sA a3z (ao (sV 3) bw))))))))))
end TWN
namespace K52
open L2 MI
noncomputable def a3h:SS :=
 (du (a7m (sV 0) (a4u 5 (jm (kN 2) (jm (kN 3) (jm (kN 4) (jm (kN 5) (jm (kN 6) a5p)))))))
 (du (kj 7 (acu (sT (s2 a7h (sV 6) (sC .non))) (a4y (sV 1) (oS (s2 gIx (sV 6) (sI 1))) oN) (sC (.str ""))))
 (sy (sA a2o (ao (sV 3) (ao (sV 4) (ao (sA vh (ao (sV 1) bw)) (ao (sV 5) (ao (sV 6) (ao (sV 7) bw))))))))))
noncomputable def wk(jh:SF):SS :=
 (du (sIf (sOr (a6y (a4m (sA a0g (ao (sV 0) (ao (sC (.ty "tuple")) bw))))) (sOr (sT (s2 hNe (sA vh (ao (sV 0) bw)) (sI 6))) (a6y (a4m (sA (gq false 2 jh) (ao (a4y (sV 0) (oS (sI 1)) (oS (sI 4))) (ao (sI 3) bw)))))))
 ab3
 sNx)
 (du (sIf (sOr (a6y (a4m (sA a0g (ao (s2 gIx (sV 0) (sI 0)) (ao (sC (.ty "str")) bw))))) (a6y (a4m (sA a0g (ao (s2 gIx (sV 0) (sI 5)) (ao (sC (.ty "str")) bw))))))
 ab3
 sNx)
 (du (sIf (sT (s2 gIs (s2 gIx (sV 1) (sI 4)) (sC .non)))
 (sy (a5v (s2 gIs (s2 gIx (sV 0) (sI 4)) (sC .non)) (s2 hEq (sV 0) (sV 1))))
 sNx)
 (sy (a5v (sA (gq false 2 jh) (ao (s2 gIx (sV 0) (sI 4)) (ao (sI 2) bw))) (s2 hEq (sV 0) (sV 1)))))))
noncomputable def a0e(n6:SF)(dj:SF)(az:SF)(n8:SF)(jf:SF)(iy:SF)(bz:SF):SS :=
 (du (sIf (sOr (sT (s2 hNe (sMe false "Stream" "state" 1 dj (sV 6) bw) (s2 gIx (sV 5) (sI 0)))) (sOr (sT (s2 hNe (sMe false "Stream" "seen" 1 n6 (sV 6) bw) (s2 gIx (sV 5) (sI 2)))) (sT (s2 hNe (sMe false "Stream" "kept" 1 n8 (sV 6) bw) (s2 gIx (sV 5) (sI 5))))))
 ab3
 sNx)
 (sIf (a6y (a4m (sA (gq false 2 bz) (ao (sMe false "Stream" "stand" 1 az (sV 6) bw) (ao (sV 5) bw)))))
 ab3
 sNx))
noncomputable def a3i(n6:SF)(dj:SF)(az:SF)(n8:SF)(jf:SF)(iy:SF)(bz:SF):SS :=
 (du (kj 5 (sA (gq false 2 iy) (ao (sA (gq false 4 jf) (ao (sV 2) (ao (sV 3) (ao (sV 4) (ao (s2 hEq (sMe false "Stream" "state" 1 dj (sV 0) bw) (sC (.str "closed"))) bw))))) (ao (sV 4) bw))))
 (du (a3v (sIt (sA a2o (ao (sV 0) (ao (sV 1) (ao (sV 0) bw))))) (kN 6) (a0e n6 dj az n8 jf iy bz))
 (sy (sC (.bl true)))))
noncomputable def a0x(az:SF)(jq:SF)(ak:SF)(iz:SF):SS :=
 (du (kj 4 (sA (gq false 2 ak) (ao (sV 0) (ao (sI 6) bw))))
 (du (sIf (sT (s2 hEq (sV 4) (sI 0)))
 (sy (sA (gq true 2 iz) (ao (sV 1) (ao (sMe false "Stream" "stand" 1 az (sV 2) bw) bw))))
 sNx)
 (du (sIf (sT (s2 hEq (sV 4) (sI 1)))
 (sy (sMe true "Stream" "twin" 1 jq (sV 3) bw))
 sNx)
 (du (sIf (sT (s2 hEq (sV 4) (sI 2)))
 (sy (sA (gq true 2 iz) (ao (sV 1) (ao (sMe false "Stream" "stand" 1 az (sMe true "Stream" "twin" 1 jq (sV 3) bw) bw) bw))))
 sNx)
 (du (sIf (sT (s2 hEq (sV 4) (sI 3)))
 (sy (sMe true "Stream" "twin" 1 jq (sA (gq true 2 iz) (ao (sV 1) (ao (sMe false "Stream" "stand" 1 az (sV 2) bw) bw))) bw))
 sNx)
 (sy (sV 3)))))))
noncomputable def aas(dj:SF)(iw:SF)(az:SF)(ik:SF)(jo:SF)(ji:SF)(o9:SF)(oh:SF)(uv:SF)(ak:SF)(qz:SF)(o8:SF)(qe:SF)(jf:SF)(qd:SF)(iy:SF)(bz:SF)(iz:SF):SS :=
 (sIf (sT (s2 hEq (sMe false "Stream" "state" 1 dj (sV 5) bw) (sC (.str "open"))))
 (du (aeb 7 a1l (sV 8))
 (du (sIf (sOr (sT (s2 (agm true) (sMe false "Stream" "feed" 2 jo (sV 5) (ao (sV 8) bw)) (sMe false "Stream" "feed" 2 jo (sV 6) (ao (sV 8) bw)))) (a6y (a4m (sA (gq false 5 o9) (ao (sV 5) (ao (sV 6) (ao (sV 2) (ao (sV 4) (ao (sV 7) bw)))))))))
 ab3
 sNx)
 (kj 6 (sA (sN 4 oh) (ao (sV 1) (ao (sV 2) (ao (sV 5) (ao (sV 6) bw))))))))
 sNx)
noncomputable def amk(dj:SF)(iw:SF)(az:SF)(ik:SF)(jo:SF)(ji:SF)(o9:SF)(oh:SF)(uv:SF)(ak:SF)(qz:SF)(o8:SF)(qe:SF)(jf:SF)(qd:SF)(iy:SF)(bz:SF)(iz:SF):SS :=
 (du (kj 1 (sA (gq true 1 qd) (ao (sV 0) bw)))
 (du (a7m (sA (gq false 1 uv) (ao (sV 1) bw)) (a4u 2 (jm (kN 2) (jm (kN 3) a5p))))
 (du (kj 4 (sA (gq false 1 qz) (ao (sV 2) bw)))
 (du (kj 5 (sA (ado "Stream" 1 ji) (ao (sV 2) bw)))
 (du (kj 6 (sA (gq true 2 iz) (ao (sV 2) (ao (sMe false "Stream" "stand" 1 az (sV 5) bw) bw))))
 (du (kj 7 (sC (.str "")))
 (du (a3v (sIt (sA (gq false 2 o8) (ao (sV 1) (ao (sV 3) bw)))) (kN 8) (aas dj iw az ik jo ji o9 oh uv ak qz o8 qe jf qd iy bz iz))
 (du (sIf (sOr (sT (s2 hNe (sMe false "Stream" "state" 1 dj (sV 5) bw) (sC (.str "open")))) (sT (s2 hEq (sA (gq false 2 ak) (ao (sV 1) (ao (sI 4) bw))) (sI 0))))
 (sy (sA (gq false 5 o9) (ao (sV 5) (ao (sA (gq true 2 iz) (ao (sV 2) (ao (sMe false "Stream" "stand" 1 az (sV 5) bw) bw))) (ao (sV 2) (ao (sV 4) (ao (sV 7) bw)))))))
 sNx)
 (du (kj 9 (sMe false "Stream" "close" 1 ik (sV 6) bw))
 (du (kj 10 (sA (gq false 4 jf) (ao (sV 2) (ao (sV 4) (ao (sV 7) (ao (sC (.bl false)) bw))))))
 (du (sIf (a6y (a4m (sA (gq false 2 bz) (ao (sMe false "Stream" "stand" 1 az (sV 5) bw) (ao (sA (gq false 2 iy) (ao (sV 10) (ao (sV 7) bw))) bw)))))
 ab3
 sNx)
 (du (kj 11 (sMe false "Stream" "close" 1 ik (sV 5) bw))
 (du (kj 12 (sA (gq false 4 jf) (ao (sV 2) (ao (sV 4) (ao (sV 7) (ao (sC (.bl true)) bw))))))
 (du (sIf (sOr (sT (s2 (agm true) (sV 11) (sV 9))) (a6y (a4m (sA (gq false 2 qe) (ao (sV 11) (ao (sZ (a4y (s2 gIx (sV 12) (sI 0)) (oS (sA vh (ao (s2 gIx (sV 10) (sI 0)) bw))) oN)) bw))))))
 ab3
 sNx)
 (du (kj 13 (sA (gq true 2 iz) (ao (sV 2) (ao (sMe false "Stream" "stand" 1 az (sV 5) bw) bw))))
 (du (kj 14 (sA (gq false 2 iy) (ao (sV 12) (ao (sV 7) bw))))
 (du (sIf (sOr (sT (s2 hNe (sMe false "Stream" "fault" 1 iw (sV 13) bw) (sMe false "Stream" "fault" 1 iw (sV 6) bw))) (a6y (a4m (sA (gq false 2 bz) (ao (sMe false "Stream" "stand" 1 az (sV 13) bw) (ao (sV 14) bw))))))
 ab3
 sNx)
 (sy (sA (gq false 2 bz) (ao (sMe false "Stream" "stand" 1 az (sV 6) bw) (ao (sV 14) bw)))))))))))))))))))))
end K52
namespace MI
open L2
theorem dz(ha:ME X E a fa)(hb:ME X E b fb)(hp:a9v b:=by exact λ_ _=>rfl):ME X E (.Subscript a b pos) (s2 gIx fa fb):=apw ha hb hp
theorem jj(i:Nat)(hN:X.N.Nodup)(he:ME X E e fa)(hi:X.N[i]? = some x:=by rfl)(hx:Loc X.env.scope x:=by first|exact Or.inl rfl|exact Or.inr rfl)(hs:swapsWith e (some (.Name x pos')) pos.line X.env=pure false:=by rfl)(hf:Hf X x:=by first|exact .inl rfl|exact .inr rfl|assumption) :
  MS X E (.Assign [.Name x pos'] e pos) (kj i fa):=au7 hN hi hx he hs hf
theorem my{X:Cx}(G:Dn X.prog X.w X.K X.mg X.base k x ps (a00 X.K n F) f fd)(hr:Room k' X.A)(hk:k<=k')(ha:MA X X0 (e::es) ka)(hg:Gl X x:=by rfl)
  (hdb:(x == ("__debug__" : Str))=false:=by decide) (he:starEach (e::es) X.env=(false,eval e X.env)::starEach es X.env:=by rfl) (hpl:(backTo pos (starEach es X.env)).any (·.1)=false:=by rfl):ME X X0 (.Call (.Name x p) (e::es) [] pos) (sA (gq false n F) ka):=a0t false G (hr.mono hk) hg ha hdb he hpl
theorem u5(hm:X.mg "len" = none)(ha:MA X E [e] ka)(hg:Gl X "len":=by rfl)(he:starEach [e] X.env=(false,eval e X.env)::starEach [] X.env:=by rfl)(hpl:(backTo pos (starEach [] X.env)).any (·.1)=false:=by rfl):ME X E (.Call (.Name "len" p) [e] [] pos) (sA vh ka) :=
 a5w (L2.CallR.or abh abi) apz hg hm au1 ha (by decide) (by decide) he hpl
theorem qb(ho:OpR X (compareOp op) r)(hs:a3y X.K g r)(ha:ME X E a fa)(hb:ME X E b fb)(hm:behindInMarks op b=false:=by exact a7d _):MT X E (.Compare a [op] [b] pos) (sT (s2 g fa fb)):=aa1 ho hs ha hb hm
theorem xg(hu:X.A.units+64<cLine)(ha:ME X E a fa)(hb:ME X E b fb):MT X E (.Compare a [.Eq] [b] pos) (sT (s2 hEq fa fb)):=aa1 (aeo hu) aa8 ha hb (a7d _)
theorem pgn(i:Nat)(hN:N.Nodup:=by decide +kernel)(hi:N[i]? = some x:=by rfl)(hx:∀C fp s H,Loc (cxC X N aB cl C fp s H).env.scope x:=by exact λ_ _ _ _=>Or.inl rfl)(hf:∀C fp s H,(cxC X N aB cl C fp s H).fn x=true\/(cxC X N aB cl C fp s H).env.scope.names.lookup x=some .local:=by exact λ_ _ _ _=>.inr rfl) :
  ∀C fp s H,PG (cxC X N aB cl C fp s H) (.Name x pos) (afj i):=λC fp s H=>agq (X:=cxC X N aB cl C fp s H) hN hi (hx C fp s H) (hf C fp s H)
def allP(P:α->Prop):List α->Prop
 |[]=>True
 |a::l=>P a/\allP P l
theorem allP.mem{P:α->Prop}:∀{l:List α},allP P l->∀a∈l,P a
 |b::l,h,a,m=>by
  rcases aS.mp m with rfl|m
  ·exact h.1
  ·exact h.2.mem a m
theorem a6u{X:Cx}(ts fr:List Str)(ix:List Nat)(clos:closureFor aB X.env=pure cl:=by rfl)(kind:aB.kind=.function:=by rfl)
  (nocell:(aB.names.all λp=>p.2 != .cell)=true:=by rfl) (names:(aB.names.all λp=>p.2 != .local || aB.names.lookup p.1 == some .local)=true:=by rfl) (sub:allP (λp=>X.env.cells.lookup p.1=some p.2) cl:=by repeat' constructor)
  (has:((relabel aB X.env).names.all λp => !(p.2 == .cell || p.2 == .free) || (cl.lookup p.1).isSome)=true:=by rfl) (nofn:(ts.all λy=>(relabel aB X.env).names.lookup y == some .local)=true:=by rfl)
  (len:ix.length=fr.length:=by rfl) (vis:((fr.zip ix).all λp=>X.N[p.2]? == some p.1 && (X.env.kindOf p.1 == some .cell || X.env.kindOf p.1 == some .free) && ((relabel aB X.env).names.lookup p.1 == some .cell || (relabel aB X.env).names.lookup p.1 == some .free))=true:=by rfl) :
  CSc X aB cl ts fr ix:=.of clos kind nocell names sub.mem has nofn len vis
theorem aiz{aB:Scope}(ts:List Str)(kind:aB.kind=.function:=by rfl)(h:∀y∈aB.names,y.2≠.cell/\y.2≠.free:=by decide +kernel)(names:∀y∈aB.names,y.2=.local->aB.names.lookup y.1=some .local:=by decide +kernel)
  (ht:∀y∈ts,aB.names.lookup y=some .local:=by decide +kernel):CSc X aB [] ts [] []:=.noFree kind h names ht
section
variable{α:Type}{us:List α}
theorem len0{P:List α->Prop}(h:us.length=0)(k:P []):P us:=by cases us with|nil=>exact k|cons _ _=>cases h
theorem agb{P:List α->Prop}(h:us.length=n+1)(k:∀a vs,vs.length=n->P (a::vs)):P us:=by cases us with|nil=>cases h|cons a vs=>exact k a vs (Nat.succ.inj h)
theorem b0e{P:List α->Prop}(h:us.length=1)(k:∀a,P [a]):P us:=agb h λa _ h=>len0 (P:=λus=>P (a::us)) h (k a)
theorem b0f{P:List α->Prop}(h:us.length=2)(k:∀a b,P [a,b]):P us:=agb h λa _ h=>b0e (P:=λus=>P (a::us)) h (k a)
theorem b0g{P:List α->Prop}(h:us.length=3)(k:∀a b c,P [a,b,c]):P us:=agb h λa _ h=>b0f (P:=λus=>P (a::us)) h (k a)
theorem b0h{P:List α->Prop}(h:us.length=4)(k:∀a b c d,P [a,b,c,d]):P us:=agb h λa _ h=>b0g (P:=λus=>P (a::us)) h (k a)
theorem b0i{P:List α->Prop}(h:us.length=5)(k:∀a b c d e,P [a,b,c,d,e]):P us:=agb h λa _ h=>b0h (P:=λus=>P (a::us)) h (k a)
theorem b1x{P:List α->Prop}(h:us.length=6)(k:∀a b c d e f,P [a,b,c,d,e,f]):P us:=agb h λa _ h=>b0i (P:=λus=>P (a::us)) h (k a)
end
end MI
namespace K52
open L2 MI
def cst(s:Stmt)(j:Nat):Stmt:=match s with
 |.ClassDef _ _ _ b _ _ _ _ _ _ _=>b.getD j (.Pass ⟨0,0,0,0⟩)
 |_=>s
def top(i:Nat):Stmt:=PySem.Challenge.pw_nearreach_k52_stands_and_readers_resumed.main.body.getD i (.Pass ⟨0,0,0,0⟩)
structure Nm (mg:Str->Option Value):Prop where
 abs:mg "abs" = none
 all:mg "all" = none
 bool:mg "bool" = none
 int:mg "int" = none
 isinstance:mg "isinstance" = none
 len:mg "len" = none
 list:mg "list" = none
 min:mg "min" = none
 range:mg "range" = none
 sorted:mg "sorted" = none
 str:mg "str" = none
 sum:mg "sum" = none
 tuple:mg "tuple" = none
 zip:mg "zip" = none
section
variable{P:Program}{w:World}{K:Fg}{mg:Str->Option Value}{base:Heap}{f:Addr}
def MD(P:Program)(w:World)(K:Fg)(mg:Str->Option Value)(base:Heap)(f:Addr)(k:Nat)(N:List Str)(x:Str)(t:Stmt)(b:SS):Prop:=∀(cdv:Value) (A:Around) (outer:List Env) (s:Shared) (H:Hp) (E:XK),Room k (A.deeper (PyProof.Rows.envOfC x (bc t) s.heap.objs.size f cdv))->MSs (a5r CX0 P w K mg base N x (bc t) f cdv A outer s H E).nox X0 (km t) b
local macro_rules|`(tactic|walk_at "sc") => `(tactic|exact⟨rfl,rfl,rfl,by decide +kernel,rfl,by decide +kernel,by decide +kernel⟩)
theorem b0j:FnScope ["tongue","thing"] ["tongue","thing"] (bc (top 6)):=by walk_at "sc"
theorem m_0(M:Nm mg):MD P w K mg base f k ["tongue","thing"] "is_text" (top 6) (STP.ye):=λcdv A outer s H E hr =>
 have SC:=b0j
 (bu (jc (ahu (a5w (L2.CallR.or vo uw) a1r rfl M.isinstance u9 (aj (bh 1) (aj (abo rfl M.str ahp) au))) (aht (a5w (ad7 rfl) aq5 rfl M.all au2 (aj (a9f (zy rfl (a6u ["sign"] ["tongue"] [0]) (xf (bh 1)) (pgn 0) yr (λ_ _ _ _=>(a5j (apj.or ahb) apx (bh 0) (bh 1) (by with_unfolding_all rfl))))) au))))))
theorem b0k:FnScope ["tongue","thing"] ["tongue","thing"] (bc (top 8)):=by walk_at "sc"
theorem m_1(D_0:Dn P w K mg base k_0 "is_text" ["tongue","thing"] (a00 K 2 F_0) a_0 d_0)(h_0:k_0<=k):MD P w K mg base f k ["tongue","thing"] "looked_text" (top 8) (STM.a6j F_0):=λcdv A outer s H E hr =>
 have SC:=b0k
 (aq (qy (a0o (xm (my D_0 hr h_0 (aj (bh 0) (aj (bh 1) au)))))
 a2v
 iu)
 (bu (jc (bh 1))))
theorem b0m:FnScope ["table","room","word"] ["table","room","word"] (bc (top 9)):=by walk_at "sc"
theorem m_2(D_3:Dn P w K mg base k_3 "rooms_along" ["table","room","word"] (a00 K 3 F_3) a_3 d_3)(h_3:k_3<=k):MD P w K mg base f k ["table","room","word"] "room_from" (top 9) (STP.a03 F_3):=λcdv A outer s H E hr =>
 have SC:=b0m
 (bu (jc (dz (my D_3 hr h_3 (aj (bh 0) (aj (bh 1) (aj (bh 2) au)))) (a4b bj))))
theorem b0n:FnScope ["table","room","word","tongue","goes","kinds","rooms","sign"] ["table","room","word"] (bc (top 10)):=by walk_at "sc"
theorem m_3:MD P w K mg base f k ["table","room","word","tongue","goes","kinds","rooms","sign"] "rooms_along" (top 10) (STP.wg):=λcdv A outer s H E hr =>
 have SC:=b0n
 (aq (a3o (bh 0) (a1o rfl (ie (gk (i:=3) SC.nd rfl (Or.inl rfl)) (ie (gk (i:=4) SC.nd rfl (Or.inl rfl)) (ie (gk (i:=5) SC.nd rfl (Or.inl rfl)) yp)))))
 (aq (jj 6 SC.nd (zq (aj (bh 1) au)))
 (aq (yq bB rfl (xf (bh 2)) (gk (i:=7) SC.nd rfl (Or.inl rfl)) (bu (um (a73 bH bI vm a1a (bh 6) (aj (dz (dz (bh 4) (dz (bh 6) (a4b bj))) (ai7 PySem.F.slot_str_index PySem.F.type_str_index alb ai8 (bh 3) (aj (bh 7) au))) au)))))
 (bu (jc (bh 6))))))
theorem b0o:FnScope ["table"] ["table"] (bc (top 12)):=by walk_at "sc"
theorem m_4(M:Nm mg)(D_5:Dn P w K mg base k_5 "hope_word" ["table","start"] (a00 K 2 F_5) a_5 d_5)(h_5:k_5<=k):MD P w K mg base f k ["table"] "hope_words" (top 12) (RCH.yh F_5):=λcdv A outer s H E hr =>
 have SC:=b0o
 (bu (jc (a72 (L2.CallR.or ym (a0f rfl)) a4c rfl M.tuple a3a (aj (a9f (zy rfl (a6u ["room"] ["table"] [0]) (a0j rfl M.range (aj (u5 M.len (aj (dz (bh 0) bj) au)) au)) (pgn 0) yr (λ_ _ _ _=>(my D_5 hr h_5 (aj (bh 1) (aj (bh 0) au)))))) au))))
theorem b0p:FnScope ["table","start","tongue","goes","kinds","found","seen","looked","room","word","sign","to"] ["table","start"] (bc (top 13)):=by walk_at "sc"
theorem m_5(M:Nm mg):MD P w K mg base f k ["table","start","tongue","goes","kinds","found","seen","looked","room","word","sign","to"] "hope_word" (top 13) (RCH.a02):=λcdv A outer s H E hr =>
 have SC:=b0p
 (aq (a3o (bh 0) (a1o rfl (ie (gk (i:=2) SC.nd rfl (Or.inl rfl)) (ie (gk (i:=3) SC.nd rfl (Or.inl rfl)) (ie (gk (i:=4) SC.nd rfl (Or.inl rfl)) yp)))))
 (aq (jj 5 SC.nd (zq (aj (zp (aj (bh 1) (aj uh au))) au)))
 (aq (jj 6 SC.nd (az4 (bh 1) a7l))
 (aq (jj 7 SC.nd bj)
 (aq (a5x 100000 bB (qb (a9s.or yj) a5y (bh 7) (u5 M.len (aj (bh 5) au))) (aq (a3o (dz (bh 5) (bh 7)) (a1o rfl (ie (gk (i:=8) SC.nd rfl (Or.inl rfl)) (ie (gk (i:=9) SC.nd rfl (Or.inl rfl)) yp))))
 (aq (yq bB rfl (anu rfl M.zip anv (bh 2) (dz (bh 3) (bh 8))) (a1o rfl (ie (gk (i:=10) SC.nd rfl (Or.inl rfl)) (ie (gk (i:=11) SC.nd rfl (Or.inl rfl)) yp))) (aq (qy (qb (a3p hr.u) a0l (dz (bh 4) (bh 11)) (a4b bj))
 (bu (jc (qw (bh 9) (bh 10))))
 iu)
 (bu (qy (aa1 (aip hr.u) ag5 (bh 11) (bh 6) (by with_unfolding_all rfl))
 (aq (aql hr.u a7l (bh 6) (bh 11))
 (bu (um (a73 bH bI vm a1a (bh 5) (aj (zp (aj (bh 11) (aj (qw (bh 9) (bh 10)) au))) au)))))
 iu))))
 (bu (abq (i:=7) SC.nd rfl (Or.inl rfl) (a2d.or uf) a07 bj)))))
 (bu (jc a2q)))))))
theorem b0q:FnScope ["table"] ["table"] (bc (top 14)):=by walk_at "sc"
theorem m_6(M:Nm mg)(D_4:Dn P w K mg base k_4 "hope_words" ["table"] (a00 K 1 F_4) a_4 d_4)(h_4:k_4<=k):MD P w K mg base f k ["table"] "hopes" (top 14) (RCH.a76 F_4):=λcdv A outer s H E hr =>
 have SC:=b0q
 (bu (jc (a72 (L2.CallR.or ym (a0f rfl)) a4c rfl M.tuple a3a (aj (a9f (zy rfl (aiz ["word"]) (xf (my D_4 hr h_4 (aj (bh 0) au))) (pgn 0) yr (λ_ _ _ _=>(a5j (ad1.or a5i) a8f (bh 0) a2q (a7d _))))) au))))
theorem b0r:FnScope ["self","table"] ["self","table"] (bc (cst (top 16) 0)):=by walk_at "sc"
theorem m_7{k:Nat}{C_Stream:Addr}(Q_Stream:CK K mg "Stream" C_Stream ["table","hope","phase","start","fed","at","room","last","rest"]){a_6:Addr}{d_6:FuncData}{k_6:Nat}{F_6:SF}(D_6:Dn P w K mg base k_6 "hopes" ["table"] (a00 K 1 F_6) a_6 d_6)(h_6:k_6<=k)(cdv:Value)(A:Around)(outer:List Env)(s:Shared)(H:Hp)(E:XK)(hr:Room k (A.deeper (PyProof.Rows.envOfC "Reader.__init__" (bc (cst (top 16) 0)) s.heap.objs.size f cdv))):MSs (a5r CX0 P w K mg base ["self","table"] "Reader.__init__" (bc (cst (top 16) 0)) f cdv A outer s H E).nox X0 (km (cst (top 16) 0)) (STM.a6k F_6) :=
 have SC:=b0r
 (aq (a0q Q_Stream (by decide +kernel) (bh 0) (bh 1))
 (aq (a0q Q_Stream (by decide +kernel) (bh 0) (my D_6 hr h_6 (aj (bh 1) au)))
 (aq (a0q Q_Stream (by decide +kernel) (bh 0) uh)
 (aq (a0q Q_Stream (by decide +kernel) (bh 0) bj)
 (bu (a0q Q_Stream (by decide +kernel) (bh 0) bj))))))
theorem b0s:FnScope ["self"] ["self"] (bc (cst (top 16) 1)):=by walk_at "sc"
theorem m_8{k:Nat}{C_Stream:Addr}(Q_Stream:CK K mg "Stream" C_Stream ["table","hope","phase","start","fed","at","room","last","rest"])(cdv:Value)(A:Around)(outer:List Env)(s:Shared)(H:Hp)(E:XK)(hr:Room k (A.deeper (PyProof.Rows.envOfC "Reader.state" (bc (cst (top 16) 1)) s.heap.objs.size f cdv))):MSs (a5r CX0 P w K mg base ["self"] "Reader.state" (bc (cst (top 16) 1)) f cdv A outer s H E).nox X0 (km (cst (top 16) 1)) (STM.a5b) :=
 have SC:=b0s
 (bu (jc (pq Q_Stream (by decide +kernel) (bh 0))))
theorem b0t:FnScope ["self"] ["self"] (bc (cst (top 16) 2)):=by walk_at "sc"
theorem m_9{k:Nat}{C_Stream:Addr}(Q_Stream:CK K mg "Stream" C_Stream ["table","hope","phase","start","fed","at","room","last","rest"])(cdv:Value)(A:Around)(outer:List Env)(s:Shared)(H:Hp)(E:XK)(hr:Room k (A.deeper (PyProof.Rows.envOfC "Reader.seen" (bc (cst (top 16) 2)) s.heap.objs.size f cdv))):MSs (a5r CX0 P w K mg base ["self"] "Reader.seen" (bc (cst (top 16) 2)) f cdv A outer s H E).nox X0 (km (cst (top 16) 2)) (STM.a6l) :=
 have SC:=b0t
 (bu (jc (pq Q_Stream (by decide +kernel) (bh 0))))
theorem avd:FnScope ["self"] ["self"] (bc (cst (top 16) 3)):=by walk_at "sc"
theorem b1y{k:Nat}{C_Stream:Addr}(Q_Stream:CK K mg "Stream" C_Stream ["table","hope","phase","start","fed","at","room","last","rest"])(cdv:Value)(A:Around)(outer:List Env)(s:Shared)(H:Hp)(E:XK)(hr:Room k (A.deeper (PyProof.Rows.envOfC "Reader.stopped_at" (bc (cst (top 16) 3)) s.heap.objs.size f cdv))):MSs (a5r CX0 P w K mg base ["self"] "Reader.stopped_at" (bc (cst (top 16) 3)) f cdv A outer s H E).nox X0 (km (cst (top 16) 3)) (STM.a1g) :=
 have SC:=avd
 (bu (jc (abp (xg hr.u (pq Q_Stream (by decide +kernel) (bh 0)) uh) (pq Q_Stream (by decide +kernel) (bh 0)) a2q)))
theorem ave:FnScope ["self"] ["self"] (bc (cst (top 16) 4)):=by walk_at "sc"
theorem b1z{k:Nat}{C_Stream:Addr}(Q_Stream:CK K mg "Stream" C_Stream ["table","hope","phase","start","fed","at","room","last","rest"])(cdv:Value)(A:Around)(outer:List Env)(s:Shared)(H:Hp)(E:XK)(hr:Room k (A.deeper (PyProof.Rows.envOfC "Reader.look_ended" (bc (cst (top 16) 4)) s.heap.objs.size f cdv))):MSs (a5r CX0 P w K mg base ["self"] "Reader.look_ended" (bc (cst (top 16) 4)) f cdv A outer s H E).nox X0 (km (cst (top 16) 4)) (STM.a1h) :=
 have SC:=ave
 (aq (qy (xg hr.u (pq Q_Stream (by decide +kernel) (bh 0)) uh)
 a2v
 iu)
 (bu (qy (xg hr.u (pq Q_Stream (by decide +kernel) (bh 0)) uh)
 a2v
 iu)))
theorem avf:FnScope ["self","part"] ["self","part"] (bc (cst (top 16) 5)):=by walk_at "sc"
theorem b20{k:Nat}(M:Nm mg){C_Stream:Addr}(Q_Stream:CK K mg "Stream" C_Stream ["table","hope","phase","start","fed","at","room","last","rest"]){a_11:Addr}{d_11:FuncData}{k_11:Nat}{F_11:SF}(D_11:Dm P w K mg base k_11 C_Stream "look_ended" ["self"] 1 F_11 a_11 d_11)(h_11:k_11<=k){a_1:Addr}{d_1:FuncData}{k_1:Nat}{F_1:SF}(D_1:Dn P w K mg base k_1 "looked_text" ["tongue","thing"] (a00 K 2 F_1) a_1 d_1)(h_1:k_1<=k)(cdv:Value)(A:Around)(outer:List Env)(s:Shared)(H:Hp)(E:XK)(hr:Room k (A.deeper (PyProof.Rows.envOfC "Reader.take" (bc (cst (top 16) 5)) s.heap.objs.size f cdv))):MSs (a5r CX0 P w K mg base ["self","part"] "Reader.take" (bc (cst (top 16) 5)) f cdv A outer s H E).nox X0 (km (cst (top 16) 5)) (STM.a6m F_11 F_1) :=
 have SC:=avf
 (aq (um (jn false Q_Stream D_11 (hr.mono h_11) (bh 0)))
 (bu (adp Q_Stream (by decide +kernel) (bh 0) (u5 M.len (aj (my D_1 hr h_1 (aj (dz (pq Q_Stream (by decide +kernel) (bh 0)) bj) (aj (bh 1) au))) au)) (a2d.or uf) a07)))
theorem avh:FnScope ["self","table"] ["self","table"] (bc (cst (top 17) 0)):=by walk_at "sc"
theorem b21{k:Nat}{C_Stream:Addr}(Q_Stream:CK K mg "Stream" C_Stream ["table","hope","phase","start","fed","at","room","last","rest"]){a_7:Addr}{d_7:FuncData}{k_7:Nat}{F_7:SF}(D_7:Dc P w K mg base k_7 "Reader" "__init__" ["self","table"] 2 F_7 a_7 d_7)(h_7:k_7<=k){a_14:Addr}{d_14:FuncData}{k_14:Nat}{F_14:SF}(D_14:Dm P w K mg base k_14 C_Stream "begin" ["self","place"] 2 F_14 a_14 d_14)(h_14:k_14<=k)(cdv:Value)(A:Around)(outer:List Env)(s:Shared)(H:Hp)(E:XK)(hr:Room k (A.deeper (PyProof.Rows.envOfC "Walker.__init__" (bc (cst (top 17) 0)) s.heap.objs.size f cdv))):MSs (a5r CX0 P w K mg base ["self","table"] "Walker.__init__" (bc (cst (top 17) 0)) f cdv A outer s H E).nox X0 (km (cst (top 17) 0)) (STM.a6n F_7 F_14) :=
 have SC:=avh
 (aq (um (ar3 false D_7 (hr.mono h_7) rfl (aj (bh 0) (aj (bh 1) au))))
 (bu (um (a1f false Q_Stream D_14 (hr.mono h_14) (bh 0) (aj bj au)))))
theorem avi:FnScope ["self","place"] ["self","place"] (bc (cst (top 17) 1)):=by walk_at "sc"
theorem b22{k:Nat}{C_Stream:Addr}(Q_Stream:CK K mg "Stream" C_Stream ["table","hope","phase","start","fed","at","room","last","rest"])(cdv:Value)(A:Around)(outer:List Env)(s:Shared)(H:Hp)(E:XK)(hr:Room k (A.deeper (PyProof.Rows.envOfC "Walker.begin" (bc (cst (top 17) 1)) s.heap.objs.size f cdv))):MSs (a5r CX0 P w K mg base ["self","place"] "Walker.begin" (bc (cst (top 17) 1)) f cdv A outer s H E).nox X0 (km (cst (top 17) 1)) (STM.a5c) :=
 have SC:=avi
 (aq (a0q Q_Stream (by decide +kernel) (bh 0) (bh 1))
 (aq (a0q Q_Stream (by decide +kernel) (bh 0) (bh 1))
 (aq (a0q Q_Stream (by decide +kernel) (bh 0) bj)
 (aq (a0q Q_Stream (by decide +kernel) (bh 0) a2q)
 (bu (a0q Q_Stream (by decide +kernel) (bh 0) uh))))))
theorem avj:FnScope ["self","part"] ["self","part"] (bc (cst (top 17) 2)):=by walk_at "sc"
theorem b23{k:Nat}{C_Stream:Addr}(Q_Stream:CK K mg "Stream" C_Stream ["table","hope","phase","start","fed","at","room","last","rest"]){a_12:Addr}{d_12:FuncData}{k_12:Nat}{F_12:SF}(D_12:Dm P w K mg base k_12 C_Stream "take" ["self","part"] 2 F_12 a_12 d_12)(h_12:k_12<=k){a_17:Addr}{d_17:FuncData}{k_17:Nat}{F_17:SF}(D_17:Dm P w K mg base k_17 C_Stream "read" ["self","signs"] 2 F_17 a_17 d_17)(h_17:k_17<=k)(cdv:Value)(A:Around)(outer:List Env)(s:Shared)(H:Hp)(E:XK)(hr:Room k (A.deeper (PyProof.Rows.envOfC "Walker.feed" (bc (cst (top 17) 2)) s.heap.objs.size f cdv))):MSs (a5r CX0 P w K mg base ["self","part"] "Walker.feed" (bc (cst (top 17) 2)) f cdv A outer s H E).nox X0 (km (cst (top 17) 2)) (STM.a6o F_12 F_17) :=
 have SC:=avj
 (aq (um (a1f false Q_Stream D_12 (hr.mono h_12) (bh 0) (aj (bh 1) au)))
 (bu (jc (a1f true Q_Stream D_17 (hr.mono h_17) (bh 0) (aj (bh 1) au)))))
theorem avk:FnScope ["self","told","again"] ["self"] (bc (cst (top 17) 3)):=by walk_at "sc"
theorem b24{k:Nat}{C_Stream:Addr}(Q_Stream:CK K mg "Stream" C_Stream ["table","hope","phase","start","fed","at","room","last","rest"]){a_11:Addr}{d_11:FuncData}{k_11:Nat}{F_11:SF}(D_11:Dm P w K mg base k_11 C_Stream "look_ended" ["self"] 1 F_11 a_11 d_11)(h_11:k_11<=k){a_22:Addr}{d_22:FuncData}{k_22:Nat}{F_22:SF}(D_22:Dm P w K mg base k_22 C_Stream "settle" ["self","told"] 2 F_22 a_22 d_22)(h_22:k_22<=k){a_17:Addr}{d_17:FuncData}{k_17:Nat}{F_17:SF}(D_17:Dm P w K mg base k_17 C_Stream "read" ["self","signs"] 2 F_17 a_17 d_17)(h_17:k_17<=k)(cdv:Value)(A:Around)(outer:List Env)(s:Shared)(H:Hp)(E:XK)(hr:Room k (A.deeper (PyProof.Rows.envOfC "Walker.close" (bc (cst (top 17) 3)) s.heap.objs.size f cdv))):MSs (a5r CX0 P w K mg base ["self","told","again"] "Walker.close" (bc (cst (top 17) 3)) f cdv A outer s H E).nox X0 (km (cst (top 17) 3)) (STM.a0d F_11 F_22 F_17) :=
 have SC:=avk
 (aq (um (jn false Q_Stream D_11 (hr.mono h_11) (bh 0)))
 (aq (jj 1 SC.nd (zq au))
 (aq (a5x 100000 bB (PW.pt (a8d (xg hr.u (pq Q_Stream (by decide +kernel) (bh 0)) uh) (a5k (qb (a9s.or yj) a5y (pq Q_Stream (by decide +kernel) (bh 0)) (pq Q_Stream (by decide +kernel) (bh 0)))))) (aq (jj 2 SC.nd (a1f false Q_Stream D_22 (hr.mono h_22) (bh 0) (aj (bh 1) au)))
 (bu (um (a73 PySem.F.slot_list_extend PySem.F.type_list_extend (MtR.or ag2 afy) alx (bh 1) (aj (a1f false Q_Stream D_17 (hr.mono h_17) (bh 0) (aj (bh 2) au)) au))))))
 (aq (qy (xg hr.u (pq Q_Stream (by decide +kernel) (bh 0)) uh)
 (bu (a0q Q_Stream (by decide +kernel) (bh 0) uh))
 iu)
 (bu (jc (bh 1)))))))
theorem avl:FnScope ["self","signs","told","left"] ["self","signs"] (bc (cst (top 17) 4)):=by walk_at "sc"
theorem b25{k:Nat}{C_Stream:Addr}(Q_Stream:CK K mg "Stream" C_Stream ["table","hope","phase","start","fed","at","room","last","rest"]){a_22:Addr}{d_22:FuncData}{k_22:Nat}{F_22:SF}(D_22:Dm P w K mg base k_22 C_Stream "settle" ["self","told"] 2 F_22 a_22 d_22)(h_22:k_22<=k){a_18:Addr}{d_18:FuncData}{k_18:Nat}{F_18:SF}(D_18:Dm P w K mg base k_18 C_Stream "go" ["self","sign"] 2 F_18 a_18 d_18)(h_18:k_18<=k)(cdv:Value)(A:Around)(outer:List Env)(s:Shared)(H:Hp)(E:XK)(hr:Room k (A.deeper (PyProof.Rows.envOfC "Walker.read" (bc (cst (top 17) 4)) s.heap.objs.size f cdv))):MSs (a5r CX0 P w K mg base ["self","signs","told","left"] "Walker.read" (bc (cst (top 17) 4)) f cdv A outer s H E).nox X0 (km (cst (top 17) 4)) (STM.wj F_22 F_18) :=
 have SC:=avl
 (aq (jj 2 SC.nd (zq au))
 (aq (jj 3 SC.nd (bh 1))
 (aq (a5x 100000 bB (PW.pt (a8d (qb (a3p hr.u) a0l (bh 3) uh) (a5k (xg hr.u (pq Q_Stream (by decide +kernel) (bh 0)) uh)))) (aq (um (a1f false Q_Stream D_18 (hr.mono h_18) (bh 0) (aj (dz (bh 3) bj) au)))
 (aq (jj 3 SC.nd (uo (bh 3) (yu bj) a0k))
 (bu (qy (a0o (xm (dz (pq Q_Stream (by decide +kernel) (bh 0)) (pq Q_Stream (by decide +kernel) (bh 0)))))
 (bu (jj 3 SC.nd (qw (a1f false Q_Stream D_22 (hr.mono h_22) (bh 0) (aj (bh 2) au)) (bh 3))))
 iu)))))
 (bu (jc (bh 2))))))
theorem avm:FnScope ["self","sign","kind"] ["self","sign"] (bc (cst (top 17) 5)):=by walk_at "sc"
theorem b26{k:Nat}{C_Stream:Addr}(Q_Stream:CK K mg "Stream" C_Stream ["table","hope","phase","start","fed","at","room","last","rest"]){a_2:Addr}{d_2:FuncData}{k_2:Nat}{F_2:SF}(D_2:Dn P w K mg base k_2 "room_from" ["table","room","word"] (a00 K 3 F_2) a_2 d_2)(h_2:k_2<=k)(cdv:Value)(A:Around)(outer:List Env)(s:Shared)(H:Hp)(E:XK)(hr:Room k (A.deeper (PyProof.Rows.envOfC "Walker.go" (bc (cst (top 17) 5)) s.heap.objs.size f cdv))):MSs (a5r CX0 P w K mg base ["self","sign","kind"] "Walker.go" (bc (cst (top 17) 5)) f cdv A outer s H E).nox X0 (km (cst (top 17) 5)) (STM.a3f F_2) :=
 have SC:=avm
 (aq (adp Q_Stream (by decide +kernel) (bh 0) bj (a2d.or uf) a07)
 (aq (a0q Q_Stream (by decide +kernel) (bh 0) (my D_2 hr h_2 (aj (pq Q_Stream (by decide +kernel) (bh 0)) (aj (pq Q_Stream (by decide +kernel) (bh 0)) (aj (bh 1) au)))))
 (aq (jj 2 SC.nd (dz (dz (pq Q_Stream (by decide +kernel) (bh 0)) bj) (pq Q_Stream (by decide +kernel) (bh 0))))
 (bu (qy (qb (a3p hr.u) a0l (bh 2) (a4b bj))
 (aq (a0q Q_Stream (by decide +kernel) (bh 0) (zp (aj (bh 2) (aj (pq Q_Stream (by decide +kernel) (bh 0)) au))))
 (bu (a0q Q_Stream (by decide +kernel) (bh 0) uh)))
 (bu (qy (qb (ad1.or a5i) a8f (pq Q_Stream (by decide +kernel) (bh 0)) a2q)
 (bu (adp Q_Stream (by decide +kernel) (bh 0) (bh 1) (a2d.or uf) a07))
 iu)))))))
theorem avn:FnScope ["self","kind","end","again"] ["self"] (bc (cst (top 17) 6)):=by walk_at "sc"
theorem b28{k:Nat}{C_Stream:Addr}(Q_Stream:CK K mg "Stream" C_Stream ["table","hope","phase","start","fed","at","room","last","rest"]){a_14:Addr}{d_14:FuncData}{k_14:Nat}{F_14:SF}(D_14:Dm P w K mg base k_14 C_Stream "begin" ["self","place"] 2 F_14 a_14 d_14)(h_14:k_14<=k)(cdv:Value)(A:Around)(outer:List Env)(s:Shared)(H:Hp)(E:XK)(hr:Room k (A.deeper (PyProof.Rows.envOfC "Walker.go_behind" (bc (cst (top 17) 6)) s.heap.objs.size f cdv))):MSs (a5r CX0 P w K mg base ["self","kind","end","again"] "Walker.go_behind" (bc (cst (top 17) 6)) f cdv A outer s H E).nox X0 (km (cst (top 17) 6)) (STM.a1z F_14) :=
 have SC:=avn
 (aq (a3o (pq Q_Stream (by decide +kernel) (bh 0)) (a1o rfl (ie (gk (i:=1) SC.nd rfl (Or.inl rfl)) (ie (gk (i:=2) SC.nd rfl (Or.inl rfl)) yp))))
 (aq (jj 3 SC.nd (pq Q_Stream (by decide +kernel) (bh 0)))
 (aq (um (a1f false Q_Stream D_14 (hr.mono h_14) (bh 0) (aj (bh 2) au)))
 (bu (jc (bh 3))))))
theorem avo:FnScope ["self"] ["self"] (bc (cst (top 17) 7)):=by walk_at "sc"
theorem b29{k:Nat}{C_Stream:Addr}(Q_Stream:CK K mg "Stream" C_Stream ["table","hope","phase","start","fed","at","room","last","rest"]){a_14:Addr}{d_14:FuncData}{k_14:Nat}{F_14:SF}(D_14:Dm P w K mg base k_14 C_Stream "begin" ["self","place"] 2 F_14 a_14 d_14)(h_14:k_14<=k)(cdv:Value)(A:Around)(outer:List Env)(s:Shared)(H:Hp)(E:XK)(hr:Room k (A.deeper (PyProof.Rows.envOfC "Walker.stop" (bc (cst (top 17) 7)) s.heap.objs.size f cdv))):MSs (a5r CX0 P w K mg base ["self"] "Walker.stop" (bc (cst (top 17) 7)) f cdv A outer s H E).nox X0 (km (cst (top 17) 7)) (STM.a6p F_14) :=
 have SC:=avo
 (aq (a0q Q_Stream (by decide +kernel) (bh 0) uh)
 (aq (um (a1f false Q_Stream D_14 (hr.mono h_14) (bh 0) (aj (pq Q_Stream (by decide +kernel) (bh 0)) au)))
 (bu (jc uh))))
theorem avp:FnScope ["self"] ["self"] (bc (cst (top 17) 8)):=by walk_at "sc"
theorem b2a{k:Nat}{C_Stream:Addr}(Q_Stream:CK K mg "Stream" C_Stream ["table","hope","phase","start","fed","at","room","last","rest"])(cdv:Value)(A:Around)(outer:List Env)(s:Shared)(H:Hp)(E:XK)(hr:Room k (A.deeper (PyProof.Rows.envOfC "Walker.kept" (bc (cst (top 17) 8)) s.heap.objs.size f cdv))):MSs (a5r CX0 P w K mg base ["self"] "Walker.kept" (bc (cst (top 17) 8)) f cdv A outer s H E).nox X0 (km (cst (top 17) 8)) (STM.a6q) :=
 have SC:=avp
 (bu (jc (pq Q_Stream (by decide +kernel) (bh 0))))
theorem avq:FnScope ["self","told","kind","end"] ["self","told"] (bc (cst (top 19) 0)):=by walk_at "sc"
theorem b2b{k:Nat}{C_Stream:Addr}(Q_Stream:CK K mg "Stream" C_Stream ["table","hope","phase","start","fed","at","room","last","rest"]){a_19:Addr}{d_19:FuncData}{k_19:Nat}{F_19:SF}(D_19:Dm P w K mg base k_19 C_Stream "go_behind" ["self"] 1 F_19 a_19 d_19)(h_19:k_19<=k){a_20:Addr}{d_20:FuncData}{k_20:Nat}{F_20:SF}(D_20:Dm P w K mg base k_20 C_Stream "stop" ["self"] 1 F_20 a_20 d_20)(h_20:k_20<=k)(cdv:Value)(A:Around)(outer:List Env)(s:Shared)(H:Hp)(E:XK)(hr:Room k (A.deeper (PyProof.Rows.envOfC "Stream.settle" (bc (cst (top 19) 0)) s.heap.objs.size f cdv))):MSs (a5r CX0 P w K mg base ["self","told","kind","end"] "Stream.settle" (bc (cst (top 19) 0)) f cdv A outer s H E).nox X0 (km (cst (top 19) 0)) (STM.a4j F_19 F_20) :=
 have SC:=avq
 (aq (qy (qb (ae1.or a7q) aej (pq Q_Stream (by decide +kernel) (bh 0)) a2q)
 (bu (jc (jn false Q_Stream D_20 (hr.mono h_20) (bh 0))))
 iu)
 (aq (a3o (pq Q_Stream (by decide +kernel) (bh 0)) (a1o rfl (ie (gk (i:=2) SC.nd rfl (Or.inl rfl)) (ie (gk (i:=3) SC.nd rfl (Or.inl rfl)) yp))))
 (aq (um (a73 bH bI vm a1a (bh 1) (aj (zp (aj (bh 2) (aj (pq Q_Stream (by decide +kernel) (bh 0)) (aj (bh 3) au)))) au)))
 (bu (jc (jn false Q_Stream D_19 (hr.mono h_19) (bh 0)))))))
theorem avr:FnScope ["self"] ["self"] (bc (cst (top 19) 1)):=by walk_at "sc"
theorem b2c{k:Nat}{C_Stream:Addr}(Q_Stream:CK K mg "Stream" C_Stream ["table","hope","phase","start","fed","at","room","last","rest"]){a_10:Addr}{d_10:FuncData}{k_10:Nat}{F_10:SF}(D_10:Dm P w K mg base k_10 C_Stream "stopped_at" ["self"] 1 F_10 a_10 d_10)(h_10:k_10<=k)(cdv:Value)(A:Around)(outer:List Env)(s:Shared)(H:Hp)(E:XK)(hr:Room k (A.deeper (PyProof.Rows.envOfC "Stream.fault" (bc (cst (top 19) 1)) s.heap.objs.size f cdv))):MSs (a5r CX0 P w K mg base ["self"] "Stream.fault" (bc (cst (top 19) 1)) f cdv A outer s H E).nox X0 (km (cst (top 19) 1)) (STM.a5d F_10) :=
 have SC:=avr
 (bu (jc (jn false Q_Stream D_10 (hr.mono h_10) (bh 0))))
theorem avs:FnScope ["self"] ["self"] (bc (cst (top 19) 2)):=by walk_at "sc"
theorem b2d{k:Nat}{C_Stream:Addr}(Q_Stream:CK K mg "Stream" C_Stream ["table","hope","phase","start","fed","at","room","last","rest"])(cdv:Value)(A:Around)(outer:List Env)(s:Shared)(H:Hp)(E:XK)(hr:Room k (A.deeper (PyProof.Rows.envOfC "Stream.stand" (bc (cst (top 19) 2)) s.heap.objs.size f cdv))):MSs (a5r CX0 P w K mg base ["self"] "Stream.stand" (bc (cst (top 19) 2)) f cdv A outer s H E).nox X0 (km (cst (top 19) 2)) (TWN.a5e) :=
 have SC:=avs
 (bu (jc (zp (aj (pq Q_Stream (by decide +kernel) (bh 0)) (aj (pq Q_Stream (by decide +kernel) (bh 0)) (aj (pq Q_Stream (by decide +kernel) (bh 0)) (aj (pq Q_Stream (by decide +kernel) (bh 0)) (aj (pq Q_Stream (by decide +kernel) (bh 0)) (aj (pq Q_Stream (by decide +kernel) (bh 0)) au)))))))))
theorem avt:FnScope ["self"] ["self"] (bc (cst (top 19) 3)):=by walk_at "sc"
theorem b2e{k:Nat}{C_Stream:Addr}(Q_Stream:CK K mg "Stream" C_Stream ["table","hope","phase","start","fed","at","room","last","rest"]){a_24:Addr}{d_24:FuncData}{k_24:Nat}{F_24:SF}(D_24:Dm P w K mg base k_24 C_Stream "stand" ["self"] 1 F_24 a_24 d_24)(h_24:k_24<=k){a_26:Addr}{d_26:FuncData}{k_26:Nat}{F_26:SF}(D_26:Dn P w K mg base k_26 "resumed" ["table","stand"] (a00 K 2 F_26) a_26 d_26)(h_26:k_26<=k)(cdv:Value)(A:Around)(outer:List Env)(s:Shared)(H:Hp)(E:XK)(hr:Room k (A.deeper (PyProof.Rows.envOfC "Stream.twin" (bc (cst (top 19) 3)) s.heap.objs.size f cdv))):MSs (a5r CX0 P w K mg base ["self"] "Stream.twin" (bc (cst (top 19) 3)) f cdv A outer s H E).nox X0 (km (cst (top 19) 3)) (TWN.a6s F_24 F_26) :=
 have SC:=avt
 (bu (jc (a0t true D_26 (hr.mono h_26) rfl (aj (pq Q_Stream (by decide +kernel) (bh 0)) (aj (jn false Q_Stream D_24 (hr.mono h_24) (bh 0)) au)))))
theorem avu:FnScope ["table","stand","stream"] ["table","stand"] (bc (top 20)):=by walk_at "sc"
theorem b2f(Q_Stream:CK K mg "Stream" C_Stream ["table","hope","phase","start","fed","at","room","last","rest"])(D_13:Di P w K mg base k_13 "Stream" C_Stream ["table","hope","phase","start","fed","at","room","last","rest"] ["self","table"] 1 F_13 a_13 d_13)(h_13:k_13+1<=k):MD P w K mg base f k ["table","stand","stream"] "resumed" (top 20) (TWN.a6t F_13):=λcdv A outer s H E hr =>
 have SC:=avu
 (aq (jj 2 SC.nd (avb D_13 hr h_13 (aj (bh 0) au)))
 (aq (a3o (bh 1) (a1o rfl (ie (a9m Q_Stream (by decide +kernel) (bh 2)) (ie (a9m Q_Stream (by decide +kernel) (bh 2)) (ie (a9m Q_Stream (by decide +kernel) (bh 2)) (ie (a9m Q_Stream (by decide +kernel) (bh 2)) (ie (a9m Q_Stream (by decide +kernel) (bh 2)) (ie (a9m Q_Stream (by decide +kernel) (bh 2)) yp))))))))
 (aq (a0q Q_Stream (by decide +kernel) (bh 2) (pq Q_Stream (by decide +kernel) (bh 2)))
 (bu (jc (bh 2))))))
theorem avv:FnScope ["_law_script","_law_cells"] ["_law_script"] (bc (top 22)):=by walk_at "sc"
theorem b2g(M:Nm mg):MD P w K mg base f k ["_law_script","_law_cells"] "_law_source" (top 22) (SRC.a1s):=λcdv A outer s H E hr =>
 have SC:=avv
 (aq (a69 (i:=1) SC.nd rfl (Or.inl rfl) rfl (aiz ["_law_cell"]) (xf (a9f (uo (bh 0) a0k (yu bj)))) (pgn 0) yr (λ_ _ _ _=>(qw (aaf bj (a5w akt aq0 rfl M.abs au3 (aj (bh 0) au))) (a72 agy aq2 rfl M.int anf (aj (a5j (a9s.or yj) a5y (bh 0) bj (a7d _)) au)))))
 (bu (jc (zq (aj (bh 1) (aj bj (aj bj (aj bj (aj (a9c (a5w (afx rfl) aq6 rfl M.sum auo (aj (bh 1) au)) bj) au)))))))))
theorem avw:FnScope ["_law_left","_law_many","_law_cell","_law_told"] ["_law_left","_law_many"] (bc (top 23)):=by walk_at "sc"
theorem b2h(M:Nm mg):MD P w K mg base f k ["_law_left","_law_many","_law_cell","_law_told"] "_law_draw" (top 23) (SRC.a4q):=λcdv A outer s H E hr =>
 have SC:=avw
 (aq (adh (bh 0) bj bj (a2d.or uf) a07)
 (aq (qy (PW.pt (a8d (xg hr.u (dz (bh 0) bj) bj) (a5k (qb (a9s.or yj) a5y (dz (bh 0) bj) (u5 M.len (aj (dz (bh 0) bj) au))))))
 (aq (jj 2 SC.nd (dz (dz (bh 0) bj) (dz (bh 0) bj)))
 (aq (adh (bh 0) bj bj (a2d.or uf) a07)
 (bu (qy (qb akr aeg (bh 2) (ai2 bj bj))
 (bu (a9a (bh 2) (bh 0) bj))
 (bu (a9a (a9c (qw (aaf (dz (bh 0) bj) bj) (bh 2)) bj) (bh 0) bj))))))
 iu)
 (aq (qy (qb atf ank (dz (bh 0) bj) bj)
 (aq (jj 3 SC.nd (a9c (dz (bh 0) bj) (bh 1)))
 (aq (adh (bh 0) bj (bh 1) akq ahz)
 (bu (jc (bh 3)))))
 iu)
 (aq (jj 3 SC.nd (a9c (ai2 (qw (qw (dz (bh 0) bj) bj) (aaf (dz (bh 0) bj) bj)) bj) bj))
 (bu (jc (a9c (anj (a9c (ai2 (qw (aaf (bh 3) bj) (dz (bh 0) bj)) bj) bj) bj) (bh 1))))))))
theorem avx:FnScope ["_law_some"] [] (bc (top 24)):=by walk_at "sc"
theorem b2j:MD P w K mg base f k ["_law_some"] "_law_signs" (top 24) (SRC.a1d):=λcdv A outer s H E hr =>
 have SC:=avx
 (aq (jj 0 SC.nd uh)
 (bu (jc (qw (bh 0) uh))))
theorem avy:FnScope ["_law_left","_law_rest","_law_told","_law_k","_law_at"] ["_law_left"] (bc (top 25)):=by walk_at "sc"
theorem b2k(M:Nm mg)(D_28:Dn P w K mg base k_28 "_law_draw" ["_law_left","_law_many"] (a00 K 2 F_28) a_28 d_28)(h_28:k_28<=k)(D_29:Dn P w K mg base k_29 "_law_signs" [] (a00 K 0 F_29) a_29 d_29)(h_29:k_29<=k):MD P w K mg base f k ["_law_left","_law_rest","_law_told","_law_k","_law_at"] "_law_tongue" (top 25) (SRC.a1t F_28 F_29):=λcdv A outer s H E hr =>
 have SC:=avy
 (aq (jj 1 SC.nd (aig false D_29 (hr.mono h_29) rfl))
 (aq (jj 2 SC.nd uh)
 (aq (yq bB rfl (a0j rfl M.range (aj (qw bj (my D_28 hr h_28 (aj (bh 0) (aj bj au)))) au)) (gk (i:=3) SC.nd rfl (Or.inl rfl)) (aq (jj 4 SC.nd (my D_28 hr h_28 (aj (bh 0) (aj (u5 M.len (aj (bh 1) au)) au))))
 (aq (abq (i:=2) SC.nd rfl (Or.inl rfl) (a2d.or uf) a07 (dz (bh 1) (bh 4)))
 (bu (jj 1 SC.nd (qw (uo (bh 1) a0k (yu (bh 4))) (uo (bh 1) (yu (qw (bh 4) bj)) a0k)))))))
 (bu (jc (bh 2))))))
theorem avz:FnScope ["_law_left","_law_tongue_here","_law_many","_law_kinds","_law_room","_law_manner","_law_goes","_law_row"] ["_law_left","_law_tongue_here","_law_many"] (bc (top 26)):=by walk_at "sc"
theorem b2l(M:Nm mg)(D_28:Dn P w K mg base k_28 "_law_draw" ["_law_left","_law_many"] (a00 K 2 F_28) a_28 d_28)(h_28:k_28<=k):MD P w K mg base f k ["_law_left","_law_tongue_here","_law_many","_law_kinds","_law_room","_law_manner","_law_goes","_law_row"] "_law_rooms" (top 26) (CAS.a8n F_28):=λcdv A outer s H E hr =>
 have SC:=avz
 (aq (jj 3 SC.nd (zq (aj (a4b bj) au)))
 (aq (yq bB rfl (ahy rfl M.range (aj bj (aj (bh 2) au))) (gk (i:=4) SC.nd rfl (Or.inr rfl)) (bu (um (a73 bH bI vm a1a (bh 3) (aj (abp (xg hr.u (my D_28 hr h_28 (aj (bh 0) (aj bj au))) bj) (my D_28 hr h_28 (aj (bh 0) (aj bj au))) (a4b bj)) au)))))
 (aq (jj 5 SC.nd (my D_28 hr h_28 (aj (bh 0) (aj bj au))))
 (aq (jj 6 SC.nd (zq au))
 (aq (yq bB rfl (a0j rfl M.range (aj (bh 2) au)) (gk (i:=4) SC.nd rfl (Or.inr rfl)) (aq (a69 (i:=7) SC.nd rfl (Or.inl rfl) rfl (a6u ["_law_sign"] ["_law_left","_law_many"] [0,2]) (xf (bh 1)) (pgn 0) yr (λ_ _ _ _=>(my D_28 hr h_28 (aj (bh 1) (aj (bh 2) au)))))
 (aq (qy (qb atf ank (bh 5) bj)
 (bu (a69 (i:=7) SC.nd rfl (Or.inl rfl) rfl (a6u ["_law_to"] ["_law_many","_law_kinds","_law_room"] [2,3,4]) (xf (bh 7)) (pgn 0) yr (λ_ _ _ _=>(abp (PW.pt (a8d (qb (a9s.or yj) a5y (dz (bh 2) (bh 0)) bj) (a5k (qb (ayg.or ahi) aue (bh 0) (bh 3))))) (ai1 (bh 1) bj) (bh 0)))))
 iu)
 (aq (qy (PW.pt (a8d (xg hr.u (bh 5) bj) (a5k (xg hr.u (bh 4) (ai1 (bh 2) bj)))))
 (bu (a69 (i:=7) SC.nd rfl (Or.inl rfl) rfl (a6u ["_law_to"] ["_law_room"] [4]) (xf (bh 7)) (pgn 0) yr (λ_ _ _ _=>(bh 1))))
 iu)
 (bu (um (a73 bH bI vm a1a (bh 6) (aj (bh 7) au))))))))
 (bu (jc (zp (aj (bh 6) (aj (bh 3) au))))))))))
theorem aw0:FnScope ["_law_left","_law_tongue_here","_law_words","_law_goes","_law_kinds","_law_k","_law_word","_law_room","_law_sign","_law_at","_law_rows"] ["_law_left","_law_tongue_here"] (bc (top 27)):=by walk_at "sc"
theorem b2m(M:Nm mg)(D_28:Dn P w K mg base k_28 "_law_draw" ["_law_left","_law_many"] (a00 K 2 F_28) a_28 d_28)(h_28:k_28<=k):MD P w K mg base f k ["_law_left","_law_tongue_here","_law_words","_law_goes","_law_kinds","_law_k","_law_word","_law_room","_law_sign","_law_at","_law_rows"] "_law_grown" (top 27) (CAS.a3e F_28):=λcdv A outer s H E hr =>
 have SC:=aw0
 (aq (jj 2 SC.nd (zq au))
 (aq (jj 3 SC.nd (zq (aj (zy rfl (aiz ["_law_sign"]) (xf (bh 1)) (pgn 0) yr (λ_ _ _ _=>(a4b bj))) au)))
 (aq (jj 4 SC.nd (zq (aj (a4b bj) au)))
 (aq (yq bB rfl (a0j rfl M.range (aj (qw bj (my D_28 hr h_28 (aj (bh 0) (aj bj au)))) au)) (gk (i:=5) SC.nd rfl (Or.inl rfl)) (aq (jj 6 SC.nd (ai7 PySem.F.slot_str_join PySem.F.type_str_join ahs aen uh (aj (a9f (zy rfl (a6u ["_law_j"] ["_law_left","_law_tongue_here"] [0,1]) (a0j rfl M.range (aj (qw bj (my D_28 hr h_28 (aj (bh 0) (aj bj au)))) au)) (pgn 0) yr (λ_ _ _ _=>(dz (bh 2) (my D_28 hr h_28 (aj (bh 1) (aj (u5 M.len (aj (bh 2) au)) au))))))) au)))
 (aq (qy (PW.pt (a8d (qb (aiv hr.u) (adk true) (bh 2) (a9f (zq au))) (a5k (xg hr.u (my D_28 hr h_28 (aj (bh 0) (aj bj au))) bj))))
 (bu (jj 6 SC.nd (uo (qw (dz (bh 2) (my D_28 hr h_28 (aj (bh 0) (aj (u5 M.len (aj (bh 2) au)) au)))) (bh 6)) a0k (yu bj))))
 iu)
 (aq (um (a73 bH bI vm a1a (bh 2) (aj (bh 6) au)))
 (aq (jj 7 SC.nd bj)
 (aq (yq bB rfl (xf (bh 6)) (gk (i:=8) SC.nd rfl (Or.inl rfl)) (aq (jj 9 SC.nd (ai7 PySem.F.slot_str_find PySem.F.type_str_find ahr aem (bh 1) (aj (bh 8) au)))
 (aq (qy (qb (a9s.or yj) a5y (dz (dz (bh 3) (bh 7)) (bh 9)) bj)
 (aq (a9a (u5 M.len (aj (bh 3) au)) (dz (bh 3) (bh 7)) (bh 9))
 (aq (um (a73 bH bI vm a1a (bh 3) (aj (zy rfl (aiz ["_law_one"]) (xf (bh 1)) (pgn 0) yr (λ_ _ _ _=>(a4b bj))) au)))
 (bu (um (a73 bH bI vm a1a (bh 4) (aj (a4b bj) au))))))
 iu)
 (bu (jj 7 SC.nd (dz (dz (bh 3) (bh 7)) (bh 9)))))))
 (bu (a9a (my D_28 hr h_28 (aj (bh 0) (aj bj au))) (bh 4) (bh 7)))))))))
 (aq (yq bB rfl (a0j rfl M.range (aj (my D_28 hr h_28 (aj (bh 0) (aj bj au))) au)) (gk (i:=5) SC.nd rfl (Or.inl rfl)) (aq (jj 7 SC.nd (my D_28 hr h_28 (aj (bh 0) (aj (u5 M.len (aj (bh 3) au)) au))))
 (aq (jj 9 SC.nd (my D_28 hr h_28 (aj (bh 0) (aj (u5 M.len (aj (bh 1) au)) au))))
 (bu (qy (qb (a9s.or yj) a5y (dz (dz (bh 3) (bh 7)) (bh 9)) bj)
 (bu (a9a (qw bj (my D_28 hr h_28 (aj (bh 0) (aj (ai1 (u5 M.len (aj (bh 3) au)) bj) au)))) (dz (bh 3) (bh 7)) (bh 9)))
 iu)))))
 (aq (a69 (i:=10) SC.nd rfl (Or.inl rfl) rfl (a6u ["_law_row"] ["_law_goes"] [3]) (xf (bh 3)) (pgn 0) yr (λ_ _ _ _=>(a9f (zy rfl (a6u ["_law_to"] ["_law_goes"] [1]) (xf (bh 0)) (pgn 0) yr (λ_ _ _ _=>(abp (qb akr aeg (bh 0) bj) (bh 0) (u5 M.len (aj (bh 1) au))))))))
 (bu (jc (zp (aj (bh 2) (aj (a9f (qw (bh 10) (a9f (zq (aj (a9f (zy rfl (a6u ["_law_sign"] ["_law_goes"] [3]) (xf (bh 1)) (pgn 0) yr (λ_ _ _ _=>(u5 M.len (aj (bh 1) au))))) au))))) (aj (a9f (qw (bh 4) (a9f (zq (aj (a4b bj) au))))) au))))))))))))
theorem aw1:FnScope ["_law_tongue_here","_law_goes","_law_kinds","_law_met_here","_law_at","_law_to","_law_rows"] ["_law_tongue_here","_law_goes","_law_kinds"] (bc (top 28)):=by walk_at "sc"
theorem b2n(M:Nm mg):MD P w K mg base f k ["_law_tongue_here","_law_goes","_law_kinds","_law_met_here","_law_at","_law_to","_law_rows"] "_law_met" (top 28) (CAS.a6f):=λcdv A outer s H E hr =>
 have SC:=aw1
 (aq (jj 3 SC.nd (zq (aj bj au)))
 (aq (jj 4 SC.nd bj)
 (aq (a5x 100000 bB (qb (a9s.or yj) a5y (bh 4) (u5 M.len (aj (bh 3) au))) (aq (yq bB rfl (xf (dz (bh 1) (dz (bh 3) (bh 4)))) (gk (i:=5) SC.nd rfl (Or.inl rfl)) (bu (qy (aa1 (afw.or abg) apy (bh 5) (bh 3) (by with_unfolding_all rfl))
 (bu (um (a73 bH bI vm a1a (bh 3) (aj (bh 5) au))))
 iu)))
 (bu (abq (i:=4) SC.nd rfl (Or.inl rfl) (a2d.or uf) a07 bj))))
 (aq (jj 3 SC.nd (a5w aag ag3 rfl M.sorted air (aj (bh 3) au)))
 (aq (jj 6 SC.nd (a72 (L2.CallR.or ym (a0f rfl)) a4c rfl M.tuple a3a (aj (a9f (zy rfl (a6u ["_law_room"] ["_law_goes","_law_met_here"] [1,3]) (xf (bh 3)) (pgn 0) yr (λ_ _ _ _=>(a72 (L2.CallR.or ym (a0f rfl)) a4c rfl M.tuple a3a (aj (a9f (zy rfl (a6u ["_law_to"] ["_law_met_here"] [2]) (xf (dz (bh 1) (bh 0))) (pgn 0) yr (λ_ _ _ _=>(a73 PySem.F.slot_list_index PySem.F.type_list_index ail ag4 (bh 1) (aj (bh 0) au))))) au))))) au)))
 (bu (jc (zp (aj (bh 0) (aj (bh 6) (aj (a72 (L2.CallR.or ym (a0f rfl)) a4c rfl M.tuple a3a (aj (a9f (zy rfl (a6u ["_law_room"] ["_law_kinds"] [2]) (xf (bh 3)) (pgn 0) yr (λ_ _ _ _=>(dz (bh 1) (bh 0))))) au)) au)))))))))))
theorem aw2:FnScope ["_law_left","_law_sort","_law_size","_law_tongue_here","_law_goes","_law_kinds","_law_text","_law_words","_law_k","_law_word","_law_bent"] ["_law_left"] (bc (top 29)):=by walk_at "sc"
theorem b2o(M:Nm mg)(D_28:Dn P w K mg base k_28 "_law_draw" ["_law_left","_law_many"] (a00 K 2 F_28) a_28 d_28)(h_28:k_28<=k)(D_32:Dn P w K mg base k_32 "_law_grown" ["_law_left","_law_tongue_here"] (a00 K 2 F_32) a_32 d_32)(h_32:k_32<=k)(D_33:Dn P w K mg base k_33 "_law_met" ["_law_tongue_here","_law_goes","_law_kinds"] (a00 K 3 F_33) a_33 d_33)(h_33:k_33<=k)(D_31:Dn P w K mg base k_31 "_law_rooms" ["_law_left","_law_tongue_here","_law_many"] (a00 K 3 F_31) a_31 d_31)(h_31:k_31<=k)(D_30:Dn P w K mg base k_30 "_law_tongue" ["_law_left"] (a00 K 1 F_30) a_30 d_30)(h_30:k_30<=k):MD P w K mg base f k ["_law_left","_law_sort","_law_size","_law_tongue_here","_law_goes","_law_kinds","_law_text","_law_words","_law_k","_law_word","_law_bent"] "_law_case" (top 29) (CAS.a4s F_28 F_32 F_33 F_31 F_30):=λcdv A outer s H E hr =>
 have SC:=aw2
 (aq (jj 1 SC.nd (my D_28 hr h_28 (aj (bh 0) (aj bj au))))
 (aq (jj 2 SC.nd (my D_28 hr h_28 (aj (bh 0) (aj bj au))))
 (aq (jj 3 SC.nd (my D_30 hr h_30 (aj (bh 0) au)))
 (aq (qy (xg hr.u (bh 1) bj)
 (aq (a3o (my D_31 hr h_31 (aj (bh 0) (aj (bh 3) (aj (qw bj (my D_28 hr h_28 (aj (bh 0) (aj (dz (zp (aj bj (aj bj au))) (anj (bh 2) bj)) au)))) au)))) (a1o rfl (ie (gk (i:=4) SC.nd rfl (Or.inl rfl)) (ie (gk (i:=5) SC.nd rfl (Or.inl rfl)) yp))))
 (bu (jj 6 SC.nd (ai7 PySem.F.slot_str_join PySem.F.type_str_join ahs aen uh (aj (a9f (zy rfl (a6u ["_law_k"] ["_law_left","_law_tongue_here"] [0,3]) (a0j rfl M.range (aj (my D_28 hr h_28 (aj (bh 0) (aj bj au))) au)) (pgn 0) yr (λ_ _ _ _=>(dz (bh 2) (my D_28 hr h_28 (aj (bh 1) (aj (u5 M.len (aj (bh 2) au)) au))))))) au)))))
 (aq (a3o (my D_32 hr h_32 (aj (bh 0) (aj (bh 3) au))) (a1o rfl (ie (gk (i:=7) SC.nd rfl (Or.inl rfl)) (ie (gk (i:=4) SC.nd rfl (Or.inl rfl)) (ie (gk (i:=5) SC.nd rfl (Or.inl rfl)) yp)))))
 (aq (jj 6 SC.nd uh)
 (bu (yq bB rfl (a0j rfl M.range (aj (my D_28 hr h_28 (aj (bh 0) (aj bj au))) au)) (gk (i:=8) SC.nd rfl (Or.inl rfl)) (aq (jj 9 SC.nd (dz (bh 7) (my D_28 hr h_28 (aj (bh 0) (aj (u5 M.len (aj (bh 7) au)) au)))))
 (aq (jj 10 SC.nd (my D_28 hr h_28 (aj (bh 0) (aj bj au))))
 (aq (qy (xg hr.u (bh 10) bj)
 (bu (jj 9 SC.nd (uo (bh 9) a0k (yu (my D_28 hr h_28 (aj (bh 0) (aj (u5 M.len (aj (bh 9) au)) au)))))))
 iu)
 (aq (qy (xg hr.u (bh 10) bj)
 (bu (jj 9 SC.nd (dz (bh 3) (my D_28 hr h_28 (aj (bh 0) (aj (u5 M.len (aj (bh 3) au)) au))))))
 iu)
 (bu (abq (i:=6) SC.nd rfl (Or.inl rfl) (a2d.or uf) a07 (bh 9))))))))))))
 (aq (qy (xg hr.u (bh 2) bj)
 (bu (jj 6 SC.nd (uo (aqx (bh 6) bj) a0k (yu (my D_28 hr h_28 (aj (bh 0) (aj bj au)))))))
 iu)
 (bu (jc (zp (aj (my D_33 hr h_33 (aj (bh 3) (aj (bh 4) (aj (bh 5) au)))) (aj (bh 6) au))))))))))
theorem aw3:FnScope ["_law_table","_law_hope_here","_law_k","_law_room","_law_to"] ["_law_table"] (bc (top 30)):=by walk_at "sc"
theorem b2p(M:Nm mg):MD P w K mg base f k ["_law_table","_law_hope_here","_law_k","_law_room","_law_to"] "_law_hope" (top 30) (STM.a0y):=λcdv A outer s H E hr =>
 have SC:=aw3
 (aq (aqb (i:=1) SC.nd rfl (Or.inl rfl) rfl (aiz ["_law_row"]) (xf (dz (bh 0) bj)) (pgn 0) yr (λ_ _ _ _=>a7l))
 (aq (yq bB rfl (a0j rfl M.range (aj (u5 M.len (aj (bh 1) au)) au)) (gk (i:=2) SC.nd rfl (Or.inl rfl)) (bu (yq bB rfl (a0j rfl M.range (aj (u5 M.len (aj (bh 1) au)) au)) (gk (i:=3) SC.nd rfl (Or.inl rfl)) (bu (yq bB rfl (xf (dz (dz (bh 0) bj) (bh 3))) (gk (i:=4) SC.nd rfl (Or.inl rfl)) (bu (qy (PW.pt (a5l (qb akr aeg (dz (dz (bh 0) bj) (bh 4)) bj) (a2r (xm (dz (bh 1) (bh 4))))))
 (bu (a9a a7l (bh 1) (bh 3)))
 iu)))))))
 (bu (jc (bh 1)))))
theorem aw4:FnScope ["_law_table","_law_hope_here","_law_text","_law_start","_law_room","_law_best","_law_sure","_law_place"] ["_law_table","_law_hope_here","_law_text","_law_start"] (bc (top 31)):=by walk_at "sc"
theorem b2q(M:Nm mg):MD P w K mg base f k ["_law_table","_law_hope_here","_law_text","_law_start","_law_room","_law_best","_law_sure","_law_place"] "_law_along" (top 31) (STM.a3g):=λcdv A outer s H E hr =>
 have SC:=aw4
 (aq (jj 4 SC.nd bj)
 (aq (jj 5 SC.nd a2q)
 (aq (jj 6 SC.nd a7l)
 (aq (yq bB rfl (ahy rfl M.range (aj (bh 3) (aj (u5 M.len (aj (bh 2) au)) au))) (gk (i:=7) SC.nd rfl (Or.inl rfl)) (bu (qy (a0o (xm (bh 6)))
 (aq (jj 4 SC.nd (dz (dz (dz (bh 0) bj) (bh 4)) (ai7 PySem.F.slot_str_find PySem.F.type_str_find ahr aem (dz (bh 0) bj) (aj (dz (bh 2) (bh 7)) au))))
 (aq (qy (qb akr aeg (dz (dz (bh 0) bj) (bh 4)) bj)
 (bu (jj 5 SC.nd (zp (aj (dz (dz (bh 0) bj) (bh 4)) (aj (qw (bh 7) bj) au)))))
 iu)
 (bu (jj 6 SC.nd (au5 (dz (bh 1) (bh 4)))))))
 iu)))
 (bu (jc (zp (aj (bh 6) (aj (bh 5) (aj (bh 4) au))))))))))
theorem aw5:FnScope ["_law_table","_law_hope_here","_law_text","_law_ended","_law_pieces_here","_law_start","_law_sure","_law_best","_law_room"] ["_law_table","_law_hope_here","_law_text","_law_ended"] (bc (top 32)):=by walk_at "sc"
theorem b2r(M:Nm mg)(D_36:Dn P w K mg base k_36 "_law_along" ["_law_table","_law_hope_here","_law_text","_law_start"] (a00 K 4 F_36) a_36 d_36)(h_36:k_36<=k):MD P w K mg base f k ["_law_table","_law_hope_here","_law_text","_law_ended","_law_pieces_here","_law_start","_law_sure","_law_best","_law_room"] "_law_run" (top 32) (STM.a6r F_36):=λcdv A outer s H E hr =>
 have SC:=aw5
 (aq (jj 4 SC.nd (zq au))
 (aq (jj 5 SC.nd bj)
 (aq (a3o (my D_36 hr h_36 (aj (bh 0) (aj (bh 1) (aj (bh 2) (aj (bh 5) au))))) (a1o rfl (ie (gk (i:=6) SC.nd rfl (Or.inl rfl)) (ie (gk (i:=7) SC.nd rfl (Or.inl rfl)) (ie (gk (i:=8) SC.nd rfl (Or.inl rfl)) yp)))))
 (aq (a5x 100000 bB (PW.pt (a8d (qb (a9s.or yj) a5y (bh 5) (u5 M.len (aj (bh 2) au))) (a5k (PW.pt (a5l (xm (bh 6)) (a2r (xm (bh 3)))))))) (aq (qy (qb (ae1.or a7q) aej (bh 7) a2q)
 (bu (jc (zp (aj (bh 4) (aj uh (aj (bh 5) (aj bj (aj a2q au))))))))
 iu)
 (aq (um (a73 bH bI vm a1a (bh 4) (aj (zp (aj (dz (bh 7) bj) (aj (bh 5) (aj (dz (bh 7) bj) au)))) au)))
 (aq (jj 5 SC.nd (dz (bh 7) bj))
 (bu (a3o (my D_36 hr h_36 (aj (bh 0) (aj (bh 1) (aj (bh 2) (aj (bh 5) au))))) (a1o rfl (ie (gk (i:=6) SC.nd rfl (Or.inl rfl)) (ie (gk (i:=7) SC.nd rfl (Or.inl rfl)) (ie (gk (i:=8) SC.nd rfl (Or.inl rfl)) yp))))))))))
 (aq (qy (xm (bh 3))
 (bu (jc (zp (aj (bh 4) (aj uh (aj (bh 5) (aj bj (aj a2q au))))))))
 iu)
 (bu (jc (zp (aj (bh 4) (aj uh (aj (bh 5) (aj (bh 8) (aj (bh 7) au)))))))))))))
theorem aw6:FnScope ["_law_found","_law_many","_law_one"] ["_law_found","_law_many"] (bc (top 33)):=by walk_at "sc"
theorem b2s(M:Nm mg):MD P w K mg base f k ["_law_found","_law_many","_law_one"] "_law_numbers" (top 33) (SRC.a0w):=λcdv A outer s H E hr =>
 have SC:=aw6
 (aq (qy (PW.pt (a5l (a0o (xm (a5w (L2.CallR.or vo uw) a1r rfl M.isinstance u9 (aj (bh 0) (aj (abo rfl M.tuple a3a) au))))) (a2r (qb (a3p hr.u) a0l (u5 M.len (aj (bh 0) au)) (bh 1)))))
 (bu (jc a7l))
 iu)
 (aq (yq bB rfl (xf (bh 0)) (gk (i:=2) SC.nd rfl (Or.inl rfl)) (bu (qy (PW.pt (a5l (a0o (xm (a5w (L2.CallR.or vo uw) a1r rfl M.isinstance u9 (aj (bh 2) (aj (abo rfl M.int anf) au))))) (a2r (xm (a5w (L2.CallR.or vo uw) a1r rfl M.isinstance u9 (aj (bh 2) (aj (abo rfl M.bool aq7) au)))))))
 (bu (jc a7l))
 iu)))
 (bu (jc a7l))))
theorem aw7:FnScope ["_law_found","_law_due","_law_one","_law_piece"] ["_law_found","_law_due"] (bc (top 34)):=by walk_at "sc"
theorem b2t(M:Nm mg)(D_38:Dn P w K mg base k_38 "_law_numbers" ["_law_found","_law_many"] (a00 K 2 F_38) a_38 d_38)(h_38:k_38<=k):MD P w K mg base f k ["_law_found","_law_due","_law_one","_law_piece"] "_law_pieces" (top 34) (STM.a2c F_38):=λcdv A outer s H E hr =>
 have SC:=aw7
 (aq (qy (PW.pt (a5l (a0o (xm (a5w (L2.CallR.or vo uw) a1r rfl M.isinstance u9 (aj (bh 0) (aj (abo rfl M.list apg) au))))) (a2r (qb (a3p hr.u) a0l (u5 M.len (aj (bh 0) au)) (u5 M.len (aj (bh 1) au))))))
 a2v
 iu)
 (aq (yq bB rfl (anu rfl M.zip anv (bh 0) (bh 1)) (a1o rfl (ie (gk (i:=2) SC.nd rfl (Or.inl rfl)) (ie (gk (i:=3) SC.nd rfl (Or.inl rfl)) yp))) (bu (qy (PW.pt (a5l (a0o (xm (my D_38 hr h_38 (aj (bh 2) (aj bj au))))) (a2r (qb (a3p hr.u) a0l (bh 2) (bh 3)))))
 a2v
 iu)))
 (bu (jc a7l))))
theorem aw8:FnScope ["_law_left","_law_text","_law_sort","_law_rest","_law_parts_here","_law_k","_law_at"] ["_law_left","_law_text"] (bc (top 36)):=by walk_at "sc"
theorem b2u(M:Nm mg)(D_28:Dn P w K mg base k_28 "_law_draw" ["_law_left","_law_many"] (a00 K 2 F_28) a_28 d_28)(h_28:k_28<=k):MD P w K mg base f k ["_law_left","_law_text","_law_sort","_law_rest","_law_parts_here","_law_k","_law_at"] "_law_parts" (top 36) (TWN.a05 F_28):=λcdv A outer s H E hr =>
 have SC:=aw8
 (aq (jj 2 SC.nd (my D_28 hr h_28 (aj (bh 0) (aj bj au))))
 (aq (qy (xg hr.u (bh 2) bj)
 (bu (jc (qw (a9f (zy rfl (a6u ["_law_k"] ["_law_text"] [1]) (a0j rfl M.range (aj (a5w (agx rfl) alg rfl M.min aun (aj bj (aj (u5 M.len (aj (bh 1) au)) au))) au)) (pgn 0) yr (λ_ _ _ _=>(dz (bh 1) (bh 0))))) (a9f (zq (aj (uo (bh 1) (yu bj) a0k) au))))))
 iu)
 (aq (jj 3 SC.nd (bh 1))
 (aq (jj 4 SC.nd (zq au))
 (aq (yq bB rfl (a0j rfl M.range (aj (qw (bh 2) (my D_28 hr h_28 (aj (bh 0) (aj bj au)))) au)) (gk (i:=5) SC.nd rfl (Or.inl rfl)) (aq (jj 6 SC.nd (my D_28 hr h_28 (aj (bh 0) (aj (qw (u5 M.len (aj (bh 3) au)) bj) au))))
 (aq (um (a73 bH bI vm a1a (bh 4) (aj (uo (bh 3) a0k (yu (bh 6))) au)))
 (bu (jj 3 SC.nd (uo (bh 3) (yu (bh 6)) a0k))))))
 (bu (jc (qw (bh 4) (a9f (zq (aj (bh 3) au)))))))))))
theorem aw9:FnScope ["_law_run_here","_law_fed","_law_pieces_here","_law_state","_law_start","_law_room","_law_last","_law_tail"] ["_law_run_here","_law_fed"] (bc (top 37)):=by walk_at "sc"
theorem b2v(M:Nm mg):MD P w K mg base f k ["_law_run_here","_law_fed","_law_pieces_here","_law_state","_law_start","_law_room","_law_last","_law_tail"] "_law_stand" (top 37) (a3h):=λcdv A outer s H E hr =>
 have SC:=aw9
 (aq (a3o (bh 0) (a1o rfl (ie (gk (i:=2) SC.nd rfl (Or.inl rfl)) (ie (gk (i:=3) SC.nd rfl (Or.inl rfl)) (ie (gk (i:=4) SC.nd rfl (Or.inl rfl)) (ie (gk (i:=5) SC.nd rfl (Or.inl rfl)) (ie (gk (i:=6) SC.nd rfl (Or.inl rfl)) yp)))))))
 (aq (jj 7 SC.nd (abp (qb (ad1.or a5i) a8f (bh 6) a2q) (uo (bh 1) (yu (dz (bh 6) bj)) a0k) uh))
 (bu (jc (zp (aj (bh 3) (aj (bh 4) (aj (u5 M.len (aj (bh 1) au)) (aj (bh 5) (aj (bh 6) (aj (bh 7) au)))))))))))
theorem awa:FnScope ["_law_found","_law_due"] ["_law_found","_law_due"] (bc (top 38)):=by walk_at "sc"
theorem b2w(M:Nm mg)(D_38:Dn P w K mg base k_38 "_law_numbers" ["_law_found","_law_many"] (a00 K 2 F_38) a_38 d_38)(h_38:k_38<=k):MD P w K mg base f k ["_law_found","_law_due"] "_law_stand_right" (top 38) (wk F_38):=λcdv A outer s H E hr =>
 have SC:=awa
 (aq (qy (PW.pt (a5l (a0o (xm (a5w (L2.CallR.or vo uw) a1r rfl M.isinstance u9 (aj (bh 0) (aj (abo rfl M.tuple a3a) au))))) (a5l (qb (a3p hr.u) a0l (u5 M.len (aj (bh 0) au)) bj) (a2r (a0o (xm (my D_38 hr h_38 (aj (uo (bh 0) (yu bj) (yu bj)) (aj bj au)))))))))
 a2v
 iu)
 (aq (qy (PW.pt (a5l (a0o (xm (a5w (L2.CallR.or vo uw) a1r rfl M.isinstance u9 (aj (dz (bh 0) bj) (aj (abo rfl M.str ahp) au))))) (a2r (a0o (xm (a5w (L2.CallR.or vo uw) a1r rfl M.isinstance u9 (aj (dz (bh 0) bj) (aj (abo rfl M.str ahp) au))))))))
 a2v
 iu)
 (aq (qy (qb (ae1.or a7q) aej (dz (bh 1) bj) a2q)
 (bu (jc (ahu (a5j (ae1.or a7q) aej (dz (bh 0) bj) a2q (a7d _)) (aht (a5j (aeo hr.u) aa8 (bh 0) (bh 1) (a7d _))))))
 iu)
 (bu (jc (ahu (my D_38 hr h_38 (aj (dz (bh 0) bj) (aj bj au))) (aht (a5j (aeo hr.u) aa8 (bh 0) (bh 1) (a7d _)))))))))
theorem awb:FnScope ["_law_reader","_law_other","_law_table","_law_hope_here","_law_fed","_law_due","_law_one"] ["_law_reader","_law_other","_law_table","_law_hope_here","_law_fed"] (bc (top 39)):=by walk_at "sc"
theorem b2x(Q_Stream:CK K mg "Stream" C_Stream ["table","hope","phase","start","fed","at","room","last","rest"])(D_9:Dm P w K mg base k_9 C_Stream "seen" ["self"] 1 F_9 a_9 d_9)(h_9:k_9<=k)(D_8:Dm P w K mg base k_8 C_Stream "state" ["self"] 1 F_8 a_8 d_8)(h_8:k_8<=k)(D_24:Dm P w K mg base k_24 C_Stream "stand" ["self"] 1 F_24 a_24 d_24)(h_24:k_24<=k)(D_21:Dm P w K mg base k_21 C_Stream "kept" ["self"] 1 F_21 a_21 d_21)(h_21:k_21<=k)(D_37:Dn P w K mg base k_37 "_law_run" ["_law_table","_law_hope_here","_law_text","_law_ended"] (a00 K 4 F_37) a_37 d_37)(h_37:k_37<=k)(D_41:Dn P w K mg base k_41 "_law_stand" ["_law_run_here","_law_fed"] (a00 K 2 F_41) a_41 d_41)(h_41:k_41<=k)(D_42:Dn P w K mg base k_42 "_law_stand_right" ["_law_found","_law_due"] (a00 K 2 F_42) a_42 d_42)(h_42:k_42<=k):MD P w K mg base f k ["_law_reader","_law_other","_law_table","_law_hope_here","_law_fed","_law_due","_law_one"] "_law_alike" (top 39) (a3i F_9 F_8 F_24 F_21 F_37 F_41 F_42):=λcdv A outer s H E hr =>
 have SC:=awb
 (aq (jj 5 SC.nd (my D_41 hr h_41 (aj (my D_37 hr h_37 (aj (bh 2) (aj (bh 3) (aj (bh 4) (aj (a5j (aeo hr.u) aa8 (jn false Q_Stream D_8 (hr.mono h_8) (bh 0)) uh (a7d _)) au))))) (aj (bh 4) au))))
 (aq (yq bB rfl (xf (zp (aj (bh 0) (aj (bh 1) (aj (bh 0) au))))) (gk (i:=6) SC.nd rfl (Or.inl rfl)) (aq (qy (PW.pt (a5l (qb (a3p hr.u) a0l (jn false Q_Stream D_8 (hr.mono h_8) (bh 6)) (dz (bh 5) bj)) (a5l (qb (a3p hr.u) a0l (jn false Q_Stream D_9 (hr.mono h_9) (bh 6)) (dz (bh 5) bj)) (a2r (qb (a3p hr.u) a0l (jn false Q_Stream D_21 (hr.mono h_21) (bh 6)) (dz (bh 5) bj))))))
 a2v
 iu)
 (bu (qy (a0o (xm (my D_42 hr h_42 (aj (jn false Q_Stream D_24 (hr.mono h_24) (bh 6)) (aj (bh 5) au)))))
 a2v
 iu))))
 (bu (jc a7l))))
theorem awc:FnScope ["_law_left","_law_table","_law_reader","_law_other","_law_sort"] ["_law_left","_law_table","_law_reader","_law_other"] (bc (top 40)):=by walk_at "sc"
theorem b2y(Q_Stream:CK K mg "Stream" C_Stream ["table","hope","phase","start","fed","at","room","last","rest"])(D_24:Dm P w K mg base k_24 C_Stream "stand" ["self"] 1 F_24 a_24 d_24)(h_24:k_24<=k)(D_25:Dm P w K mg base k_25 C_Stream "twin" ["self"] 1 F_25 a_25 d_25)(h_25:k_25<=k)(D_28:Dn P w K mg base k_28 "_law_draw" ["_law_left","_law_many"] (a00 K 2 F_28) a_28 d_28)(h_28:k_28<=k)(D_26:Dn P w K mg base k_26 "resumed" ["table","stand"] (a00 K 2 F_26) a_26 d_26)(h_26:k_26<=k):MD P w K mg base f k ["_law_left","_law_table","_law_reader","_law_other","_law_sort"] "_law_another" (top 40) (a0x F_24 F_25 F_28 F_26):=λcdv A outer s H E hr =>
 have SC:=awc
 (aq (jj 4 SC.nd (my D_28 hr h_28 (aj (bh 0) (aj bj au))))
 (aq (qy (xg hr.u (bh 4) bj)
 (bu (jc (a0t true D_26 (hr.mono h_26) rfl (aj (bh 1) (aj (jn false Q_Stream D_24 (hr.mono h_24) (bh 2)) au)))))
 iu)
 (aq (qy (xg hr.u (bh 4) bj)
 (bu (jc (jn true Q_Stream D_25 (hr.mono h_25) (bh 3))))
 iu)
 (aq (qy (xg hr.u (bh 4) bj)
 (bu (jc (a0t true D_26 (hr.mono h_26) rfl (aj (bh 1) (aj (jn false Q_Stream D_24 (hr.mono h_24) (jn true Q_Stream D_25 (hr.mono h_25) (bh 3))) au)))))
 iu)
 (aq (qy (xg hr.u (bh 4) bj)
 (bu (jc (jn true Q_Stream D_25 (hr.mono h_25) (a0t true D_26 (hr.mono h_26) rfl (aj (bh 1) (aj (jn false Q_Stream D_24 (hr.mono h_24) (bh 2)) au))))))
 iu)
 (bu (jc (bh 3))))))))
theorem awd:FnScope ["_law_script","_law_left","_law_table","_law_text","_law_hope_here","_law_reader","_law_other","_law_fed","_law_part","_law_found","_law_run_here","_law_told","_law_ended","_law_last","_law_due"] ["_law_script"] (bc (top 41)):=by walk_at "sc"
theorem b2z(M:Nm mg)(Q_Stream:CK K mg "Stream" C_Stream ["table","hope","phase","start","fed","at","room","last","rest"])(D_8:Dm P w K mg base k_8 C_Stream "state" ["self"] 1 F_8 a_8 d_8)(h_8:k_8<=k)(D_23:Dm P w K mg base k_23 C_Stream "fault" ["self"] 1 F_23 a_23 d_23)(h_23:k_23<=k)(D_24:Dm P w K mg base k_24 C_Stream "stand" ["self"] 1 F_24 a_24 d_24)(h_24:k_24<=k)(D_16:Dm P w K mg base k_16 C_Stream "close" ["self"] 1 F_16 a_16 d_16)(h_16:k_16<=k)(D_15:Dm P w K mg base k_15 C_Stream "feed" ["self","part"] 2 F_15 a_15 d_15)(h_15:k_15<=k)(D_13:Di P w K mg base k_13 "Stream" C_Stream ["table","hope","phase","start","fed","at","room","last","rest"] ["self","table"] 1 F_13 a_13 d_13)(h_13:k_13+1<=k)(D_43:Dn P w K mg base k_43 "_law_alike" ["_law_reader","_law_other","_law_table","_law_hope_here","_law_fed"] (a00 K 5 F_43) a_43 d_43)(h_43:k_43<=k)(D_44:Dn P w K mg base k_44 "_law_another" ["_law_left","_law_table","_law_reader","_law_other"] (a00 K 4 F_44) a_44 d_44)(h_44:k_44<=k)(D_34:Dn P w K mg base k_34 "_law_case" ["_law_left"] (a00 K 1 F_34) a_34 d_34)(h_34:k_34<=k)(D_28:Dn P w K mg base k_28 "_law_draw" ["_law_left","_law_many"] (a00 K 2 F_28) a_28 d_28)(h_28:k_28<=k)(D_35:Dn P w K mg base k_35 "_law_hope" ["_law_table"] (a00 K 1 F_35) a_35 d_35)(h_35:k_35<=k)(D_40:Dn P w K mg base k_40 "_law_parts" ["_law_left","_law_text"] (a00 K 2 F_40) a_40 d_40)(h_40:k_40<=k)(D_39:Dn P w K mg base k_39 "_law_pieces" ["_law_found","_law_due"] (a00 K 2 F_39) a_39 d_39)(h_39:k_39<=k)(D_37:Dn P w K mg base k_37 "_law_run" ["_law_table","_law_hope_here","_law_text","_law_ended"] (a00 K 4 F_37) a_37 d_37)(h_37:k_37<=k)(D_27:Dn P w K mg base k_27 "_law_source" ["_law_script"] (a00 K 1 F_27) a_27 d_27)(h_27:k_27<=k)(D_41:Dn P w K mg base k_41 "_law_stand" ["_law_run_here","_law_fed"] (a00 K 2 F_41) a_41 d_41)(h_41:k_41<=k)(D_42:Dn P w K mg base k_42 "_law_stand_right" ["_law_found","_law_due"] (a00 K 2 F_42) a_42 d_42)(h_42:k_42<=k)(D_26:Dn P w K mg base k_26 "resumed" ["table","stand"] (a00 K 2 F_26) a_26 d_26)(h_26:k_26<=k):MD P w K mg base f k ["_law_script","_law_left","_law_table","_law_text","_law_hope_here","_law_reader","_law_other","_law_fed","_law_part","_law_found","_law_run_here","_law_told","_law_ended","_law_last","_law_due"] "law" (top 41) (amk F_8 F_23 F_24 F_16 F_15 F_13 F_43 F_44 F_34 F_28 F_35 F_40 F_39 F_37 F_27 F_41 F_42 F_26):=λcdv A outer s H E hr =>
 have SC:=awd
 (aq (jj 1 SC.nd (a0t true D_27 (hr.mono h_27) rfl (aj (bh 0) au)))
 (aq (a3o (my D_34 hr h_34 (aj (bh 1) au)) (a1o rfl (ie (gk (i:=2) SC.nd rfl (Or.inl rfl)) (ie (gk (i:=3) SC.nd rfl (Or.inl rfl)) yp))))
 (aq (jj 4 SC.nd (my D_35 hr h_35 (aj (bh 2) au)))
 (aq (jj 5 SC.nd (avb D_13 hr h_13 (aj (bh 2) au)))
 (aq (jj 6 SC.nd (a0t true D_26 (hr.mono h_26) rfl (aj (bh 2) (aj (jn false Q_Stream D_24 (hr.mono h_24) (bh 5)) au))))
 (aq (jj 7 SC.nd uh)
 (aq (yq bB rfl (xf (my D_40 hr h_40 (aj (bh 1) (aj (bh 3) au)))) (gk (i:=8) SC.nd rfl (Or.inl rfl)) (bu (qy (xg hr.u (jn false Q_Stream D_8 (hr.mono h_8) (bh 5)) uh)
 (aq (abq (i:=7) SC.nd rfl (Or.inl rfl) (a2d.or uf) a07 (bh 8))
 (aq (qy (PW.pt (a5l (qb (aiv hr.u) (adk true) (a1f false Q_Stream D_15 (hr.mono h_15) (bh 5) (aj (bh 8) au)) (a1f false Q_Stream D_15 (hr.mono h_15) (bh 6) (aj (bh 8) au))) (a2r (a0o (xm (my D_43 hr h_43 (aj (bh 5) (aj (bh 6) (aj (bh 2) (aj (bh 4) (aj (bh 7) au)))))))))))
 a2v
 iu)
 (bu (jj 6 SC.nd (aps D_44 (hr.mono h_44) rfl (aj (bh 1) (aj (bh 2) (aj (bh 5) (aj (bh 6) au)))))))))
 iu)))
 (aq (qy (PW.pt (a5l (qb (a3p hr.u) a0l (jn false Q_Stream D_8 (hr.mono h_8) (bh 5)) uh) (a2r (xg hr.u (my D_28 hr h_28 (aj (bh 1) (aj bj au))) bj))))
 (bu (jc (my D_43 hr h_43 (aj (bh 5) (aj (a0t true D_26 (hr.mono h_26) rfl (aj (bh 2) (aj (jn false Q_Stream D_24 (hr.mono h_24) (bh 5)) au))) (aj (bh 2) (aj (bh 4) (aj (bh 7) au))))))))
 iu)
 (aq (jj 9 SC.nd (jn false Q_Stream D_16 (hr.mono h_16) (bh 6)))
 (aq (jj 10 SC.nd (my D_37 hr h_37 (aj (bh 2) (aj (bh 4) (aj (bh 7) (aj a7l au))))))
 (aq (qy (a0o (xm (my D_42 hr h_42 (aj (jn false Q_Stream D_24 (hr.mono h_24) (bh 5)) (aj (my D_41 hr h_41 (aj (bh 10) (aj (bh 7) au))) au)))))
 a2v
 iu)
 (aq (jj 11 SC.nd (jn false Q_Stream D_16 (hr.mono h_16) (bh 5)))
 (aq (jj 12 SC.nd (my D_37 hr h_37 (aj (bh 2) (aj (bh 4) (aj (bh 7) (aj a7l au))))))
 (aq (qy (PW.pt (a5l (qb (aiv hr.u) (adk true) (bh 11) (bh 9)) (a2r (a0o (xm (my D_39 hr h_39 (aj (bh 11) (aj (a9f (uo (dz (bh 12) bj) (yu (u5 M.len (aj (dz (bh 10) bj) au))) a0k)) au))))))))
 a2v
 iu)
 (aq (jj 13 SC.nd (a0t true D_26 (hr.mono h_26) rfl (aj (bh 2) (aj (jn false Q_Stream D_24 (hr.mono h_24) (bh 5)) au))))
 (aq (jj 14 SC.nd (my D_41 hr h_41 (aj (bh 12) (aj (bh 7) au))))
 (aq (qy (PW.pt (a5l (qb (a3p hr.u) a0l (jn false Q_Stream D_23 (hr.mono h_23) (bh 13)) (jn false Q_Stream D_23 (hr.mono h_23) (bh 6))) (a2r (a0o (xm (my D_42 hr h_42 (aj (jn false Q_Stream D_24 (hr.mono h_24) (bh 13)) (aj (bh 14) au))))))))
 a2v
 iu)
 (bu (jc (my D_42 hr h_42 (aj (jn false Q_Stream D_24 (hr.mono h_24) (bh 6)) (aj (bh 14) au))))))))))))))))))))))
end
end K52
namespace HND
open L2 MI
noncomputable def a1d:SS :=
 (du (kj 0 (sC (.str " !\"#$&'()*+,-./0123456789:;<=>?@ABCDEFGHIJKLMNOPQRSTUVWXYZ[\\]^_`")))
 (sy (s2 p7 (sV 0) (sC (.str "abcdefghijklmnopqrstuvwxyz{|}~\n")))))
end HND
namespace HND
open L2 MI AT
def axu:Str := " !\"#$&'()*+,-./0123456789:;<=>?@ABCDEFGHIJKLMNOPQRSTUVWXYZ[\\]^_`"
def axv:Str := "abcdefghijklmnopqrstuvwxyz{|}~\n"
def sig:List Nat:=axu.cps.toList++axv.cps.toList
theorem ar4:sig.length=95:=by decide +kernel
theorem awe:sig.Nodup:=by decide +kernel
noncomputable def qi:SF:=nq a1d 1
theorem lits{h:Hd}:p7 (.str axu) (.str axv) h=.ok (.str (S sig)) h:=by
 rw[<-amb axu,<-amb axv,adl (by decide +kernel)]
 rfl
theorem aat:Pu qi 0 [] (.str (S sig)):=by
 refine Pu.of rfl (by simp) (r:=.ok (.str (S sig)) []) ?_ (by rw[p8 (g8 _) (by simp)];rfl) (g8 _)
 unfold qi;rw[dm];unfold a1d;have e:=@lits [];unfold axu axv at e;show toR (du (kj 0 _) _ [none] [])=_;simp only[yw,kj,sC,a2w,zr,sy,s2,sV,List.set_cons_zero,eN,dq,e,ac2]
structure Tongue (l:List Nat):Prop where
 lo:1<=l.length
 hi:l.length<=6
 nd:l.Nodup
 sub:∀c∈l,c∈sig
theorem aj0(a r:List Nat)(i:Nat)(c:Nat)(e:r[i]? = some c):List.Perm (a++r) ((a++[c])++(r.take i++r.drop (i+1))):=by
 obtain⟨hi,e⟩:=ag.mp e;have:r=r.take i++c::r.drop (i+1):=by rw[<-e];simp
 rw[cB];refine List.Perm.append_left a ?_;rw[fg]
 conv=>lhs;rw[this]
 exact List.perm_middle
end HND
namespace SRC
open L2 MI AT
structure Src (o:O) (N:Nat):Prop where
 ex:∃(cells:List Int) (a l c s:Int),o=.lst [.rol (cells.map D.int),.int a,.int l,.int c,.int s]/\0<=a/\0<=l/\0<=s/\s<2147483647/\0<=c/\c<=N
theorem Src.clo(P:Src o N):vg 0 o:=by
 obtain⟨cells,a,l,c,s,rfl,_⟩:=P.ex;exact cu (nu (fj λx _=>dw x)) (cu (dw _) (cu (dw _) (cu (dw _) (cu (dw _) qx))))
theorem Src.up(P:Src o N)(h:N<=M):Src o M:=by
 obtain⟨cells,a,l,c,s,e,h1,h2,h3,h4,h5,h6⟩:=P.ex;exact⟨cells,a,l,c,s,e,h1,h2,h3,h4,h5,by omega⟩
noncomputable def ak:SF:=nq a4q 4
abbrev so(cells:List Int)(a l c s:Int):O:=.lst [.rol (cells.map D.int),.int a,.int l,.int c,.int s]
theorem aj1(e:h[i]? = some (.lst xs))(hj:xs[j]? = some y):akd (.ref i) (.int (j:Nat)) h=.ok y h:=by
 unfold akd;simp only[e,zx hj]
theorem aze(e1:fo τ h=.ok o h)(e2:fi τ h=.ok i h)(e3:akd o i h=.ok x h)(e4:fe τ h=.ok y h)(e5:G x y h=.ok z h)(e6:put o i z h=some h'):a4w G fo fi fe τ h=.nx τ h':=by
 unfold a4w;rw[e1,a2w,e2,a2w,e3,a2w,e4,a2w,e5,a2w,e6]
theorem azf(c:y<=x):gGe (.int x) (.int y) h=.ok (.bl true) h:=by show R.ok (D.bl (decide (y<=x))) h=_;rw[cU c]
theorem azg(c:¬ y<=x):gGe (.int x) (.int y) h=.ok (.bl false) h:=by show R.ok (D.bl (decide (y<=x))) h=_;rw[bJ c]
theorem aj2(P:Src o N)(hN:N<=1000000000)(m0:0<m)(m1:m<1073741824):∃r o',ak [.ref 0,.int m] [o]=.ok (.int r) [o']/\0<=r/\r<m/\Src o' (N+1):=by
 obtain⟨cells,a,l,c,s,rfl,a0,l0,s0,s1,c0,c1⟩:=P.ex;unfold ak;rw[dm];show ∃r o',toR (a4q [some (.ref 0),some (.int m),none,none] [so cells a l c s])=_/\_;unfold a4q;have last:∀s':Int,0<=s'->s'<2147483647->∃r q,0<=r/\r<m/\(s'+1+(c+1)*7919)^(3:Int).toNat%2147483647=q/\(q*48271+(c+1))^(2:Int).toNat%2147483629 / 64%m=r/\CMul (c+1) 7919/\CMul q 48271 /\
   (∀h,a9b (.int (s'+1+(c+1)*7919)) (.int 3) h=.ok (.int ((s'+1+(c+1)*7919)^(3:Int).toNat)) h)/\∀h,a9b (.int (q*48271+(c+1))) (.int 2) h=.ok (.int ((q*48271+(c+1))^(2:Int).toNat)) h:=λs' h0 h1=>by
  have q0:0<=(s'+1+(c+1)*7919)^(3:Int).toNat%2147483647:=dZ _ (by decide)
  have q1:(s'+1+(c+1)*7919)^(3:Int).toNat%2147483647<2147483647:=dB _ (by decide)
  refine⟨_,_,dZ _ (by omega),dB _ m0,rfl,rfl,.inr ⟨by decide,by decide⟩,.inr ⟨by decide,by decide⟩,λh=>av3 ⟨by decide,by decide,by omega⟩,λh=>av3 ⟨by decide,by decide,?_⟩⟩
  generalize (s'+1+(c+1)*7919)^(3:Int).toNat%2147483647=q at q0 q1
  omega
 have x0:∀{a l c s:Int},gIx (.ref 0) (.int 0) [so cells a l c s]=.ok (.rol (cells.map D.int)) [so cells a l c s]:=λ{a l c s}=>a3s (j:=0) rfl rfl;have x1:∀{a l c s:Int},gIx (.ref 0) (.int 1) [so cells a l c s]=.ok (.int a) [so cells a l c s]:=λ{a l c s}=>a3s (j:=1) rfl rfl;have x2:∀{a l c s:Int},gIx (.ref 0) (.int 2) [so cells a l c s]=.ok (.int l) [so cells a l c s]:=λ{a l c s}=>a3s (j:=2) rfl rfl;have x3:∀{a l c s:Int},gIx (.ref 0) (.int 3) [so cells a l c s]=.ok (.int c) [so cells a l c s]:=λ{a l c s}=>a3s (j:=3) rfl rfl
 have x4:∀{a l c s:Int},gIx (.ref 0) (.int 4) [so cells a l c s]=.ok (.int s) [so cells a l c s]:=λ{a l c s}=>a3s (j:=4) rfl rfl;have u3:∀{a l c s:Int} {τ:Sd},τ[0]? = some (some (.ref 0))->a4w a1l (sV 0) (sI 3) (sI 1) τ [so cells a l c s]=.nx τ [so cells a l (c+1) s]:=λ{a l c s τ} h0=>aze (bf h0) ckk (aj1 (j:=3) rfl rfl) ckk a2e rfl;have u1:∀{a l c s:Int} {τ:Sd},τ[0]? = some (some (.ref 0))->a4w a1l (sV 0) (sI 1) (sI 1) τ [so cells a l c s]=.nx τ [so cells (a+1) l c s]:=λ{a l c s τ} h0=>aze (bf h0) ckk (aj1 (j:=1) rfl rfl) ckk a2e rfl
 have p18:∀{h:Hd},a9b (.int 10) (.int 18) h=.ok (.int 1000000000000000000) h:=λ{h}=>p18 h;have e1:∀{a l c s:Int} {t2:Option D},0<l->toR (du (sIf (sT (s2 gGt (s2 gIx (sV 0) (sI 2)) (sI 0))) (du (kj 3 (s2 a7g (s2 gIx (sV 0) (sI 2)) (sV 1))) (du (a4w ab2 (sV 0) (sI 2) (sV 1)) (sy (sV 3)))) sNx) (du (kj 3 (s2 a7g (s2 a9b (s2 p7 (s2 p7 (s2 gIx (sV 0) (sI 4)) (sI 1)) (s2 a3t (s2 gIx (sV 0) (sI 3)) (sI 7919))) (sI 3)) (sI 2147483647))) (sy (s2 a7g (s2 ab2 (s2 a7g (s2 a9b (s2 p7 (s2 a3t (sV 3) (sI 48271)) (s2 gIx (sV 0) (sI 3))) (sI 2)) (sI 2147483629)) (sI 64)) (sV 1)))) [some (.ref 0),some (.int m),t2,none] [so cells a l c s])=.ok (.int (l%m)) [so cells a (l / m) c s]:=λ{a l c s t2} hl=>by
  refine aN toR (a6c (aw (ifT (t2s (a1n rfl x2) ckk (b0c hl))) ?_));refine aw (qp (u6 (a1n rfl x2) (bf rfl) (a9l m0))) ?_;refine aw (mq (aze (bf rfl) ckk (aj1 (j:=2) rfl rfl) (bf rfl) (div_ii ⟨m0,m1⟩) rfl)) ?_;exact ud (bf rfl)
 have e2:∀{a s':Int} {t2:Option D},0<=s'->s'<2147483647->∃r,0<=r/\r<m/\toR (du (sIf (sT (s2 gGt (s2 gIx (sV 0) (sI 2)) (sI 0))) (du (kj 3 (s2 a7g (s2 gIx (sV 0) (sI 2)) (sV 1))) (du (a4w ab2 (sV 0) (sI 2) (sV 1)) (sy (sV 3)))) sNx) (du (kj 3 (s2 a7g (s2 a9b (s2 p7 (s2 p7 (s2 gIx (sV 0) (sI 4)) (sI 1)) (s2 a3t (s2 gIx (sV 0) (sI 3)) (sI 7919))) (sI 3)) (sI 2147483647))) (sy (s2 a7g (s2 ab2 (s2 a7g (s2 a9b (s2 p7 (s2 a3t (sV 3) (sI 48271)) (s2 gIx (sV 0) (sI 3))) (sI 2)) (sI 2147483629)) (sI 64)) (sV 1)))) [some (.ref 0),some (.int m),t2,none] [so cells a 0 (c+1) s'])=.ok (.int r) [so cells a 0 (c+1) s']:=λ{a s' t2} h0 h1=>by
  obtain⟨r,q,r0,r1,eq,er,d1,d2,d3,d4⟩:=last s' h0 h1;refine⟨r,r0,r1,?_⟩;refine eti (t2s (a1n rfl x2) ckk (b0d (by omega))) ?_
  refine ets (u6 (u6 (u6 (u6 (a1n rfl x4) ckk zu) (u6 (a1n rfl x3) ckk (a7j.trans (aR d1))) zu) ckk (d3 _)) ckk (a9l (by decide))) ?_
  rw[eq];refine etr (ud (u6 (u6 (u6 (u6 (u6 (a1n rfl (a7j.trans (aR d2))) (a1n rfl x3) zu) ckk (d4 _)) ckk (a9l (by decide))) ckk (div_ii ⟨by decide,by decide⟩)) (bf rfl) (a9l m0))) ?_
  rw[er];rfl
 by_cases hA:l=0/\a<(cells.length:Int)
 ·obtain⟨rfl,ha⟩:=hA;obtain⟨j,rfl⟩:=aT a0;have hj:j<cells.length:=by omega
  have gx:∀{h:Hd},gIx (.rol (cells.map D.int)) (.int (j:Nat)) h=.ok (.int cells[j]) h:=λ{h}=>as7 (by rw[aP,af hj];rfl)
  have tt:∀{c s:Int} {t2 t3:Option D},a8c (sT (s2 hEq (s2 gIx (sV 0) (sI 2)) (sI 0))) (sT (s2 gLt (s2 gIx (sV 0) (sI 1)) (sA vh (ao (s2 gIx (sV 0) (sI 0)) bw)))) [some (.ref 0),some (.int m),t2,t3] [so cells (j:Nat) 0 c s]=.ok true [so cells (j:Nat) 0 c s]:=λ{c s t2 t3} =>
   aez (t2s (a1n rfl x2) ckk (a6d rfl)) (t2s (a1n rfl x1) (a09 (a1n rfl x0) (a3d.trans (by rw[ay]))) (akg ha))
  have s2':0<=(s*31+cells[j])%2147483647:=dZ _ (by decide)
  have s3:(s*31+cells[j])%2147483647<2147483647:=dB _ (by decide)
  have go:∀{o':O} {g:SS},sIf (sT (s2 gGe (sV 2) (s2 a9b (sI 10) (sI 18)))) (ab1 (sV 2) (sV 0) (sI 2)) (ab1 (s2 a7g (s2 p7 (s2 a3t (s2 gIx (sV 0) (sI 4)) (sI 31)) (sV 2)) (sI 2147483647)) (sV 0) (sI 4)) [some (.ref 0),some (.int m),some (.int cells[j]),none] [so cells ((j:Nat)+1) 0 (c+1) s]=.nx [some (.ref 0),some (.int m),some (.int cells[j]),none] [o']->
    toR (du (a4w a1l (sV 0) (sI 3) (sI 1)) (du (sIf (a8c (sT (s2 hEq (s2 gIx (sV 0) (sI 2)) (sI 0))) (sT (s2 gLt (s2 gIx (sV 0) (sI 1)) (sA vh (ao (s2 gIx (sV 0) (sI 0)) bw))))) (du (kj 2 (s2 gIx (s2 gIx (sV 0) (sI 0)) (s2 gIx (sV 0) (sI 1)))) (du (a4w a1l (sV 0) (sI 1) (sI 1)) (sIf (sT (s2 gGe (sV 2) (s2 a9b (sI 10) (sI 18)))) (ab1 (sV 2) (sV 0) (sI 2)) (ab1 (s2 a7g (s2 p7 (s2 a3t (s2 gIx (sV 0) (sI 4)) (sI 31)) (sV 2)) (sI 2147483647)) (sV 0) (sI 4))))) sNx) g) [some (.ref 0),some (.int m),none,none] [so cells (j:Nat) 0 c s])=toR (g [some (.ref 0),some (.int m),some (.int cells[j]),none] [o']):=λ{o' g} e=>by
   refine etr (mq (u3 rfl)) ?_;refine aN toR (mq (aw (ifT tt) ?_));refine aw (qp (u6 (a1n rfl x0) (a1n rfl x1) gx)) ?_;exact aw (mq (u1 rfl)) e
  generalize cells[j]=x at *
  by_cases hB:(1000000000000000000:Int)<=x
  ·refine⟨x%m,_,(go (o':=so cells ((j:Nat)+1) x (c+1) s) (aw (ifT (t2s (bf rfl) (u6 ckk ckk p18) (azf hB))) (ag9 (bf rfl) (bf rfl) ckk rfl))).trans (e1 (by omega)),dZ _ (by omega),dB _ m0,⟨cells,(j:Int)+1,x / m,c+1,s,rfl,by omega,Int.ediv_nonneg (by omega) (by omega),s0,s1,by omega,by omega⟩⟩
  ·obtain⟨r,r0,r1,e⟩:=e2 (a:=(j:Nat)+1) (t2:=some (.int x)) s2' s3;exact⟨r,_,(go (o':=so cells ((j:Nat)+1) 0 (c+1) ((s*31+x)%2147483647)) (aw (ifF (t2s (bf rfl) (u6 ckk ckk p18) (azg hB))) (ag9 (u6 (u6 (u6 (a1n rfl x4) ckk (a7j.trans (aR (.inr ⟨by decide,by decide⟩)))) (bf rfl) zu) ckk (a9l (by decide))) (bf rfl) ckk rfl))).trans e,r0,r1,⟨cells,(j:Int)+1,0,c+1,_,rfl,by omega,by omega,s2',s3,by omega,by omega⟩⟩
 ·have tt:a8c (sT (s2 hEq (s2 gIx (sV 0) (sI 2)) (sI 0))) (sT (s2 gLt (s2 gIx (sV 0) (sI 1)) (sA vh (ao (s2 gIx (sV 0) (sI 0)) bw)))) [some (.ref 0),some (.int m),none,none] [so cells a l (c+1) s]=.ok false [so cells a l (c+1) s]:=by
   by_cases hl:l=0
   ·exact aez (t2s (a1n rfl x2) ckk (a6d hl)) (t2s (a1n rfl x1) (a09 (a1n rfl x0) (a3d.trans (by rw[ay]))) (ao2 λz=>hA ⟨hl,z⟩))
   ·exact amg (t2s (a1n rfl x2) ckk (a6e hl))
  by_cases hC:0<l
  ·exact⟨l%m,_,(aN toR (mq (u3 rfl))).trans ((aN toR (ifN tt)).trans (e1 hC)),dZ _ (by omega),dB _ m0,⟨cells,a,l / m,c+1,s,rfl,a0,Int.ediv_nonneg (by omega) (by omega),s0,s1,by omega,by omega⟩⟩
  ·have:l=0:=by omega
   subst this;obtain⟨r,r0,r1,e⟩:=e2 (a:=a) (t2:=none) s0 s1;exact⟨r,_,(aN toR (mq (u3 rfl))).trans ((aN toR (ifN tt)).trans e),r0,r1,⟨cells,a,0,c+1,s,rfl,a0,by omega,s0,s1,by omega,by omega⟩⟩
theorem nj(P:Src o N)(hN:N<=1000000000)(m0:0<m)(m1:m<1073741824):∃r o',Dr ak 2 [.int m] o (.int r) o'/\0<=r/\r<m/\Src o' (N+1):=by
 obtain⟨r,o',e,r0,r1,P'⟩:=aj2 P hN m0 m1;refine⟨r,o',Dr.of rfl (by simp[dw]) P.clo e (p8 (dw _) ?_) (dw _) P'.clo,r0,r1,P'⟩
 intro u hu
 simp at hu
 subst hu;exact lz (by omega) P'.clo
end SRC
namespace EVX
open L2 MI
section
variable{i:Nat}{cs:Str->Bool}{fb fs p g:SS}{τ τ1 τ2:Sd}{h h1 h2:Hd}{c:Str}{f:SE}{ka:SA}{ds:List D}{F:SF}{n:Nat}
theorem awf(e:f τ h=.ok (.bl b) h1):aa2 f τ h=.ok (.bl (!b)) h1:=by unfold aa2;rw[e];rfl
theorem a8o(e:f τ h=.ok d h1)(e2:ka τ h1=.ok ds h2):ao f ka τ h=.ok (d::ds) h2:=by
 unfold ao;rw[e,dq,e2];rfl
theorem asa{G:List D->Hd->R D}{f1 f2 f3 f4:SE}{h3 h4 h5:Hd}{a b c d v:D}(e1:f1 τ h=.ok a h1)(e2:f2 τ h1=.ok b h2)(e3:f3 τ h2=.ok c h3)(e4:f4 τ h3=.ok d h4)(e5:G [a,b,c,d] h4=.ok v h5):sA G (ao f1 (ao f2 (ao f3 (ao f4 bw)))) τ h=.ok v h5:=by
 have:ao f1 (ao f2 (ao f3 (ao f4 bw))) τ h=.ok [a,b,c,d] h4:=by unfold ao;rw[e1,dq,e2,dq,e3,dq,e4];rfl
 unfold sA;rw[this,dq,e5]
end
end EVX
namespace SRC
open L2 MI AT HND EVX
noncomputable def qd:SF:=nq a1s 2
theorem ints_map:∀l:List Int,aa5 (l.map D.int)=some l
 |[]=>rfl
 |a::l=>by rw[ba];simp only[aa5,ints_map l,fO]
theorem b30(e:k τ h=.ok ds h1)(eg:g ds h1=.ok d h2):sA g k τ h=.ok d h2:=by
 unfold sA;rw[e,dq,eg]
def cell(x:Int):Int:=2*b09 x+(if decide (x<0)=true then 1 else 0)
theorem aj3(ns:List Int)(h:Hd):∃o,Src o 0/\gq true 1 qd [.scr (ns.map D.int)] h=.ok (.ref h.length) (h++[o]):=by
 have cl:clos 0 ((ns.take 63).map D.int):=fj λx _=>dw x;have z1:sZ (a4y (sV 0) oN (oS (sI 63))) [some (.scr (ns.map D.int)),none] []=.ok (.rol ((ns.take 63).map D.int)) []:=by
  refine a4e (by
   show gSl (.scr (ns.map D.int)) none (some ((63:Nat):Int)) []=_;unfold gSl;simp only[ahq,List.map_take]) cl (by simp)
 have z2:sZ (p6 (sIt (sZ (a4y (sV 0) oN (oS (sI 63))))) t1 a1c []) [some (.scr (ns.map D.int)),none] []=.ok (.rol ((ns.take 63).map λx=>D.int (cell x))) []:=by
  refine a4e (vq D.int (λx=>D.int (cell x)) (ns.take 63) (a93 z1 rfl) (fu (by simp;omega)) λx _=>?_) (fj λx _=>dw _) (by simp)
  rw[xj];unfold a1c;exact u6 (u6 ckk (a09 (bf rfl) (aiu _ _)) (a7j.trans (aR (.inl ⟨by decide,by decide⟩)))) (a09 (a1n rfl rfl) rfl) zu
 have em:((ns.take 63).map λx=>D.int (cell x))=((ns.take 63).map cell).map D.int:=by rw[cF];rfl
 rw[em]at z2
 generalize (ns.take 63).map cell=cs at z2
 have e:qd [.scr (ns.map D.int)] []=.ok (.ref 0) [.lst [.rol (cs.map D.int),.int 0,.int 0,.int 0,.int (cs.sum%2147483647)]]:=by
  unfold qd;rw[dm];show toR (a1s [some (.scr (ns.map D.int)),none] [])=_;unfold a1s;refine etr (qp z2) ?_;have su:aul [.rol (cs.map D.int)] []=.ok (.int cs.sum) []:=by unfold aul;simp only[ints_map]
  exact aN toR (ud (b30 (a8o (bf rfl) (a8o ckk (a8o ckk (a8o ckk (a8o (u6 (a09 (bf rfl) su) ckk (a9l (by decide))) rfl))))) rfl))
 have P:Src (.lst [.rol (cs.map D.int),.int 0,.int 0,.int 0,.int (cs.sum%2147483647)]) 0:=⟨cs,0,0,0,_,rfl,by decide,by decide,dZ _ (by decide),dB _ (by decide),by decide,by decide⟩
 exact⟨_,P,ao1 rfl (by simpa[MI.clo] using (fj λx _=>dw x:clos 0 (ns.map D.int))) e rfl P.clo h⟩
noncomputable def qi:SF:=nq a1d 1
theorem aat:Pu qi 0 [] (.str (S sig)):=HND.aat
noncomputable def jk:SF:=nq (a1t ak qi) 5
theorem af2{a b:List Nat}(l:a.length+b.length<=LINE):a1l (.str (S a)) (.str (S b)) h=.ok (.str (S (a++b))) h:=by
 have:=adl (h:=h) l
 simpa[a1l,p7,b1m] using this
theorem awg(e:f τ h=.ok (.int i) h1):oS f τ h=.ok (some i) h1:=by unfold oS;rw[e];rfl
theorem awh(e:f τ h=.ok d h1)(e1:lo τ h1=.ok a h2)(e2:hi τ h2=.ok b h3)(e3:adg d a b h3=.ok v h4):a4y f lo hi τ h=.ok v h4:=by
 unfold a4y;rw[e,dq,e1,dq,e2,dq,e3]
theorem aj4(P:Src o N)(hN:N<=999999000):∃l o',Tongue l/\Dr jk 1 [] o (.str (S l)) o'/\Src o' (N+7):=by
 obtain⟨r0,o1,e1,r0a,r0b,P1⟩:=nj (m:=6) P (by omega) (by decide) (by decide)
 have lo:=uc (g:=kN 3) (b:=a1e ak qi) (λi:Nat=>D.int (0+(i:Nat)))
  (λpre τ h=>∃(aF told:List Nat) (u:O) (t3 t4:Option D),τ=[some (.ref 0),some (.str (S aF)),some (.str (S told)),t3,t4]/\h=[u]/\Src u (N+1+pre.length)/\told.length=pre.length/\(told++aF).length=95/\(told++aF).Nodup/\∀c∈told++aF,c∈sig)
  (List.range (1+r0).toNat) [some (.ref 0),some (.str (S sig)),some (.str (S [])),none,none] [o1] ?_
  ⟨sig,[],o1,none,none,rfl,rfl,P1,rfl,by simp[ar4],by simpa using awe,by simp⟩
 ·obtain⟨τ',h',e2,aF,told,u,t3,t4,rfl,rfl,P2,l1,l2,nd,sb⟩:=lo;rw[aZ]at P2 l1;have T:Tongue told:=⟨by omega,by omega,(cC.mp nd).1,λc hc=>sb c (cD _ hc)⟩
  refine⟨told,u,T,Dr.of rfl (by simp) P.clo (r:=.ok (.str (S told)) [u]) ?_ (p8 (g8 _) (by simpa using lz (by omega) P2.clo)) (g8 _) P2.clo,P2.up (by omega)⟩
  unfold jk;rw[dm];show toR (a1t ak qi [some (.ref 0),none,none,none,none] [o])=_;unfold a1t;have c2:gq false 2 ak [.ref 0,.int 6] [o]=.ok (.int r0) [o1]:=e1 0 [o] rfl;have bd:B62 (1+r0):=by unfold B62;omega
  refine ets (b1v (aat _)) ?_;refine etr (qp ckk) ?_;have it:sRg xn (ao (s2 p7 (sI 1) (sA (gq false 2 ak) (ao (sV 0) (ao (sI 6) bw)))) bw) [some (.ref 0),some (.str (S sig)),some (.str ""),none,none] [o]=.ok ⟨rng 0 (1+r0).toNat,λ_=>True⟩ [o1]:=by
   unfold sRg;rw[arg1 (u6 ckk (uy (bf rfl) ckk c2) zu),dq];exact aR bd
  refine etr (a4x it) ?_;refine aw (aN (λz=>toR (MI.thn z _)) e2) ?_;exact aN toR (ud (bf rfl))
 ·rintro pre i post τ h all ⟨aF,told,u,t3,t4,rfl,rfl,P2,l1,l2,nd,sb⟩
  have aG:pre.length<(1+r0).toNat:=by
   have:=aN List.length all
   simp at this;omega
  rw[ai]at l2;obtain⟨r,u',e2,ra,rb,P3⟩:=nj (m:=(aF.length:Nat)) P2 (by omega) (by omega) (by omega)
  obtain⟨j,rfl⟩:=aT ra;have hj:j<aF.length:=by omega
  have gx:aF[j]? = some aF[j]:=af hj;have pp:=aj0 told aF j aF[j] gx;refine⟨_,_,rfl,_,_,?_,aF.take j++aF.drop (j+1),told++[aF[j]],u',some (.int (0+(i:Nat))),some (.int (j:Nat)),rfl,rfl,by simpa[Nat.add_assoc] using P3,by simp[l1],?_,pp.nodup_iff.mp nd,λc hc=>sb c (pp.mem_iff.mpr hc)⟩
  ·unfold a1e;have L:∀n:Nat,n<=95->n<=LINE:=λn hn=>by show n<=16777216;omega
   have c2:=e2 0 [u] rfl;have x1:∀h,gIx (.str (S aF)) (.int (j:Nat)) h=.ok (.str (S [aF[j]])) h:=λh=>as6 (L _ (by omega)) gx
   have x2:∀h,vh [.str (S aF)] h=.ok (.int aF.length) h:=λh=>a7n (L _ (by omega))
   have x3:∀h,a1l (.str (S told)) (.str (S [aF[j]])) h=.ok (.str (S (told++[aF[j]]))) h:=λh=>af2 (L _ (by simp;omega))
   have x4:∀h,adg (.str (S aF)) none (some (j:Int)) h=.ok (.str (S (aF.take j))) h:=λh=>av4 j (L _ (by omega))
   have x5:∀h,adg (.str (S aF)) (some ((j:Int)+1)) none h=.ok (.str (S (aF.drop (j+1)))) h:=λh=>ac8 (j+1) (L _ (by omega))
   have x6:∀h,p7 (.str (S (aF.take j))) (.str (S (aF.drop (j+1)))) h=.ok (.str (S (aF.take j++aF.drop (j+1)))) h:=λh=>adl (L _ (by simp;omega))
   have c2:gq false 2 ak [.ref 0,.int (aF.length:Nat)] [u]=.ok (.int (j:Nat)) [u']:=c2;refine aw (qp (uy (bf rfl) (a09 (bf rfl) (x2 _)) c2)) ?_;refine aw (mq (aix rfl (u6 (bf rfl) (bf rfl) (x1 _)) (x3 _))) ?_;exact acw (u6 (awh (bf rfl) rfl (awg (bf rfl)) (x4 _)) (awh (bf rfl) (awg (a1n rfl zu)) rfl (x5 _)) (x6 _))
  ·rw[<-pp.length_eq];simpa using l2
end SRC
namespace HND
open L2 MI AT
theorem af3{ck:Hd->Prop}{g:SG}{b:SS}{α:Type}(f:α->D)(I:List α->Sd->Hd->Prop)(c:∀pre τ h,I pre τ h->ck h):∀(xs pre:List α) (τ:Sd) (h:Hd),
  (∀pre' x post τ h,pre++xs=pre'++x::post->I pre' τ h->∃τ1 h1,g (f x) τ h=.nx τ1 h1/\∃τ2 h2,b τ1 h1=.nx τ2 h2/\I (pre'++[x]) τ2 h2)->I pre τ h->∃τ' h',forL ck g b (xs.map f) τ h=.nx τ' h'/\I (pre++xs) τ' h'
 |[],pre,τ,h,_,i0=>⟨τ,h,by rw[dM,forL,aR (c _ _ _ i0)],by simpa using i0⟩
 |x::xs,pre,τ,h,st,i0=>by
  obtain⟨τ1,h1,e1,τ2,h2,e2,i2⟩:=st pre x xs τ h rfl i0;obtain⟨τ',h',e3,i3⟩:=af3 f I c xs (pre++[x]) τ2 h2 (λpre' y post τ h e=>st pre' y post τ h (by simpa using e)) i2
  refine⟨τ',h',?_,by simpa using i3⟩
  rw[ba,forL,aR (c _ _ _ i0),e1];dsimp only;rw[e2];exact e3
theorem v5(h:List.range k=pre++i::post):i=pre.length/\i<k:=by
 have h1:=aN (λl=>l[pre.length]?) h;have h2:=aN List.length h;simp at h1 h2;have:pre.length<k:=by omega
 rw[de this]at h1;simp at h1;omega
abbrev KOk(k:Int):Prop := -1<=k/\k<=5
abbrev di(i:Nat):D:=.int (i:Nat)
theorem qt(l:List Nat):clos k (l.map di):=fj λx _=>dw _
abbrev ab4(r:List Nat):D:=.tup (r.map di)
abbrev acy(s n:Nat)(r:List Nat):Prop:=r.length=s/\∀x∈r,x<n
structure Table where
 tg:List Nat
 go:List (List Nat)
 ks:List Int
def Table.d(T:Table):D:=.tup [.str (S T.tg),.tup (T.go.map ab4),.tup (T.ks.map D.int)]
structure Table.Ok (T:Table):Prop where
 tong:Tongue T.tg
 n1:1<=T.go.length
 n32:T.go.length<=32
 row:∀r∈T.go,acy T.tg.length T.go.length r
 kl:T.ks.length=T.go.length
 k0:T.ks[0]? = some (-1)
 kk:∀k∈T.ks,KOk k
theorem Table.clo{T:Table}:clo 0 T.d:=uq (cu (g8 _) (cu (uq (fj λx _=>uq (qt _))) (cu (uq (fj λx _=>dw x)) qx)))
end HND
namespace PAP
open L2 MI AT HND
theorem ao3(l:List Nat)(h:Hd):ahx (.str (S l)) h=.ok ⟨l.map λc=>.str (S [c]),λ_=>True⟩ h:=by
 show R.ok (⟨a0z (S l),λ_=>True⟩:Itm) _=_;unfold a0z;rw[a6b]
theorem aj5(e:f τ h=.ok (.int i) h1):oS f τ h=.ok (some i) h1:=by unfold oS;rw[e];rfl
theorem aki(e:f τ h=.ok d h1)(e1:lo τ h1=.ok a h2)(e2:hi τ h2=.ok b h3)(e3:adg d a b h3=.ok v h4):a4y f lo hi τ h=.ok v h4:=by
 unfold a4y;rw[e,dq,e1,dq,e2,dq,e3]
theorem b31(xs:List D)(lo hi:Option Int)(h:Hd):adg (.tup xs) lo hi h=.ok (.tup (a8y xs lo hi)) h:=by
 unfold adg;dsimp only
 split
 ·rename_i w;obtain⟨a,b⟩:=w
  congr 2
  unfold a8y;rw[a,b,gK,bR (by omega)]
 ·rfl
theorem a8o(e:f τ h=.ok d h1)(e2:k τ h1=.ok ds h2):ao f k τ h=.ok (d::ds) h2:=by
 unfold ao;rw[e,dq,e2,dq]
theorem aof(e:k τ h=.ok ds h1)(e2:G ds h1=.ok v h2):sA G k τ h=.ok v h2:=by
 unfold sA;rw[e,dq,e2]
theorem awi{h h':Hd}(hl:h'.length=h.length)(e:f τ h=.ok (.ref h'.length) (h'++[.lst xs]))(cx:clos h.length xs)(c:∀o∈h',vg h.length o):sZ f τ h=.ok (.rol xs) h':=by
 unfold sZ;rw[e,a1q (by omega) (by simp) cx (by rw[<-hl];simpa[hl] using c)]
 rw[<-hl];simp
end PAP
def cns:=@PAP.a8o
namespace SRC
open L2 MI AT HND EVX
theorem b32(c:x<=y):gLe (.int x) (.int y) h=.ok (.bl true) h:=by
 show R.ok (D.bl (decide (x<=y))) h=_;rw[cU c]
theorem b33(c:¬ x<=y):gLe (.int x) (.int y) h=.ok (.bl false) h:=by
 show R.ok (D.bl (decide (x<=y))) h=_;rw[bJ c]
theorem awj(e1:c τ h=.ok true h1)(e2:f τ h1=r):acu c f g τ h=r:=by unfold acu;rw[e1,dq,aR rfl];exact e2
theorem ar5(e1:c τ h=.ok false h1)(e2:g τ h1=r):acu c f g τ h=r:=by unfold acu;rw[e1,dq,bE (by simp)];exact e2
abbrev a2m(r:List Nat):D:=.rol (r.map di)
abbrev HR(u:O)(ks:List Int)(rows:List (List Nat)):Hd:=[u,.lst (ks.map D.int),.lst (rows.map a2m)]
abbrev τR(tg:List Nat)(n:Nat)(i m:Option D)(r:Option D):Sd:=[some (.ref 0),some (.str (S tg)),some (di n),some (.ref 1),i,m,some (.ref 2),r]
theorem ao4(P:Src u N)(k:Nat):∀o∈HR u ks rows,vg k o:=by
 intro o ho
 simp only[aS,bp,cG]at ho
 rcases ho with rfl|rfl|rfl
 ·exact lz (aV _) P.clo
 ·exact lz (aV _) (fj λx _=>dw x)
 ·exact lz (aV _) (fj λx _=>nu (qt _))
theorem aj6{tg:List Nat}(P:Src u N)(hN:N<=999999000)(t6:tg.length<=6)(n1:1<=n)(n32:n<=32) :
  ∃(u':O) (row:List Nat),acy tg.length n row/\Src u' (N+6)/\sZ (p6 (sIt (sV 1)) t1 (v7 ak) [0,2]) (τR tg n i m r) (HR u ks rows)=.ok (a2m row) (HR u' ks rows):=by
 have mp:=aam (f:=a92 t1 (v7 ak) (frs' [0,2] (τR tg n i m r))) (λc:Nat=>D.str (S [c]))
  (λpre ys h=>∃(u':O) (row:List Nat),h=HR u' ks rows/\Src u' (N+pre.length)/\ys=row.map di/\row.length=pre.length/\∀x∈row,x<n)
  tg [] [] (HR u ks rows) ?_ ⟨u,[],rfl,P,rfl,rfl,by simp⟩
 ·obtain⟨zs,h',em,u',row,rfl,P',ez,rl,rx⟩:=mp;rw[cN]at ez rl P';subst ez;refine⟨u',row,⟨rl,rx⟩,P'.up (by omega),?_⟩
  refine PAP.awi rfl ?_ (qt _) (ao4 P' _);unfold p6;rw[a93 (bf rfl) (PAP.ao3 tg _),dq];dsimp only;rw[aR (by rw[ay];exact fu (by omega)),em]
  rfl
 ·rintro pre c post ys h all ⟨u',row,rfl,P',rfl,rl,rx⟩
  rw[cN]at all;have pl:pre.length<tg.length:=by rw[all];simp
  obtain⟨x,u2,e,x0,x1,P2⟩:=nj (m:=(n:Nat)) P' (by omega) (by omega) (by omega)
  obtain⟨j,rfl⟩:=aT x0;have c1:gq false 2 ak [.ref 0,di n] (HR u' ks rows)=.ok (di j) (HR u2 ks rows):=e 0 _ rfl;refine⟨di j,HR u2 ks rows,?_,u2,row++[j],rfl,P2.up (by rw[ai,aI];omega),by rw[bt];rfl,by rw[ai,ai,aI,aI,rl],λy hy=>?_⟩
  ·rw[xj];unfold v7;exact uy (bf rfl) (bf rfl) c1
  ·rcases aY.mp hy with z|z
   ·exact rx y z
   ·rw[av]at z;subst z;omega
theorem aj7{row:List Nat}(P:Src u N)(rl:row.length<=100)(fx:∀x,x∈row->fe (some (di x)::frs' ix (τR tg n i m (some (a2m row)))) (HR u ks rows)=.ok (di (f x)) (HR u ks rows)) :
  sZ (p6 (sIt (sV 7)) t1 fe ix) (τR tg n i m (some (a2m row))) (HR u ks rows)=.ok (a2m (row.map f)) (HR u ks rows):=by
 unfold a2m;rw[cF];refine a4e (vq di (di ∘ f) row (a93 (bf rfl) rfl) (fu (by omega)) λx hx=>?_) (fj λy _=>dw _) (ao4 P _)
 rw[xj];exact fx x hx
theorem agc{tg:List Nat}{ks:List Int}{rows:List (List Nat)}(P:Src u N)(hN:N<=999999000)(t6:tg.length<=6)(n1:1<=n)(n32:n<=32)(lk:ks.length=n)(hi:i<n)(lr:rows.length<=100) :
  ∃(u':O) (row:List Nat) (r':Option D),acy tg.length n row/\Src u' (N+6)/\v8 ak (τR tg n (some (di i)) (some (.int m)) r) (HR u ks rows)=.nx (τR tg n (some (di i)) (some (.int m)) r') (HR u' ks (rows++[row])):=by
 obtain⟨u',row,⟨l1,x1⟩,P',e1⟩:=aj6 (i:=some (di i)) (m:=some (.int m)) (r:=r) (ks:=ks) (rows:=rows) P hN t6 n1 n32;have fin:∀row:List Nat,vp (sML a7s (sV 6) (ao (sV 7) bw)) (τR tg n (some (di i)) (some (.int m)) (some (a2m row))) (HR u' ks rows)=.nx (τR tg n (some (di i)) (some (.int m)) (some (a2m row))) (HR u' ks (rows++[row])):=λrow=>by
  unfold HR;rw[bt];exact a1u (bf rfl) rfl (arg1 (bf rfl)) (a3r (xs:=rows.map a2m) rfl (by rw[ay];exact a2x (by omega)))
 have third:∀row:List Nat,acy tg.length n row->∃row',acy tg.length n row'/\du (sIf (a8c (sT (s2 hEq (sV 5) (sI 1))) (sT (s2 hEq (sV 4) (s2 acs (sV 2) (sI 1)))))
   (kj 7 (sZ (p6 (sIt (sV 7)) t1 (xu ak) [4]))) sNx) (vp (sML a7s (sV 6) (ao (sV 7) bw))) (τR tg n (some (di i)) (some (.int m)) (some (a2m row))) (HR u' ks rows)=.nx (τR tg n (some (di i)) (some (.int m)) (some (a2m row'))) (HR u' ks (rows++[row'])):=λrow ⟨l2,x2⟩=>by
  by_cases h1:m=1
  ·by_cases h2:(i:Int)=(n:Int)-1
   ·refine⟨row.map λ_=>i,⟨by rw[ay,l2],λx hx=>by obtain⟨_,_,rfl⟩:=bU.mp hx;exact hi⟩,?_⟩
    refine aw (mq (aw (ifT (aez (tvc rfl (a6d h1)) (t2s (bf rfl) (a1n rfl (af0 _ _)) (a6d h2)))) (acw (aj7 (f:=λ_=>i) P' (by omega) λx _=>by unfold xu;exact bf rfl)))) ?_
    exact fin _
   ·refine⟨row,⟨l2,x2⟩,?_⟩;refine aw (ifN (aez (tvc rfl (a6d h1)) (t2s (bf rfl) (a1n rfl (af0 _ _)) (a6e h2)))) ?_;exact fin _
  ·refine⟨row,⟨l2,x2⟩,?_⟩;refine aw (ifN (amg (tvc rfl (a6e h1)))) ?_;exact fin _
 unfold v8
 by_cases h0:0<m
 ·let g:Nat->Nat:=λx=>if (ks[x]?).getD 0<0/\x<=i then n-1 else x
  have gl:acy tg.length n (row.map g):=⟨by rw[ay,l1],λx hx=>by
   obtain⟨y,hy,rfl⟩:=bU.mp hx;have:=x1 y hy;show(if _ then n-1 else y)<n
   split
   ·exact Nat.sub_lt (by omega) (by decide)
   ·exact this⟩
  obtain⟨row',q,e3⟩:=third _ gl;refine⟨u',row',some (a2m row'),q,P',?_⟩;refine aw (qp e1) ?_;refine aw (mq (aw (ifT (tvc rfl (b0c h0))) (acw (aj7 (f:=g) P' (by omega) λx hx=>?_)))) ?_
  ·unfold a08;have hx':=x1 x hx;have kx:ks[x]? = some ((ks[x]?).getD 0):=by rw[af (by omega)];rfl
   have ki:∀h:Hd,h[1]? = some (.lst (ks.map D.int))->gIx (.ref 1) (di x) h=.ok (.int ((ks[x]?).getD 0)) h:=λh hh=>a3s hh (by rw[aP,kx];rfl)
   have sb:s2 acs (sV 1) (sI 1) (some (di x)::frs' [2,3,4] (τR tg n (some (di i)) (some (.int m)) (some (a2m row)))) (HR u' ks rows)=.ok (di (n-1)) (HR u' ks rows) :=
    (a1n rfl (af0 _ _)).trans (by show R.ok (D.int ((n:Int)-1)) _=R.ok (D.int ((n-1:Nat):Int)) _;congr 2;omega)
   by_cases hk:(ks[x]?).getD 0<0
   ·by_cases hx:x<=i
    ·show _=R.ok (di (if _ then n-1 else x)) _
     rw[aR ⟨hk,hx⟩];exact awj (aez (t2s (u6 (bf rfl) (bf rfl) (ki _ rfl)) ckk (akg hk)) (t2s (bf rfl) (bf rfl) (b32 (by omega)))) sb
    ·show _=R.ok (di (if _ then n-1 else x)) _
     rw[bE λz=>hx z.2];exact ar5 (aez (t2s (u6 (bf rfl) (bf rfl) (ki _ rfl)) ckk (akg hk)) (t2s (bf rfl) (bf rfl) (b33 (by omega)))) (bf rfl)
   ·show _=R.ok (di (if _ then n-1 else x)) _
    rw[bE λz=>hk z.1];exact ar5 (amg (t2s (u6 (bf rfl) (bf rfl) (ki _ rfl)) ckk (ao2 hk))) (bf rfl)
  ·exact e3
 ·obtain⟨row',q,e3⟩:=third _ ⟨l1,x1⟩;refine⟨u',row',some (a2m row'),q,P',?_⟩;refine aw (qp e1) ?_;refine aw (ifN (tvc rfl (b0d h0))) ?_;exact e3
theorem aj8:a4v 1 (HR u ks rows) FU (.tup [.ref 2,.ref 1])=some (.tup [.rol (rows.map a2m),.rol (ks.map D.int)]):=by
 have oc:∀{k:Nat} {d d':D} {ds ds':List D},a4v 1 (HR u ks rows) k d=some d'->a0r (a4v 1 (HR u ks rows) k) ds=some ds'->a0r (a4v 1 (HR u ks rows) k) (d::ds)=some (d'::ds'):=λe1 e2=>by unfold a0r;rw[e1,e2]
 refine aak (k:=19) (oc (a6a (k:=17) (by omega) rfl (fj λx _=>nu (qt _))) (oc (a6a (k:=17) (by omega) rfl (fj λx _=>dw x)) rfl)) ?_
 intro z
 have:=a0v.mp z (.ref 2) bA
 simp only[MI.clo]at this;omega
noncomputable abbrev ao5(L0:SS):SS :=
 (du (kj 3 (sA a3z (ao (s1 a8z (sI 1)) bw)))
 (du (a3v (sRg a91 (ao (sI 1) (ao (sV 2) bw))) (kN 4) L0)
 (du (kj 5 (sA (gq false 2 ak) (ao (sV 0) (ao (sI 3) bw))))
 (du (kj 6 (sA a3z bw))
 (du (a3v (sRg xn (ao (sV 2) bw)) (kN 4) (v8 ak))
 (sy (sA a2o (ao (sV 6) (ao (sV 3) bw)))))))))
theorem aj9{L0:SS}{tg:List Nat}(hk0:∀{u:O} {ks:List Int} {M:Nat} (x:Option D),Src u M->M<=999999000->ks.length<=100->∃(u':O) (k:Int),L0 [some (.ref 0),some (.str (S tg)),some (di n),some (.ref 1),x,none,none,none] [u,.lst (ks.map D.int)]=.nx [some (.ref 0),some (.str (S tg)),some (di n),some (.ref 1),x,none,none,none] [u',.lst ((ks++[k]).map D.int)]/\Src u' (M+2)/\KOk k)(P:Src o N)(hN:N<=999990000)(t6:tg.length<=6)(n1:1<=n)(n32:n<=32) :
  ∃(ks:List Int) (rows:List (List Nat)) (o':O),ks.length=n/\ks[0]? = some (-1)/\(∀k∈ks,KOk k)/\rows.length=n/\(∀r∈rows,acy tg.length n r) /\
   Dr (nq (ao5 L0) 8) 3 [.str (S tg),di n] o (.tup [.rol (rows.map a2m),.rol (ks.map D.int)]) o'/\Src o' (N+300):=by
 have lo:=uc (g:=kN 4) (b:=L0) (λi:Nat=>D.int ((1+i:Nat)))
  (λpre τ h=>∃(u:O) (ks:List Int) (t4:Option D),τ=[some (.ref 0),some (.str (S tg)),some (di n),some (.ref 1),t4,none,none,none]/\h=[u,.lst (ks.map D.int)]/\Src u (N+2*pre.length)/\ks.length=1+pre.length/\ks[0]? = some (-1)/\∀k∈ks,KOk k)
  (List.range (n-1)) [some (.ref 0),some (.str (S tg)),some (di n),some (.ref 1),none,none,none,none] [o,.lst ([-1].map D.int)] ?_
  ⟨o,[-1],none,rfl,rfl,P,rfl,rfl,by intro k hk;rw[av]at hk;subst hk;decide⟩
 ·obtain⟨τ',h',e1,u,ks,t4,rfl,rfl,P1,l1,k0,kk⟩:=lo;rw[aZ]at P1 l1;obtain⟨m,u1,e2,m0,m1,P2⟩:=nj (m:=3) P1 (by omega) (by omega) (by omega)
  have c2:gq false 2 ak [.ref 0,.int 3] [u,.lst (ks.map D.int)]=.ok (.int m) [u1,.lst (ks.map D.int)]:=e2 0 _ rfl;have lp:=uc (g:=kN 4) (b:=v8 ak) (λi:Nat=>D.int (i:Nat))
   (λpre τ h=>∃(u':O) (rows:List (List Nat)) (i r:Option D),τ=τR tg n i (some (.int m)) r/\h=HR u' ks rows/\Src u' (N+100+6*pre.length)/\rows.length=pre.length/\∀r∈rows,acy tg.length n r)
   (List.range n) (τR tg n t4 (some (.int m)) none) (HR u1 ks []) ?_ ⟨u1,[],_,_,rfl,rfl,P2.up (by omega),rfl,by simp⟩
  ·obtain⟨τ',h',e3,u',rows,i,r,rfl,rfl,P3,lr,rr⟩:=lp;rw[aZ]at P3 lr;have ca:MI.clo 0 (.tup [.rol (rows.map a2m),.rol (ks.map D.int)]):=uq (cu (nu (fj λx _=>nu (qt _))) (cu (nu (fj λy _=>dw y)) qx));refine⟨ks,rows,u',by omega,k0,kk,lr,rr,Dr.of rfl ?_ P.clo (r:=.ok (.tup [.ref 2,.ref 1]) (HR u' ks rows)) ?_ (a8k aj8 (by intro x hx;rw[show List.take 1 (HR u' ks rows)=[u'] from rfl,av]at hx;subst hx;exact lz (by omega) P3.clo)) ca P3.clo,P3.up (by omega)⟩
   ·intro x hx
    simp only[aS,bp,cG]at hx
    rcases hx with rfl|rfl
    ·exact g8 _
    ·exact dw _
   ·rw[dm];show toR (ao5 L0 [some (.ref 0),some (.str (S tg)),some (di n),none,none,none,none,none] [o])=_;refine etr (qp (d:=.ref 1) (h1:=[o,.lst ([-1].map D.int)]) rfl) ?_;refine etr (a4x (aiw (a:=1) (n:=n) ckk (bf rfl) (fu (by omega)) (fu (by omega)))) ?_
    refine aw (aN (λz=>toR (MI.thn z _)) e1) ?_;rw[zr];refine ets (uy (bf rfl) ckk c2) ?_;refine etr (qp (d:=.ref 2) (h1:=HR u1 ks []) rfl) ?_;refine etr (a4x (aar (n:=n) (bf rfl) (fu (by omega)))) ?_
    refine aw (aN (λz=>toR (MI.thn z _)) e3) ?_;rw[zr];exact aN toR (ud (uy (bf rfl) (bf rfl) aqu))
  ·rintro pre i post τ h all ⟨u',rows,i',r,rfl,rfl,P3,lr,rr⟩
   obtain⟨hi,hk⟩:=v5 all;obtain⟨u2,row,r',q,P4,e4⟩:=agc (i:=i) (m:=m) (r:=r) (ks:=ks) (rows:=rows) P3 (by omega) t6 n1 n32 (by omega) hk (by omega)
   refine⟨_,_,rfl,_,_,e4,u2,rows++[row],_,_,rfl,rfl,P4.up (by rw[ai,aI];omega),by rw[ai,ai,aI,aI,lr],λx hx=>?_⟩
   rcases aY.mp hx with z|z
   ·exact rr x z
   ·rw[av]at z;subst z;exact q
 ·rintro pre i post τ h all ⟨u,ks,t4,rfl,rfl,P2,l1,k0,kk⟩
  obtain⟨hi,hk⟩:=v5 all;obtain⟨u',k,e3,P3,hk3⟩:=hk0 (ks:=ks) (some (.int ((1+i:Nat):Int))) P2 (by omega) (by omega)
  refine⟨_,_,rfl,_,_,e3,u',ks++[k],_,rfl,rfl,P3.up (by rw[ai,aI];omega),by rw[ai,ai,aI,aI];omega,?_,λq hq=>?_⟩
  ·rw[aM (by omega)];exact k0
  ·rcases aY.mp hq with h|h
   ·exact kk q h
   ·rw[av]at h;subst h;exact hk3
end SRC
namespace BF
def num(s:Nat):List Nat->Nat
 |[]=>0
 |c::p=>num s p*s+c+1
def walk(step:Nat->Nat->Nat)(r:Nat):List Nat->Nat
 |[]=>r
 |c::p=>step (walk step r p) c
def Ok(s:Nat)(w:List Nat):Prop:=∀c∈w,c<s
theorem Ok.nil:Ok s []:=λ_ h=>by simp at h
theorem Ok.cons{s c:Nat}{p:List Nat}(hc:c<s)(h:Ok s p):Ok s (c::p):=λd hd=>by
 rcases aS.mp hd with rfl|hd
 ·exact hc
 ·exact h d hd
theorem Ok.head(h:Ok s (c::p)):c<s:=h c bA
theorem Ok.tail(h:Ok s (c::p)):Ok s p:=λd hd=>h d (bq _ hd)
theorem ao6{s a b:Nat}(h:a<b):a*s+s<=b*s:=by
 have:(a+1)*s<=b*s:=bY s h
 rw[fP,gR]at this;exact this
theorem aja{s a b c d:Nat}(h:a<b)(hc:c<s):a*s+c+1<b*s+d+1:=by
 have:=ao6 (s:=s) h
 omega
theorem aau:∀{u v:List Nat},Ok s u->Ok s v->num s u=num s v->u=v
 |[],[],_,_,_=>rfl
 |[],_::_,_,_,e=>by simp[num]at e
 |_::_,[],_,_,e=>by simp[num]at e
 |c::p,d::q,hu,hv,e=>by
  simp only[num]at e;have h1:=hu.head;have h2:=hv.head
  rcases eY (num s p) (num s q) with h|h|h
  ·have:=aja (d:=d) h h1;omega
  ·have:=aau hu.tail hv.tail h
   subst this;have:c=d:=by omega
   rw[this]
  ·have:=aja (d:=c) h h2;omega
section
variable{s:Nat}{step:Nat->Nat->Nat}{r0:Nat}{hit:List Nat->Prop}
structure St (s:Nat) (step:Nat->Nat->Nat) (r0:Nat) (hit:List Nat->Prop) (found:List (List Nat)) (F:Nat):Prop where
 ok:∀w∈found,Ok s w
 inc:found.Pairwise λu v=>num s u<num s v
 dis:found.Pairwise λu v=>walk step r0 u≠walk step r0 v
 com:∀w,Ok s w->num s w<F->¬ hit w/\∃v∈found,walk step r0 v=walk step r0 w/\num s v<=num s w
 low:∀w∈found,num s w<F
 len:∀(j:Nat) w,found[j]? = some w->w.length<=j
theorem St.start(h0:¬ hit []):St s step r0 hit [[]] 1:=by
 refine⟨by simp[Ok.nil],by simp,by simp,λw hw hn=>?_,by simp[num],λj w e=>?_⟩
 rotate_left
 ·cases j with
  |zero=>simp at e;subst e;exact aJ _
  |succ j=>simp at e
 cases w with
 |nil=>exact⟨h0,[],by simp,rfl,aJ _⟩
 |cons c p=>simp only[num]at hn;omega
theorem St.seen(S:St s step r0 hit found F)(hw:Ok s w)(e:num s w=F)(nh:¬ hit w)(h:∃v∈found,walk step r0 v=walk step r0 w):St s step r0 hit found (F+1):=by
 refine⟨S.ok,S.inc,S.dis,λu hu hn=>?_,λu hu=>Nat.lt_succ_of_lt (S.low u hu),S.len⟩
 rcases fU (num s u) F with h1|h1
 ·exact S.com u hu h1
 ·have:u=w:=aau hu hw (by omega)
  subst this;obtain⟨v,hv,e2⟩:=h;exact⟨nh,v,hv,e2,eG (by rw[e];exact S.low v hv)⟩
theorem St.add(S:St s step r0 hit found F)(hw:Ok s w)(e:num s w=F)(nh:¬ hit w)(h:∀v∈found,walk step r0 v≠walk step r0 w)(aG:w.length<=found.length):St s step r0 hit (found++[w]) (F+1):=by
 refine⟨λu hu=>?_,?_,?_,λu hu hn=>?_,λu hu=>?_,λj u e=>?_⟩
 ·rcases aY.mp hu with hu|hu
  ·exact S.ok u hu
  ·rw[av.mp hu];exact hw
 ·refine List.pairwise_append.mpr ⟨S.inc,by simp,λu hu v hv=>?_⟩
  rw[av.mp hv,e];exact S.low u hu
 ·refine List.pairwise_append.mpr ⟨S.dis,by simp,λu hu v hv=>?_⟩
  rw[av.mp hv];exact h u hu
 ·rcases fU (num s u) F with h1|h1
  ·obtain⟨a,v,hv,b⟩:=S.com u hu h1;exact⟨a,v,cD _ hv,b⟩
  ·have:u=w:=aau hu hw (by omega)
   subst this;exact⟨nh,u,by simp,rfl,aJ _⟩
 ·rcases aY.mp hu with hu|hu
  ·exact Nat.lt_succ_of_lt (S.low u hu)
  ·rw[av.mp hu];omega
 ·by_cases hj:j<found.length
  ·rw[aM hj]at e;exact S.len j u e
  ·rw[aO (by omega)]at e
   have:j-found.length=0:=by
    have:=(ag.mp e).1
    simp at this;omega
   rw[this]at e;simp at e;subst e;omega
theorem St.least(S:St s step r0 hit found F)(hv:Ok s v)(hh:hit v):F<=num s v :=
 eD λz=>(S.com v hv z).1 hh
theorem St.next{l:Nat}(hs:0<s)(hl:found[l]? = some w)(hl':found[l+1]? = some w')(S:St s step r0 hit found (num s w*s+s+1))(a3j:∀c p q,walk step r0 p=walk step r0 q->(hit (c::p)↔hit (c::q))):St s step r0 hit found (num s w'*s+1):=by
 obtain⟨h1,e1⟩:=ag.mp hl;obtain⟨h2,e2⟩:=ag.mp hl';have lt:num s w<num s w':=by rw[<-e1,<-e2];exact bP.mp S.inc l (l+1) h1 h2 (by omega)
 have up:=ao6 (s:=s) lt;refine⟨S.ok,S.inc,S.dis,λu hu hn=>?_,λu hu=>bo (S.low u hu) (by omega),S.len⟩
 rcases fU (num s u) (num s w*s+s+1) with h3|h3
 ·exact S.com u hu h3
 ·cases u with
  |nil=>simp only[num]at h3;omega
  |cons c p =>
   simp only[num]at hn h3 ⊢;have hc:=hu.head;have p1:num s p<num s w':=by
    refine Nat.lt_of_not_le λz=>?_;have:=bY s z;omega
   have p0:num s w<num s p:=by
    refine Nat.lt_of_not_le λz=>?_;have:=bY s z;omega
   have pw:num s p<num s w*s+s+1:=by
    have:=S.low w' (by rw[<-e2];exact bG h2)
    omega
   obtain⟨_,v,hv,ev,lv⟩:=S.com p hu.tail pw;obtain⟨j,hj⟩:=bX hv;obtain⟨h4,e4⟩:=ag.mp hj;have jl:j<=l:=by
    refine eD λz=>?_;have:num s w'<=num s v:=by
     rcases fV (show l+1<=j from z) with q|q
     ·rw[<-e2,<-e4];exact eG (bP.mp S.inc (l+1) j h2 h4 q)
     ·subst q;rw[<-e2,<-e4];exact aJ _
    omega
   have vw:num s v<=num s w:=by
    rcases fV jl with q|q
    ·rw[<-e1,<-e4];exact eG (bP.mp S.inc j l h4 h1 q)
    ·subst q;rw[<-e1,<-e4];exact aJ _
   have cv:num s (c::v)<num s w*s+s+1:=by
    simp only[num];have:=bY s vw;omega
   obtain⟨nh,v',hv',ev',lv'⟩:=S.com (c::v) (Ok.cons hc (S.ok v hv)) cv;refine⟨λz=>nh ((a3j c v p ev).mpr z),v',hv',?_,?_⟩
   ·rw[ev'];simp only[walk,ev]
   ·simp only[num]at lv';have:=bY s lv;omega
theorem St.all(hl:found[l]? = some w)(hn:found.length=l+1)(S:St s step r0 hit found (num s w*s+s+1))(h0:¬ hit [])(hz:[]∈found)(a3j:∀c p q,walk step r0 p=walk step r0 q->(hit (c::p)↔hit (c::q))) :
  ∀u,Ok s u->¬ hit u/\∃v∈found,walk step r0 v=walk step r0 u/\num s v<=num s u
 |[],_=>⟨h0,[],hz,rfl,aJ _⟩
 |c::p,hu=>by
  obtain⟨_,v,hv,ev,lv⟩:=St.all hl hn S h0 hz a3j p hu.tail;have hc:=hu.head;obtain⟨h1,e1⟩:=ag.mp hl;obtain⟨j,hj⟩:=bX hv;obtain⟨h4,e4⟩:=ag.mp hj;have vw:num s v<=num s w:=by
   rcases fV (show j<=l by omega) with q|q
   ·rw[<-e1,<-e4];exact eG (bP.mp S.inc j l h4 h1 q)
   ·subst q;rw[<-e1,<-e4];exact aJ _
  have cv:num s (c::v)<num s w*s+s+1:=by
   simp only[num];have:=bY s vw;omega
  obtain⟨nh,v',hv',ev',lv'⟩:=S.com (c::v) (Ok.cons hc (S.ok v hv)) cv;refine⟨λz=>nh ((a3j c v p ev).mpr z),v',hv',?_,?_⟩
  ·rw[ev'];simp only[walk,ev]
  ·simp only[num]at lv' ⊢;have:=bY s lv;omega
end
theorem aav(s c:Nat):∀x:List Nat,num s (x++[c])=(c+1)*s^x.length+num s x
 |[]=>by simp[num]
 |a::x=>by
  show num s (x++[c])*s+a+1=_;rw[aav s c x,aW,Nat.pow_succ,<-Nat.mul_assoc,num,fP];omega
theorem af4:∀{x y:List Nat},x.length=y.length->Ok s x->Ok s y->num s x<num s y+s^x.length
 |[],[],_,_,_=>by simp[num]
 |a::x,b::y,l,hx,hy=>by
  have ih:=af4 (x:=x) (y:=y) (by simpa using l) hx.tail hy.tail
  have ha:=hx.head;simp only[num,aW,Nat.pow_succ];have:=bY s (show num s x+1<=num s y+s^x.length from ih)
  rw[fP,fP,gR]at this;omega
theorem a9n(hs:0<s):∀{x y:List Nat},x.length<y.length->Ok s x->num s x<num s y
 |[],b::y,_,_=>by simp[num]
 |a::x,b::y,l,hx=>by
  have:=a9n hs (x:=x) (y:=y) (by simpa using l) hx.tail
  exact aja this hx.head
theorem a6v(step:Nat->Nat->Nat)(r c:Nat):∀x:List Nat,walk step r (x++[c])=walk step (step r c) x
 |[]=>rfl
 |a::x=>by show step (walk step r (x++[c])) a=_;rw[a6v step r c x];rfl
section
variable(s:Nat)(step:Nat->Nat->Nat)(K:Nat->Bool)
def fl:Nat->Nat->Bool
 |0,r=>K r
 |k+1,r=>(List.range s).any λc=>fl k (step r c)
def fst(k r:Nat):Nat:=((List.range s).find? λc=>fl s step K k (step r c)).getD 0
def gre:Nat->Nat->List Nat
 |0,_=>[]
 |k+1,r=>fst s step K k r::gre k (step r (fst s step K k r))
variable{s step K}
theorem ao7(h:fl s step K (k+1) r=true):fst s step K k r<s/\fl s step K k (step r (fst s step K k r))=true/\∀d,d<fst s step K k r->fl s step K k (step r d)=false:=by
 unfold fst
 cases e:(List.range s).find? λc=>fl s step K k (step r c) with
 |none =>
  rw[eR]at e;simp only[fl,eE]at h;obtain⟨c,hc,h⟩:=h;exact absurd h (e c hc)
 |some c =>
  simp only[cQ];have h1:=List.find?_some e;have h2:=List.mem_of_find?_eq_some e;refine⟨bM.mp h2,h1,λd hd=>?_⟩;rw[dI]at e;simpa using e.2.2 d hd
theorem acf:∀{k r:Nat},fl s step K k r=true->(gre s step K k r).length=k/\Ok s (gre s step K k r).reverse/\K (walk step r (gre s step K k r).reverse)=true
 |0,r,h=>⟨rfl,Ok.nil,h⟩
 |k+1,r,h=>by
  obtain⟨h1,h2,_⟩:=ao7 h;obtain⟨l,o,w⟩:=acf h2;refine⟨by simp[gre,l],λc hc=>?_,?_⟩
  ·simp only[gre,dJ,aY,av]at hc
   rcases hc with hc|rfl
   ·exact o c hc
   ·exact h1
  ·rw[gre,dJ,a6v];exact w
theorem aml:∀{u:List Nat} {r:Nat},Ok s u.reverse->K (walk step r u.reverse)=true->fl s step K u.length r=true
 |[],r,_,h=>h
 |c::u,r,o,h=>by
  rw[dJ]at o h;rw[a6v]at h;simp only[aW,fl,eE];exact⟨c,bM.mpr (o c (by simp)),aml (λd hd=>o d (by simp[List.mem_reverse.mp hd])) h⟩
theorem acg:∀{u:List Nat} {r:Nat},Ok s u.reverse->K (walk step r u.reverse)=true->num s (gre s step K u.length r).reverse<=num s u.reverse
 |[],r,_,_=>aJ _
 |c::u,r,o,h=>by
  have hf:=aml o h;obtain⟨h1,h2,h3⟩:=ao7 (show fl s step K (u.length+1) r=true from hf)
  rw[dJ]at o h;rw[a6v]at h;have ou:Ok s u.reverse:=λd hd=>o d (by simp[List.mem_reverse.mp hd])
  have hc:fl s step K u.length (step r c)=true:=aml ou h;rw[aW,gre,dJ,dJ,aav,aav];obtain⟨gl,go,_⟩:=acf h2
  rcases eY c (fst s step K u.length r) with q|q|q
  ·rw[h3 c q]at hc;cases hc
  ·rw[<-q]at gl ⊢;have:=acg ou h;simp only[dP,gl]at this ⊢;omega
  ·have n:=af4 (s:=s) (x:=(gre s step K u.length (step r (fst s step K u.length r))).reverse) (y:=u.reverse) (by simp[gl]) go ou
   simp only[dP,gl]at n ⊢;have:=bY (s^u.length) (show fst s step K u.length r+1+1<=c+1 by omega)
   rw[fP _ 1,gR]at this;omega
end
theorem aaw:∀(n:Nat) (l:List Nat),l.Nodup->(∀x∈l,x<n)->l.length<=n
 |0,l,_,h=>by
  cases l with
  |nil=>exact aJ _
  |cons x l=>exact absurd (h x bA) (by omega)
 |n+1,l,nd,h=>by
  have:=aaw n (l.erase n) (nd.erase n) λx hx=>by
   have h1:=h x (List.mem_of_mem_erase hx);have h2:x≠n:=λz=>by subst z;exact(List.Nodup.not_mem_erase nd) hx
   omega
  have:=List.length_erase (a:=n) (l:=l)
  split at this<;>omega
end BF
namespace SRC
open L2 MI AT HND EVX
theorem b0u{ck:Hd->Prop}{f:D->Hd->R D}{α:Type}(g F:α->D){h:Hd}(c:ck h):∀{xs:List α},(∀x∈xs,f (g x) h=.ok (F x) h)->mapR ck f (xs.map g) h=.ok (xs.map F) h
 |[],_=>by rw[dM,mapR,aR c];rfl
 |x::xs,st=>by
  rw[ba,mapR,aR c,st x bA];show(mapR _ f (xs.map g) h).bind _=_;rw[b0u g F c λy hy=>st y (bq _ hy)];rfl
theorem amm{fi:SI}{t:D->Option Sd}{fe:SE}{ix:List Nat}{τ:Sd}{h:Hd}{α:Type}{ck:Hd->Prop}(g F:α->D)(xs:List α)(c:ck h)(e:fi τ h=.ok ⟨xs.map g,ck⟩ h)(z:xs.length<=LINE)
  (st:∀x∈xs,a92 t fe (frs' ix τ) (g x) h=.ok (F x) h):p6 fi t fe ix τ h=.ok (.ref h.length) (h++[.lst (xs.map F)]):=by
 unfold p6;rw[e,dq];dsimp only;rw[aR (by rw[ay];exact z),b0u g F c st]
 rfl
theorem ar6{l:List Nat}:inD (di x) (l.map di)=decide (x∈l):=by
 unfold inD;rw[List.any_map]
 by_cases h:x∈l
 ·rw[cU h,eE];exact⟨x,h,by show((x:Int) == (x:Int))=true;simp⟩
 ·rw[bJ h,List.any_eq_false]
  intro y hy
  have:x≠y:=λe=>h (e ▸ hy)
  show ¬ ((y:Int) == (x:Int))=true;rw[eW];omega
theorem af5{l:List Nat}(e:h[i]? = some (.lst (l.map di))):gIn true (di x) (.ref i) h=.ok (.bl (!decide (x∈l))) h:=by
 have fl:a2s (di x)=true/\(l.map di).all a2s=true:=⟨rfl,by
  rw[bZ]
  intro y hy
  obtain⟨n,_,rfl⟩:=bU.mp hy
  rfl⟩
 unfold gIn a3c;simp only[e,aR fl,dk,ar6]
abbrev cst(l:List Nat):List Int:=l.map λx:Nat=>(x:Int)
theorem ajb(l:List Nat):l.map di=(cst l).map D.int:=by unfold cst;rw[cF];rfl
theorem a9o{l:List Nat}(e:h[i]? = some (.lst (l.map di))):a9g (.ref i) h=some (cst l):=by
 unfold a9g;simp only[e];rw[ajb,ints_map]
theorem agd(l:List Nat):∃m:List Nat,PySem.W.sortI (cst l)=cst m/\m.Perm l/\m.Pairwise (·<=·):=by
 have p:=PySem.W.sortI_perm (cst l);have s:=PySem.W.sortI_rises (cst l);refine⟨(PySem.W.sortI (cst l)).map Int.toNat,?_,?_,?_⟩
 ·unfold cst;rw[cF];have:∀x∈PySem.W.sortI (l.map λx:Nat=>(x:Int)),((λx:Nat=>(x:Int)) ∘ Int.toNat) x=x:=λx hx=>by
   have:=p.mem_iff.mp hx
   obtain⟨y,_,rfl⟩:=bU.mp this;simp
  rw[eF this];simp
 ·have:=p.map Int.toNat
  have e:(cst l).map Int.toNat=l:=by
   unfold cst;rw[cF];exact(eF λx _=>by simp).trans (List.map_id l)
  rwa[e]at this
 ·rw[List.pairwise_map];exact s.imp λh=>by omega
def pos(m:List Nat)(x:Nat):Nat:=(ixI (x:Int) (cst m)).getD 0
theorem ajc{m:List Nat}{x:Nat}(h:x∈m):ixI (x:Int) (cst m)=some (pos m x)/\pos m x<m.length:=by
 obtain⟨j,hj⟩:=aeu (n:=(x:Int)) (l:=cst m) (bU.mpr ⟨x,h,rfl⟩);unfold pos;rw[hj];refine⟨rfl,?_⟩;have:=(ag.mp (aet hj).1).1;simpa using this
structure Met (n:Nat) (met:List Nat):Prop where
 nd:met.Nodup
 lt:∀x∈met,x<n
 z:0∈met
theorem Met.len(M:Met n met):met.length<=n:=BF.aaw n met M.nd M.lt
theorem Met.add(M:Met n met)(hx:x<n)(h:x∉met):Met n (met++[x]):=by
 refine⟨?_,λy hy=>?_,cD _ M.z⟩
 ·rw[cC];refine⟨M.nd,by simp,λa ha b hb=>?_⟩
  rw[av]at hb;subst hb;exact λe=>h (e ▸ ha)
 ·rcases aY.mp hy with z|z
  ·exact M.lt y z
  ·rw[av]at z;subst z;exact hx
section
variable{A B C:SF}{most n:Nat}{tg:List Nat}{many:Int}{rows:List (List Nat)}{ks:List Int}
def Done(rows:List (List Nat))(met:List Nat)(i:Nat):Prop:=∀j,j<i->∀r,met[j]? = some r->∀x∈(rows[r]?).getD [],x∈met
end
theorem ajd{l:List Nat}(e:h[i]? = some (.lst (l.map di)))(z:l.length<64)(em:PySem.W.sortI (cst l)=cst m):a5m [.ref i] h=.ok (.ref h.length) (h++[.lst (m.map di)]):=by
 have q:=a9o e;unfold a5m;simp only[q];rw[aR (by unfold cst;rw[ay];exact z),em,<-ajb]
theorem aje{m:List Nat}(e:h[i]? = some (.lst (m.map di)))(hx:x∈m):a8j (.ref i) [di x] h=.ok (di (pos m x)) h:=by
 have q:=a9o e;unfold a8j;simp only[q,(ajc hx).1]
section
variable{A B C:SF}{most n:Nat}{tg:List Nat}{many:Int}{rows:List (List Nat)}{ks:List Int}
abbrev aax(rows:List (List Nat))(m:List Nat):List (List Nat):=m.map λr=>((rows[r]?).getD []).map (pos m)
abbrev a9p(ks:List Int)(m:List Nat):List Int:=m.map λr=>(ks[r]?).getD 0
end
end SRC
namespace K21
open L2 MI
noncomputable def a0h:SE :=
 (s2 (gIn false) (sV 0) (sV 1))
noncomputable def ye:SS :=
 (sy (a5v (sA a0g (ao (sV 1) (ao (sC (.ty "str")) bw))) (sA ano (ao (sZ (p6 (sIt (sV 1)) t1 a0h [0])) bw))))
end K21
namespace K23
open L2 MI
noncomputable def a0h:SE :=
 (s2 (gIn false) (sV 0) (sV 1))
noncomputable def ye:SS :=
 (sy (a5v (sA a0g (ao (sV 1) (ao (sC (.ty "str")) bw))) (sA ano (ao (sZ (p6 (sIt (sV 1)) t1 a0h [0])) bw))))
noncomputable def a03(o6:SF):SS :=
 (sy (s2 gIx (sA (gq false 3 o6) (ao (sV 0) (ao (sV 1) (ao (sV 2) bw)))) (s1 a8z (sI 1))))
noncomputable def uz:SS :=
 (vp (sML a7s (sV 6) (ao (s2 gIx (s2 gIx (sV 4) (s2 gIx (sV 6) (s1 a8z (sI 1)))) (sMS abt (sV 3) (ao (sV 7) bw))) bw)))
noncomputable def wg:SS :=
 (du (a7m (sV 0) (a4u 3 (jm (kN 3) (jm (kN 4) (jm (kN 5) a5p)))))
 (du (kj 6 (sA a3z (ao (sV 1) bw)))
 (du (a3v (sIt (sV 2)) (kN 7) uz)
 (sy (sV 6)))))
end K23
namespace K22
open L2 MI
noncomputable def yx(jg:SF):SE :=
 (sA (gq false 2 jg) (ao (sV 1) (ao (sV 0) bw)))
noncomputable def yh(jg:SF):SS :=
 (sy (sA yg (ao (sZ (p6 (sRg xn (ao (sA vh (ao (s2 gIx (sV 0) (sI 1)) bw)) bw)) t1 (yx jg) [0])) bw)))
noncomputable def mj:SS :=
 (du (sIf (sT (s2 hNe (s2 gIx (sV 4) (sV 11)) (s1 a8z (sI 1))))
 (sy (s2 p7 (sV 9) (sV 10)))
 sNx)
 (sIf (sT (s2 (as4 true) (sV 11) (sV 6)))
 (du (aaj (sC (.bl true)) (sV 6) (sV 11))
 (vp (sML a7s (sV 5) (ao (sA a2o (ao (sV 11) (ao (s2 p7 (sV 9) (sV 10)) bw))) bw))))
 sNx))
noncomputable def yc:ST :=
 (sT (s2 gLt (sV 7) (sA vh (ao (sV 5) bw))))
noncomputable def ug:SS :=
 (du (a7m (s2 gIx (sV 5) (sV 7)) (a4u 2 (jm (kN 8) (jm (kN 9) a5p))))
 (du (a3v (aid (sV 2) (s2 gIx (sV 3) (sV 8))) (a4u 2 (jm (kN 10) (jm (kN 11) a5p))) mj)
 (aeb 7 a1l (sI 1))))
noncomputable def a02:SS :=
 (du (a7m (sV 0) (a4u 3 (jm (kN 2) (jm (kN 3) (jm (kN 4) a5p)))))
 (du (kj 5 (sA a3z (ao (sA a2o (ao (sV 1) (ao (sC (.str "")) bw))) bw)))
 (du (kj 6 (s2 gD1 (sV 1) (sC (.bl true))))
 (du (kj 7 (sI 0))
 (du (sWh yc ug 100000)
 (sy (sC .non)))))))
noncomputable def a4r(jb:SF):SE :=
 (s2 a7h (sV 0) (sC .non))
noncomputable def a76(jb:SF):SS :=
 (sy (sA yg (ao (sZ (p6 (sIt (sA (gq false 1 jb) (ao (sV 0) bw))) t1 (a4r jb) [])) bw)))
end K22
namespace K22
open L2 MI AT HND
section
variable(T:Table)
def stp(r c:Nat):Nat:=(((T.go[r]?).getD [])[c]?).getD 0
def knd(r:Nat):Bool:=decide ((T.ks[r]?).getD (-1) ≠ -1)
def tgA(c:Nat):Nat:=(T.tg[c]?).getD 0
def sgn(w:List Nat):List Nat:=(w.reverse).map (tgA T)
def hit(r0:Nat)(w:List Nat):Prop:=w≠[]/\knd T (BF.walk (stp T) r0 w)=true
end
theorem amn(T:Table)(c:Nat)(w:List Nat):sgn T (c::w)=sgn T w++[tgA T c]:=by simp[sgn]
theorem ar7(T:Table)(w:List Nat):(sgn T w).length=w.length:=by simp[sgn]
section
variable{T:Table}(h:T.Ok)
theorem a8p(h:T.Ok)(r c:Nat):stp T r c<T.go.length:=by
 have h1:=h.n1;unfold stp
 cases e:T.go[r]? with
 |none=>simp;omega
 |some row =>
  simp only[cQ]
  cases e2:row[c]? with
  |none=>simp;omega
  |some x=>simp only[cQ];exact(h.row row (aQ e)).2 x (aQ e2)
theorem adq(h:T.Ok)(hr:r<T.go.length):∀w:List Nat,BF.walk (stp T) r w<T.go.length
 |[]=>hr
 |c::w=>a8p h _ c
theorem a8q(h:T.Ok)(hr:r<T.go.length):∃row:List Nat,T.go[r]? = some row/\row.length=T.tg.length/\(∀x∈row,x<T.go.length)/\∀c,c<T.tg.length->row[c]? = some (stp T r c):=by
 refine⟨T.go[r],af hr,(h.row _ (bG hr)).1,(h.row _ (bG hr)).2,λc hc=>?_⟩;have l:=(h.row _ (bG hr)).1;unfold stp;rw[af hr,cQ,af (by omega),cQ]
theorem ajf(h:T.Ok)(hr:r<T.go.length):∃k:Int,T.ks[r]? = some k /\ -1<=k/\knd T r=decide (k ≠ -1):=by
 have l:r<T.ks.length:=by rw[h.kl];exact hr
 refine⟨T.ks[r],af l,(h.kk _ (bG l)).1,?_⟩;unfold knd;rw[af l,cQ]
theorem azh(hc:c<T.tg.length):T.tg[c]? = some (tgA T c):=by
 unfold tgA;rw[af hc,cQ]
theorem a3j(r0 c:Nat)(p q:List Nat)(e:BF.walk (stp T) r0 p=BF.walk (stp T) r0 q):hit T r0 (c::p)↔hit T r0 (c::q):=by
 unfold hit;simp only[BF.walk,e,ne_eq,List.cons_ne_nil,not_false_eq_true,true_and]
theorem ajg(r0:Nat):¬ hit T r0 []:=λz=>z.1 rfl
end
def fnd(T:Table)(r0:Nat)(ws:List (List Nat)):List D:=ws.map λw=>.tup [di (BF.walk (stp T) r0 w),.str (S (sgn T w))]
def snn(T:Table)(r0:Nat)(ws:List (List Nat)):List (Key×D):=ws.map λw=>(.inl ((BF.walk (stp T) r0 w:Nat):Int),.bl true)
theorem ar8(h:∃v∈ws,BF.walk (stp T) r0 v=to):∃d,ac0 (snn T r0 ws) (.inl (to:Int))=some d:=by
 obtain⟨v,hv,e⟩:=h;unfold ac0
 cases e2:(snn T r0 ws).find? λkv=>decide (kv.1=(.inl (to:Int):Key)) with
 |some kv=>exact⟨kv.2,rfl⟩
 |none =>
  rw[eR]at e2;exact absurd (by rw[decide_eq_true_iff,e]) (e2 _ (bU.mpr ⟨v,hv,rfl⟩))
theorem awk(h:∀v∈ws,BF.walk (stp T) r0 v≠to):ac0 (snn T r0 ws) (.inl (to:Int))=none/\putD (snn T r0 ws) (.inl (to:Int)) (.bl true)=snn T r0 ws++[(.inl (to:Int),.bl true)]:=by
 have no:∀kv∈snn T r0 ws,¬ decide (kv.1=(.inl (to:Int):Key))=true:=λkv hkv=>by
  obtain⟨v,hv,rfl⟩:=bU.mp hkv;rw[decide_eq_true_iff]
  intro z
  have:=Sum.inl.inj z
  exact h v hv (by omega)
 constructor
 ·unfold ac0;rw[eR.mpr no];rfl
 ·unfold putD;rw[bE]
  intro z
  obtain⟨kv,hkv,e⟩:=eE.mp z;exact no kv hkv e
abbrev tau(T:Table)(r0 l:Nat)(t8 t9 t10 t11:Option D):Sd:=[some T.d,some (di r0),some (.str (S T.tg)),some (.tup (T.go.map ab4)),some (.tup (T.ks.map D.int)),some (.ref 0),some (.ref 1),some (di l),t8,t9,t10,t11]
abbrev hp(T:Table)(r0:Nat)(ws:List (List Nat)):Hd:=[.lst (fnd T r0 ws),.dK (snn T r0 ws)]
theorem few(T:Table)(h:T.Ok)(hr:r0<T.go.length)(St:BF.St T.tg.length (stp T) r0 (hit T r0) ws F):ws.length<=T.go.length:=by
 have:=BF.aaw T.go.length (ws.map λw=>BF.walk (stp T) r0 w) (List.pairwise_map.mpr St.dis) λx hx=>by
  obtain⟨w,_,rfl⟩:=bU.mp hx;exact adq h hr w
 simpa using this
def Won(T:Table)(r0:Nat)(d:D):Prop:=∃w,BF.Ok T.tg.length w/\hit T r0 w/\(∀v,BF.Ok T.tg.length v->hit T r0 v->BF.num T.tg.length w<=BF.num T.tg.length v)/\w.length<=T.go.length/\d=.str (S (sgn T w))
theorem ajh{T:Table}(h:T.Ok)(hr:r0<T.go.length)(hl:ws[l]? = some w)(hc:c<T.tg.length)(St:BF.St T.tg.length (stp T) r0 (hit T r0) ws (BF.num T.tg.length w*T.tg.length+c+1))(τ:Sd)
  (hτ:τ=tau T r0 l (some (di (BF.walk (stp T) r0 w))) (some (.str (S (sgn T w)))) (some (.str (S [tgA T c]))) (some (di (stp T (BF.walk (stp T) r0 w) c)))) :
  (∃ws',mj τ (hp T r0 ws)=.nx τ (hp T r0 ws')/\(∀v∈ws,v∈ws')/\ws'[l]? = some w/\BF.St T.tg.length (stp T) r0 (hit T r0) ws' (BF.num T.tg.length w*T.tg.length+(c+1)+1)) \/
  ∃d h',mj τ (hp T r0 ws)=.rt d h'/\Won T r0 d:=by
 have n32:=h.n32;have fw:=few T h hr St;have ll:=(ag.mp hl).1;have wl:=St.len l w hl;have rl:=adq h hr w;have wo:BF.Ok T.tg.length (c::w):=BF.Ok.cons hc (St.ok w (aQ hl));have sl:=a8p h (BF.walk (stp T) r0 w) c;obtain⟨k,hk,k1,kd⟩:=ajf h sl;have add:∀hh,p7 (.str (S (sgn T w))) (.str (S [tgA T c])) hh=.ok (.str (S (sgn T (c::w)))) hh:=λhh=>by
  rw[amn];exact adl (fu (by rw[ar7];simp;omega))
 have ki:∀hh,gIx (.tup (T.ks.map D.int)) (di (stp T (BF.walk (stp T) r0 w) c)) hh=.ok (.int k) hh:=λhh=>a5q (by rw[aP,hk];rfl)
 by_cases hz:k = -1
 ·have nh:¬ hit T r0 (c::w):=λz=>by
   have:=z.2
   rw[BF.walk,kd,hz]at this;simp at this
  have s1:∀g:SS,du (sIf (sT (s2 hNe (s2 gIx (sV 4) (sV 11)) (s1 a8z (sI 1)))) (sy (s2 p7 (sV 9) (sV 10))) sNx) g τ (hp T r0 ws)=g τ (hp T r0 ws):=λg=>by
   subst hτ;exact ifN (t2s (u6 (bf rfl) (bf rfl) (ki _)) (zf ckk (a8m _)) (adn hz))
  refine .inl ?_
  by_cases sn:∃v∈ws,BF.walk (stp T) r0 v=stp T (BF.walk (stp T) r0 w) c
  ·obtain⟨d,hd⟩:=ar8 sn;refine⟨ws,?_,λv hv=>hv,hl,St.seen wo rfl nh sn⟩;unfold mj;rw[s1];have q:as4 true (di (stp T (BF.walk (stp T) r0 w) c)) (.ref 1) (hp T r0 ws)=.ok (.bl false) (hp T r0 ws):=by
    show(match (some (ac0 (snn T r0 ws) (.inl ((stp T (BF.walk (stp T) r0 w) c:Nat):Int))):Option (Option D)) with|some r=>R.ok (D.bl (if true then !r.isSome else r.isSome)) (hp T r0 ws)|none=>.no)=_
    rw[hd];rfl
   subst hτ;exact ifF (t2s (bf rfl) (bf rfl) q)
  ·have sn':∀v∈ws,BF.walk (stp T) r0 v≠stp T (BF.walk (stp T) r0 w) c:=λv hv z=>sn ⟨v,hv,z⟩;obtain⟨d1,d2⟩:=awk sn';refine⟨ws++[c::w],?_,λv hv=>cD _ hv,by rw[aM ll];exact hl,St.add wo rfl nh sn' (by rw[aW];omega)⟩
   unfold mj;rw[s1];have q:as4 true (di (stp T (BF.walk (stp T) r0 w) c)) (.ref 1) (hp T r0 ws)=.ok (.bl true) (hp T r0 ws):=by
    show(match (some (ac0 (snn T r0 ws) (.inl ((stp T (BF.walk (stp T) r0 w) c:Nat):Int))):Option (Option D)) with|some r=>R.ok (D.bl (if true then !r.isSome else r.isSome)) (hp T r0 ws)|none=>.no)=_
    rw[d1];rfl
   have p:as5 (.ref 1) (di (stp T (BF.walk (stp T) r0 w) c)) (.bl true) (hp T r0 ws)=some [.lst (fnd T r0 ws),.dK (snn T r0 (ws++[c::w]))]:=by
    have lt:(snn T r0 ws).length<LINE:=a2x (by unfold snn;rw[ay];omega)
    show(if (snn T r0 ws).length<LINE then some [O.lst (fnd T r0 ws),O.dK (putD (snn T r0 ws) (.inl ((stp T (BF.walk (stp T) r0 w) c:Nat):Int)) (.bl true))] else none)=_
    rw[aR lt,d2];unfold snn;rw[bt];rfl
   subst hτ;refine aw (ifT (t2s (bf rfl) (bf rfl) q)) ?_;refine aw (mq (av7 ckk (bf rfl) (bf rfl) p)) ?_;refine aw (a1u (bf rfl) rfl (arg1 (uy (bf rfl) (u6 (bf rfl) (bf rfl) (add _)) aqu)) (a3r (xs:=fnd T r0 ws) rfl (a2x (by unfold fnd;rw[ay];omega)))) ?_
   unfold hp fnd;rw[bt];rfl
 ·refine .inr ⟨_,hp T r0 ws,?_,c::w,wo,⟨by simp,by rw[BF.walk,kd];simpa using hz⟩,λv ov hv=>?_,by rw[aW];omega,rfl⟩
  ·subst hτ;unfold mj;exact a6c (ifr (t2s (u6 (bf rfl) (bf rfl) (ki _)) (zf ckk (a8m _)) (av8 hz)) (u6 (bf rfl) (bf rfl) (add _)))
  ·exact St.least ov hv
theorem ar9{T:Table}{row:List Nat}(l:row.length=T.tg.length)(at':∀c,c<T.tg.length->row[c]? = some (stp T r c)) :
  ((a0z (S T.tg)).zip (row.map di)).map (λp=>D.tup [p.1,p.2])=(List.range T.tg.length).map λc=>.tup [.str (S [tgA T c]),di (stp T r c)]:=by
 refine ef λi=>?_;unfold a0z;rw[a6b]
 by_cases hi:i<T.tg.length
 ·have hx:=at' i hi;have ht:=azh (T:=T) hi;rw[aP,aP,de hi,eA (z:=(D.str (S [tgA T i]),di (stp T r i))).mpr ⟨by rw[aP,ht];rfl,by rw[aP,hx];rfl⟩]
  rfl
 ·rw[cO (by simp;omega),cO (by simp;omega)]
noncomputable def jg:SF:=nq a02 12
theorem a6w{T:Table}(h:T.Ok)(hr:r0<T.go.length):∃d h',jg [T.d,di r0] []=.ok d h'/\(Won T r0 d\/(d=.non/\∀v,BF.Ok T.tg.length v->¬ hit T r0 v)):=by
 have n32:=h.n32;have s1:=h.tong.lo;have s6:=h.tong.hi;have wh:=ait (c:=yc) (f:=ug)
  (λm τ hh=>∃(ws:List (List Nat)) (l:Nat) (t8 t9 t10 t11:Option D),τ=tau T r0 l t8 t9 t10 t11/\hh=hp T r0 ws/\[]∈ws/\m=T.go.length-l/\ws.length<=T.go.length/\((∃w,ws[l]? = some w/\BF.St T.tg.length (stp T) r0 (hit T r0) ws (BF.num T.tg.length w*T.tg.length+1))\/(l=ws.length/\∀v,BF.Ok T.tg.length v->¬ hit T r0 v)))
  (λ_ _=>∀v,BF.Ok T.tg.length v->¬ hit T r0 v) (λd _=>Won T r0 d) ?_ T.go.length 100000 (tau T r0 0 none none none none) (hp T r0 [[]]) (by omega)
  ⟨[[]],0,none,none,none,none,rfl,rfl,by simp,by simp,by simpa using h.n1,.inl ⟨[],rfl,by simpa[BF.num] using BF.St.start (ajg r0)⟩⟩
 ·have e0:jg [T.d,di r0] []=toR (du (sWh yc ug 100000) (sy (sC .non)) (tau T r0 0 none none none none) (hp T r0 [[]])):=by
   unfold jg;rw[dm];show toR (a02 [some T.d,some (di r0),none,none,none,none,none,none,none,none,none,none] [])=_;unfold a02;refine aN toR ?_;refine aw (mq (a7o (bf rfl) rfl)) ?_;refine aw (qp (a09 (uy (bf rfl) ckk aqu) rfl)) ?_;refine aw (qp (a1n rfl rfl)) ?_;exact aw (qp ckk) rfl
  rcases wh with⟨τ',h',e,no⟩|⟨d,h',e,won⟩
  ·exact⟨.non,h',by rw[e0,mq e];rfl,.inr ⟨rfl,no⟩⟩
  ·exact⟨d,h',by rw[e0,a6c e];rfl,.inl won⟩
 ·rintro m τ hh ⟨ws,l,t8,t9,t10,t11,rfl,rfl,em,rfl,wn,q⟩
  have ln:vh [.ref 0] (hp T r0 ws)=.ok (.int (ws.length:Nat)) (hp T r0 ws):=by
   have:=a4g (h:=hp T r0 ws) (i:=0) (xs:=fnd T r0 ws) rfl
   rwa[show(fnd T r0 ws).length=ws.length from by simp[fnd]]at this
  rcases q with⟨w,hw,St⟩|⟨rfl,no⟩
  ·have ll:=(ag.mp hw).1;refine .inr ⟨_,t2s (bf rfl) (a09 (bf rfl) ln) (akg (by omega)),?_⟩
   obtain⟨row,er,lr,lx,at'⟩:=a8q h (adq h hr w);have lo:=aal (g:=a4u 2 (jm (kN 10) (jm (kN 11) a5p))) (b:=mj) (λc:Nat=>D.tup [.str (S [tgA T c]),di (stp T (BF.walk (stp T) r0 w) c)])
    (λpre τ hh=>∃(ws:List (List Nat)) (t10 t11:Option D),τ=tau T r0 l (some (di (BF.walk (stp T) r0 w))) (some (.str (S (sgn T w)))) t10 t11/\hh=hp T r0 ws/\[]∈ws/\ws[l]? = some w/\BF.St T.tg.length (stp T) r0 (hit T r0) ws (BF.num T.tg.length w*T.tg.length+pre.length+1))
    (λd _=>Won T r0 d) (List.range T.tg.length) [] (tau T r0 l (some (di (BF.walk (stp T) r0 w))) (some (.str (S (sgn T w)))) t10 t11) (hp T r0 ws) ?_ ⟨ws,t10,t11,rfl,rfl,em,hw,St⟩
   ·have fx:gIx (.ref 0) (di l) (hp T r0 ws)=.ok (.tup [di (BF.walk (stp T) r0 w),.str (S (sgn T w))]) (hp T r0 ws):=a3s (xs:=fnd T r0 ws) rfl (by unfold fnd;rw[aP,hw];rfl)
    have zi:aid (sV 2) (s2 gIx (sV 3) (sV 8)) (tau T r0 l (some (di (BF.walk (stp T) r0 w))) (some (.str (S (sgn T w)))) t10 t11) (hp T r0 ws)=.ok ⟨(List.range T.tg.length).map λc=>.tup [.str (S [tgA T c]),di (stp T (BF.walk (stp T) r0 w) c)],λ_=>True⟩ (hp T r0 ws):=by
     unfold aid;rw[bf rfl,dq,u6 (bf rfl) (bf rfl) (a5q (by rw[aP,er];rfl)),dq,<-ar9 lr at']
     unfold auq;simp only[srcOf,and_self]
    have e1:∀g:SS,du (a7m (s2 gIx (sV 5) (sV 7)) (a4u 2 (jm (kN 8) (jm (kN 9) a5p)))) (du (a3v (aid (sV 2) (s2 gIx (sV 3) (sV 8))) (a4u 2 (jm (kN 10) (jm (kN 11) a5p))) mj) g) (tau T r0 l t8 t9 t10 t11) (hp T r0 ws)=thn (forL (λ_=>True) (a4u 2 (jm (kN 10) (jm (kN 11) a5p))) mj ((List.range T.tg.length).map λc=>.tup [.str (S [tgA T c]),di (stp T (BF.walk (stp T) r0 w) c)]) (tau T r0 l (some (di (BF.walk (stp T) r0 w))) (some (.str (S (sgn T w)))) t10 t11) (hp T r0 ws)) g:=λg=>by
     refine aw (mq (a7o (u6 (bf rfl) (bf rfl) fx) rfl)) ?_;exact a4x zi
    rcases lo with⟨τ',h',e2,ws',t10',t11',rfl,rfl,em',hw',St'⟩|⟨d,h',e2,won⟩
    ·rw[cN,aZ]at St';have wn':=few T h hr St';have ll':=(ag.mp hw').1;refine .inl ⟨tau T r0 (l+1) (some (di (BF.walk (stp T) r0 w))) (some (.str (S (sgn T w)))) t10' t11',hp T r0 ws',T.go.length-(l+1),?_,by omega,ws',l+1,_,_,_,_,rfl,rfl,em',rfl,wn',?_⟩
     ·unfold ug;rw[e1,e2,zr];exact aix rfl ckk a2e
     ·by_cases more:l+1<ws'.length
      ·exact .inl ⟨ws'[l+1],af more,St'.next (by omega) hw' (af more) (a3j r0)⟩
      ·exact .inr ⟨by omega,λv ov=>(St'.all hw' (by omega) (ajg r0) em' (a3j r0) v ov).1⟩
    ·refine .inr ⟨d,h',?_,won⟩;unfold ug;rw[e1,e2,ac1]
   ·rintro pre c post τ hh all ⟨ws,t10,t11,rfl,rfl,em,hw,St⟩
    rw[cN]at all;obtain⟨hi,hc⟩:=v5 all;rw[<-hi]at St;refine⟨_,_,rfl,?_⟩
    rcases ajh h hr hw hc St _ rfl with⟨ws',e3,sb,hw',St'⟩|⟨d,h',e3,won⟩
    ·refine .inl ⟨_,_,e3,ws',_,_,rfl,rfl,sb _ em,hw',by rw[ai,aI,<-hi];exact St'⟩
    ·exact .inr ⟨d,h',e3,won⟩
  ·refine .inl ⟨_,t2s (bf rfl) (a09 (bf rfl) ln) (ao2 (by omega)),no⟩
section
variable{T:Table}
abbrev FL(T:Table)(k r:Nat):Bool:=BF.fl T.tg.length (stp T) (knd T) k r
theorem awl(h:T.Ok)(hr:r<T.go.length):T.go[r]? = some ((List.range T.tg.length).map (stp T r)):=by
 obtain⟨row,e,l,_,at'⟩:=a8q h hr;rw[e]
 congr 1
 refine ef λi=>?_
 by_cases hi:i<T.tg.length
 ·rw[at' i hi,aP,de hi];rfl
 ·rw[cO (by omega),cO (by simp;omega)]
def kI(T:Table)(r:Nat):Int:=(T.ks[r]?).getD (-1)
abbrev b0v(T:Table)(r:Nat):D:=ab4 ((List.range T.tg.length).map (stp T r))
theorem aji{α:Type}(l:List α)(x:α):atI (l++[x]) (-1)=some x:=by
 have:ixN (l++[x]).length (-1)=some l.length:=by
  unfold ixN;rw[bE (by decide),ai,aI]
  rw[aR (by omega)]
  congr 1
  omega
 unfold atI;rw[this];simp
end
section
variable{T:Table}
def amo(T:Table)(r:Nat):Option Nat:=(List.range T.go.length).find? λi=>FL T (1+i) r
def gtx(T:Table)(k r:Nat):List Nat:=(BF.gre T.tg.length (stp T) (knd T) k r).map (tgA T)
def A(T:Table)(r:Nat):D:=match amo T r with|none=>.non|some i=>.str (S (gtx T (1+i) r))
theorem ao8(h:T.Ok)(w:Won T r d\/(d=.non/\∀v,BF.Ok T.tg.length v->¬ hit T r v)):d=A T r:=by
 have s1:=h.tong.lo;unfold A
 rcases w with⟨w,wo,wh,wl,wn,rfl⟩|⟨rfl,no⟩
 ·have w1:w.length≠0:=λz=>wh.1 (gv.mp z);have fw:FL T w.length r=true:=by
   have:=BF.aml (s:=T.tg.length) (step:=stp T) (K:=knd T) (u:=w.reverse) (r:=r) (by rw[cT];exact wo) (by rw[cT];exact wh.2)
   rwa[dP]at this
  cases e:amo T r with
  |none =>
   unfold amo at e;rw[eR]at e;have:=e (w.length-1) (by rw[bM];omega)
   rw[show 1+(w.length-1)=w.length by omega]at this
   exact absurd fw this
  |some i =>
   unfold amo at e;obtain⟨fi,hi,lo⟩:=dI.mp e;obtain⟨gl,go,gh⟩:=BF.acf fi;have ghit:hit T r (BF.gre T.tg.length (stp T) (knd T) (1+i) r).reverse:=⟨λz=>by
    have:=aN List.length z
    simp[gl]at this,gh⟩
   have le:1+i<=w.length:=by
    refine eD λz=>?_;have:=lo (w.length-1) (by omega)
    rw[show 1+(w.length-1)=w.length by omega,fw]at this
    simp at this
   have n1:=wl _ go ghit;have eq:w.length=1+i:=by
    refine Nat.le_antisymm (eD λz=>?_) le;have:=BF.a9n (s:=T.tg.length) (by omega) (x:=(BF.gre T.tg.length (stp T) (knd T) (1+i) r).reverse) (y:=w) (by rw[dP,gl];exact z) go
    omega
   have n2:=BF.acg (s:=T.tg.length) (step:=stp T) (K:=knd T) (u:=w.reverse) (r:=r) (by rw[cT];exact wo) (by rw[cT];exact wh.2)
   rw[dP,cT,eq]at n2;have:=BF.aau wo go (by omega)
   dsimp only;unfold gtx sgn
   conv=>lhs;rw[this,cT]
 ·cases e:amo T r with
  |none=>rfl
  |some i =>
   unfold amo at e;obtain⟨fi,hi,lo⟩:=dI.mp e;obtain⟨gl,go,gh⟩:=BF.acf fi;exact(no _ go ⟨λz=>by
    have:=aN List.length z
    simp[gl]at this,gh⟩).elim
theorem ara(n r:Nat):clo n (A T r):=by
 unfold A
 cases amo T r with
 |none=>exact a1b
 |some i=>exact g8 _
theorem awm{n:Nat}(d:D)(hd:clo 0 d):∀x∈[T.d,d],clo 0 x:=by
 intro x hx
 simp only[aS,bp,cG]at hx
 rcases hx with rfl|rfl
 ·exact Table.clo
 ·exact hd
theorem ach(h:T.Ok)(hr:r<T.go.length):Pu jg 2 [T.d,di r] (A T r):=by
 obtain⟨d,h',e,q⟩:=a6w h hr;have:=ao8 h q;subst this;exact Pu.of rfl (awm (n:=0) _ (dw _)) e (p8 (ara _ _) (by simp)) (ara _ _)
theorem ao9(h:T.Ok)(hr:r<T.go.length)(hh:Hd):gIx (.tup (T.go.map ab4)) (di r) hh=.ok (b0v T r) hh:=a5q (by rw[aP,awl h hr];rfl)
end
end K22
namespace K23
open L2 MI AT HND K22
section
variable{T:Table}
def Pln:D->Prop
 |.non=>True|.bl _=>True|.int _=>True|.str x=>x.cps.toList.length<=1000|.tup xs=>clos 0 xs|.rol xs=>clos 0 xs|.rod _ xs=>clos 0 xs|_=>False
theorem Pln.clo(p:Pln d):clo 0 d:=by
 cases d<;>first|(simp only[Pln]at p;done)|(simp only[Pln]at p;simpa[MI.clo] using p)|simp[MI.clo]
def isStr:D->Bool|.str _=>true|_=>false
theorem awn(p:Pln d):a0g [d,.ty "str"] h=.ok (.bl (isStr d)) h:=by
 cases d<;>first|(simp only[Pln]at p;done)|simp[a0g,akc,tyD,agl,isStr]
def psn(T:Table)(c:Nat):Nat:=(a5u (S T.tg) c).toNat
def ldw(T:Table)(r:Nat):List Nat->Nat
 |[]=>r
 |c::l=>ldw T (stp T r (psn T c)) l
theorem aci(hc:c∈T.tg):a5u (S T.tg) c=(psn T c:Nat)/\psn T c<T.tg.length:=by
 obtain⟨i,e1,e2,_⟩:=ae8 (T:=S T.tg) (c:=c) (by rw[a6b];exact hc)
 rw[a6b]at e2;unfold psn;rw[e1];exact⟨by simp,by simpa using (ag.mp e2).1⟩
theorem aoa(h:T.Ok):∀(l:List Nat) {r:Nat},r<T.go.length->ldw T r l<T.go.length
 |[],_,hr=>hr
 |c::l,r,_=>aoa h l (a8p h r _)
theorem af6(c:Nat):∀(l:List Nat) (r:Nat),ldw T r (l++[c])=stp T (ldw T r l) (psn T c)
 |[],_=>rfl
 |d::l,r=>af6 c l _
theorem ao3(l:List Nat)(h:Hd):ahx (.str (S l)) h=.ok ⟨l.map λc=>.str (S [c]),λ_=>True⟩ h:=by
 show R.ok (⟨a0z (S l),λ_=>True⟩:Itm) _=_;unfold a0z;rw[a6b]
theorem aob(hc:c∈T.tg)(h:Hd):adb (.str (S T.tg)) [.str (S [c])] h=.ok (di (psn T c)) h:=by
 show R.ok (D.int (a5u (S T.tg) c)) h=_;rw[(aci hc).1]
theorem arb(hc:c∈T.tg)(h:Hd):abt (.str (S T.tg)) [.str (S [c])] h=.ok (di (psn T c)) h:=by
 show(if c∈(S T.tg).cps.toList then R.ok (D.int (a5u (S T.tg) c)) h else .no)=_
 rw[aR (by rw[a6b];exact hc),(aci hc).1]
theorem axw(e1:f τ h=.ok (.str z) h1)(e2:k τ h1=.ok ds h2)(e3:g (.str z) ds h2=.ok v h3):sMS g f k τ h=.ok v h3:=by
 unfold sMS;rw[e1,dq];dsimp only;rw[e2,dq,e3]
theorem awo(h:T.Ok)(hc:c<T.tg.length)(hh:Hd):gIx (b0v T r) (di c) hh=.ok (di (stp T r c)) hh:=a5q (by rw[aP,aP,de hc];rfl)
theorem awp(hd:clo 0 d)(he:clo 0 e):∀x∈[T.d,d,e],clo 0 x:=by
 intro x hx
 simp only[aS,bp,cG]at hx
 rcases hx with rfl|rfl|rfl
 ·exact Table.clo
 ·exact hd
 ·exact he
noncomputable def o6:SF:=nq wg 8
noncomputable def qj:SF:=nq (a03 o6) 3
def rms(T:Table)(r:Nat)(l:List Nat):List Nat:=(List.range (l.length+1)).map λi=>ldw T r (l.take i)
theorem amq(r c:Nat)(l:List Nat):rms T r (l++[c])=rms T r l++[ldw T r (l++[c])]:=by
 unfold rms;rw[ai,aI,fK (n:=l.length+1),bt,eS]
 congr 1
 ·refine eF λi hi=>?_;rw[bM]at hi;rw[List.take_append_of_le_length (by omega)]
 ·rw[bR (by simp)]
theorem af7(r:Nat)(l:List Nat):∃p,rms T r l=p++[ldw T r l]:=by
 unfold rms;rw[fK,bt,eS];exact⟨_,by rw[bR (aJ _)]⟩
theorem aay(h:T.Ok)(hr:r<T.go.length)(hl:∀c∈l,c∈T.tg)(ll:l.length<=1000):Pu o6 3 [T.d,di r,.str (S l)] (.rol ((rms T r l).map di)):=by
 refine Pu.of rfl (awp (dw _) (g8 _)) (r:=.ok (.ref 0) [.lst ((rms T r l).map di)]) ?_ (a1q (aJ _) rfl (qt _) (by simp)) (nu (qt _))
 unfold o6;rw[dm];show toR (wg [some T.d,some (di r),some (.str (S l)),none,none,none,none,none] [])=_;unfold wg;refine etr (mq (a7o (bf rfl) rfl)) ?_;refine etr (qp (d:=.ref 0) (h1:=[.lst ((rms T r []).map di)]) rfl) ?_;refine etr (a4x (a93 (bf rfl) (ao3 l _))) ?_;have lp:=uc (g:=kN 7) (b:=uz) (λc:Nat=>D.str (S [c]))
  (λpre τ hh=>∃t7:Option D,τ=[some T.d,some (di r),some (.str (S l)),some (.str (S T.tg)),some (.tup (T.go.map ab4)),some (.tup (T.ks.map D.int)),some (.ref 0),t7]/\hh=[.lst ((rms T r pre).map di)]) l
  [some T.d,some (di r),some (.str (S l)),some (.str (S T.tg)),some (.tup (T.go.map ab4)),some (.tup (T.ks.map D.int)),some (.ref 0),none] [.lst ((rms T r []).map di)] ?_ ⟨none,rfl,rfl⟩
 ·obtain⟨τ',h',e,t7,rfl,rfl⟩:=lp;refine aw (aN (λz=>toR (thn z _)) e) ?_;rfl
 ·rintro pre c post τ hh all ⟨t7,rfl,rfl⟩
  have hc:=hl c (by rw[all];simp)
  have pl:pre.length<=l.length:=by rw[all];simp
  refine⟨_,_,rfl,[some T.d,some (di r),some (.str (S l)),some (.str (S T.tg)),some (.tup (T.go.map ab4)),some (.tup (T.ks.map D.int)),some (.ref 0),some (.str (S [c]))],[.lst ((rms T r (pre++[c])).map di)],?_,_,rfl,rfl⟩;unfold uz;obtain⟨p,ep⟩:=af7 (T:=T) r pre;have last:∀hh:Hd,hh[0]? = some (.lst ((rms T r pre).map di))->gIx (.ref 0) (.int (-1)) hh=.ok (di (ldw T r pre)) hh:=λhh e0=>by
   rw[a9j];unfold a3c;simp only[e0];rw[ep,bt,eS,aji]
  refine aw (a1u (v:=.non) (bf rfl) rfl (arg1 (u6 (u6 (bf rfl) (u6 (bf rfl) (zf ckk (a8m _)) (last _ rfl)) (ao9 h (aoa h pre hr) _)) (axw (bf rfl) (arg1 (bf rfl)) (arb hc _)) (awo h (aci hc).2 _))) (a3r (xs:=(rms T r pre).map di) rfl (a2x (by simp[rms];omega)))) ?_
  rw[amq,bt,af6];rfl
theorem arc(h:T.Ok)(hr:r<T.go.length)(hl:∀c∈l,c∈T.tg)(ll:l.length<=1000):Pu qj 3 [T.d,di r,.str (S l)] (di (ldw T r l)):=by
 refine Pu.of rfl (awp (dw _) (g8 _)) (r:=.ok (di (ldw T r l)) []) ?_ (p8 (dw _) (by simp)) (dw _)
 unfold qj;rw[dm];show toR (a03 o6 [some T.d,some (di r),some (.str (S l))] [])=_;unfold a03;obtain⟨p,ep⟩:=af7 (T:=T) r l;refine aN toR (ud (u6 (akf (bf rfl) (bf rfl) (bf rfl) (aay h hr hl ll _)) (zf ckk (a8m _)) ?_));rw[a9i,ep,bt,eS,aji]
noncomputable def ut:SF:=nq ye 2
def inT(T:Table)(l:List Nat):Bool:=l.all λc=>decide (c∈T.tg)
theorem awq(bs:List Bool)(h:Hd):ano [.rol (bs.map D.bl)] h=.ok (.bl (bs.all id)) h:=by
 unfold ano;simp only[alh]
theorem amr{l:List Nat}(ll:l.length<=1000)(hce:∀c:Nat,ce [some (.str (S [c])),some (.str (S T.tg))] []=.ok (.bl (decide (c∈T.tg))) [])(h1:τ[1]? = some (some (.str (S l))))(h0:τ[0]? = some (some (.str (S T.tg)))) :
  sA ano (ao (sZ (p6 (sIt (sV 1)) t1 ce [0])) bw) τ []=.ok (.bl (inT T l)) []:=by
 have cz:sZ (p6 (sIt (sV 1)) t1 ce [0]) τ []=.ok (.rol ((l.map λc=>decide (c∈T.tg)).map D.bl)) []:=by
  rw[cF];refine a4e (vq (λc:Nat=>D.str (S [c])) (λc=>.bl (decide (c∈T.tg))) l (a93 (bf h1) (ao3 l _)) (fu (by omega)) λc _=>?_) (fj λc _=>a0p _) (by simp)
  rw[xj,amf,aqs,h0];exact hce c
 refine a09 cz ?_;rw[awq]
 congr 2
 unfold inT;rw[List.all_map];rfl
theorem ard(c:Nat)(h:Hd):gIn false (.str (S [c])) (.str (S T.tg)) h=.ok (.bl (decide (c∈T.tg))) h:=by
 show R.ok (D.bl (decide (c∈(S T.tg).cps.toList))) h=_;rw[a6b]
theorem ajj{l:List Nat}(ll:l.length<=1000):Pu ut 2 [.str (S T.tg),.str (S l)] (.bl (inT T l)):=by
 refine Pu.of rfl (by intro x hx;simp only[aS,bp,cG]at hx;rcases hx with rfl|rfl<;>exact g8 _) (r:=.ok (.bl (inT T l)) []) ?_ (p8 (a0p _) (by simp)) (a0p _)
 unfold ut;rw[dm];show toR (ye [some (.str (S T.tg)),some (.str (S l))] [])=_;unfold ye;exact aN toR (ud (aqt (uy (bf rfl) ckk (awn (d:=.str (S l)) (by simp only[Pln,a6b];exact ll))) (amr ll (λc=>u6 (bf rfl) (bf rfl) (ard c _)) rfl rfl)))
theorem azi(e:f τ h=.ok (.bl false) h1):a5v f k τ h=.ok (.bl false) h1:=by unfold a5v;rw[e,dq]
theorem ajk(p:Pln d)(ns:isStr d=false):Pu ut 2 [.str (S T.tg),d] (.bl false):=by
 refine Pu.of rfl (by intro x hx;simp only[aS,bp,cG]at hx;rcases hx with rfl|rfl;exact g8 _;exact p.clo) (r:=.ok (.bl false) []) ?_ (p8 (a0p _) (by simp)) (a0p _)
 unfold ut;rw[dm];show toR (ye [some (.str (S T.tg)),some d] [])=_;unfold ye;exact aN toR (ud (azi (uy (bf rfl) ckk (by rw[awn p,ns]))))
end
end K23
namespace K21
open L2 MI AT HND K22 K23 EVX
section
variable{T:Table}
noncomputable def ut:SF:=nq ye 2
def txt(T:Table):D->Bool
 |.str x=>inT T x.cps.toList
 |_=>false
theorem awr(l:List Nat):txt T (.str (S l))=inT T l:=by simp only[txt,a6b]
theorem age(p:Pln d):Pu ut 2 [.str (S T.tg),d] (.bl (txt T d)):=by
 by_cases sd:isStr d=true
 ·obtain⟨x,rfl⟩:∃x,d=.str x:=by cases d<;>first|exact⟨_,rfl⟩|(simp[isStr]at sd)
  have ll:x.cps.toList.length<=1000:=p;rw[<-amb x]at ll ⊢;rw[a6b]at ll;rw[awr];exact K23.ajj ll
 ·have sd':isStr d=false:=by simpa using sd
  have:txt T d=false:=by cases d<;>first|rfl|(simp[isStr]at sd)
  rw[this];exact K23.ajk p sd'
theorem aca(ha:MI.clo 0 a)(hb:MI.clo 0 b):∀x∈[a,b],MI.clo 0 x:=by
 intro x hx
 simp only[aS,bp,cG]at hx
 rcases hx with rfl|rfl
 ·exact ha
 ·exact hb
theorem azj(h:Hd):gIx T.d (.int 0) h=.ok (.str (S T.tg)) h:=a5q (j:=0) rfl
theorem arf(h:Hd):gIx T.d (.int 2) h=.ok (.tup (T.ks.map D.int)) h:=a5q (j:=2) rfl
theorem ajl(h:T.Ok)(hr:r<T.go.length)(hh:Hd):gIx (.tup (T.ks.map D.int)) (di r) hh=.ok (.int (kI T r)) hh:=by
 obtain⟨k,e,_⟩:=ajf h hr;exact a5q (by rw[aP,e];simp[kI,e])
end
section
variable{T:Table}
abbrev ones(t:List Nat):List D:=t.map λc=>.str (S [c])
theorem join_ones:∀t:List Nat,Txt.join (S []) (t.map λc=>S [c])=S t:=by
 have e:∀zs:List Str,Txt.join (S []) zs=Str.join (S []) zs:=PySem.StrLaws.glued_eq_join (S []);have st:∀(x y:Str) (r:List Str),Str.join (S []) (x::y::r)=x++S []++Str.join (S []) (y::r):=λ_ _ _=>rfl
 intro t
 rw[e]
 induction t with
 |nil=>rfl
 |cons a t ih =>
  cases t with
  |nil=>rfl
  |cons b t =>
   rw[ba,ba,st,show S [b]::t.map (λc=>S [c])=(b::t).map (λc=>S [c]) from rfl,ih,aqq,aqq]
   rfl
theorem acj:∀t:List Nat,adc (ones t)=some (t.map λc=>S [c])
 |[]=>rfl
 |a::t=>by
  show(adc (ones t)).map _=_;rw[acj t];rfl
theorem ams(t:List Nat):((t.map λc=>S [c]).map (·.length)).sum=t.length:=by
 induction t with
 |nil=>rfl
 |cons a t ih=>rw[ba,ba,List.sum_cons,ih,ac6,aW];simp;omega
theorem ajm{t:List Nat}(z:t.length<=1000000):abu (.str (S [])) [.rol (ones t)] h=.ok (.str (S t)) h:=by
 unfold abu;simp only[acj,ams,ac6,eM,Nat.mul_zero,Nat.add_zero,join_ones];rw[aR (by omega)]
theorem b34{h h':Hd}(hl:h'.length=h.length)(e:f τ h=.ok (.ref h'.length) (h'++[.lst xs]))(cx:clos h.length xs)(c:∀o∈h',vg h.length o):sZ f τ h=.ok (.rol xs) h':=by
 unfold sZ;rw[e,a1q (by omega) (by simp) cx (by rw[<-hl];simpa[hl] using c)]
 rw[<-hl];simp
end
end K21
namespace SRC
open L2 MI AT HND EVX K22 K23 K21
section
variable{T:Table}
noncomputable def jh:SF:=nq SRC.a0w 3
theorem a77{xs:List Int}(xl:xs.length<=10):Pu SRC.jh 2 [.tup (xs.map D.int),di xs.length] (.bl true):=by
 refine Pu.of rfl (aca (uq (fj λx _=>dw x)) (dw _)) (r:=.ok (.bl true) []) ?_ (p8 (a0p _) (by simp)) (a0p _)
 unfold SRC.jh;rw[dm];show toR (SRC.a0w [some (.tup (xs.map D.int)),some (di xs.length),none] [])=_;unfold SRC.a0w;have it:∀h:Hd,a0g [.tup (xs.map D.int),.ty "tuple"] h=.ok (.bl true) h:=λh=>by simp[a0g,akc,tyD,agl]
 refine eti (orF (acx (zc (uy (bf rfl) ckk (it _)) (qm _))) (t2s (a09 (bf rfl) a5n) (bf rfl) (adn (by rw[ay])))) ?_
 refine etr (a4x (a93 (bf rfl) rfl)) ?_;have lp:=uc (g:=kN 2) (b:=SRC.a0m) D.int
  (λpre τ hh=>∃t2:Option D,τ=[some (.tup (xs.map D.int)),some (di xs.length),t2]/\hh=[]) xs [some (.tup (xs.map D.int)),some (di xs.length),none] [] ?_ ⟨none,rfl,rfl⟩
 ·obtain⟨τ',h',e,t2,rfl,rfl⟩:=lp;refine aw (aN (λz=>toR (MI.thn z _)) e) ?_;rfl
 ·rintro pre x post τ hh all ⟨t2,rfl,rfl⟩
  refine⟨_,_,rfl,[some (.tup (xs.map D.int)),some (di xs.length),some (.int x)],[],?_,_,rfl,rfl⟩;unfold SRC.a0m;have ii:∀h:Hd,a0g [.int x,.ty "int"] h=.ok (.bl true) h:=λh=>by simp[a0g,akc,tyD,agl]
  have ib:∀h:Hd,a0g [.int x,.ty "bool"] h=.ok (.bl false) h:=λh=>by simp[a0g,akc,tyD,agl]
  exact aw (ifF (orF (acx (zc (uy (bf rfl) ckk (ii _)) (qm _))) (zc (uy (bf rfl) ckk (ib _)) (qm _)))) rfl
end
end SRC
namespace K40
open L2 MI AT HND EVX K22 K23 K21
section
variable{τ:Sd}{h h1 h2:Hd}{c1 c2:ST}{f g k:SE}{p q:SS}
theorem orB(e1:c1 τ h=.ok a h)(e2:a=false->c2 τ h=.ok b h):sOr c1 c2 τ h=.ok (a || b) h:=by
 cases a with
 |true=>rw[orT e1];rfl
 |false=>rw[orF e1 (e2 rfl)];rfl
theorem b35(x y:Int):gGe (.int x) (.int y) h=.ok (.bl (decide (y<=x))) h:=rfl
end
section
variable{T:Table}
def rw'(T:Table)(r:Nat):List Nat:=(T.go[r]?).getD []
theorem arh(h:T.Ok)(hr:r<T.go.length):T.go[r]? = some (rw' T r)/\(rw' T r).length<=6/\∀x∈rw' T r,x<T.go.length:=by
 have e:T.go[r]? = some (rw' T r):=by unfold rw';rw[af hr];rfl
 obtain⟨a,b⟩:=h.row _ (aQ e);exact⟨e,by have:=h.tong.hi;omega,b⟩
theorem azk(h:T.Ok)(hr:r<T.go.length)(hh:Hd):gIx (.tup (T.go.map ab4)) (di r) hh=.ok (ab4 (rw' T r)) hh:=a5q (by rw[aP,(arh h hr).1];rfl)
theorem go1(h:Hd):gIx T.d (.int 1) h=.ok (.tup (T.go.map ab4)) h:=a5q (j:=1) rfl
theorem aws(h:T.Ok)(hr:r<T.go.length) : -1<=kI T r:=by
 obtain⟨k,e,k1,_⟩:=ajf h hr;unfold kI;rw[e];exact k1
end
section
variable{T:Table}
theorem azl(ha:MI.clo 0 a):∀x∈[a],MI.clo 0 x:=by intro x hx;rw[av]at hx;subst hx;exact ha
end
theorem b0w(e:fi τ h=.ok ⟨xs,ck⟩ h1):a3v fi G b τ h=forL ck G b xs τ h1:=by
 unfold a3v;rw[e];rfl
section
variable{T:Table}
def bg(bs:List Bool)(i:Nat):Bool:=(bs[i]?).getD false
theorem awt{bs:List Bool}(hi:i<bs.length):(bs.map D.bl)[i]? = some (.bl (bg bs i)):=by unfold bg;rw[aP,af hi];rfl
abbrev HB(bs:List Bool):Hd:=[.lst (bs.map D.bl)]
theorem awu(bs:List Bool)(i:Nat):(bs.map D.bl).set i (.bl true)=(bs.set i true).map D.bl:=by rw[fW]
theorem kge(h:T.Ok)(hp:Hd)(h0:τ[0]? = some (some T.d))(hj:τ[j]? = some (some (di t)))(ht:t<T.go.length):s2 gIx (s2 gIx (sV 0) (sI 2)) (sV j) τ hp=.ok (.int (kI T t)) hp:=u6 (u6 (bf h0) ckk (arf _)) (bf hj) (ajl h ht _)
theorem awv(h:T.Ok)(hp:Hd)(h0:τ[0]? = some (some T.d))(hj:τ[j]? = some (some (di r)))(hr:r<T.go.length):sIt (s2 gIx (s2 gIx (sV 0) (sI 1)) (sV j)) τ hp=.ok ⟨(rw' T r).map di,λ_=>True⟩ hp:=a93 (u6 (u6 (bf h0) ckk (go1 _)) (bf hj) (azk h hr _)) rfl
end
end K40
namespace K22
open L2 MI AT HND
section
variable{T:Table}
noncomputable def jb:SF:=nq (yh jg) 1
noncomputable def a3k:SF:=nq (a76 jb) 1
abbrev af8(T:Table):List D:=(List.range T.go.length).map (A T)
abbrev af9(T:Table):List D:=(List.range T.go.length).map λr=>.bl (!a5z (A T r))
theorem a8r(n:Nat):clos n (af8 T):=fj λr _=>ara _ _
theorem a78(n:Nat):clos n (af9 T):=fj λr _=>a0p _
theorem aww:∀x∈[T.d],clo 0 x:=by
 intro x hx
 rw[av]at hx;subst hx;exact Table.clo
theorem T1(hh:Hd):gIx T.d (.int 1) hh=.ok (.tup (T.go.map ab4)) hh:=a5q (j:=1) rfl
theorem b36(hh:Hd):vh [.tup (T.go.map ab4)] hh=.ok (.int (T.go.length:Nat)) hh:=by rw[a5n,ay]
theorem aaz(h:T.Ok):Pu jb 1 [T.d] (.tup (af8 T)):=by
 have n32:=h.n32;refine Pu.of rfl aww (r:=.ok (.tup (af8 T)) []) ?_ (p8 (uq (a8r _)) (by simp)) (uq (a8r _))
 unfold jb;rw[dm];show toR (yh jg [some T.d] [])=_;unfold yh;have cz:sZ (p6 (sRg xn (ao (sA vh (ao (s2 gIx (sV 0) (sI 1)) bw)) bw)) t1 (yx jg) [0]) [some T.d] []=.ok (.rol (af8 T)) []:=by
  refine a4e (vq (λr:Nat=>D.int (r:Nat)) (A T) (List.range T.go.length) (aar (a09 (a1n rfl (T1 _)) (b36 _)) (fu (by omega))) (fu (by rw[aZ];omega)) λr hr=>?_) (a8r _) (by simp)
  rw[xj];exact uy (bf rfl) (bf rfl) (ach h (bM.mp hr) _)
 exact aN toR (ud (a09 cz rfl))
theorem a7w(h:T.Ok):Pu a3k 1 [T.d] (.tup (af9 T)):=by
 have n32:=h.n32;refine Pu.of rfl aww (r:=.ok (.tup (af9 T)) []) ?_ (p8 (uq (a78 _)) (by simp)) (uq (a78 _))
 unfold a3k;rw[dm];show toR (a76 jb [some T.d] [])=_;unfold a76;have cz:sZ (p6 (sIt (sA (gq false 1 jb) (ao (sV 0) bw))) t1 (a4r jb) []) [some T.d] []=.ok (.rol (af9 T)) []:=by
  refine a4e (vq (A T) (λr=>.bl (!a5z (A T r))) (List.range T.go.length) (a93 (a09 (bf rfl) (aaz h _)) rfl) (fu (by rw[aZ];omega)) λr hr=>?_) (a78 _) (by simp)
  rw[xj];exact a1n rfl (a4f _)
 exact aN toR (ud (a09 cz rfl))
end
end K22
namespace RCH
open L2 MI AT HND EVX K22 K23 K21 K40
def cnt(n:Nat)(p:Nat->Bool):Nat:=((List.range n).filter p).length
theorem ack:∀{l:List Nat},(∀x∈l,p x=true->q x=true)->(∃x∈l,q x=true/\p x=false)->(l.filter p).length<(l.filter q).length
 |[],_,⟨_,h,_⟩=>by simp at h
 |x::l,h,⟨y,hy,q1,p1⟩=>by
  have le:(l.filter p).length<=(l.filter q).length:=by
   clear hy q1 p1 y
   induction l with
   |nil=>simp
   |cons z l ih =>
    have ih:=ih λy hy=>h y (by simp only[aS]at hy ⊢;rcases hy with e|e<;>simp[e])
    have hz:=h z (by simp)
    rw[fv,fv]
    cases e1:p z with
    |true=>rw[hz e1];simp only[dk,aW];omega
    |false=>cases q z<;>simp<;>omega
  rw[fv,fv]
  rcases aS.mp hy with rfl|hy
  ·rw[q1,p1];simp only[dk,dA,fB,aW];omega
  ·have lt:=ack (l:=l) (λz hz=>h z (bq _ hz)) ⟨y,hy,q1,p1⟩
   cases e1:p x with
   |true=>rw[h x bA e1];simp only[dk,aW];omega
   |false=>cases q x<;>simp<;>omega
theorem aF{n:Nat}{P:Nat->Nat->Bool}(anti:∀k x,x<n->P (k+1) x=true->P k x=true)(det:∀k,(∀x,x<n->P k x=P (k+1) x)->∀x,x<n->P (k+1) x=P (k+2) x):∀k x,x<n->P n x=true->P (n+k) x=true:=by
 have key:∀k,cnt n (P k)<=n-k\/∃j,j<=k/\∀x,x<n->P j x=P (j+1) x:=by
  intro k
  induction k with
  |zero=>exact .inl (by unfold cnt;exact cq (List.length_filter_le _ _) (by simp))
  |succ k ih =>
   rcases ih with ih|⟨j,hj,e⟩
   ·by_cases c:∃x∈List.range n,P k x=true/\P (k+1) x=false
    ·have:=ack (p:=P (k+1)) (q:=P k) (l:=List.range n) (λx hx=>anti k x (bM.mp hx)) c
     exact .inl (by unfold cnt at ih ⊢;omega)
    ·refine .inr ⟨k,gO _,λx hx=>?_⟩
     cases e1:P k x with
     |true =>
      cases e2:P (k+1) x with
      |true=>rfl
      |false=>exact(c ⟨x,bM.mpr hx,e1,e2⟩).elim
     |false =>
      cases e2:P (k+1) x with
      |true=>rw[anti k x hx e2]at e1;cases e1
      |false=>rfl
   ·exact .inr ⟨j,Nat.le_succ_of_le hj,e⟩
 have stay:∀j,(∀x,x<n->P j x=P (j+1) x)->∀k x,x<n->P (j+k) x=P j x:=by
  intro j e k
  have step:∀k x,x<n->P (j+k) x=P (j+k+1) x:=by
   intro k
   induction k with
   |zero=>exact e
   |succ k ih=>exact det _ ih
  induction k with
  |zero=>intro x _;rfl
  |succ k ih=>intro x hx;rw[<-ih x hx];exact(step k x hx).symm
 intro k x hx h
 rcases key n with z|⟨j,hj,e⟩
 ·have:x∈(List.range n).filter (P n):=gE.mpr ⟨bM.mpr hx,h⟩
  have:=List.length_pos_of_mem this
  unfold cnt at z;omega
 ·have e1:=stay j e (n-j) x hx;have e2:=stay j e (n-j+k) x hx;rw[show j+(n-j)=n by omega]at e1
  rw[show j+(n-j+k)=n+k by omega]at e2
  rw[e2,<-e1];exact h
section
variable{T:Table}
def hp(T:Table)(x:Nat):Bool := !a5z (A T x)
theorem awx(h:T.Ok)(hr:r<T.go.length):rw' T r=(List.range T.tg.length).map (stp T r):=by unfold rw';rw[awl h hr];rfl
theorem ajn(h:T.Ok)(hr:r<T.go.length):x∈rw' T r↔∃c,c<T.tg.length/\stp T r c=x:=by
 rw[awx h hr,bU];exact⟨λ⟨c,hc,e⟩=>⟨c,bM.mp hc,e⟩,λ⟨c,hc,e⟩=>⟨c,bM.mpr hc,e⟩⟩
theorem ab0(h:T.Ok)(hr:r<T.go.length):FL T (k+1) r=true↔∃x∈rw' T r,FL T k x=true:=by
 show((List.range T.tg.length).any λc=>FL T k (stp T r c))=true↔_;rw[eE]
 constructor
 ·rintro⟨c,hc,e⟩;exact⟨_,(ajn h hr).mpr ⟨c,bM.mp hc,rfl⟩,e⟩
 ·rintro⟨x,hx,e⟩
  obtain⟨c,hc,rfl⟩:=(ajn h hr).mp hx;exact⟨c,bM.mpr hc,e⟩
theorem adt(e:hp T r=true):∃k,k<T.go.length/\FL T (k+1) r=true:=by
 unfold hp A at e
 cases q:amo T r with
 |none=>rw[q]at e;simp[a5z]at e
 |some i =>
  unfold amo at q;obtain⟨fi,hi,_⟩:=dI.mp q;exact⟨i,by simpa using hi,by rw[gI];exact fi⟩
theorem ari(h:T.Ok)(hr:r<T.go.length)(f:FL T (k+1) r=true):hp T r=true:=by
 obtain⟨d,_,_,q⟩:=a6w h hr;have e:=ao8 h q
 rcases q with⟨w,_,_,_,_,ew⟩|⟨_,no⟩
 ·unfold hp;rw[<-e,ew];rfl
 ·obtain⟨gl,go,gh⟩:=BF.acf f;exact(no _ go ⟨λz=>by
   have:=aN List.length z
   simp[gl]at this,gh⟩).elim
theorem adu(h:T.Ok)(hr:r<T.go.length):FL T 0 r=true↔kI T r ≠ -1:=by
 show knd T r=true↔_;obtain⟨k,e,_,kd⟩:=ajf h hr;unfold kI;rw[kd,e];simp
theorem arj(h:T.Ok)(hr:r<T.go.length):hp T r=true↔∃x∈rw' T r,kI T x ≠ -1\/hp T x=true:=by
 obtain⟨_,_,rx⟩:=arh h hr
 constructor
 ·intro e
  obtain⟨k,_,f⟩:=adt e;obtain⟨x,hx,fx⟩:=(ab0 h hr).mp f
  cases k with
  |zero=>exact⟨x,hx,.inl ((adu h (rx x hx)).mp fx)⟩
  |succ k=>exact⟨x,hx,.inr (ari h (rx x hx) fx)⟩
 ·rintro⟨x,hx,e|e⟩
  ·exact ari (k:=0) h hr ((ab0 h hr).mpr ⟨x,hx,(adu h (rx x hx)).mpr e⟩)
  ·obtain⟨k,_,f⟩:=adt e;exact ari (k:=k+1) h hr ((ab0 h hr).mpr ⟨x,hx,f⟩)
end
section
variable{T:Table}
theorem afa{bs:List Bool}(hr:r<bs.length):bg (bs.set r true) x=(decide (x=r) || bg bs x):=by
 unfold bg
 by_cases e:r=x
 ·subst e;rw[bC hr];simp
 ·rw[bK e,bJ (λz=>e z.symm)];simp
structure Mk (T:Table) (j:Nat) (bs:List Bool):Prop where
 len:bs.length=T.go.length
 snd:∀r,r<T.go.length->bg bs r=true->hp T r=true
 all:∀r,r<T.go.length->∀k,k<j->FL T (k+1) r=true->bg bs r=true
theorem Mk.set(M:Mk T j bs)(hr:r<T.go.length)(e:hp T r=true):Mk T j (bs.set r true):=by
 have l:=M.len;refine⟨by rw[cI];exact l,λx hx q=>?_,λx hx k hk f=>?_⟩
 ·rw[afa (by omega),eO]at q
  rcases q with q|q
  ·rw[of_decide_eq_true q];exact e
  ·exact M.snd x hx q
 ·rw[afa (by omega),M.all x hx k hk f,Bool.or_true]
theorem lit{T:Table}(h:T.Ok)(hr:r<T.go.length)(hx:x∈rw' T r)(e:kI T x ≠ -1\/hp T x=true):hp T r=true:=(arj h hr).mpr ⟨x,hx,e⟩
noncomputable def qz:SF:=nq a0y 5
abbrev hpD(T:Table):List D:=(List.range T.go.length).map λr=>D.bl (hp T r)
theorem a5o(n:Nat):clos n (hpD T):=fj λ_ _=>a0p _
theorem ajo(hr:r<T.go.length):(hpD T)[r]? = some (.bl (hp T r)):=by rw[aP,de hr];rfl
theorem adv(h:T.Ok):Pu qz 1 [T.d] (.rol (hpD T)):=by
 have n32:=h.n32;have ln:∀(τ:Sd) (bs:List Bool),τ[1]? = some (some (.ref 0))->bs.length=T.go.length->sRg xn (ao (sA vh (ao (sV 1) bw)) bw) τ (HB bs)=.ok ⟨(List.range T.go.length).map di,λ_=>True⟩ (HB bs):=λτ bs h1 bl =>
  aar (n:=T.go.length) (a09 (bf h1) ((a4g (xs:=bs.map D.bl) rfl).trans (by rw[ay,bl]))) (fu (by omega))
 have L2:∀(j:Nat) (bs:List Bool) (t2 t4:Option D) (r:Nat),Mk T j bs->r<T.go.length->∃(bs':List Bool) (t4':Option D),vy [some T.d,some (.ref 0),t2,some (di r),t4] (HB bs)=.nx [some T.d,some (.ref 0),t2,some (di r),t4'] (HB bs')/\Mk T j bs'/\(∀x,bg bs x=true->bg bs' x=true)/\(∀k,k<j+1->FL T (k+1) r=true->bg bs' r=true):=λj bs t2 t4 r M hr=>by
  obtain⟨_,_,rx⟩:=arh h hr;have lp:=uc (g:=kN 4) (b:=zb) di (λpre τ hp'=>∃(bs':List Bool) (t4:Option D),τ=[some T.d,some (.ref 0),t2,some (di r),t4]/\hp'=HB bs'/\Mk T j bs'/\(∀x,bg bs x=true->bg bs' x=true)/\((∃t∈pre,kI T t ≠ -1\/∃k,k<j/\FL T (k+1) t=true)->bg bs' r=true)) (rw' T r) [some T.d,some (.ref 0),t2,some (di r),t4] (HB bs) ?_ ⟨bs,t4,rfl,rfl,M,λ_ z=>z,λ⟨_,z,_⟩=>by simp at z⟩
  ·obtain⟨τ',h',e,bs',t4',rfl,rfl,M',up,all⟩:=lp;refine⟨bs',t4',?_,M',up,λk hk f=>?_⟩
   ·unfold vy;exact(b0w (awv h _ rfl rfl hr)).trans e
   ·obtain⟨x,hx,fx⟩:=(ab0 h hr).mp f;refine all ⟨x,hx,?_⟩
    cases k with
    |zero=>exact .inl ((adu h (rx x hx)).mp fx)
    |succ k=>exact .inr ⟨k,by omega,fx⟩
  ·rintro pre t post τ hp' al ⟨bs',t4,rfl,rfl,M',up,all⟩
   have tin:t∈rw' T r:=by rw[al];simp
   have tl:=rx t tin;have l':=M'.len;have tst:sOr (sT (s2 gGe (s2 gIx (s2 gIx (sV 0) (sI 2)) (sV 4)) (sI 0))) (a4m (s2 gIx (sV 1) (sV 4))) [some T.d,some (.ref 0),t2,some (di r),some (di t)] (HB bs')=.ok (decide (0<=kI T t) || bg bs' t) (HB bs') :=
    orB (t2s (kge h _ rfl rfl tl) ckk (b35 _ _)) λ_=>zc (u6 (bf rfl) (bf rfl) (a3s (xs:=bs'.map D.bl) rfl (awt (by omega)))) (qm _)
   have kk:=aws h tl;unfold zb
   cases v:(decide (0<=kI T t) || bg bs' t) with
   |true =>
    rw[v]at tst;have lt':hp T r=true:=lit h hr tin (by
     rw[eO]at v
     rcases v with v|v
     ·exact .inl (by have:=of_decide_eq_true v;omega)
     ·exact .inr (M'.snd t tl v))
    refine⟨_,_,rfl,_,HB (bs'.set r true),?_,bs'.set r true,some (di t),rfl,rfl,M'.set hr lt',λx q=>?_,λ_=>?_⟩
    ·refine aw (ifT tst) (ag9 ckk (bf rfl) (bf rfl) ((amh (xs:=bs'.map D.bl) rfl (by rw[ay];omega)).trans ?_))
     rw[awu];rfl
    ·rw[afa (by omega),up x q,Bool.or_true]
    ·rw[afa (by omega),cU rfl];rfl
   |false =>
    rw[v]at tst;rw[Bool.or_eq_false_iff]at v;refine⟨_,_,rfl,_,_,aw (ifF tst) rfl,bs',_,rfl,rfl,M',up,?_⟩
    rintro⟨x,hx,q⟩
    rcases aY.mp hx with z|z
    ·exact all ⟨x,z,q⟩
    ·rw[av]at z;subst z
     rcases q with q|⟨k,hk,f⟩
     ·have:=of_decide_eq_false v.1;omega
     ·rw[M'.all _ tl k hk f]at v;cases v.2
 have L3:∀(j:Nat) (bs:List Bool) (t2 t3 t4:Option D),Mk T j bs->∃(bs':List Bool) (t3' t4':Option D),vz [some T.d,some (.ref 0),t2,t3,t4] (HB bs)=.nx [some T.d,some (.ref 0),t2,t3',t4'] (HB bs')/\Mk T (j+1) bs':=λj bs t2 t3 t4 M=>by
  have lp:=uc (g:=kN 3) (b:=vy) di (λpre τ hp'=>∃(bs':List Bool) (t3 t4:Option D),τ=[some T.d,some (.ref 0),t2,t3,t4]/\hp'=HB bs'/\Mk T j bs'/\∀r∈pre,∀k,k<j+1->FL T (k+1) r=true->bg bs' r=true) (List.range T.go.length) [some T.d,some (.ref 0),t2,t3,t4] (HB bs) ?_ ⟨bs,t3,t4,rfl,rfl,M,by simp⟩
  ·obtain⟨τ',h',e,bs',t3',t4',rfl,rfl,M',all⟩:=lp;refine⟨bs',t3',t4',?_,M'.len,M'.snd,λr hr=>all r (bM.mpr hr)⟩;unfold vz;exact(b0w (ln _ bs rfl M.len)).trans e
  ·rintro pre r post τ hp' al ⟨bs',t3,t4,rfl,rfl,M',all⟩
   obtain⟨bs2,t4',e,M2,up,al2⟩:=L2 j bs' t2 t4 r M' (bM.mp (by rw[al];simp))
   refine⟨_,_,rfl,_,_,e,bs2,_,t4',rfl,rfl,M2,λx hx k hk f=>?_⟩
   rcases aY.mp hx with z|z
   ·exact up x (all x z k hk f)
   ·rw[av]at z;subst z;exact al2 k hk f
 let b0:List Bool:=T.go.map λ_=>false
 have b0l:b0.length=T.go.length:=ay _;have M0:Mk T 0 b0:=by
  refine⟨b0l,λr _ q=>?_,λ_ _ k hk=>by omega⟩
  unfold bg at q;rw[aP]at q
  cases z:T.go[r]? with
  |none=>rw[z]at q;exact absurd q (by simp)
  |some y=>rw[z]at q;exact absurd q (by simp)
 have lp:=uc (g:=kN 2) (b:=vz) di (λpre τ hp'=>∃(bs':List Bool) (t2 t3 t4:Option D),τ=[some T.d,some (.ref 0),t2,t3,t4]/\hp'=HB bs'/\Mk T pre.length bs') (List.range T.go.length) [some T.d,some (.ref 0),none,none,none] (HB b0) ?_ ⟨b0,none,none,none,rfl,rfl,M0⟩
 ·obtain⟨τ',h',e,bs,t2,t3,t4,rfl,rfl,M⟩:=lp;rw[aZ]at M;have eq:bs.map D.bl=hpD T:=by
   refine ef λi=>?_
   by_cases hi:i<T.go.length
   ·rw[awt (by rw[M.len];exact hi),ajo hi]
    congr 2
    rw[Bool.eq_iff_iff];refine⟨M.snd i hi,λq=>?_⟩;obtain⟨k,hk,f⟩:=adt q;exact M.all i hi k hk f
   ·have:=M.len
    rw[cO (by rw[ay];omega),cO (by rw[ay,aZ];omega)]
  refine Pu.of rfl (azl Table.clo) (r:=.ok (.ref 0) (HB bs)) ?_ (a1q (aJ _) (aN (λz=>some (O.lst z)) eq) (a5o _) (by simp)) (nu (a5o _))
  unfold qz;rw[dm];show toR (a0y [some T.d,none,none,none,none] [])=_;unfold a0y;have cm:p6 (sIt (s2 gIx (sV 0) (sI 1))) t1 yz [] [some T.d,none,none,none,none] []=.ok (.ref 0) (HB b0):=by
   have:=vq (fi:=sIt (s2 gIx (sV 0) (sI 1))) (t:=t1) (fe:=yz) (ix:=[]) (τ:=[some T.d,none,none,none,none]) (h:=[]) ab4 (λ_=>D.bl false) T.go (a93 (a1n rfl (go1 _)) rfl) (fu (by omega)) λx _=>rfl
   rw[this];show R.ok (D.ref 0) [O.lst _]=R.ok (D.ref 0) [O.lst ((T.go.map λ_=>false).map D.bl)];rw[cF];rfl
  refine etr (qp cm) ?_;refine etr (a4x (ln _ b0 rfl b0l)) ?_;refine aw (aN (λz=>toR (MI.thn z _)) e) ?_;rfl
 ·rintro pre k post τ hp' al ⟨bs,t2,t3,t4,rfl,rfl,M⟩
  obtain⟨bs',t3',t4',e,M'⟩:=L3 pre.length bs (some (di k)) t3 t4 M;exact⟨_,_,rfl,_,_,e,bs',_,t3',t4',rfl,rfl,by rw[ai];exact M'⟩
end
section
variable{T:Table}
noncomputable def jg:SF:=nq a02 12
noncomputable def jb:SF:=nq (yh jg) 1
noncomputable def a3k:SF:=nq (a76 jb) 1
theorem a7w(h:T.Ok):Pu a3k 1 [T.d] (.tup (hpD T)):=K22.a7w h
end
end RCH
namespace K35
open L2 MI AT HND EVX K22 K23 K21
section
variable{T:Table}
abbrev Pc:=Int×Nat×Nat
abbrev pcD(p:Pc):D:=.tup [.int p.1,di p.2.1,di p.2.2]
theorem a4k(n:Nat)(ps:List Pc):clos n (ps.map pcD):=fj λp _=>uq (cu (dw _) (cu (dw _) (cu (dw _) qx)))
end
end K35
namespace STM
open L2 MI AT HND K23 K21
open RCH
open K22 hiding hp
abbrev Bst:=Option (Int×Nat)
def al(T:Table):Nat->Bst->Nat->List Nat->Bool×Bst×Nat
 |r,b,_,[]=>(false,b,r)
 |r,b,a,c::l =>
  if hp T (stp T r (psn T c))=true then al T (stp T r (psn T c)) (if kI T (stp T r (psn T c)) = -1 then b else some (kI T (stp T r (psn T c)),a+1)) (a+1) l
  else (true,(if kI T (stp T r (psn T c)) = -1 then b else some (kI T (stp T r (psn T c)),a+1)),stp T r (psn T c))
def nb(T:Table)(r:Nat)(b:Bst)(a c:Nat):Bst:=if kI T (stp T r (psn T c)) = -1 then b else some (kI T (stp T r (psn T c)),a+1)
theorem a8s(e:hp T (stp T r (psn T c))=true):al T r b a (c::l)=al T (stp T r (psn T c)) (nb T r b a c) (a+1) l:=by rw[al,aR e];rfl
theorem acl(e:hp T (stp T r (psn T c))=false):al T r b a (c::l)=(true,nb T r b a c,stp T r (psn T c)):=by rw[al,bE (by simp[e])];rfl
theorem aoc:∀{l:List Nat} {r:Nat} {b:Bst} {a:Nat},al T r b a l=(false,b',r')->al T r b a (l++m)=al T r' b' (a+l.length) m
 |[],r,b,a,e=>by cases e;rfl
 |c::l,r,b,a,e=>by
  rw[fz]
  cases h:hp T (stp T r (psn T c)) with
  |true =>
   rw[a8s h]at e ⊢;rw[aoc e,aW,show a+1+l.length=a+(l.length+1) by omega]
  |false=>rw[acl h]at e;cases e
theorem ajp:∀{l:List Nat} {r:Nat} {b:Bst} {a:Nat},al T r b a l=(true,b',r')->al T r b a (l++m)=(true,b',r')
 |[],r,b,a,e=>by cases e
 |c::l,r,b,a,e=>by
  rw[fz]
  cases h:hp T (stp T r (psn T c)) with
  |true=>rw[a8s h]at e ⊢;exact ajp e
  |false=>rw[acl h]at e ⊢;exact e
theorem azm:nb T r b a c=b\/nb T r b a c=some (kI T (stp T r (psn T c)),a+1):=by unfold nb;split<;>simp
theorem b0x:∀{l:List Nat} {r:Nat} {b:Bst} {a:Nat},al T r b a l=(f,some (k,e),r')->b=some (k,e)\/(a<e/\e<=a+l.length)
 |[],r,b,a,h=>by cases h;exact .inl rfl
 |c::l,r,b,a,h=>by
  have st:nb T r b a c=some (k,e)->b=some (k,e)\/(a<e/\e<=a+(c::l).length):=λz=>by
   rcases azm (T:=T) (r:=r) (b:=b) (a:=a) (c:=c) with q|q
   ·rw[q]at z;exact .inl z
   ·rw[q]at z;cases z;exact .inr ⟨by omega,by simp⟩
  cases hh:hp T (stp T r (psn T c)) with
  |true =>
   rw[a8s hh]at h
   rcases b0x h with q|q
   ·exact st q
   ·exact .inr ⟨by omega,by simp;omega⟩
  |false=>rw[acl hh]at h;exact st (Prod.mk.inj (Prod.mk.inj h).2).1
inductive Ph where|op|st|cl
abbrev Pc:=K35.Pc
abbrev Res:=List Pc×Ph×Nat×Nat×Bst
def rn(T:Table)(x:List Nat)(f:Bool):Nat->Nat->List Pc->Res
 |0,s,acc=>(acc,.op,s,0,none)
 |n+1,s,acc =>
  if s<x.length/\((al T 0 none s (x.drop s)).1=true\/f=true) then
   match (al T 0 none s (x.drop s)).2.1 with
   |none=>(acc,.st,s,0,none)
   |some (k,e)=>rn T x f n e (acc++[(k,s,e)])
  else if f=true then (acc,.cl,s,0,none) else (acc,.op,s,(al T 0 none s (x.drop s)).2.2,(al T 0 none s (x.drop s)).2.1)
section
variable{T:Table}{x:List Nat}
theorem a79(hs:s<x.length)(ha:al T 0 none s (x.drop s)=(g,some (k,e),r))(hf:g=true\/f=true):rn T x f (n+1) s acc=rn T x f n e (acc++[(k,s,e)]):=by
 rw[rn,ha,aR ⟨hs,hf⟩]
theorem a8t(hs:s<x.length)(ha:al T 0 none s (x.drop s)=(g,none,r))(hf:g=true\/f=true):rn T x f (n+1) s acc=(acc,.st,s,0,none):=by
 rw[rn,ha,aR ⟨hs,hf⟩]
theorem a8u(ha:al T 0 none s (x.drop s)=(false,b,r)):rn T x false (n+1) s acc=(acc,.op,s,r,b):=by
 rw[rn,ha,bE (by simp),bE (by simp)]
theorem ajq(hs:¬ s<x.length):rn T x true (n+1) s acc=(acc,.cl,s,0,none):=by
 rw[rn,bE (λz=>hs z.1),aR rfl]
theorem adw(ha:al T 0 none s (x.drop s)=(g,some (k,e),r))(hs:s<=x.length):s<e/\e<=x.length:=by
 rcases b0x ha with z|z
 ·cases z
 ·rw[bQ]at z;omega
theorem ark:∀{n n' s:Nat} {acc:List Pc},rn T x false n s acc=(acc',.op,s',r',b')->s<=x.length->x.length+1<=n+s->(x++p).length+1<=n'+s->
  ∃m,(x++p).length+1<=m+s'/\rn T (x++p) f n' s acc=rn T (x++p) f m s' acc'/\al T 0 none s' (x.drop s')=(false,b',r')/\s'<=x.length
 |0,n',s,acc,e,h1,h2,h3=>by omega
 |n+1,0,s,acc,e,h1,h2,h3=>by rw[ai]at h3;omega
 |n+1,n'+1,s,acc,e,h1,h2,h3=>by
  have xl:(x++p).length=x.length+p.length:=ai;obtain⟨g,b,r,ha⟩:∃g b r,al T 0 none s (x.drop s)=(g,b,r):=⟨_,_,_,rfl⟩
  by_cases hs:s<x.length/\g=true
  ·obtain⟨hs,rfl⟩:=hs;have hb:al T 0 none s ((x++p).drop s)=(true,b,r):=by rw[cS h1];exact ajp ha
   cases b with
   |none=>rw[a8t hs ha (.inl rfl)]at e;cases e
   |some q =>
    obtain⟨k,z⟩:=q;obtain⟨b1,b2⟩:=adw ha h1;rw[a79 hs ha (.inl rfl)]at e;rw[a79 (by omega) hb (.inl rfl)]
    exact ark e b2 (by omega) (by omega)
  ·have gf:g=false:=by
    cases g with
    |false=>rfl
    |true =>
     have:x.drop s=[]:=bS (by
      rcases fU s x.length with z|z
      ·exact absurd ⟨z,rfl⟩ hs
      ·exact z)
     rw[this]at ha;cases ha
   subst gf;rw[a8u ha]at e;cases e
   exact⟨n'+1,h3,rfl,ha,h1⟩
end
end STM
namespace PN
open L2 MI AT HND EVX
end PN
namespace PN
open L2 MI AT HND EVX K22 K23 K21
section
variable{g:Hd}{n tu:Nat}{tg:List Nat}{rows:List (List Nat)}{ks:List Int}
def Rch(rows:List (List Nat))(r:Nat):Prop:=∀Q:Nat->Prop,Q 0->(∀r,Q r->∀x∈(rows[r]?).getD [],Q x)->Q r
theorem Rch.zero(rows:List (List Nat)):Rch rows 0:=λ_ q _=>q
theorem Rch.step(h:Rch rows r)(hx:x∈(rows[r]?).getD []):Rch rows x:=λQ q0 qs=>qs r (h Q q0 qs) x hx
theorem aod(h:x∈m):m[SRC.pos m x]? = some x:=by
 have e:=(aet (SRC.ajc h).1).1;unfold SRC.cst at e;rw[aP]at e
 cases q:m[SRC.pos m x]? with
 |none=>rw[q]at e;cases e
 |some y =>
  rw[q]at e;have e:(y:Int)=(x:Int):=by simpa using e
  congr 1
  omega
theorem aoe{m:List Nat}(nd:m.Nodup)(h:m[i]? = some x):SRC.pos m x=i:=by
 have h1:=aod (aQ h);obtain⟨a,ea⟩:=ag.mp h;obtain⟨b,eb⟩:=ag.mp h1;have pw:=bP.mp nd
 rcases eY (SRC.pos m x) i with z|z|z
 ·exact absurd (eb.trans ea.symm) (pw _ _ b a z)
 ·exact z
 ·exact absurd (ea.trans eb.symm) (pw _ _ a b z)
theorem arl{m:List Nat}(nd:m.Nodup)(m0:m[0]? = some 0)(cl:∀r∈m,∀x∈(rows[r]?).getD [],x∈m)(rc:∀r∈m,Rch rows r):∀r,r<(SRC.aax rows m).length->Rch (SRC.aax rows m) r:=by
 intro r hr Q q0 qs
 have hr':r<m.length:=by simpa using hr
 have er:m[r]? = some m[r]:=af hr';have key:=(rc m[r] (bG hr') (λx=>x∈m/\Q (SRC.pos m x)) ⟨aQ m0,by rw[aoe nd m0];exact q0⟩ λa ⟨ha,qa⟩ x hx=>⟨cl a ha x hx,qs _ qa _ (by
  rw[aP,aod ha];exact bU.mpr ⟨x,hx,rfl⟩)⟩).2
 rwa[aoe nd er]at key
end
end PN
namespace SRC
open L2 MI AT HND EVX
structure MetQ (rows:List (List Nat)) (n:Nat) (met:List Nat):Prop extends Met n met where
 q:∀x∈met,PN.Rch rows x
theorem MetQ.len(M:MetQ rows n met):met.length<=n:=M.toMet.len
theorem MetQ.add(M:MetQ rows n met)(hx:x<n)(hq:PN.Rch rows x)(h:x∉met):MetQ rows n (met++[x]) :=
 ⟨M.toMet.add hx h,λy hy=>(aY.mp hy).elim (M.q y) λz=>by rw[av]at z;subst z;exact hq⟩
end SRC
namespace STP
open L2 MI AT HND EVX K23 K21 RCH
open K22 hiding hp a3k jg jb a7w
open K40
section
variable{T:Table}
noncomputable def ut:SF:=nq ye 2
noncomputable def o6:SF:=nq wg 8
noncomputable def qj:SF:=nq (a03 STP.o6) 3
theorem amt(p:Pln d):Pu STP.ut 2 [.str (S T.tg),d] (.bl (txt T d)):=K21.age p
theorem amu(h:T.Ok)(hr:r<T.go.length)(hl:∀c∈l,c∈T.tg)(ll:l.length<=1000):Pu STP.qj 3 [T.d,di r,.str (S l)] (di (ldw T r l)):=K23.arc h hr hl ll
abbrev Ent:=Nat×List Nat
variable{ps:Nat->Bool}{s:Nat}{es:List Ent}
end
end STP
namespace STM
open L2 MI AT HND K23 K21
open RCH
open K22 hiding hp
abbrev sD(l:List Nat):D:=.str (S l)
theorem a1k(e1:fo τ h=.ok d h1)(hi:as9 c m d h1=true)(e2:ka τ h1=.ok ds h2)(e3:gq b n F (d::ds) h2=.ok v h3):sMe b c m n F fo ka τ h=.ok v h3:=by
 unfold sMe;rw[e1,dq,aR hi,e2,dq,e3]
theorem a7k(e:f τ h=.ok d h1):vp f τ h=.nx τ h1:=by unfold vp;rw[e];rfl
theorem jx(e:h[i]? = some (.ins "Stream" fs))(l:fs.lookup m=none):as9 "Stream" m (.ref i) h=true:=by
 simp only[as9,e,l,gQ,Option.isNone_none,Bool.and_self]
theorem jt{fs:List (Str×D)}(e:h[i]? = some (.ins "Stream" fs))(l:fs.lookup k=some d):a2i "Stream" k (.ref i) h=.ok d h:=by
 simp only[a2i,axt,e,dk,l]
theorem yf{fs:List (Str×D)}(e1:fe τ h=.ok y h1)(e2:fo τ h1=.ok (.ref i) h1)(e3:h1[i]? = some (.ins "Stream" fs))(z:fs.length<1000):a2y "Stream" k fo fe τ h=.nx τ (h1.set i (.ins "Stream" (aiy k y fs))):=by
 unfold a2y;rw[e1];show(fo τ h1).fl _=_;rw[e2];show(match h1[i]? with|some (.ins c' fs)=>if c' = "Stream"/\fs.length<1000 then Fl.nx τ (h1.set i (.ins "Stream" (aiy k y fs))) else .no|_=>.no)=_
 rw[e3];exact aR ⟨rfl,z⟩
theorem ajr{fs:List (Str×D)}(e2:fo τ h=.ok (.ref i) h)(e3:h[i]? = some (.ins "Stream" fs))(l:fs.lookup k=some v)(e1:fe τ h=.ok y h)(eg:gg v y h=.ok w h)(z:fs.length<1000):aga "Stream" k gg fo fe τ h=.nx τ (h.set i (.ins "Stream" (aiy k w fs))):=by
 unfold aga;rw[e2];have q:avc "Stream" k (.ref i) h=some v:=by
  simp only[avc,e3,dk,l]
 show(match avc "Stream" k (.ref i) h with|some v=>_|none=>_)=_
 rw[q];show(fe τ h).fl _=_;rw[e1];show(gg v y h).fl _=_;rw[eg];show(match akh "Stream" k w (.ref i) h with|some h4=>Fl.nx τ h4|none=>.no)=_
 have q2:akh "Stream" k w (.ref i) h=some (h.set i (.ins "Stream" (aiy k w fs))):=by
  simp only[akh,e3,z,and_self,dk]
 rw[q2]
abbrev phS:Ph->Str
 |.op => "open"
 |.st => "stopped"
 |.cl => "closed"
def bD:Bst->D
 |none=>.non
 |some (k,e)=>.tup [.int k,di e]
theorem acn(b:Bst)(n:Nat):MI.clo n (bD b):=by
 cases b with
 |none=>exact a1b
 |some q=>exact uq (cu (dw _) (cu (dw _) qx))
abbrev fsO(T:Table)(p:Ph)(s f a r:Nat)(b:Bst)(w:List Nat):List (Str×D):=[("table",T.d),("hope",.tup (hpD T)),("phase",.str (phS p)),("start",di s),("fed",di f),("at",di a),("room",di r),("last",bD b),("rest",sD w)]
abbrev Ob(T:Table)(p:Ph)(s f a r:Nat)(b:Bst)(w:List Nat):O:=.ins "Stream" (fsO T p s f a r b w)
theorem o7{T:Table}{p:Ph}{s f a r:Nat}{b:Bst}{w:List Nat}:vg 0 (Ob T p s f a r b w):=by
 show clos 0 [T.d,.tup (hpD T),.str (phS p),di s,di f,di a,di r,bD b,sD w];exact cu Table.clo (cu (uq (a5o _)) (cu (g8 _) (cu (dw _) (cu (dw _) (cu (dw _) (cu (dw _) (cu (acn _ _) (cu (g8 _) qx))))))))
section
variable{T:Table}{p:Ph}{s f a r:Nat}{b:Bst}{w:List Nat}
theorem lt9:(fsO T p s f a r b w).length<1000:=by show 9<1000;omega
theorem awy:∀o∈List.take 1 [Ob T p s f a r b w],vg 1 o:=by
 intro o ho
 rw[show List.take 1 [Ob T p s f a r b w]=[Ob T p s f a r b w] from rfl,av]at ho
 subst ho;exact lz (aV _) o7
theorem Dr.ob{ds:List D}(hn:ds.length+1=n)(cd:∀x∈ds,MI.clo 0 x)(e:F (.ref 0::ds) [Ob T p s f a r b w]=.ok d [Ob T p' s' f' a' r' b' w'])(c:MI.clo 0 d):Dr F n ds (Ob T p s f a r b w) d (Ob T p' s' f' a' r' b' w') :=
 Dr.of hn cd o7 e (p8 (ac3 (aV 1) c) awy) c o7
theorem a1j:∀x∈([]:List D),MI.clo 0 x:=λx hx=>by cases hx
theorem a2n(c:MI.clo 0 d):∀x∈[d],MI.clo 0 x:=λx hx=>by rw[av]at hx;subst hx;exact c
noncomputable def dj:SF:=nq STM.a5b 1
noncomputable def n6:SF:=nq STM.a6l 1
noncomputable def ph:SF:=nq STM.a1g 1
noncomputable def dh:SF:=nq STM.a1h 1
noncomputable def jd:SF:=nq STM.a5c 2
noncomputable def n8:SF:=nq STM.a6q 1
noncomputable def iw:SF:=nq (STM.a5d STM.ph) 1
noncomputable def jz:SF:=nq (STM.a3f STP.qj) 3
noncomputable def qg:SF:=nq (STM.a1z STM.jd) 4
noncomputable def wu:SF:=nq (STM.a6p STM.jd) 1
noncomputable def bx:SF:=nq (STM.a4j STM.qg STM.wu) 4
theorem a7x:Dr STM.dj 1 [] (Ob T p s f a r b w) (.str (phS p)) (Ob T p s f a r b w):=by
 refine Dr.ob rfl a1j ?_ (g8 _);unfold STM.dj;rw[dm];refine aw (aN toR (ud (zf (bf rfl) (jt rfl rfl)))) rfl
theorem arn:Dr STM.n6 1 [] (Ob T p s f a r b w) (di f) (Ob T p s f a r b w):=by
 refine Dr.ob rfl a1j ?_ (dw _);unfold STM.n6;rw[dm];refine aw (aN toR (ud (zf (bf rfl) (jt rfl rfl)))) rfl
theorem aro:Dr STM.n8 1 [] (Ob T p s f a r b w) (sD w) (Ob T p s f a r b w):=by
 refine Dr.ob rfl a1j ?_ (g8 _);unfold STM.n8;rw[dm];refine aw (aN toR (ud (zf (bf rfl) (jt rfl rfl)))) rfl
def ftD(p:Ph)(s:Nat):D:=match p with|.st=>di s|_=>.non
theorem ajs:MI.clo 0 (ftD p s):=by cases p<;>first|exact a1b|exact dw _
theorem a6x(p:Ph)(x:Str)(b:Bool)(e:(phS p == x)=b){h:Hd}:hEq (.str (phS p)) (.str x) h=.ok (.bl b) h:=by rw[<-e];rfl
theorem agf:Dr STM.ph 1 [] (Ob T p s f a r b w) (ftD p s) (Ob T p s f a r b w):=by
 refine Dr.ob rfl a1j ?_ ajs;unfold STM.ph;rw[dm]
 cases p with
 |st=>refine aw (aN toR (ud (SRC.awj (t2s (zf (bf rfl) (jt rfl rfl)) ckk (a6x .st _ true (by decide +kernel))) (zf (bf rfl) (jt rfl rfl))))) rfl
 |op=>refine aw (aN toR (ud (SRC.ar5 (t2s (zf (bf rfl) (jt rfl rfl)) ckk (a6x .op _ false (by decide +kernel))) ckk))) rfl
 |cl=>refine aw (aN toR (ud (SRC.ar5 (t2s (zf (bf rfl) (jt rfl rfl)) ckk (a6x .cl _ false (by decide +kernel))) ckk))) rfl
theorem afb:Dr STM.iw 1 [] (Ob T p s f a r b w) (ftD p s) (Ob T p s f a r b w):=by
 refine Dr.ob rfl a1j ?_ ajs;unfold STM.iw;rw[dm];refine aw (aN toR (ud (a1k (bf rfl) (jx rfl rfl) rfl (agf 0 _ rfl)))) rfl
theorem afc:Dr STM.dh 1 [] (Ob T .op s f a r b w) .non (Ob T .op s f a r b w):=by
 refine Dr.ob rfl a1j ?_ a1b;unfold STM.dh;rw[dm];refine eti (t2s (zf (bf rfl) (jt rfl rfl)) ckk (a6x .op _ false (by decide +kernel))) ?_
 refine aw (aN toR (ifF (t2s (zf (bf rfl) (jt rfl rfl)) ckk (a6x .op _ false (by decide +kernel))))) rfl
theorem afd(e:Nat):Dr STM.jd 2 [di e] (Ob T p s f a r b w) .non (Ob T p e f e 0 none []):=by
 refine Dr.ob rfl (a2n (dw _)) ?_ a1b;unfold STM.jd;rw[dm];refine etr (mq (yf (bf rfl) (bf rfl) rfl lt9)) ?_;refine etr (mq (yf (bf rfl) (bf rfl) rfl (by show 9<1000;omega))) ?_
 refine etr (mq (yf ckk (bf rfl) rfl (by show 9<1000;omega))) ?_
 refine etr (mq (yf ckk (bf rfl) rfl (by show 9<1000;omega))) ?_
 refine aw (aN toR (yf ckk (bf rfl) rfl (by show 9<1000;omega))) rfl
def nw(T:Table)(r:Nat)(b:Bst)(c:Nat)(w:List Nat):List Nat:=if kI T (stp T r (psn T c)) = -1 then (if b.isNone=true then w else w++[c]) else []
theorem azn(h:T.Ok)(hr:r<T.go.length)(hc:c∈T.tg)(wl:w.length<=1000):Dr STM.jz 2 [sD [c]] (Ob T p s f a r b w) .non (Ob T p s f (a+1) (stp T r (psn T c)) (nb T r b a c) (nw T r b c w)):=by
 have hr':stp T r (psn T c)<T.go.length:=a8p h _ _;have fr:STP.qj=STP.qj:=rfl;have c1:∀hh:Hd,gq false 3 STP.qj [T.d,di r,sD [c]] hh=.ok (di (stp T r (psn T c))) hh:=λhh=>STP.amu h hr (λx hx=>by rw[av]at hx;subst hx;exact hc) (by simp) hh
 refine Dr.ob rfl (a2n (g8 _)) ?_ a1b;unfold STM.jz;rw[dm];show toR (STM.a3f STP.qj [some (.ref 0),some (sD [c]),none] [Ob T p s f a r b w])=_;unfold STM.a3f;refine etr (mq (ajr (bf rfl) rfl rfl ckk a2e lt9)) ?_;refine etr (mq (yf (akf (zf (bf rfl) (jt rfl rfl)) (zf (bf rfl) (jt rfl rfl)) (bf rfl) (c1 _)) (bf rfl) rfl (by show 9<1000;omega))) ?_
 refine etr (qp (d:=.int (kI T (stp T r (psn T c)))) (h1:=[Ob T p s f (a+1) (stp T r (psn T c)) b w]) (u6 (u6 (zf (bf rfl) (jt rfl rfl)) ckk (arf _)) (zf (bf rfl) (jt rfl rfl)) (ajl h hr' _))) ?_
 by_cases hk:kI T (stp T r (psn T c)) = -1
 ·refine etr (ifF (t2s (bf rfl) (zf ckk (a8m _)) (adn hk))) ?_;unfold nb nw;rw[aR hk,aR hk]
  cases b with
  |none=>refine aw (aN toR (ifF (t2s (zf (bf rfl) (jt rfl rfl)) ckk rfl))) rfl
  |some q =>
   refine etr (ifT (t2s (zf (bf rfl) (jt rfl rfl)) ckk rfl)) ?_;refine aw (aN toR (ajr (bf rfl) rfl rfl (bf rfl) (SRC.af2 (fu (by simp;omega))) (by show 9<1000;omega))) rfl
 ·refine etr (ifT (t2s (bf rfl) (zf ckk (a8m _)) (av8 hk))) ?_;unfold nb nw;rw[bE hk,bE hk];refine etr (mq (yf (uy (bf rfl) (zf (bf rfl) (jt rfl rfl)) aqu) (bf rfl) rfl (by show 9<1000;omega))) ?_
  refine aw (aN toR (yf ckk (bf rfl) rfl (by show 9<1000;omega))) rfl
theorem ajt(k:Int)(e:Nat):Dr STM.qg 1 [] (Ob T p s f a r (some (k,e)) w) (sD w) (Ob T p e f e 0 none []):=by
 refine Dr.ob rfl a1j ?_ (g8 _);unfold STM.qg;rw[dm];refine etr (mq (a7o (zf (bf rfl) (jt rfl rfl)) rfl)) ?_;refine ets (zf (bf rfl) (jt rfl rfl)) ?_;refine etr (mq (a7k (a1k (bf rfl) (jx rfl rfl) (arg1 (bf rfl)) (afd e 0 _ rfl)))) ?_;refine aw (aN toR (ud (bf rfl))) rfl
theorem adf:Dr STM.wu 1 [] (Ob T p s f a r b w) (sD []) (Ob T .st s f s 0 none []):=by
 refine Dr.ob rfl a1j ?_ (g8 _);unfold STM.wu;rw[dm];refine etr (mq (yf ckk (bf rfl) rfl lt9)) ?_;refine etr (mq (a7k (a1k (bf rfl) (jx (fs:=fsO T .st s f a r b w) rfl rfl) (arg1 (zf (bf rfl) (jt rfl rfl))) (afd (p:=.st) s 0 _ rfl)))) ?_;refine aw (aN toR (ud ckk)) rfl
theorem b0y{o t o' t':O}(co:vg 0 o)(ct:vg 0 t)(e:F [.ref 0,.ref 1] [o,t]=.ok d [o',t'])(cd:MI.clo 0 d)(co':vg 0 o')(ct':vg 0 t'):gq false 2 F [.ref 0,.ref 1] [o,t]=.ok d [o',t']:=by
 have z:acv 2 (.ok d [o',t'])=.ok d [o',t']:=p8 (ac3 (aV _) cd) (by
  intro u hu
  simp only[List.take,aS,bp,cG]at hu
  rcases hu with rfl|rfl
  ·exact lz (aV _) co'
  ·exact lz (aV _) ct')
 have all:∀x∈[D.ref 0,D.ref 1],MI.clo 0 x\/isRef x:=λx hx=>by
  simp only[aS,bp,cG]at hx
  rcases hx with rfl|rfl
  ·exact .inr ⟨0,rfl⟩
  ·exact .inr ⟨1,rfl⟩
 have two:∀{a b:O},vg 0 a->vg 0 b->∀u∈[a,b],vg 0 u:=λha hb u hu=>by
  simp only[aS,bp,cG]at hu
  rcases hu with rfl|rfl<;>assumption
 unfold gq;rw[aR (show[D.ref 0,D.ref 1].length=2 from rfl)]
 unfold anx;rw[show a1m [D.ref 0,D.ref 1]=[0,1] from rfl,show a0r (λi=>([o,t]:Hd)[i]?) [0,1]=some [o,t] from rfl]
 simp only[dA,fB];rw[aR ⟨by decide,all,two co ct⟩,show a0s 0 [D.ref 0,D.ref 1]=[.ref 0,.ref 1] from rfl,e,show([o,t]:Hd).length=2 from rfl,z]
 simp[cd,co',ct',xq]
abbrev tD(ps:List Pc):O:=.lst (ps.map K35.pcD)
theorem aco(ps:List Pc):vg 0 (tD ps):=K35.a4k 0 ps
theorem a8v{ps:List Pc}:gq false 2 STM.bx [.ref 0,.ref 1] [Ob T .op s f a r none w,tD ps]=.ok (sD []) [Ob T .st s f s 0 none [],tD ps]:=by
 refine b0y o7 (aco ps) ?_ (g8 _) o7 (aco ps);unfold STM.bx;rw[dm];refine aw (aN toR (a6c (d:=sD []) (h1:=[Ob T .st s f s 0 none [],tD ps]) (aw (ifT (t2s (zf (bf rfl) (jt rfl rfl)) ckk rfl)) ?_))) rfl;exact ud (a1k (bf rfl) (jx rfl rfl) rfl (adf 0 _ rfl))
theorem a8w{ps:List Pc}(k:Int)(e:Nat)(pl:ps.length<=1000):gq false 2 STM.bx [.ref 0,.ref 1] [Ob T .op s f a r (some (k,e)) w,tD ps]=.ok (sD w) [Ob T .op e f e 0 none [],tD (ps++[(k,s,e)])]:=by
 refine b0y o7 (aco ps) ?_ (g8 _) o7 (aco _);unfold STM.bx;rw[dm];refine eti (t2s (zf (bf rfl) (jt rfl rfl)) ckk rfl) ?_;refine etr (mq (a7o (zf (bf rfl) (jt rfl rfl)) rfl)) ?_;refine etr (mq (a1u (bf rfl) rfl (arg1 (akf (bf rfl) (zf (bf rfl) (jt rfl rfl)) (bf rfl) as8)) (a3r (xs:=ps.map K35.pcD) rfl (by rw[ay];exact a2x (by omega))))) ?_
 refine aN toR (ud (a1k (bf rfl) (jx rfl rfl) rfl ((ajt k e 0 _ rfl).trans ?_)));show R.ok _ [Ob T .op e f e 0 none [],.lst (ps.map K35.pcD++[K35.pcD (k,s,e)])]=R.ok _ [_,.lst ((ps++[(k,s,e)]).map K35.pcD)];rw[bt];rfl
end
end STM
namespace STM
open L2 MI AT HND K23 K21
open RCH
open K22 hiding hp
noncomputable def ww:SF:=nq (STM.a6j STP.ut) 2
noncomputable def wy:SF:=nq (STM.a6m STM.dh STM.ww) 2
noncomputable def gj:SF:=nq (STM.wj STM.bx STM.jz) 4
def Kp(x:List Nat)(s a:Nat):Bst->List Nat->Prop
 |none,w=>w=[]
 |some (_,e),w=>s<e/\e<=a/\w=(x.take a).drop e
structure V (T:Table) (x:List Nat) (s a r:Nat) (b:Bst) (w:List Nat):Prop where
 sa:s<=a
 ax:a<=x.length
 eq:al T 0 none s (x.drop s)=al T r b a (x.drop a)
 rl:r<T.go.length
 kp:Kp x s a b w
section
variable{T:Table}{x:List Nat}
theorem V.wl(v:V T x s a r b w):w.length<=x.length:=by
 have:=v.kp
 cases b with
 |none=>rw[show w=[] from this];simp
 |some q=>rw[this.2.2];simp;omega
theorem V.zero(h:T.Ok)(hs:s<=x.length):V T x s s 0 none []:=⟨aJ _,hs,rfl,h.n1,rfl⟩
theorem a2z(ha:a<x.length):x.drop a=x[a]::x.drop (a+1):=eB ha
theorem V.go(h:T.Ok)(v:V T x s a r b w)(ha:a<x.length)(e:hp T (stp T r (psn T x[a]))=true):V T x s (a+1) (stp T r (psn T x[a])) (nb T r b a x[a]) (nw T r b x[a] w):=by
 refine⟨by have:=v.sa;omega,ha,by rw[v.eq,a2z ha,a8s e],a8p h _ _,?_⟩
 have kp:=v.kp;unfold nb nw
 by_cases hk:kI T (stp T r (psn T x[a])) = -1
 ·rw[aR hk,aR hk]
  cases b with
  |none=>exact kp
  |some q =>
   obtain⟨k1,k2,k3⟩:=kp;refine⟨k1,by omega,?_⟩
   show w++[x[a]]=_;rw[k3,List.take_succ_eq_append_getElem ha,cS (by simp;omega)]
 ·rw[bE hk,bE hk];refine⟨by have:=v.sa;omega,aJ _,?_⟩
  rw[bS (by rw[bN];omega)]
theorem V.done(v:V T x s a r b w)(ha:a<x.length)(e:hp T (stp T r (psn T x[a]))=false):al T 0 none s (x.drop s)=(true,nb T r b a x[a],stp T r (psn T x[a])):=by rw[v.eq,a2z ha,acl e]
theorem V.left(v:V T x s a r b w)(ha:a<x.length)(e:nb T r b a x[a]=some (k,z)):s<z/\z<=a+1/\nw T r b x[a] w++x.drop (a+1)=x.drop z:=by
 have kp:=v.kp;unfold nb at e;unfold nw
 by_cases hk:kI T (stp T r (psn T x[a])) = -1
 ·rw[aR hk]at e ⊢;subst e;obtain⟨k1,k2,k3⟩:=kp;refine⟨k1,by omega,?_⟩
  show(w++[x[a]])++x.drop (a+1)=_;rw[k3,cB,fg,<-a2z ha]
  conv=>rhs;rw[<-List.take_append_drop a x]
  rw[cS (by simp;omega)]
 ·rw[bE hk]at e ⊢;cases e
  exact⟨by have:=v.sa;omega,aJ _,rfl⟩
theorem aju{l:List Nat}(hl:∀c∈l,c∈T.tg)(ll:l.length<=1000):Pu STM.ww 2 [sD T.tg,sD l] (sD l):=by
 have p:Pln (sD l):=by show(S l).cps.toList.length<=1000;rw[a6b];exact ll
 have t:txt T (sD l)=true:=by rw[awr];unfold inT;rw[bZ];exact λc hc=>by simpa using hl c hc
 have c1:∀hh:Hd,gq false 2 STP.ut [sD T.tg,sD l] hh=.ok (.bl true) hh:=λhh=>by rw[<-t];exact STP.amt p hh
 refine Pu.of rfl (K21.aca (g8 _) (g8 _)) (r:=.ok (sD l) []) ?_ (p8 (g8 _) (by simp)) (g8 _)
 unfold STM.ww;rw[dm];refine eti (acx (zc (uy (bf rfl) (bf rfl) (c1 _)) (qm _))) ?_;refine aw (aN toR (ud (bf rfl))) rfl
theorem arp{l:List Nat}(hl:∀c∈l,c∈T.tg)(ll:l.length<=1000):Dr STM.wy 2 [sD l] (Ob T .op s f a r b w) .non (Ob T .op s (f+l.length) a r b w):=by
 refine Dr.ob rfl (a2n (g8 _)) ?_ a1b;unfold STM.wy;rw[dm];refine etr (mq (a7k (a1k (bf rfl) (jx rfl rfl) rfl (afc 0 _ rfl)))) ?_;refine aw (aN toR (ajr (bf rfl) rfl rfl (a09 (uy (u6 (zf (bf rfl) (jt rfl rfl)) ckk (K21.azj _)) (bf rfl) (aju hl ll _)) (a7n (fu (by omega)))) a2e lt9)) rfl
def Rd(T:Table)(x:List Nat)(s:Nat)(ps:List Pc)(p:Ph)(s' a' r':Nat)(b':Bst)(w':List Nat):Prop :=
 (p=.op/\V T x s' a' r' b' w'/\∀ff n acc,x.length+1<=n+s->∃m,x.length+1<=m+s'/\rn T x ff n s acc=rn T x ff m s' (acc++ps)) \/
 (p=.st/\a'=s'/\r'=0/\b'=none/\w'=[]/\∀ff n acc,x.length+1<=n+s->rn T x ff n s acc=(acc++ps,.st,s',0,none))
theorem awz(l:List Nat)(h:Hd):hNe (sD l) (.str "") h=.ok (.bl (!decide (l=[]))) h:=by
 show R.ok (D.bl (!(S l == S []))) h=_;rw[az6]
theorem afe(h:T.Ok)(hx:∀c∈x,c∈T.tg)(xl:x.length<=300)(v:V T x s a r b w)(f:Nat) :
  ∃(ps:List Pc) (p:Ph) (s' a' r':Nat) (b':Bst) (w':List Nat),STM.gj [.ref 0,sD (x.drop a)] [Ob T .op s f a r b w]=.ok (.ref 1) [Ob T p s' f a' r' b' w',tD ps]/\Rd T x s ps p s' a' r' b' w'/\(p=.op->a'=x.length)/\ps.length+s<=s'/\s'<=x.length:=by
 let L:=x.length
 have wb:=ait (c:=STM.a0n STM.bx STM.jz) (f:=STM.v4 STM.bx STM.jz)
  (λm τ hh=>∃(ps:List Pc) (p:Ph) (s' a' r':Nat) (b':Bst) (w':List Nat) (l:List Nat),τ=[some (.ref 0),some (sD (x.drop a)),some (.ref 1),some (sD l)]/\hh=[Ob T p s' f a' r' b' w',tD ps]/\Rd T x s ps p s' a' r' b' w'/\(p=.op->l=x.drop a'/\m=(L-s')*(L+1)+(L-a'))/\l.length<=1000/\ps.length+s<=s'/\s'<=L)
  (λτ hh=>∃(ps:List Pc) (p:Ph) (s' a' r':Nat) (b':Bst) (w':List Nat) (l:List Nat),τ=[some (.ref 0),some (sD (x.drop a)),some (.ref 1),some (sD l)]/\hh=[Ob T p s' f a' r' b' w',tD ps]/\Rd T x s ps p s' a' r' b' w'/\(p=.op->a'=x.length)/\ps.length+s<=s'/\s'<=x.length)
  (λ_ _=>False) ?_ ((L-s)*(L+1)+(L-a)) 100000 [some (.ref 0),some (sD (x.drop a)),some (.ref 1),some (sD (x.drop a))] [Ob T .op s f a r b w,tD []] ?_
  ⟨[],.op,s,a,r,b,w,x.drop a,rfl,rfl,.inl ⟨rfl,v,λff n acc hn=>⟨n,hn,by rw[bT]⟩⟩,λ_=>⟨rfl,rfl⟩,by rw[bQ];omega,by simp,cq v.sa v.ax⟩
 ·rcases wb with⟨τ',h',e,ps,p,s',a',r',b',w',l,rfl,rfl,R,pa,pl⟩|⟨_,_,_,z⟩
  ·refine⟨ps,p,s',a',r',b',w',?_,R,pa,pl⟩;unfold STM.gj;rw[dm];show toR (STM.wj STM.bx STM.jz [some (.ref 0),some (sD (x.drop a)),none,none] [Ob T .op s f a r b w])=_;unfold STM.wj;refine etr (qp (d:=.ref 1) (h1:=[Ob T .op s f a r b w,tD []]) rfl) ?_;refine ets (bf rfl) ?_;refine etr (mq e) ?_;exact aw (aN toR (ud (bf rfl))) rfl
  ·exact z.elim
 ·rintro m τ hh ⟨ps,p,s',a',r',b',w',l,rfl,rfl,R,pm,ll,pl,sl⟩
  unfold STM.a0n
  rcases R with⟨rfl,v',ch⟩|⟨rfl,rfl,rfl,rfl,rfl,ch⟩
  ·obtain⟨rfl,rfl⟩:=pm rfl;have lx:(x.drop a').length=L-a':=bQ
   by_cases ha:a'<x.length
   ·have nn:∀hh:Hd,hNe (sD (x.drop a')) (.str "") hh=.ok (.bl true) hh:=λhh=>by rw[awz,bJ (λz=>by rw[a2z ha]at z;cases z)];rfl
    refine .inr ⟨[Ob T .op s' f a' r' b' w',tD ps],aez (tvc rfl (nn _)) (t2s (zf (bf rfl) (jt rfl rfl)) ckk (a6x .op _ true (by decide +kernel))),.inl ?_⟩
    have hc:x[a']∈T.tg:=hx _ (bG ha);have hr2:stp T r' (psn T x[a'])<T.go.length:=a8p h _ _;have wl:=v'.wl;have g0:∀tl:Hd,gq false 2 STM.jz [.ref 0,sD [x[a']]] (Ob T .op s' f a' r' b' w'::tl)=.ok .non (Ob T .op s' f (a'+1) (stp T r' (psn T x[a'])) (nb T r' b' a' x[a']) (nw T r' b' x[a'] w')::tl):=λtl=>azn h v'.rl hc (by omega) 0 _ rfl
    have i0:gIx (sD (x.drop a')) (.int 0) [Ob T .op s' f a' r' b' w',tD ps]=.ok (sD [x[a']]) [Ob T .op s' f a' r' b' w',tD ps]:=as6 (i:=0) (fu (by omega)) (by rw[a2z ha];rfl)
    have d1:∀hh:Hd,adg (sD (x.drop a')) (some 1) none hh=.ok (sD (x.drop (a'+1))) hh:=λhh=>by
     have:=ac8 (h:=hh) (l:=x.drop a') 1 (fu (by omega))
     rw[List.drop_drop]at this;exact this
    have sz:(L-s')*(L+1)+(L-(a'+1))<(L-s')*(L+1)+(L-a'):=by omega
    have pre:∀g:SS,du (vp (sMe false "Stream" "go" 2 STM.jz (sV 0) (ao (s2 gIx (sV 3) (sI 0)) bw))) (du (kj 3 (a4y (sV 3) (oS (sI 1)) oN)) g) [some (.ref 0),some (sD (x.drop a)),some (.ref 1),some (sD (x.drop a'))] [Ob T .op s' f a' r' b' w',tD ps]=g [some (.ref 0),some (sD (x.drop a)),some (.ref 1),some (sD (x.drop (a'+1)))] [Ob T .op s' f (a'+1) (stp T r' (psn T x[a'])) (nb T r' b' a' x[a']) (nw T r' b' x[a'] w'),tD ps]:=λg=>by
     refine aw (mq (a7k (a1k (bf rfl) (jx rfl rfl) (arg1 (a1n rfl i0)) (g0 _)))) ?_;exact qp (PAP.aki (bf rfl) (PAP.aj5 ckk) rfl (d1 _))
    have hix:∀hh:Hd,gIx (.tup (hpD T)) (di (stp T r' (psn T x[a']))) hh=.ok (.bl (hp T (stp T r' (psn T x[a'])))) hh:=λhh=>a5q (ajo hr2)
    cases hh:hp T (stp T r' (psn T x[a'])) with
    |true =>
     refine⟨_,_,(L-s')*(L+1)+(L-(a'+1)),?_,sz,ps,.op,s',a'+1,stp T r' (psn T x[a']),nb T r' b' a' x[a'],nw T r' b' x[a'] w',x.drop (a'+1),rfl,rfl,.inl ⟨rfl,v'.go h ha hh,ch⟩,λ_=>⟨rfl,rfl⟩,by rw[bQ];omega,pl,sl⟩
     unfold STM.v4;refine aw (pre _) ?_;exact ifF (acx (zc (u6 (zf (bf rfl) (jt rfl rfl)) (zf (bf rfl) (jt rfl rfl)) ((hix _).trans (by rw[hh]))) (qm _)))
    |false =>
     have da:=v'.done ha hh;have sl':s'<x.length:=by have:=v'.sa;omega
     cases hb:nb T r' b' a' x[a'] with
     |none =>
      rw[hb]at da pre;refine⟨[some (.ref 0),some (sD (x.drop a)),some (.ref 1),some (sD (x.drop (a'+1)))],[Ob T .st s' f s' 0 none [],tD ps],(L-s')*(L+1)+(L-(a'+1)),?_,sz,ps,.st,s',s',0,none,[],x.drop (a'+1),rfl,rfl,.inr ⟨rfl,rfl,rfl,rfl,rfl,λff n acc hn=>?_⟩,(λz=>by cases z),by rw[bQ];omega,pl,sl⟩
      ·unfold STM.v4;refine aw (pre _) ?_;refine aw (ifT (aza (zc (u6 (zf (bf rfl) (jt rfl rfl)) (zf (bf rfl) (jt rfl rfl)) ((hix _).trans (by rw[hh]))) (qm _)))) ?_
       exact acw (u6 (a1k (bf rfl) (jx rfl rfl) (arg1 (bf rfl)) a8v) (bf rfl) (adl (fu (by simp;omega))))
      ·obtain⟨m,hm,e⟩:=ch ff n acc hn;rw[e]
       cases m with
       |zero=>omega
       |succ m=>exact a8t sl' da (.inl rfl)
     |some q =>
      obtain⟨k,z⟩:=q;obtain⟨z1,z2,z3⟩:=v'.left ha hb;rw[hb]at da pre;refine⟨[some (.ref 0),some (sD (x.drop a)),some (.ref 1),some (sD (x.drop z))],[Ob T .op z f z 0 none [],tD (ps++[(k,s',z)])],(L-z)*(L+1)+(L-z),?_,?_,ps++[(k,s',z)],.op,z,z,0,none,[],x.drop z,rfl,rfl,.inl ⟨rfl,V.zero h (by omega),λff n acc hn=>?_⟩,λ_=>⟨rfl,rfl⟩,by rw[bQ];omega,by rw[ai,aI];omega,by omega⟩
      ·unfold STM.v4;refine aw (pre _) ?_;refine aw (ifT (aza (zc (u6 (zf (bf rfl) (jt rfl rfl)) (zf (bf rfl) (jt rfl rfl)) ((hix _).trans (by rw[hh]))) (qm _)))) ?_
       refine acw (u6 (a1k (bf rfl) (jx rfl rfl) (arg1 (bf rfl)) (a8w k z (by omega))) (bf rfl) ((adl (fu ?_)).trans (by rw[z3])))
       have:=aN List.length z3
       rw[ai,bQ,bQ]at this;rw[bQ];omega
      ·have q1:(L-z+1)*(L+1)<=(L-s')*(L+1):=bY _ (by omega)
       rw[fP,gR]at q1;omega
      ·obtain⟨m,hm,e⟩:=ch ff n acc hn
       cases m with
       |zero=>omega
       |succ m=>exact⟨m,by omega,by rw[e,a79 sl' da (.inl rfl),cB]⟩
   ·have aL:a'=x.length:=by have:=v'.ax;omega
    refine .inl ⟨_,amg (tvc rfl ((awz _ _).trans (by rw[bS (by omega)];rfl))),ps,.op,s',a',r',b',w',_,rfl,rfl,.inl ⟨rfl,v',ch⟩,λ_=>aL,pl,sl⟩
  ·refine .inl ?_;have N:∃(ps':List Pc) (p:Ph) (s2 a2 r':Nat) (b':Bst) (w':List Nat) (l':List Nat),[some (.ref 0),some (sD (x.drop a)),some (.ref 1),some (sD l)]=[some (.ref 0),some (sD (x.drop a)),some (.ref 1),some (sD l')]/\[Ob T .st a' f a' 0 none [],tD ps]=[Ob T p s2 f a2 r' b' w',tD ps']/\Rd T x s ps' p s2 a2 r' b' w'/\(p=.op->a2=x.length)/\ps'.length+s<=s2/\s2<=x.length:=⟨ps,.st,a',a',0,none,[],l,rfl,rfl,.inr ⟨rfl,rfl,rfl,rfl,rfl,ch⟩,(λz=>by cases z),pl,sl⟩
   have t2:sT (s2 hEq (s1 (a2i "Stream" "phase") (sV 0)) (sC (.str "open"))) [some (.ref 0),some (sD (x.drop a)),some (.ref 1),some (sD l)] [Ob T .st a' f a' 0 none [],tD ps]=.ok false [Ob T .st a' f a' 0 none [],tD ps]:=t2s (zf (bf rfl) (jt rfl rfl)) ckk (a6x .st _ false (by decide +kernel))
   by_cases hl:l=[]
   ·exact⟨_,amg (tvc rfl ((awz _ _).trans (by rw[cU hl];rfl))),N⟩
   ·exact⟨_,aez (tvc rfl ((awz _ _).trans (by rw[bJ hl];rfl))) t2,N⟩
 ·have q1:(L-s)*(L+1)<=300*301:=Nat.mul_le_mul (by omega) (by omega)
  omega
end
end STM
namespace STM
open L2 MI AT HND K23 K21
open RCH
open K22 hiding hp
theorem azo(e:c τ h=.ok false h1):sWh c f (n+1) τ h=.nx τ h1:=by rw[sWh,e];rfl
def Nw(F:SF)(n:Nat)(ds:List D)(o o' t:O):Prop:=∀p h,h[p]? = some o->gq true n F (.ref p::ds) h=.ok (.ref h.length) (h.set p o'++[t])
theorem Nw.of{ds:List D}{o o' t:O}(hn:ds.length+1=n)(cd:∀x∈ds,MI.clo 0 x)(co:vg 0 o)(e:F (.ref 0::ds) [o]=.ok (.ref 1) [o',t])(co':vg 0 o')(ct:vg 0 t):Nw F n ds o o' t:=λp h hp=>by
 obtain⟨p1,_,p3⟩:=a4p cd;have e1:a1m (.ref p::ds)=[p]:=by
  have:a1m (.ref p::ds)=p::a1m ds:=rfl
  rw[this,p1]
 have e2:a0s 0 (.ref p::ds)=.ref 0::ds:=by
  have:a0s 0 (.ref p::ds)=.ref 0::a0s 1 ds:=rfl
  rw[this,p3]
 have all:∀x∈(D.ref p::ds),MI.clo 0 x\/isRef x:=λx hx=>by
  rcases aS.mp hx with rfl|hx
  ·exact .inr ⟨p,rfl⟩
  ·exact .inl (cd x hx)
 have z:anw 1 (.ok (.ref 1) [o',t])=.ok (.ref 1) [o',t]:=by
  unfold anw;simp only[gy,eN];rw[aR ⟨aJ _,lz (aV _) ct,λu hu=>by rw[show List.take 1 [o',t]=[o'] from rfl,av]at hu;subst hu;exact lz (aV _) co'⟩]
  rfl
 unfold gq;rw[aR (by simpa using hn)]
 unfold anx;rw[e1];simp only[a0r,hp,aI,dk];rw[aR ⟨by simp,all,λu hu=>by rw[av.mp hu];exact co⟩,e2,e,z]
 simp[co',ct,xq]
def Tel(F:SF)(ds:List D)(o o':O)(ps:List Pc):Prop:=F (.ref 0::ds) [o]=.ok (.ref 1) [o',tD ps]
theorem Tel.nw{ds:List D}(e:Tel F ds o o' ps)(hn:ds.length+1=n)(cd:∀x∈ds,MI.clo 0 x)(co:vg 0 o)(co':vg 0 o'):Nw F n ds o o' (tD ps):=Nw.of hn cd co e co' (aco ps)
theorem Tel.dr{ds:List D}(e:Tel F ds o o' ps)(hn:ds.length+1=n)(cd:∀x∈ds,MI.clo 0 x)(co:vg 0 o)(co':vg 0 o'):Dr F n ds o (.rol (ps.map K35.pcD)) o':=by
 refine Dr.of hn cd co e ?_ (nu (K35.a4k 0 ps)) co';exact a1q (i:=1) (aJ _) rfl (K35.a4k 1 ps) (by intro u hu;rw[show List.take 1 [o',tD ps]=[o'] from rfl,av]at hu;subst hu;exact lz (aV _) co')
noncomputable def jo:SF:=nq (STM.a6o STM.wy STM.gj) 2
noncomputable def ik:SF:=nq (STM.a0d STM.dh STM.bx STM.gj) 3
noncomputable def wz:SF:=nq (STM.a6k RCH.a3k) 2
noncomputable def ji:SF:=nq (STM.a6n STM.wz STM.jd) 2
section
variable{T:Table}{x:List Nat}
theorem V.end(v:V T x s x.length r b w):al T 0 none s (x.drop s)=(false,b,r):=by rw[v.eq,gC];rfl
theorem V.ext(v:V T x s x.length r b w)(l:List Nat):V T (x++l) s x.length r b w:=by
 refine⟨v.sa,by simp,?_,v.rl,?_⟩
 ·rw[cS v.sa,aoc v.end,gN,bQ,show s+(x.length-s)=x.length by have:=v.sa;omega]
 ·have kp:=v.kp
  cases b with
  |none=>exact kp
  |some q=>exact⟨kp.1,kp.2.1,by rw[kp.2.2,List.take_left,gD]⟩
theorem arq(h:T.Ok){l:List Nat}(hx:∀c∈x++l,c∈T.tg)(xl:(x++l).length<=300)(v:V T x s x.length r b w) :
  ∃(ps:List Pc) (p:Ph) (s' a' r':Nat) (b':Bst) (w':List Nat),Tel STM.jo [sD l] (Ob T .op s x.length x.length r b w) (Ob T p s' (x++l).length a' r' b' w') ps/\Rd T (x++l) s ps p s' a' r' b' w'/\(p=.op->a'=(x++l).length)/\ps.length+s<=s'/\s'<=(x++l).length:=by
 obtain⟨ps,p,s',a',r',b',w',e,q⟩:=afe h hx xl (v.ext l) (x++l).length;rw[gN]at e;have e:=Tel.nw e rfl (a2n (g8 _)) o7 o7;have ll:l.length<=300:=by rw[ai]at xl;omega
 refine⟨ps,p,s',a',r',b',w',?_,q⟩;unfold Tel STM.jo;rw[dm];refine etr (mq (a7k (a1k (bf rfl) (jx rfl rfl) (arg1 (bf rfl)) (arp (λc hc=>hx c (by simp[hc])) (by omega) 0 _ rfl)))) ?_
 rw[<-ai];refine aw (aN toR (ud (a1k (bf rfl) (jx rfl rfl) (arg1 (bf rfl)) (e 0 _ rfl)))) rfl
theorem acp:Dr STM.gj 2 [sD []] (Ob T .st s f a r b w) (.rol []) (Ob T .st s f a r b w):=by
 refine Dr.of rfl (a2n (g8 _)) o7 (r:=.ok (.ref 1) [Ob T .st s f a r b w,tD []]) ?_ (a1q (i:=1) (xs:=[]) (aJ _) rfl qx (by intro o ho;rw[show List.take 1 [Ob T .st s f a r b w,tD []]=[Ob T .st s f a r b w] from rfl,av]at ho;subst ho;exact lz (aV _) o7)) (nu qx) o7
 unfold STM.gj;rw[dm];show toR (STM.wj STM.bx STM.jz [some (.ref 0),some (sD []),none,none] [Ob T .st s f a r b w])=_;unfold STM.wj;refine etr (qp (d:=.ref 1) (h1:=[Ob T .st s f a r b w,tD []]) rfl) ?_;refine ets (bf rfl) ?_;refine aw (aN toR (mq (τ1:=[some (.ref 0),some (sD []),some (.ref 1),some (sD [])]) (h1:=[Ob T .st s f a r b w,tD []]) ?_)) (aw (aN toR (ud (bf rfl))) rfl);exact azo (amg (tvc rfl (awz _ _)))
theorem ajv(h:T.Ok)(hh:Hd):ado "Stream" 1 STM.ji [T.d] hh=.ok (.ref hh.length) (hh++[Ob T .op 0 0 0 0 none []]):=by
 let o5:O:=.ins "Stream" [("table",T.d),("hope",.tup (hpD T)),("phase",.str "open"),("start",di 0),("fed",di 0)]
 have c5:vg 0 o5:=by
  show clos 0 [T.d,.tup (hpD T),.str "open",di 0,di 0];exact cu Table.clo (cu (uq (a5o _)) (cu (g8 _) (cu (dw _) (cu (dw _) qx))))
 have c0:vg 0 (.ins "Stream" []):=by show clos 0 [];exact qx
 have one:∀{o:O},vg 0 o->∀u∈List.take 1 [o],vg 1 u:=λc u hu=>by rw[show ∀o:O,List.take 1 [o]=[o] from λ_=>rfl,av]at hu;subst hu;exact lz (aV _) c
 have d1:Dr STM.wz 2 [T.d] (.ins "Stream" []) .non o5:=by
  refine Dr.of rfl (a2n Table.clo) c0 (r:=.ok .non [o5]) ?_ (p8 a1b (one c5)) a1b c5;unfold STM.wz;rw[dm];refine etr (mq (yf (bf rfl) (bf rfl) rfl (by show 0<1000;omega))) ?_
  refine etr (mq (yf (a09 (bf rfl) (RCH.a7w h _)) (bf rfl) rfl (by show 1<1000;omega))) ?_
  refine etr (mq (yf ckk (bf rfl) rfl (by show 2<1000;omega))) ?_
  refine etr (mq (yf ckk (bf rfl) rfl (by show 3<1000;omega))) ?_
  refine aw (aN toR (yf ckk (bf rfl) rfl (by show 4<1000;omega))) rfl
 have d2:Dr STM.jd 2 [di 0] o5 .non (Ob T .op 0 0 0 0 none []):=by
  refine Dr.of rfl (a2n (dw _)) c5 (r:=.ok .non [Ob T .op 0 0 0 0 none []]) ?_ (p8 a1b (one o7)) a1b o7;unfold STM.jd;rw[dm];refine etr (mq (yf (bf rfl) (bf rfl) rfl (by show 5<1000;omega))) ?_
  refine etr (mq (yf (bf rfl) (bf rfl) rfl (by show 5<1000;omega))) ?_
  refine etr (mq (yf ckk (bf rfl) rfl (by show 6<1000;omega))) ?_
  refine etr (mq (yf ckk (bf rfl) rfl (by show 7<1000;omega))) ?_
  refine aw (aN toR (yf ckk (bf rfl) rfl (by show 8<1000;omega))) rfl
 have ls:∀a b:O,(hh++[a]).set hh.length b=hh++[b]:=λa b=>by simp
 have lg:∀a:O,(hh++[a])[hh.length]? = some a:=λa=>by simp
 have run:STM.ji [.ref hh.length,T.d] (hh++[.ins "Stream" []])=.ok .non (hh++[Ob T .op 0 0 0 0 none []]):=by
  unfold STM.ji;rw[dm];refine etr (mq (a7k (uy (bf rfl) (bf rfl) (d1 hh.length _ (lg _))))) ?_;rw[ls];refine etr (a7k (a1k (bf rfl) (jx (lg _) rfl) (arg1 ckk) (d2 hh.length _ (lg _)))) ?_;rw[ls];rfl
 unfold ado;rw[aR (show[T.d].length=1 from rfl),run]
end
end STM
namespace STM
open L2 MI AT HND K23 K21
open RCH
open K22 hiding hp
theorem ax0{i:Nat}{h:Hd}{xs ys:List D}(e:h[i]? = some (.lst xs))(z:xs.length+ys.length<=1000000):aij (.ref i) [.rol ys] h=.ok .non (h.set i (.lst (xs++ys))):=by
 show(match h[i]?,a0u (.rol ys) h with|some (.lst xs),some ys=>if xs.length+ys.length<=LINE then R.ok D.non (h.set i (.lst (xs++ys))) else .no|_,_=>.no)=_
 rw[e];show(if xs.length+ys.length<=LINE then R.ok D.non (h.set i (.lst (xs++ys))) else .no)=_
 rw[aR (fu z)]
section
variable{T:Table}{x:List Nat}
theorem V.all(v:V T x x.length a r b w):a=x.length/\r=0/\b=none/\w=[]:=by
 have sa:=v.sa;have ax:=v.ax;obtain rfl:a=x.length:=by omega
 have e:=v.end;rw[gC]at e;cases e
 exact⟨rfl,rfl,rfl,v.kp⟩
def Rc(T:Table)(x:List Nat)(s:Nat)(ps:List Pc)(p:Ph)(s' a' r':Nat)(b':Bst)(w':List Nat):Prop :=
 (p=.op/\a'=x.length/\V T x s' a' r' b' w'/\∀n acc,x.length+1<=n+s->∃m,x.length+1<=m+s'/\rn T x true n s acc=rn T x true m s' (acc++ps)) \/
 (p=.st/\a'=s'/\r'=0/\b'=none/\w'=[]/\∀n acc,x.length+1<=n+s->rn T x true n s acc=(acc++ps,.st,s',0,none))
theorem aog(ps qs:List Pc)(z:ps.length+qs.length<=1000000){o:O}:aij (.ref 1) [.rol (qs.map K35.pcD)] [o,tD ps]=.ok .non [o,tD (ps++qs)]:=by
 rw[ax0 (xs:=ps.map K35.pcD) rfl (by rw[ay,ay];exact z)]
 show R.ok D.non [o,.lst (ps.map K35.pcD++qs.map K35.pcD)]=_;rw[<-bt]
theorem amv(h:T.Ok)(hx:∀c∈x,c∈T.tg)(xl:x.length<=300)(v:V T x s x.length r b w) :
  ∃(ps:List Pc) (p:Ph) (s' a':Nat),Tel STM.ik [] (Ob T .op s x.length x.length r b w) (Ob T p s' x.length a' 0 none []) ps/\ps.length<=x.length/\∀n acc,x.length+1<=n+s->rn T x true n s acc=(acc++ps,p,s',0,none):=by
 have wb:=ait (c:=STM.a04 STM.dh STM.bx STM.gj) (f:=STM.ur STM.dh STM.bx STM.gj)
  (λm τ hh=>(∃(ps:List Pc) (p:Ph) (s' a' r':Nat) (b':Bst) (w':List Nat) (t2:Option D),τ=[some (.ref 0),some (.ref 1),t2]/\hh=[Ob T p s' x.length a' r' b' w',tD ps]/\Rc T x s ps p s' a' r' b' w'/\m=x.length+1-s'/\ps.length+s<=s'/\s'<=x.length)\/∃(ps:List Pc) (s':Nat) (t2:Option D),τ=[some (.ref 0),some (.ref 1),t2]/\hh=[Ob T .st s' x.length s' 0 none [],tD ps]/\Rc T x s ps .st s' s' 0 none []/\ps.length+s<=s'/\s'<=x.length)
  (λτ hh=>∃(ps:List Pc) (p:Ph) (s' a' r':Nat) (b':Bst) (w':List Nat) (t2:Option D),τ=[some (.ref 0),some (.ref 1),t2]/\hh=[Ob T p s' x.length a' r' b' w',tD ps]/\Rc T x s ps p s' a' r' b' w'/\(p=.op->s'=x.length)/\ps.length<=x.length)
  (λ_ _=>False) ?_ (x.length+1-s) 100000 [some (.ref 0),some (.ref 1),none] [Ob T .op s x.length x.length r b w,tD []] (by omega)
  (.inl ⟨[],.op,s,x.length,r,b,w,none,rfl,rfl,.inl ⟨rfl,rfl,v,λn acc hn=>⟨n,hn,by rw[bT]⟩⟩,rfl,by simp,v.sa⟩)
 ·rcases wb with⟨τ',h',e,ps,p,s',a',r',b',w',t2,rfl,rfl,R,pa,pl⟩|⟨_,_,_,z⟩
  ·have pre:∀g:SS,STM.a0d STM.dh STM.bx STM.gj [some (.ref 0),none,none] [Ob T .op s x.length x.length r b w]=du (sIf (sT (s2 hEq (s1 (a2i "Stream" "phase") (sV 0)) (sC (.str "open")))) (a2y "Stream" "phase" (sV 0) (sC (.str "closed"))) sNx) (sy (sV 1)) [some (.ref 0),some (.ref 1),t2] [Ob T p s' x.length a' r' b' w',tD ps]:=λg=>by
    unfold STM.a0d;refine aw (mq (a7k (a1k (bf rfl) (jx rfl rfl) rfl (afc 0 _ rfl)))) ?_;refine aw (qp (d:=.ref 1) (h1:=[Ob T .op s x.length x.length r b w,tD []]) rfl) ?_;exact mq e
   rcases R with⟨rfl,rfl,v',ch⟩|⟨rfl,rfl,rfl,rfl,rfl,ch⟩
   ·obtain rfl:=pa rfl
    obtain⟨-,rfl,rfl,rfl⟩:=v'.all;refine⟨ps,.cl,x.length,x.length,?_,pl,λn acc hn=>?_⟩
    ·unfold Tel STM.ik;rw[dm];refine etr (pre sNx) ?_;refine etr (mq (aw (ifT (t2s (zf (bf rfl) (jt rfl rfl)) ckk (a6x .op _ true (by decide +kernel)))) (yf ckk (bf rfl) rfl lt9))) ?_
     exact aw (aN toR (ud (bf rfl))) rfl
    ·obtain⟨m,hm,e⟩:=ch n acc hn;rw[e]
     cases m with
     |zero=>omega
     |succ m=>exact ajq (cL _)
   ·refine⟨ps,.st,a',a',?_,pl,ch⟩;unfold Tel STM.ik;rw[dm];refine etr (pre sNx) ?_;refine eti (t2s (zf (bf rfl) (jt rfl rfl)) ckk (a6x .st _ false (by decide +kernel))) ?_
    exact aw (aN toR (ud (bf rfl))) rfl
  ·exact z.elim
 ·have stopped:∀(ps:List Pc) (s':Nat) (t2:Option D),Rc T x s ps .st s' s' 0 none []->ps.length+s<=s'->s'<=x.length->(∃h1,STM.a04 STM.dh STM.bx STM.gj [some (.ref 0),some (.ref 1),t2] [Ob T .st s' x.length s' 0 none [],tD ps]=.ok false h1/\∃(ps':List Pc) (p:Ph) (s2 a' r':Nat) (b':Bst) (w':List Nat) (t3:Option D),[some (.ref 0),some (.ref 1),t2]=[some (.ref 0),some (.ref 1),t3]/\h1=[Ob T p s2 x.length a' r' b' w',tD ps']/\Rc T x s ps' p s2 a' r' b' w'/\(p=.op->s2=x.length)/\ps'.length<=x.length):=λps s' t2 R pl sl =>
   ⟨_,amg (t2s (zf (bf rfl) (jt rfl rfl)) ckk (a6x .st _ false (by decide +kernel))),ps,.st,s',s',0,none,[],t2,rfl,rfl,R,(λz=>by cases z),by omega⟩
  rintro m τ hh (⟨ps,p,s',a',r',b',w',t2,rfl,rfl,R,rfl,pl,sl⟩|⟨ps,s',t2,rfl,rfl,R,pl,sl⟩)
  ·rcases R with⟨rfl,rfl,v',ch⟩|⟨rfl,rfl,rfl,rfl,rfl,ch⟩
   ·have t1:∀{τ:Sd},τ[0]? = some (some (.ref 0))->sT (s2 hEq (s1 (a2i "Stream" "phase") (sV 0)) (sC (.str "open"))) τ [Ob T .op s' x.length x.length r' b' w',tD ps]=.ok true [Ob T .op s' x.length x.length r' b' w',tD ps]:=λh0=>t2s (zf (bf h0) (jt rfl rfl)) ckk (a6x .op _ true (by decide +kernel))
    by_cases lt:s'<x.length
    ·refine .inr ⟨[Ob T .op s' x.length x.length r' b' w',tD ps],aez (t1 rfl) (t2s (zf (bf rfl) (jt rfl rfl)) (zf (bf rfl) (jt rfl rfl)) (akg (by omega))),.inl ?_⟩
     have da:=v'.end
     cases b' with
     |none =>
      refine⟨[some (.ref 0),some (.ref 1),some (sD [])],[Ob T .st s' x.length s' 0 none [],tD ps],0,?_,by omega,.inr ⟨ps,s',_,rfl,rfl,.inr ⟨rfl,rfl,rfl,rfl,rfl,λn acc hn=>?_⟩,pl,sl⟩⟩
      ·unfold STM.ur;refine aw (qp (a1k (bf rfl) (jx rfl rfl) (arg1 (bf rfl)) a8v)) ?_;refine aw (a1u (bf rfl) rfl (arg1 (a1k (bf rfl) (jx rfl rfl) (arg1 (bf rfl)) (acp 0 _ rfl))) (aog ps [] (by simp;omega))) ?_
       rw[bT];rfl
      ·obtain⟨m,hm,e⟩:=ch n acc hn;rw[e]
       cases m with
       |zero=>omega
       |succ m=>exact a8t lt da (.inr rfl)
     |some q =>
      obtain⟨k,z⟩:=q;obtain⟨z1,z2,z3⟩:=v'.kp;rw[gD]at z3;subst z3;obtain⟨qs,p2,s2,a2,r2,b2,w2,er,R2,pa2,pl2,sl2⟩:=afe h hx xl (V.zero h (s:=z) z2) x.length;have dr:=Tel.dr (n:=2) er rfl (a2n (g8 _)) o7 o7;have body:STM.ur STM.dh STM.bx STM.gj [some (.ref 0),some (.ref 1),t2] [Ob T .op s' x.length x.length r' (some (k,z)) (x.drop z),tD ps]=.nx [some (.ref 0),some (.ref 1),some (sD (x.drop z))] [Ob T p2 s2 x.length a2 r2 b2 w2,tD (ps++[(k,s',z)]++qs)]:=by
       unfold STM.ur;refine aw (qp (a1k (bf rfl) (jx rfl rfl) (arg1 (bf rfl)) (a8w k z (by omega)))) ?_
       exact a1u (bf rfl) rfl (arg1 (a1k (bf rfl) (jx rfl rfl) (arg1 (bf rfl)) (dr 0 _ rfl))) (aog _ qs (by simp;omega))
      have pl3:(ps++[(k,s',z)]++qs).length+s<=s2:=by simp;omega
      have stp:∀n acc,x.length+1<=n+s->∃m,x.length+1<=m+z/\rn T x true n s acc=rn T x true m z (acc++(ps++[(k,s',z)])):=λn acc hn=>by
       obtain⟨m,hm,e⟩:=ch n acc hn
       cases m with
       |zero=>omega
       |succ m=>exact⟨m,by omega,by rw[e,a79 lt da (.inr rfl),cB]⟩
      rcases R2 with⟨rfl,v2,ch2⟩|⟨rfl,rfl,rfl,rfl,rfl,ch2⟩
      ·obtain rfl:=pa2 rfl
       refine⟨_,_,x.length+1-s2,body,by omega,.inl ⟨_,.op,s2,x.length,r2,b2,w2,_,rfl,rfl,.inl ⟨rfl,rfl,v2,λn acc hn=>?_⟩,rfl,pl3,sl2⟩⟩
       obtain⟨m,hm,e⟩:=stp n acc hn;obtain⟨m2,hm2,e2⟩:=ch2 true m (acc++(ps++[(k,s',z)])) hm;exact⟨m2,hm2,by rw[e,e2,cB,cB]⟩
      ·refine⟨_,_,0,body,by omega,.inr ⟨_,a2,_,rfl,rfl,.inr ⟨rfl,rfl,rfl,rfl,rfl,λn acc hn=>?_⟩,pl3,sl2⟩⟩
       obtain⟨m,hm,e⟩:=stp n acc hn;rw[e,ch2 true m (acc++(ps++[(k,s',z)])) hm,cB]
    ·refine .inl ⟨_,aez (t1 rfl) (t2s (zf (bf rfl) (jt rfl rfl)) (zf (bf rfl) (jt rfl rfl)) (ao2 (by omega))),ps,.op,s',x.length,r',b',w',t2,rfl,rfl,.inl ⟨rfl,rfl,v',ch⟩,λ_=>by omega,by omega⟩
   ·exact .inl (stopped ps _ t2 (.inr ⟨rfl,rfl,rfl,rfl,rfl,ch⟩) pl sl)
  ·exact .inl (stopped ps s' t2 R pl sl)
end
end STM
namespace STM
open L2 MI AT HND K23 K21
open RCH
open K22 hiding hp
noncomputable def qz:SF:=nq STM.a0y 5
noncomputable def ju:SF:=nq STM.a3g 8
noncomputable def jf:SF:=nq (STM.a6r STM.ju) 9
noncomputable def qe:SF:=nq (STM.a2c SRC.jh) 4
section
variable{T:Table}{x:List Nat}
theorem ars(h:T.Ok):Pu STM.qz 1 [T.d] (.rol (hpD T)):=RCH.adv h
abbrev alD(q:Bool×Bst×Nat):D:=.tup [.bl q.1,bD q.2.1,di q.2.2]
theorem ajw(q:Bool×Bst×Nat):MI.clo 0 (alD q):=uq (cu (a0p _) (cu (acn _ _) (cu (dw _) qx)))
theorem ax1(ha:MI.clo 0 a)(hb:MI.clo 0 b)(hc:MI.clo 0 c)(hd:MI.clo 0 d):∀x∈[a,b,c,d],MI.clo 0 x:=by
 intro x hx
 simp only[aS,bp,cG]at hx
 rcases hx with rfl|rfl|rfl|rfl<;>assumption
theorem aay(h:T.Ok)(hx:∀c∈x,c∈T.tg)(xl:x.length<=1000)(hs:s<=x.length):Pu STM.ju 4 [T.d,.rol (hpD T),sD x,di s] (alD (al T 0 none s (x.drop s))):=by
 refine Pu.of rfl (ax1 Table.clo (nu (a5o _)) (g8 _) (dw _)) (r:=.ok (alD (al T 0 none s (x.drop s))) []) ?_ (p8 (ajw _) (by simp)) (ajw _)
 unfold STM.ju;rw[dm];show toR (STM.a3g [some T.d,some (.rol (hpD T)),some (sD x),some (di s),none,none,none,none] [])=_;unfold STM.a3g;refine etr (qp ckk) ?_;refine etr (qp ckk) ?_;refine etr (qp ckk) ?_;refine etr (a4x (aiw (a:=s) (n:=x.length) (bf rfl) (a09 (bf rfl) (a7n (fu (by omega)))) (fu (by omega)) (fu (by omega)))) ?_
 have lp:=uc (g:=kN 7) (b:=STM.a2j) (λi:Nat=>D.int ((s+i:Nat)))
  (λpre τ hh=>∃(r:Nat) (b:Bst) (g:Bool) (t7:Option D),τ=[some T.d,some (.rol (hpD T)),some (sD x),some (di s),some (di r),some (bD b),some (.bl g),t7]/\hh=[]/\r<T.go.length/\al T 0 none s (x.drop s)=(if g=true then (true,b,r) else al T r b (s+pre.length) (x.drop (s+pre.length))))
  (List.range (x.length-s)) [some T.d,some (.rol (hpD T)),some (sD x),some (di s),some (di 0),some .non,some (.bl false),none] [] ?_ ⟨0,none,false,none,rfl,rfl,h.n1,rfl⟩
 ·obtain⟨τ',h',e,r,b,g,t7,rfl,rfl,hr,ea⟩:=lp;refine aw (aN (λz=>toR (MI.thn z _)) e) ?_;rw[zr];have:al T 0 none s (x.drop s)=(g,b,r):=by
   rw[ea]
   cases g with
   |true=>rfl
   |false =>
    rw[bE (by simp),aZ,show s+(x.length-s)=x.length by omega,gC]
    rfl
  rw[this];exact aw (aN toR (ud (akf (bf rfl) (bf rfl) (bf rfl) as8))) rfl
 ·rintro pre i post τ hh all ⟨r,b,g,t7,rfl,rfl,hr,ea⟩
  obtain⟨hi,hk⟩:=v5 all;rw[ai,aI];unfold STM.a2j
  cases g with
  |true=>exact⟨_,_,rfl,_,_,ifF (acx (zc (bf rfl) (qm _))),r,b,true,_,rfl,rfl,hr,ea⟩
  |false =>
   rw[bE (by simp)]at ea
   have sl:s+i<x.length:=by omega
   rw[<-hi,a2z sl]at ea;have ec:x[s+i]? = some x[s+i]:=af sl;have hc:=hx _ (bG sl)
   generalize x[s+i]=c at ea ec hc
   have r2:stp T r (psn T c)<T.go.length:=a8p h _ _
   let R:=stp T r (psn T c)
   have st:s2 gIx (s2 gIx (s2 gIx (sV 0) (sI 1)) (sV 4)) (sMS adb (s2 gIx (sV 0) (sI 0)) (ao (s2 gIx (sV 2) (sV 7)) bw)) [some T.d,some (.rol (hpD T)),some (sD x),some (di s),some (di r),some (bD b),some (.bl false),some (.int ((s+i:Nat)))] []=.ok (di R) [] :=
    u6 (u6 (a1n rfl (a5q (j:=1) rfl)) (bf rfl) (ao9 h hr _)) (axw (a1n rfl (a5q (j:=0) rfl)) (arg1 (u6 (bf rfl) (bf rfl) (as6 (fu (by omega)) ec))) (aob hc _)) (awo h (aci hc).2 _)
   have kg:∀τ:Sd,τ[0]? = some (some T.d)->τ[4]? = some (some (di R))->s2 gIx (s2 gIx (sV 0) (sI 2)) (sV 4) τ []=.ok (.int (kI T R)) []:=λτ h0 h3=>u6 (u6 (bf h0) ckk (arf _)) (bf h3) (ajl h r2 _);have last:∀b':Bst,b'=nb T r b (s+i) c->kj 6 (aa2 (s2 gIx (sV 1) (sV 4))) [some T.d,some (.rol (hpD T)),some (sD x),some (di s),some (di R),some (bD b'),some (.bl false),some (.int ((s+i:Nat)))] []=.nx [some T.d,some (.rol (hpD T)),some (sD x),some (di s),some (di R),some (bD (nb T r b (s+i) c)),some (.bl (!hp T R)),some (.int ((s+i:Nat)))] []:=λb' hb=>by
    subst hb;exact acw (EVX.awf (u6 (bf rfl) (bf rfl) (as7 (ajo r2))))
   refine⟨_,_,rfl,[some T.d,some (.rol (hpD T)),some (sD x),some (di s),some (di R),some (bD (nb T r b (s+i) c)),some (.bl (!hp T R)),some (.int ((s+i:Nat)))],[],?_,R,nb T r b (s+i) c, !hp T R,_,rfl,rfl,r2,?_⟩
   ·refine aw (ifT (aza (zc (bf rfl) (qm _)))) ?_;refine aw (qp st) ?_;obtain⟨kv,ke,k1,k2⟩:=ajf h r2;have kx:kI T R=kv:=by unfold kI;rw[ke];rfl
    by_cases hm:kI T R = -1
    ·refine aw (ifN (t2s (kg _ rfl rfl) ckk (SRC.azg (by omega)))) ?_
     exact last b (by unfold nb;rw[aR hm])
    ·refine aw (mq (aw (ifT (t2s (kg _ rfl rfl) ckk (SRC.azf (by omega)))) (acw (uy (kg _ rfl rfl) (a1n rfl zu) aqu)))) ?_
     exact last (some (kI T R,s+i+1)) (by unfold nb;rw[bE hm])
   ·rw[ea]
    cases hh:hp T R with
    |true=>rw[bE (by simp),a8s hh,hi];rfl
    |false=>rw[aR (by simp),acl hh]
abbrev rsD(q:Res):D:=.tup [.rol (q.1.map K35.pcD),.str (phS q.2.1),di q.2.2.1,di q.2.2.2.1,bD q.2.2.2.2]
theorem ajx(q:Res):MI.clo 0 (rsD q):=uq (cu (nu (K35.a4k _ _)) (cu (g8 _) (cu (dw _) (cu (dw _) (cu (acn _ _) qx)))))
theorem ax2(ps:List Pc){a b c d:D}(ca:MI.clo 0 a)(cb:MI.clo 0 b)(cc:MI.clo 0 c)(cd:MI.clo 0 d):acv 0 (.ok (.tup [.ref 0,a,b,c,d]) [tD ps])=.ok (.tup [.rol (ps.map K35.pcD),a,b,c,d]) []:=by
 refine a8k ?_ (λo ho=>by cases ho)
 refine aak (k:=19) (a4d (a6a (k:=17) (by omega) rfl (K35.a4k 0 ps)) (a4d (a1p ca) (a4d (a1p cb) (a4d (a1p cc) (a4d (a1p cd) rfl))))) ?_
 intro z
 have:=a0v.mp z (.ref 0) bA
 simp only[MI.clo]at this;omega
theorem azp{a b c d e:D}{h:Hd}:MI.a2o [a,b,c,d,e] h=.ok (.tup [a,b,c,d,e]) h:=by unfold MI.a2o;rw[aR (fu (by simp))]
theorem azq{G:List D->Hd->R D}(e1:f1 τ h=.ok a h)(e2:f2 τ h=.ok b h)(e3:f3 τ h=.ok c h)(e4:f4 τ h=.ok d h)(e5:f5 τ h=.ok e h)(eg:G [a,b,c,d,e] h=.ok v h):sA G (ao f1 (ao f2 (ao f3 (ao f4 (ao f5 bw))))) τ h=.ok v h :=
 PAP.aof (cns e1 (cns e2 (cns e3 (cns e4 (cns e5 (show bw τ h=.ok [] h from rfl)))))) eg
theorem ajy(h:T.Ok)(hx:∀c∈x,c∈T.tg)(xl:x.length<=1000)(f:Bool):Pu STM.jf 4 [T.d,.rol (hpD T),sD x,.bl f] (rsD (rn T x f (x.length+1) 0 [])):=by
 have ah:∀{s:Nat},s<=x.length->∀hh:Hd,gq false 4 STM.ju [T.d,.rol (hpD T),sD x,di s] hh=.ok (alD (al T 0 none s (x.drop s))) hh:=λhs hh=>aay h hx xl hs hh
 let RES:=rn T x f (x.length+1) 0 []
 have main:∃(q:Res),q=RES/\STM.jf [T.d,.rol (hpD T),sD x,.bl f] []=.ok (.tup [.ref 0,.str (phS q.2.1),di q.2.2.1,di q.2.2.2.1,bD q.2.2.2.2]) [tD q.1]:=by
  have wb:=ait (c:=STM.a2a STM.ju) (f:=STM.a2b STM.ju)
   (λm τ hh=>∃(s:Nat) (acc:List Pc) (g:Bool) (b:Bst) (r n:Nat),τ=[some T.d,some (.rol (hpD T)),some (sD x),some (.bl f),some (.ref 0),some (di s),some (.bl g),some (bD b),some (di r)]/\hh=[tD acc]/\al T 0 none s (x.drop s)=(g,b,r)/\rn T x f n s acc=RES/\x.length+1<=n+s/\s<=x.length/\acc.length<=s/\m=x.length-s)
   (λτ hh=>∃(s:Nat) (acc:List Pc) (g:Bool) (b:Bst) (r n:Nat),τ=[some T.d,some (.rol (hpD T)),some (sD x),some (.bl f),some (.ref 0),some (di s),some (.bl g),some (bD b),some (di r)]/\hh=[tD acc]/\al T 0 none s (x.drop s)=(g,b,r)/\rn T x f (n+1) s acc=RES/\¬ (s<x.length/\(g=true\/f=true)))
   (λd hh=>∃(acc:List Pc) (s:Nat),RES=(acc,.st,s,0,none)/\d=.tup [.ref 0,.str "stopped",di s,di 0,.non]/\hh=[tD acc])
   ?_ x.length 100000 [some T.d,some (.rol (hpD T)),some (sD x),some (.bl f),some (.ref 0),some (di 0),some (.bl (al T 0 none 0 (x.drop 0)).1),some (bD (al T 0 none 0 (x.drop 0)).2.1),some (di (al T 0 none 0 (x.drop 0)).2.2)] [tD []] (by omega)
   ⟨0,[],_,_,_,x.length+1,rfl,rfl,rfl,rfl,by omega,by omega,by simp,rfl⟩
  ·have pre:∀r:R D,(∀z,sWh (STM.a2a STM.ju) (STM.a2b STM.ju) 100000 [some T.d,some (.rol (hpD T)),some (sD x),some (.bl f),some (.ref 0),some (di 0),some (.bl (al T 0 none 0 (x.drop 0)).1),some (bD (al T 0 none 0 (x.drop 0)).2.1),some (di (al T 0 none 0 (x.drop 0)).2.2)] [tD []]=z->toR (MI.thn z (du (sIf (a4m (sV 3)) (sy (sA a2o (ao (sV 4) (ao (sC (.str "closed")) (ao (sV 5) (ao (sI 0) (ao (sC .non) bw))))))) sNx) (sy (sA a2o (ao (sV 4) (ao (sC (.str "open")) (ao (sV 5) (ao (sV 8) (ao (sV 7) bw)))))))))=r)->STM.jf [T.d,.rol (hpD T),sD x,.bl f] []=r:=λr hr=>by
    unfold STM.jf;rw[dm];show toR (STM.a6r STM.ju [some T.d,some (.rol (hpD T)),some (sD x),some (.bl f),none,none,none,none,none] [])=_;unfold STM.a6r;refine etr (qp (d:=.ref 0) (h1:=[tD []]) rfl) ?_;refine etr (qp ckk) ?_;refine etr (mq (a7o (EVX.asa (bf rfl) (bf rfl) (bf rfl) (bf rfl) (ah (s:=0) (by omega) _)) rfl)) ?_
    rw[yw];exact hr _ rfl
   rcases wb with⟨τ',h',e,s,acc,g,b,r,n,rfl,rfl,ea,er,nc⟩|⟨d,h',e,acc,s,er,rfl,rfl⟩
   ·refine⟨RES,rfl,pre _ λz hz=>?_⟩;rw[<-hz,e,zr]
    cases f with
    |true =>
     have:¬ s<x.length:=λz=>nc ⟨z,.inr rfl⟩
     rw[<-er,ajq this];refine aw (aN toR (a6c (ifr (zc (bf rfl) (qm _)) (azq (bf rfl) ckk (bf rfl) ckk ckk azp)))) rfl
    |false =>
     have gf:g=false:=by
      cases g with
      |false=>rfl
      |true =>
       have:¬ s<x.length:=λz=>nc ⟨z,.inl rfl⟩
       rw[bS (by omega)]at ea;cases ea
     subst gf;rw[<-er,a8u ea];refine eti (zc (bf rfl) (qm _)) ?_;exact aw (aN toR (ud (azq (bf rfl) ckk (bf rfl) (bf rfl) (bf rfl) azp))) rfl
   ·refine⟨(acc,.st,s,0,none),er.symm,pre _ λz hz=>?_⟩;rw[<-hz,e];rfl
  ·rintro m τ hh ⟨s,acc,g,b,r,n,rfl,rfl,ea,er,hn,hs,al',rfl⟩
   cases n with
   |zero=>omega
   |succ n =>
    unfold STM.a2a;have ls:∀{τ:Sd} {hh:Hd},τ[2]? = some (some (sD x))->sA vh (ao (sV 2) bw) τ hh=.ok (di x.length) hh:=λh2=>a09 (bf h2) (a7n (fu (by omega)))
    by_cases lt:s<x.length
    ·by_cases gf:g=true\/f=true
     ·refine .inr ⟨[tD acc],aez (t2s (bf rfl) (ls rfl) (akg (by omega))) ?_,?_⟩
      ·rcases gf with rfl|rfl
       ·exact orT (zc (bf rfl) (qm _))
       ·cases g with
        |true=>exact orT (zc (bf rfl) (qm _))
        |false=>exact orF (zc (bf rfl) (qm _)) (zc (bf rfl) (qm _))
      ·unfold STM.a2b
       cases b with
       |none =>
        refine .inr ⟨_,_,a6c (ifr (tvc rfl rfl) (azq (bf rfl) ckk (bf rfl) ckk ckk azp)),acc,s,?_,rfl,rfl⟩;rw[<-er];exact a8t lt ea gf
       |some q =>
        obtain⟨k,z⟩:=q;obtain⟨z1,z2⟩:=adw ea hs;refine .inl ⟨[some T.d,some (.rol (hpD T)),some (sD x),some (.bl f),some (.ref 0),some (di z),some (.bl (al T 0 none z (x.drop z)).1),some (bD (al T 0 none z (x.drop z)).2.1),some (di (al T 0 none z (x.drop z)).2.2)],[tD (acc++[(k,s,z)])],x.length-z,?_,by omega,z,acc++[(k,s,z)],_,_,_,n,rfl,rfl,rfl,by rw[<-er];exact(a79 lt ea gf).symm,by omega,z2,by simp;omega,rfl⟩
        refine aw (ifN (tvc rfl rfl)) ?_;refine aw (mq (a1u (bf rfl) rfl (arg1 (akf (a1n rfl (a5q (j:=0) rfl)) (bf rfl) (a1n rfl (a5q (j:=1) rfl)) as8)) (a3r (xs:=acc.map K35.pcD) rfl (by rw[ay];exact a2x (by omega))))) ?_
        refine aw (qp (a1n rfl (a5q (j:=1) rfl))) ?_;refine aw (a7o (EVX.asa (bf rfl) (bf rfl) (bf rfl) (bf rfl) (ah z2 _)) rfl) ?_;show Fl.nx _ [.lst (acc.map K35.pcD++[K35.pcD (k,s,z)])]=Fl.nx _ [.lst ((acc++[(k,s,z)]).map K35.pcD)];rw[bt];rfl
     ·have g0:g=false:=by cases g<;>simp_all
      have f0:f=false:=by cases f<;>simp_all
      subst g0 f0;exact .inl ⟨_,aez (t2s (bf rfl) (ls rfl) (akg (by omega))) (orF (zc (bf rfl) (qm _)) (zc (bf rfl) (qm _))),s,acc,_,b,r,n,rfl,rfl,ea,er,λz=>gf z.2⟩
    ·exact .inl ⟨_,amg (t2s (bf rfl) (ls rfl) (ao2 (by omega))),s,acc,g,b,r,n,rfl,rfl,ea,er,λz=>lt z.1⟩
 obtain⟨q,rfl,e⟩:=main;exact Pu.of rfl (ax1 Table.clo (nu (a5o _)) (g8 _) (a0p _)) e (ax2 _ (g8 _) (dw _) (dw _) (acn _ _)) (ajx _)
end
end STM
namespace STM
open L2 MI AT HND K23 K21
open RCH
open K22 hiding hp
theorem nn3(a b c:Int)(h:Hd):hNe (.tup [.int a,.int b,.int c]) (.tup [.int a,.int b,.int c]) h=.ok (.bl false) h:=by
 unfold hNe;rw[aR ⟨rfl,rfl⟩];simp[eqD,a8g]
theorem amw{α β:Type}(f:α×α->β)(l:List α):(l.zip l).map f=l.map λx=>f (x,x):=by
 induction l with
 |nil=>rfl
 |cons a l ih=>rw[List.zip_cons_cons,ba,ba,ih]
def tl(x:List Nat):Bst->List Nat
 |none=>[]
 |some (_,e)=>x.drop e
section
variable{T:Table}{x:List Nat}
theorem V.tl(v:V T x s x.length r b w):w=STM.tl x b:=by
 have:=v.kp
 cases b with
 |none=>exact this
 |some q=>rw[this.2.2,gD];rfl
theorem ajz(y:Str)(h:Hd):a0g [.str y,.ty "str"] h=.ok (.bl true) h:=by simp[a0g,akc,tyD,agl]
theorem ax3(p:Ph)(h:Hd):hNe (.str (phS p)) (.str (phS p)) h=.ok (.bl false) h:=by rw[aqr,dS];rfl
theorem azr(y:List Nat)(h:Hd):hNe (sD y) (sD y) h=.ok (.bl false) h:=by rw[aqr,dS];rfl
end
end STM
namespace STM
open L2 MI AT HND K23 K21
open RCH
open K22 hiding hp
noncomputable def az:SF:=nq TWN.a5e 1
noncomputable def iz:SF:=nq (TWN.a6t STM.ji) 3
noncomputable def jq:SF:=nq (TWN.a6s STM.az STM.iz) 1
abbrev stD(p:Ph)(s f r:Nat)(b:Bst)(w:List Nat):D:=.tup [.str (phS p),di s,di f,di r,bD b,sD w]
theorem a7a(p:Ph)(s f r:Nat)(b:Bst)(w:List Nat):MI.clo 0 (stD p s f r b w):=uq (cu (g8 _) (cu (dw _) (cu (dw _) (cu (dw _) (cu (acn _ _) (cu (g8 _) qx))))))
theorem b0z{a b c d e f:D}{h:Hd}:MI.a2o [a,b,c,d,e,f] h=.ok (.tup [a,b,c,d,e,f]) h:=by unfold MI.a2o;rw[aR (fu (by simp))]
theorem b11{G:List D->Hd->R D}(e1:f1 τ h=.ok a h)(e2:f2 τ h=.ok b h)(e3:f3 τ h=.ok c h)(e4:f4 τ h=.ok d h)(e5:f5 τ h=.ok e h)(e6:f6 τ h=.ok f h)(eg:G [a,b,c,d,e,f] h=.ok v h):sA G (ao f1 (ao f2 (ao f3 (ao f4 (ao f5 (ao f6 bw)))))) τ h=.ok v h :=
 PAP.aof (cns e1 (cns e2 (cns e3 (cns e4 (cns e5 (cns e6 (show bw τ h=.ok [] h from rfl))))))) eg
section
variable{T:Table}{p:Ph}{s f a r:Nat}{b:Bst}{w:List Nat}
theorem zj:Dr STM.az 1 [] (Ob T p s f a r b w) (stD p s f r b w) (Ob T p s f a r b w):=by
 refine Dr.ob rfl a1j ?_ (a7a _ _ _ _ _ _);unfold STM.az;rw[dm];refine aw (aN toR (ud (b11 (zf (bf rfl) (jt rfl rfl)) (zf (bf rfl) (jt rfl rfl)) (zf (bf rfl) (jt rfl rfl)) (zf (bf rfl) (jt rfl rfl)) (zf (bf rfl) (jt rfl rfl)) (zf (bf rfl) (jt rfl rfl)) b0z))) rfl
theorem asb{fs:List (Str×D)}(e:fo τ h=.ok (.ref i) h)(e3:h[i]? = some (.ins "Stream" fs))(z:fs.length<1000):kF "Stream" k fo y τ h=.nx τ (h.set i (.ins "Stream" (aiy k y fs))):=by
 unfold kF;rw[e];show(match akh "Stream" k y (.ref i) h with|some h2=>Fl.nx τ h2|none=>.no)=_
 rw[show akh "Stream" k y (.ref i) h=some (h.set i (.ins "Stream" (aiy k y fs))) by simp only[akh,e3,z,and_self,dk]]
theorem b37{k:SGs}{ds:List D}{z:Fl}(hl:ds.length=n)(e:k ds τ h=z):a4u n k (.tup ds) τ h=z:=by
 unfold a4u;simp only[hl,dk,e]
theorem asd{g:SG}{ks:SGs}{z:Fl}(e:g d τ h=.nx τ1 h1)(e2:ks ds τ1 h1=z):jm g ks (d::ds) τ h=z:=by
 simp only[jm,e,e2]
theorem adx(h:T.Ok):STM.iz [T.d,stD p s f r b w] []=.ok (.ref 0) [Ob T p s f f r b w]:=by
 unfold STM.iz;rw[dm];show toR (TWN.a6t STM.ji [some T.d,some (stD p s f r b w),none] [])=_;unfold TWN.a6t;refine ets (a09 (bf rfl) (STM.ajv h _)) ?_;refine aw (aN toR (mq (a7o (bf rfl) (b37 rfl (asd (asb (bf rfl) rfl (by show 9<1000;omega)) (asd (asb (bf rfl) rfl (by show 9<1000;omega)) (asd (asb (bf rfl) rfl (by show 9<1000;omega)) (asd (asb (bf rfl) rfl (by show 9<1000;omega)) (asd (asb (bf rfl) rfl (by show 9<1000;omega)) (asd (asb (bf rfl) rfl (by show 9<1000;omega)) rfl))))))))))  ?_
 refine etr (mq (yf (zf (bf rfl) (jt rfl rfl)) (bf rfl) rfl (by show 9<1000;omega))) ?_
 exact aw (aN toR (ud (bf rfl))) rfl
theorem a06(h:T.Ok)(hh:Hd):gq true 2 STM.iz [T.d,stD p s f r b w] hh=.ok (.ref hh.length) (hh++[Ob T p s f f r b w]):=ao1 rfl (K21.aca Table.clo (a7a _ _ _ _ _ _)) (adx h) rfl o7 hh
theorem ak0(h:T.Ok):Nw STM.jq 1 [] (Ob T p s f a r b w) (Ob T p s f a r b w) (Ob T p s f f r b w):=by
 refine Nw.of rfl a1j o7 ?_ o7 o7;unfold STM.jq;rw[dm];refine aw (aN toR (ud (uy (zf (bf rfl) (jt rfl rfl)) (a1k (bf rfl) (jx rfl rfl) rfl (zj 0 _ rfl)) (a06 h _)))) rfl
theorem azs{o t o' t':O}{ds:List D}{i j:Nat}(hn:ds.length+2=n)(cd:∀x∈ds,MI.clo 0 x)(co:vg 0 o)(ct:vg 0 t)(e:F (.ref 0::.ref 1::ds) [o,t]=.ok d [o',t'])(c:MI.clo 0 d)(co':vg 0 o')(ct':vg 0 t')(ij:i≠j)(hi:h[i]? = some o)(hj:h[j]? = some t) :
  gq false n F (.ref i::.ref j::ds) h=.ok d ((h.set i o').set j t'):=by
 obtain⟨p1,_,p3⟩:=a4p cd;have e1:a1m (.ref i::.ref j::ds)=[i,j]:=by
  have:a1m (.ref i::.ref j::ds)=i::j::a1m ds:=rfl
  rw[this,p1]
 have e2:a0s 0 (.ref i::.ref j::ds)=.ref 0::.ref 1::ds:=by
  have:a0s 0 (.ref i::.ref j::ds)=.ref 0::.ref 1::a0s 2 ds:=rfl
  rw[this,p3]
 have z:acv 2 (.ok d [o',t'])=.ok d [o',t']:=p8 (ac3 (aV _) c) (by
  intro u hu
  simp only[List.take,aS,bp,cG]at hu
  rcases hu with rfl|rfl
  ·exact lz (aV _) co'
  ·exact lz (aV _) ct')
 have all:∀x∈(D.ref i::D.ref j::ds),MI.clo 0 x\/isRef x:=λx hx=>by
  rcases aS.mp hx with rfl|hx
  ·exact .inr ⟨i,rfl⟩
  ·rcases aS.mp hx with rfl|hx
   ·exact .inr ⟨j,rfl⟩
   ·exact .inl (cd x hx)
 have two:∀{a b:O},vg 0 a->vg 0 b->∀u∈[a,b],vg 0 u:=λha hb u hu=>by
  simp only[aS,bp,cG]at hu
  rcases hu with rfl|rfl<;>assumption
 unfold gq;rw[aR (by simpa using hn)]
 unfold anx;rw[e1];simp only[a0r,hi,hj,dA,fB];rw[aR ⟨by simp[ij],all,two co ct⟩,e2,e,show([o,t]:Hd).length=2 from rfl,z]
 simp[c,co',ct',xq]
end
end STM
namespace CAS
open L2 MI AT HND EVX SRC
noncomputable def kh:SF:=nq (CAS.a8n ak) 8
theorem agg{ks:List Int}(P:Src o N)(hN:N<=999999000)(l:ks.length<=100) :
  ∃(u:O) (k:Int),CAS.a0a ak [some (.ref 0),some t,some n,some (.ref 1),x,y,none,none] [o,.lst (ks.map D.int)]=.nx [some (.ref 0),some t,some n,some (.ref 1),x,y,none,none] [u,.lst ((ks++[k]).map D.int)]/\Src u (N+2)/\KOk k:=by
 obtain⟨a,o1,e1,a0,a1,P1⟩:=nj (m:=3) P (by omega) (by omega) (by omega)
 obtain⟨b,o2,e2,b0,b1,P2⟩:=nj (m:=6) P1 (by omega) (by omega) (by omega)
 have c1:gq false 2 ak [.ref 0,.int 3] [o,.lst (ks.map D.int)]=.ok (.int a) [o1,.lst (ks.map D.int)]:=e1 0 _ rfl;have c2:gq false 2 ak [.ref 0,.int 6] [o1,.lst (ks.map D.int)]=.ok (.int b) [o2,.lst (ks.map D.int)]:=e2 0 _ rfl;unfold CAS.a0a
 by_cases ha:a=0
 ·refine⟨o2,b,?_,P2,by omega⟩
  rw[bt];exact a1u (bf rfl) rfl (arg1 (awj (t2s (uy (bf rfl) ckk c1) ckk (a6d ha)) (uy (bf rfl) ckk c2))) (a3r (xs:=ks.map D.int) rfl (by rw[ay];exact a2x (by omega)))
 ·refine⟨o1,-1,?_,P1.up (by omega),by decide⟩
  rw[bt];exact a1u (bf rfl) rfl (arg1 (ar5 (t2s (uy (bf rfl) ckk c1) ckk (a6e ha)) (zf ckk (a8m _)))) (a3r (xs:=ks.map D.int) rfl (by rw[ay];exact a2x (by omega)))
theorem ak1{tg:List Nat}(P:Src o N)(hN:N<=999990000)(t6:tg.length<=6)(n1:1<=n)(n32:n<=32) :
  ∃(ks:List Int) (rows:List (List Nat)) (o':O),ks.length=n/\ks[0]? = some (-1)/\(∀k∈ks,KOk k)/\rows.length=n/\(∀r∈rows,acy tg.length n r) /\
   Dr CAS.kh 3 [.str (S tg),di n] o (.tup [.rol (rows.map a2m),.rol (ks.map D.int)]) o'/\Src o' (N+300) :=
 aj9 (L0:=CAS.a0a ak) (λx P h l=>CAS.agg P h l) P hN t6 n1 n32
noncomputable def sr:SF:=nq CAS.a6f 7
abbrev τM(tg:List Nat)(rows:List (List Nat))(ks:List Int)(m:D)(i:Nat)(t5 t6:Option D):Sd:=[some (.str (S tg)),some (.rol (rows.map a2m)),some (.rol (ks.map D.int)),some m,some (di i),t5,t6]
section
variable{n:Nat}{tg:List Nat}{rows:List (List Nat)}{ks:List Int}
theorem amx{i:Nat}{met row:List Nat}(n32:n<=32)(M:MetQ rows n met)(rx:∀x∈row,x<n)(rq:∀x∈row,PN.Rch rows x) :
  ∃(met':List Nat) (t5':Option D),forL (λ_=>True) (kN 5) CAS.a1v (row.map di) (τM tg rows ks (.ref 0) i t5 none) [.lst (met.map di)]=.nx (τM tg rows ks (.ref 0) i t5' none) [.lst (met'.map di)]/\MetQ rows n met'/\(∃add,met'=met++add)/\∀x∈row,x∈met':=by
 have lp:=uc (g:=kN 5) (b:=CAS.a1v) di
  (λpre τ h=>∃(met':List Nat) (t5:Option D),τ=τM tg rows ks (.ref 0) i t5 none/\h=[.lst (met'.map di)]/\MetQ rows n met'/\(∃add,met'=met++add)/\∀x∈pre,x∈met')
  row (τM tg rows ks (.ref 0) i t5 none) [.lst (met.map di)] ?_ ⟨met,t5,rfl,rfl,M,⟨[],by simp⟩,by simp⟩
 ·obtain⟨τ',h',e,met',t5',rfl,rfl,M',ad,al⟩:=lp;exact⟨met',t5',e,M',ad,al⟩
 ·rintro pre x post τ h all ⟨met',t5,rfl,rfl,M',⟨add,rfl⟩,al⟩
  have hx:x<n:=rx x (by rw[all];simp)
  have hq:PN.Rch rows x:=rq x (by rw[all];simp)
  unfold CAS.a1v
  by_cases h:x∈met++add
  ·refine⟨_,_,rfl,τM tg rows ks (.ref 0) i (some (di x)) none,[.lst ((met++add).map di)],?_,met++add,_,rfl,rfl,M',⟨add,rfl⟩,λy hy=>?_⟩
   ·refine aw (ifF (t2s (bf rfl) (bf rfl) ((af5 (l:=met++add) rfl).trans (by rw[cU h];rfl)))) rfl
   ·rcases aY.mp hy with z|z
    ·exact al y z
    ·rw[av]at z;subst z;exact h
  ·refine⟨_,_,rfl,τM tg rows ks (.ref 0) i (some (di x)) none,[.lst ((met++add++[x]).map di)],?_,met++add++[x],_,rfl,rfl,M'.add hx hq h,⟨add++[x],by simp⟩,λy hy=>?_⟩
   ·have ln:=M'.len;refine aw (ifT (t2s (bf rfl) (bf rfl) ((af5 (l:=met++add) rfl).trans (by rw[bJ h];rfl)))) ?_
    rw[bt (l₁:=met++add)];exact a1u (bf rfl) rfl (arg1 (bf rfl)) (a3r (xs:=(met++add).map di) rfl (by rw[ay];exact a2x (by omega)))
   ·rcases aY.mp hy with z|z
    ·exact cD _ (al y z)
    ·rw[av]at z;subst z;simp
theorem art{s:Nat}(n1:1<=n)(n32:n<=32)(lr:rows.length=n)(rr:∀r∈rows,acy s n r) :
  ∃(met:List Nat) (i:Nat) (t5:Option D),sWh CAS.a4h CAS.a1w 100000 (τM tg rows ks (.ref 0) 0 none none) [.lst ([0].map di)]=.nx (τM tg rows ks (.ref 0) i t5 none) [.lst (met.map di)]/\MetQ rows n met/\∀r∈met,∀x∈(rows[r]?).getD [],x∈met:=by
 have w:=ait (c:=CAS.a4h) (f:=CAS.a1w)
  (λm τ h=>∃(met:List Nat) (i:Nat) (t5:Option D),τ=τM tg rows ks (.ref 0) i t5 none/\h=[.lst (met.map di)]/\m=32-i/\i<=met.length/\MetQ rows n met/\Done rows met i)
  (λτ h=>∃(met:List Nat) (i:Nat) (t5:Option D),τ=τM tg rows ks (.ref 0) i t5 none/\h=[.lst (met.map di)]/\MetQ rows n met/\Done rows met met.length)
  (λ_ _=>False) ?_ 32 100000 (τM tg rows ks (.ref 0) 0 none none) [.lst ([0].map di)] (by omega)
  ⟨[0],0,none,rfl,rfl,rfl,by simp,⟨⟨by simp,by simp;omega,by simp⟩,λx hx=>by rw[av]at hx;subst hx;exact PN.Rch.zero rows⟩,λj hj=>absurd hj (Nat.not_lt_zero j)⟩
 ·rcases w with⟨τ',h',e,met,i,t5,rfl,rfl,M,D⟩|⟨_,_,_,z⟩
  ·refine⟨met,i,t5,e,M,λr hr x hx=>?_⟩;obtain⟨j,hj,rfl⟩:=List.getElem_of_mem hr;exact D j hj _ (af hj) x hx
  ·exact z.elim
 ·rintro m τ h ⟨met,i,t5,rfl,rfl,rfl,il,M,D⟩
  have ln:=M.len;have lm:∀h:Hd,h[0]? = some (.lst (met.map di))->vh [.ref 0] h=.ok (di met.length) h:=λh e=>by rw[a4g e,ay]
  by_cases lt:i<met.length
  ·refine .inr ⟨_,t2s (bf rfl) (a09 (bf rfl) (lm _ rfl)) (akg (by omega)),.inl ?_⟩
   have rl:met[i]<n:=M.lt _ (bG lt);have gm:met[i]? = some met[i]:=af lt
   generalize met[i]=r at rl gm
   have gr:rows[r]? = some ((rows[r]?).getD []):=by rw[af (by omega)];rfl
   have rn:=rr _ (aQ gr);obtain⟨met',t5',e,M',⟨add,ea⟩,al⟩:=amx (i:=i) (t5:=t5) (tg:=tg) (rows:=rows) (ks:=ks) n32 M rn.2 (λx hx=>(M.q r (aQ gm)).step hx);refine⟨τM tg rows ks (.ref 0) (i+1) t5' none,[.lst (met'.map di)],32-(i+1),?_,by omega,met',i+1,t5',rfl,rfl,rfl,by rw[ea,ai];omega,M',λj hj q hq x hx=>?_⟩
   ·unfold CAS.a1w;refine aw (a4x (a93 (u6 (bf rfl) (u6 (bf rfl) (bf rfl) (a3s (xs:=met.map di) rfl (y:=di r) (by rw[aP,gm];rfl))) (as7 (y:=a2m ((rows[r]?).getD [])) (by rw[aP,gr];rfl))) rfl)) ?_
    refine aw (aN (λz=>MI.thn z _) e) ?_;rw[zr];exact aix rfl ckk a2e
   ·by_cases je:j=i
    ·subst je;rw[ea,aM lt,gm]at hq;cases hq
     exact al x hx
    ·have jl:j<met.length:=by omega
     rw[ea,aM jl]at hq;rw[ea];exact cD _ (D j (by omega) q hq x hx)
  ·refine .inl ⟨_,t2s (bf rfl) (a09 (bf rfl) (lm _ rfl)) (ao2 (by omega)),met,i,t5,rfl,rfl,M,?_⟩
   rw[show met.length=i by omega];exact D
end
section
variable{n:Nat}{tg:List Nat}{rows:List (List Nat)}{ks:List Int}
theorem aru(n32:n<=32)(lr:rows.length=n)(lk:ks.length=n)(t6:tg.length<=6)(rr:∀r∈rows,acy tg.length n r)(M:Met n met)(cl:∀r∈met,∀x∈(rows[r]?).getD [],x∈met) :
  ∃m:List Nat,m.Perm met/\m.Pairwise (·<=·)/\∃h:Hd,toR (du (kj 3 (sA a5m (ao (sV 3) bw)))
   (du (kj 6 (sA yg (ao (sZ (p6 (sIt (sV 3)) t1 CAS.a1x [1,3])) bw)))
   (sy (sA a2o (ao (sV 0) (ao (sV 6) (ao (sA yg (ao (sZ (p6 (sIt (sV 3)) t1 CAS.a1y [2])) bw)) bw)))))) (τM tg rows ks (.ref 0) i t5 none) [.lst (met.map di)])=.ok (.tup [.str (S tg),.tup ((aax rows m).map ab4),.tup ((a9p ks m).map D.int)]) h:=by
 obtain⟨m,em,pm,sm⟩:=agd met;have ln:=M.len;have lm:m.length=met.length:=pm.length_eq
 let H:Hd:=[.lst (met.map di),.lst (m.map di)]
 have hc:∀o∈H,vg H.length o:=by
  intro o ho
  simp only[H,aS,bp,cG]at ho
  rcases ho with rfl|rfl
  ·exact lz (aV _) (qt _)
  ·exact lz (aV _) (qt _)
 have so:a5m [.ref 0] [.lst (met.map di)]=.ok (.ref 1) H:=by
  exact ajd (l:=met) rfl (by omega) em
 have rw':∀r∈m,rows[r]? = some ((rows[r]?).getD [])/\acy tg.length n ((rows[r]?).getD [])/\∀x∈(rows[r]?).getD [],x∈m:=λr hr=>by
  have h1:=M.lt r (pm.mem_iff.mp hr);have e:rows[r]? = some ((rows[r]?).getD []):=by rw[af (by omega)];rfl
  exact⟨e,rr _ (aQ e),λx hx=>pm.mem_iff.mpr (cl r (pm.mem_iff.mp hr) x hx)⟩
 have z1:sZ (p6 (sIt (sV 3)) t1 CAS.a1x [1,3]) (τM tg rows ks (.ref 1) i t5 none) H=.ok (.rol ((aax rows m).map ab4)) H:=by
  rw[cF];refine a4e (amm (ck:=λh=>h[1]? = some (.lst (m.map di))) di (ab4 ∘ λr=>((rows[r]?).getD []).map (pos m)) m rfl (a93 (bf rfl) rfl) (fu (by omega)) λr hr=>?_) (fj λx _=>uq (qt _)) hc
  obtain⟨e1,⟨e2,_⟩,e3⟩:=rw' r hr;rw[xj];unfold CAS.a1x;have z2:sZ (p6 (sIt (s2 gIx (sV 1) (sV 0))) t1 CAS.a4i [2]) (some (di r)::frs' [1,3] (τM tg rows ks (.ref 1) i t5 none)) H=.ok (.rol ((((rows[r]?).getD []).map (pos m)).map di)) H:=by
   rw[cF];refine a4e (vq di (di ∘ pos m) ((rows[r]?).getD []) (a93 (u6 (bf rfl) (bf rfl) (as7 (y:=a2m ((rows[r]?).getD [])) (by rw[aP,e1];rfl))) rfl) (fu (by omega)) λx hx=>?_) (fj λx _=>dw _) hc
   rw[xj];unfold CAS.a4i;exact azb (bf rfl) rfl (arg1 (bf rfl)) (aje rfl (e3 x hx))
  exact a09 z2 rfl
 have z3:∀t6:Option D,sZ (p6 (sIt (sV 3)) t1 CAS.a1y [2]) (τM tg rows ks (.ref 1) i t5 t6) H=.ok (.rol ((a9p ks m).map D.int)) H:=λt6=>by
  rw[cF];refine a4e (amm (ck:=λh=>h[1]? = some (.lst (m.map di))) di (D.int ∘ λr=>(ks[r]?).getD 0) m rfl (a93 (bf rfl) rfl) (fu (by omega)) λr hr=>?_) (fj λx _=>dw _) hc
  have h1:=M.lt r (pm.mem_iff.mp hr);have e:ks[r]? = some ((ks[r]?).getD 0):=by rw[af (by omega)];rfl
  rw[xj];unfold CAS.a1y;exact u6 (bf rfl) (bf rfl) (as7 (by rw[aP,e];rfl))
 refine⟨m,pm,sm,H,?_⟩;refine ets (a09 (bf rfl) so) ?_;refine ets (a09 z1 (show yg [.rol ((aax rows m).map ab4)] H=.ok (.tup ((aax rows m).map ab4)) H from rfl)) ?_
 exact aN toR (ud (akf (bf rfl) (bf rfl) (a09 (z3 _) (show yg [.rol ((a9p ks m).map D.int)] H=.ok (.tup ((a9p ks m).map D.int)) H from rfl)) as8))
theorem ax4(T1:Tongue tg)(hn1:1<=n)(hn2:n<=32)(lr:rows.length=n)(lk:ks.length=n)(rr:∀r∈rows,acy tg.length n r)(k0:ks[0]? = some (-1))(kk:∀k∈ks,KOk k) :
  ∃T:Table,T.Ok/\T.tg=tg/\(∀r,r<T.go.length->PN.Rch T.go r)/\Pu CAS.sr 3 [.str (S tg),.rol (rows.map a2m),.rol (ks.map D.int)] T.d:=by
 obtain⟨met,i,t5,ew,M,cl⟩:=CAS.art (tg:=tg) (ks:=ks) hn1 hn2 lr rr;obtain⟨m,pm,sm,H,ee⟩:=CAS.aru (i:=i) (t5:=t5) hn2 lr lk T1.hi rr M.toMet cl;have lm:m.length=met.length:=pm.length_eq;have ln:=M.len;have zm:0∈m:=pm.mem_iff.mpr M.z;have m0:m[0]? = some 0:=by
  cases m with
  |nil=>cases zm
  |cons a l =>
   rcases aS.mp zm with q|q
   ·rw[<-q];rfl
   ·have:=(List.pairwise_cons.mp sm).1 0 q
    rw[show a=0 by omega];rfl
 let T:Table:=⟨tg,aax rows m,a9p ks m⟩
 have ml:1<=m.length:=by cases m with|nil=>cases zm|cons _ _=>simp
 have ok:T.Ok:=by
  refine⟨T1,by simpa[T] using ml,by show(aax rows m).length<=32;rw[ay];omega,λr hr=>?_,by simp[T],?_,λk hk=>?_⟩
  ·obtain⟨q,hq,rfl⟩:=bU.mp hr;have h1:=M.lt q (pm.mem_iff.mp hq);have e:rows[q]? = some ((rows[q]?).getD []):=by rw[af (by omega)];rfl
   obtain⟨a,b⟩:=rr _ (aQ e);refine⟨by rw[ay];exact a,λx hx=>?_⟩
   obtain⟨v,hv,rfl⟩:=bU.mp hx;show pos m v<(aax rows m).length;rw[ay];exact(ajc (pm.mem_iff.mpr (cl q (pm.mem_iff.mp hq) v hv))).2
  ·show(a9p ks m)[0]? = _;rw[aP,m0];show some ((ks[0]?).getD 0)=_;rw[k0];rfl
  ·obtain⟨q,hq,rfl⟩:=bU.mp hk;have h1:=M.lt q (pm.mem_iff.mp hq);have e:ks[q]? = some ((ks[q]?).getD 0):=by rw[af (by omega)];rfl
   exact kk _ (aQ e)
 have ca:∀d∈[.str (S tg),.rol (rows.map a2m),.rol (ks.map D.int)],MI.clo 0 d:=by
  intro d hd
  simp only[aS,bp,cG]at hd
  rcases hd with rfl|rfl|rfl
  ·exact g8 _
  ·exact nu (fj λx _=>nu (qt _))
  ·exact nu (fj λx _=>dw x)
 refine⟨T,ok,rfl,PN.arl (pm.nodup_iff.mpr M.nd) m0 (λr hr x hx=>pm.mem_iff.mpr (cl r (pm.mem_iff.mp hr) x hx)) (λr hr=>M.q r (pm.mem_iff.mp hr)),Pu.of rfl ca (r:=.ok T.d H) ?_ (p8 Table.clo (by intro x hx;cases hx)) Table.clo⟩
 unfold CAS.sr;rw[dm];show toR (CAS.a6f [some (.str (S tg)),some (.rol (rows.map a2m)),some (.rol (ks.map D.int)),none,none,none,none] [])=_;unfold CAS.a6f;refine etr (qp (d:=.ref 0) (h1:=[.lst ([0].map di)]) rfl) ?_;refine etr (qp ckk) ?_;refine etr (mq ew) ?_;exact ee
end
end CAS
namespace CAS
open L2 MI AT HND EVX K22 K23 K21 SRC
abbrev sD(l:List Nat):D:=.str (S l)
abbrev rI(r:List Int):O:=.lst (r.map D.int)
def ady:Nat->D
 |0=>.ref 2
 |k+1=>.ref (5+k)
abbrev HG(u:O)(ws:List (List Nat))(r0:List Int)(rs:List (List Int))(ks:List Int):Hd :=
 u::.lst (ws.map sD)::rI r0::.lst ((List.range (rs.length+1)).map ady)::rI ks::rs.map rI
theorem amy(k n:Nat)(h:k<n):MI.clo (n+4) (ady k):=by
 cases k with
 |zero=>show 2<n+4;omega
 |succ k=>show 5+k<n+4;omega
theorem acq{ws:List (List Nat)}{ks:List Int}(P:Src u N):∀o∈HG u ws r0 rs ks,vg (HG u ws r0 rs ks).length o:=by
 have ln:(HG u ws r0 rs ks).length=(rs.length+1)+4:=by simp[HG]
 rw[ln]
 intro o ho
 simp only[HG,aS,bU]at ho
 rcases ho with rfl|rfl|rfl|rfl|rfl|⟨r,_,rfl⟩
 ·exact lz (aV _) P.clo
 ·exact lz (aV _) (fj λx _=>g8 _)
 ·exact lz (aV _) (fj λx _=>dw x)
 ·exact fj λk hk=>amy k _ (bM.mp hk)
 ·exact lz (aV _) (fj λx _=>dw x)
 ·exact lz (aV _) (fj λx _=>dw x)
theorem a8q{ws:List (List Nat)}{ks:List Int}{k:Nat}(e:(r0::rs)[k]? = some r):∃j,ady k=.ref j/\(HG u ws r0 rs ks)[j]? = some (rI r)/\∀r',∃r0' rs',r0'::rs'=(r0::rs).set k r'/\(HG u ws r0 rs ks).set j (rI r')=HG u ws r0' rs' ks:=by
 cases k with
 |zero =>
  cases e
  exact⟨2,rfl,rfl,λr'=>⟨r',rs,rfl,rfl⟩⟩
 |succ k =>
  have e':rs[k]? = some r:=by simpa using e
  refine⟨5+k,rfl,?_,λr'=>⟨r0,rs.set k r',rfl,?_⟩⟩
  ·show(u::O.lst (ws.map sD)::rI r0::O.lst ((List.range (rs.length+1)).map ady)::rI ks::rs.map rI)[5+k]? = _;rw[show 5+k=k+1+1+1+1+1 from gI 5 k]
   simp only[gy,aP,e',fO]
  ·show(u::O.lst (ws.map sD)::rI r0::O.lst ((List.range (rs.length+1)).map ady)::rI ks::rs.map rI).set (5+k) (rI r')=_;rw[show 5+k=k+1+1+1+1+1 from gI 5 k]
   simp only[List.set_cons_succ,HG,cI,fW]
theorem arv{ws:List (List Nat)}{ks:List Int}{k:Nat}(h:k<rs.length+1):gIx (.ref 3) (di k) (HG u ws r0 rs ks)=.ok (ady k) (HG u ws r0 rs ks) :=
 a3s (xs:=(List.range (rs.length+1)).map ady) rfl (by rw[aP,de h];rfl)
structure Gro (tg:List Nat) (rows:List (List Int)) (ks:List Int):Prop where
 rl:∀r∈rows,r.length=tg.length
 rx:∀r∈rows,∀x∈r,x = -1\/(1<=x/\x<(rows.length:Nat))
 lk:ks.length=rows.length
 k0:ks[0]? = some (-1)
 kk:∀k∈ks,KOk k
theorem Gro.set(G:Gro tg rows ks){r:List Int}{x:Int}(e:rows[k]? = some r)(hx:1<=x/\x<(rows.length:Nat)):Gro tg (rows.set k (r.set i x)) ks:=by
 have hr:=aQ e;refine⟨λq hq=>?_,λq hq y hy=>?_,by rw[cI];exact G.lk,G.k0,G.kk⟩
 ·rcases bV hq with z|z
  ·exact G.rl q z
  ·subst z;rw[cI];exact G.rl r hr
 ·rw[cI]
  rcases bV hq with z|z
  ·exact G.rx q z y hy
  ·subst z
   rcases bV hy with w|w
   ·exact G.rx r hr y w
   ·subst w;exact .inr hx
theorem Gro.grow(G:Gro tg rows ks){r:List Int}(e:rows[k]? = some r):Gro tg (rows.set k (r.set i (rows.length:Nat))++[List.replicate tg.length (-1)]) (ks++[-1]):=by
 have hr:=aQ e;have kl:k<rows.length:=(ag.mp e).1;refine⟨λq hq=>?_,λq hq y hy=>?_,by simp[G.lk],?_,λq hq=>?_⟩
 ·rcases aY.mp hq with z|z
  ·rcases bV z with z|z
   ·exact G.rl q z
   ·subst z;rw[cI];exact G.rl r hr
  ·rw[av]at z;subst z;simp
 ·have ln:(rows.set k (r.set i (rows.length:Nat))++[List.replicate tg.length (-1)]).length=rows.length+1:=by simp
  rw[ln];have up:∀y:Int,(y = -1\/(1<=y/\y<(rows.length:Nat)))->(y = -1\/(1<=y/\y<((rows.length+1:Nat):Int))):=λy h=>by omega
  rcases aY.mp hq with z|z
  ·rcases bV z with z|z
   ·exact up y (G.rx q z y hy)
   ·subst z
    rcases bV hy with w|w
    ·exact up y (G.rx r hr y w)
    ·subst w;omega
  ·rw[av]at z;subst z;exact .inl (eJ hy)
 ·have:0<ks.length:=by rw[G.lk];omega
  rw[aM this];exact G.k0
 ·rcases aY.mp hq with z|z
  ·exact G.kk q z
  ·rw[av]at z;subst z;decide
abbrev τG(tg:List Nat)(a5 a6 a7 a8 a9:Option D):Sd:=[some (.ref 0),some (sD tg),some (.ref 1),some (.ref 3),some (.ref 4),a5,a6,a7,a8,a9,none]
abbrev ps(tg:List Nat)(c:Nat):Nat:=psn ⟨tg,[],[]⟩ c
theorem int_at{r:List Int}(e:h[j]? = some (rI r))(ex:r[i]? = some x):gIx (.ref j) (di i) h=.ok (.int x) h:=a3s e (by rw[aP,ex];rfl)
theorem a7b{ws:List (List Nat)}{ks:List Int}{τ:Sd}(h3:τ[3]? = some (some (.ref 3)))(h7:τ[7]? = some (some (di k)))(h9:τ[9]? = some (some (di i)))(e:(r0::rs)[k]? = some r)(ex:r[i]? = some x):s2 gIx (s2 gIx (sV 3) (sV 7)) (sV 9) τ (HG u ws r0 rs ks)=.ok (.int x) (HG u ws r0 rs ks):=by
 obtain⟨j,ej,ea,_⟩:=a8q (u:=u) (ws:=ws) (ks:=ks) e;have hk:k<rs.length+1:=by simpa using (ag.mp e).1
 exact u6 (u6 (bf h3) (bf h7) ((arv hk).trans (by rw[ej]))) (bf h9) (int_at ea ex)
theorem ak2{tg:List Nat}{ws:List (List Nat)}{ks:List Int}(G:Gro tg (r0::rs) ks)(t6:tg.length<=6)(hk:k<rs.length+1)(hc:c∈tg)(rl:rs.length<=100) :
  ∃(r0':List Int) (rs':List (List Int)) (ks':List Int) (k':Nat) (a9':Option D),CAS.v9 ak (τG tg a5 a6 (some (di k)) (some (sD [c])) a9) (HG u ws r0 rs ks)=.nx (τG tg a5 a6 (some (di k')) (some (sD [c])) a9') (HG u ws r0' rs' ks')/\Gro tg (r0'::rs') ks'/\1<=k'/\k'<rs'.length+1/\rs'.length<=rs.length+1:=by
 obtain⟨r,e⟩:∃r,(r0::rs)[k]? = some r:=⟨_,af (by simpa using hk)⟩
 have hr:=aQ e;have lr:=G.rl r hr;have hp:=(aci (T:=⟨tg,[],[]⟩) hc).2;have hf:=aob (T:=⟨tg,[],[]⟩) hc (HG u ws r0 rs ks);obtain⟨x,ex⟩:∃x,r[ps tg c]? = some x:=⟨_,af (by rw[lr];exact hp)⟩
 have xx:=G.rx r hr x (aQ ex);have fnd:sMS adb (sV 1) (ao (sV 8) bw) (τG tg a5 a6 (some (di k)) (some (sD [c])) a9) (HG u ws r0 rs ks)=.ok (di (ps tg c)) (HG u ws r0 rs ks):=axw (bf rfl) (arg1 (bf rfl)) hf;have lg:∀{h:Hd},h[3]? = some (.lst ((List.range (rs.length+1)).map ady))->vh [.ref 3] h=.ok (di (rs.length+1)) h:=λe=>by rw[a4g e,ay,aZ]
 unfold CAS.v9
 by_cases x0:x<0
 ·obtain⟨j,ej,ea,st⟩:=a8q (u:=u) (ws:=ws) (ks:=ks) e;obtain⟨q0,qs,eq,es⟩:=st (r.set (ps tg c) ((rs.length+1:Nat):Int));have ql:qs.length=rs.length:=by simpa using aN List.length eq
  have g2:=G.grow (k:=k) (i:=ps tg c) e;have en:(r0::rs).length=rs.length+1:=aW;rw[en,<-eq,fz]at g2;have nr:(q0::(qs++[List.replicate tg.length (-1)]))[k]? = some (r.set (ps tg c) ((rs.length+1:Nat):Int)):=by
   have:(q0::qs)[k]? = some (r.set (ps tg c) ((rs.length+1:Nat):Int)):=by rw[eq,bC (by simpa using hk)]
   rw[<-fz,aM (by rw[aW,ql];exact hk)]
   exact this
  refine⟨q0,qs++[List.replicate tg.length (-1)],ks++[-1],rs.length+1,some (di (ps tg c)),?_,g2,by omega,by simp[ql],by simp[ql]⟩
  refine aw (qp fnd) ?_;refine aw (mq (τ1:=τG tg a5 a6 (some (di k)) (some (sD [c])) (some (di (ps tg c)))) (h1:=HG u ws q0 (qs++[List.replicate tg.length (-1)]) (ks++[-1])) (aw (ifT (t2s (a7b rfl rfl rfl e ex) ckk (akg x0))) ?_)) (acw (a7b rfl rfl rfl nr (by rw[bC (by rw[lr];exact hp)])))
  refine aw (mq (ag9 (h4:=HG u ws q0 qs ks) (a09 (bf rfl) (lg rfl)) (u6 (bf rfl) (bf rfl) ((arv hk).trans (by rw[ej]))) (bf rfl) ?_)) ?_
  ·rw[amh (xs:=r.map D.int) ea (by rw[ay,lr];exact hp),<-es]
   unfold rI;rw[fW]
  ·have nw:p6 (sIt (sV 1)) t1 (CAS.a2g ak) [] (τG tg a5 a6 (some (di k)) (some (sD [c])) (some (di (ps tg c)))) (HG u ws q0 qs ks)=.ok (.ref (5+rs.length)) (HG u ws q0 qs ks++[rI (List.replicate tg.length (-1))]):=by
    refine(vq (λc:Nat=>D.str (S [c])) (λ_=>D.int (-1)) tg (a93 (bf rfl) (PAP.ao3 tg _)) (fu (by omega)) λc _=>?_).trans ?_
    ·rw[xj];unfold CAS.a2g;exact zf ckk (a8m _)
    ·have ln:(HG u ws q0 qs ks).length=5+rs.length:=by simp[HG,ql];omega
     rw[ln]
     congr 2
     unfold rI;rw[fX,<-List.map_const']
   refine aw (mq (a1u (bf rfl) rfl (arg1 nw) (a3r (xs:=(List.range (qs.length+1)).map ady) rfl (by rw[ay,aZ];exact a2x (by omega))))) ?_
   refine aw (a1u (bf rfl) rfl (arg1 (zf ckk (a8m _))) (a3r (xs:=ks.map D.int) rfl (by rw[ay,G.lk,en];exact a2x (by omega)))) ?_
   congr 1
   show u::.lst (ws.map sD)::rI q0::.lst ((List.range (qs.length+1)).map ady++[.ref (5+rs.length)])::.lst (ks.map D.int++[.int (-1)])::(qs.map rI++[rI (List.replicate tg.length (-1))])=_;unfold HG;rw[ai,aI,fK (n:=qs.length+1),bt,bt,ql];unfold rI;rw[bt];rfl
 ·have x1:1<=x/\x<((rs.length+1:Nat):Int):=by rcases xx with z|z<;>omega
  obtain⟨y,rfl⟩:=aT (show 0<=x by omega)
  refine⟨r0,rs,ks,y,some (di (ps tg c)),?_,G,by omega,by omega,by omega⟩
  refine aw (qp fnd) ?_;refine aw (ifN (t2s (a7b rfl rfl rfl e ex) ckk (ao2 x0))) ?_;exact acw (a7b rfl rfl rfl e ex)
noncomputable abbrev azt:SE:=s2 gIx (sV 2) (sA (gq false 2 ak) (ao (sV 1) (ao (sA vh (ao (sV 2) bw)) bw)))
theorem drawn{tg:List Nat}{τ:Sd}{hs:Hd}{u0 u:O}{ix:List Nat}(P:Src u N)(hN:N<=999990000)(t1':1<=tg.length)(t6:tg.length<=6)(hc:∀u':O,vg 0 u'->∀o∈u'::hs,vg (hs.length+1) o)(hm:fm τ (u0::hs)=.ok (di m) (u::hs))(m3:m<=300)(hf:frs' ix τ=[some (.ref 0),some (sD tg)]) :
  ∃t u',t.length=m/\(∀c∈t,c∈tg)/\Src u' (N+m)/\sMS abu (sC (.str "")) (ao (sZ (p6 (sRg xn (ao fm bw)) t1 azt ix)) bw) τ (u0::hs)=.ok (sD t) (u'::hs):=by
 have mp:=aam (f:=a92 t1 azt (frs' ix τ)) (λi:Nat=>D.int (i:Nat))
  (λpre ys h=>∃(u:O) (t:List Nat),h=u::hs/\Src u (N+pre.length)/\ys=ones t/\t.length=pre.length/\∀c∈t,c∈tg)
  (List.range m) [] [] (u::hs) ?_ ⟨u,[],rfl,P,rfl,rfl,by simp⟩
 ·obtain⟨zs,h',em,u',t,rfl,P5,ez,tl,tt⟩:=mp;rw[cN]at ez tl P5;rw[aZ]at tl P5;subst ez;refine⟨t,u',tl,tt,P5,?_⟩;have cz:sZ (p6 (sRg xn (ao fm bw)) t1 azt ix) τ (u0::hs)=.ok (.rol (ones t)) (u'::hs):=by
   refine b34 rfl ?_ (fj λl _=>g8 _) (hc u' P5.clo);unfold p6 sRg;rw[arg1 hm,dq,a9k _ (fu (by omega)),dq]
   dsimp only;rw[aR (by rw[ay,aZ];exact fu (by omega)),em]
   rfl
  exact axw (z:=S []) ckk (arg1 cz) (ajm (by omega))
 ·rintro pre i post ys h all ⟨u,t,rfl,Pu,rfl,tl,tt⟩
  rw[cN]at all;have hi:pre.length<m:=by
   have:=aN List.length all
   simp at this
   omega
  obtain⟨x,u',e5,x0,x1,P5⟩:=nj (m:=(tg.length:Nat)) Pu (by omega) (by omega) (by omega)
  obtain⟨j,rfl⟩:=aT x0;have hj:j<tg.length:=by omega
  have c5:gq false 2 SRC.ak [.ref 0,.int (tg.length:Nat)] (u::hs)=.ok (.int (j:Nat)) (u'::hs):=e5 0 _ rfl;refine⟨.str (S [tg[j]]),u'::hs,?_,u',t++[tg[j]],rfl,by rw[ai,aI];exact P5,by simp[ones],by rw[ai,ai,tl];rfl,λq hq=>?_⟩
  ·rw[xj,hf];exact u6 (bf rfl) (uy (bf rfl) (a09 (bf rfl) (a7n (fu (by omega)))) c5) (as6 (fu (by omega)) (af hj))
  ·rcases aY.mp hq with h|h
   ·exact tt q h
   ·rw[av]at h;subst h;exact bG hj
theorem ak3{tg w:List Nat}{ws:List (List Nat)}{ks:List Int}(G:Gro tg (r0::rs) ks)(t6:tg.length<=6)(hw:∀c∈w,c∈tg)(w1:1<=w.length)(rl:rs.length+w.length<=100) :
  ∃(r0':List Int) (rs':List (List Int)) (ks':List Int) (k':Nat) (a8' a9':Option D),forL (λ_=>True) (kN 8) (CAS.v9 ak) (w.map λc=>sD [c]) (τG tg a5 a6 (some (di 0)) a8 a9) (HG u ws r0 rs ks)=.nx (τG tg a5 a6 (some (di k')) a8' a9') (HG u ws r0' rs' ks')/\Gro tg (r0'::rs') ks'/\1<=k'/\k'<rs'.length+1/\rs'.length<=rs.length+w.length:=by
 have lp:=uc (g:=kN 8) (b:=CAS.v9 ak) (λc=>sD [c])
  (λpre τ h=>∃(r0':List Int) (rs':List (List Int)) (ks':List Int) (k':Nat) (a8' a9':Option D),τ=τG tg a5 a6 (some (di k')) a8' a9'/\h=HG u ws r0' rs' ks'/\Gro tg (r0'::rs') ks'/\(pre≠[]->1<=k')/\k'<rs'.length+1/\rs'.length<=rs.length+pre.length)
  w (τG tg a5 a6 (some (di 0)) a8 a9) (HG u ws r0 rs ks) ?_ ⟨r0,rs,ks,0,a8,a9,rfl,rfl,G,λz=>absurd rfl z,by omega,by simp⟩
 ·obtain⟨τ',h',e,r0',rs',ks',k',a8',a9',rfl,rfl,G',q1,q2,q3⟩:=lp;exact⟨r0',rs',ks',k',a8',a9',e,G',q1 (by intro z;rw[z]at w1;simp at w1),q2,q3⟩
 ·rintro pre c post τ h all ⟨r1,rs1,ks1,k1,b8,b9,rfl,rfl,G1,q1,q2,q3⟩
  have pl:pre.length<w.length:=by rw[all];simp
  obtain⟨r2,rs2,ks2,k2,b9',e,G2,p1,p2,p3⟩:=ak2 (a5:=a5) (a6:=a6) (a9:=b9) (u:=u) (ws:=ws) G1 t6 q2 (hw c (by rw[all];simp)) (by omega)
  exact⟨_,_,rfl,_,_,e,r2,rs2,ks2,k2,_,_,rfl,rfl,G2,λ_=>p1,p2,by rw[ai,aI];omega⟩
theorem arw{xs:List D}(e:h[i]? = some (.lst xs))(p:xs.all (pur 59)=true):agm true (.ref i) (.rol []) h=.ok (.bl (!xs.isEmpty)) h:=by
 unfold agm;have:a0u (.ref i) h=some xs:=by unfold a0u;simp only[e]
 rw[this];show(if xs.all (pur 59)=true/\([]:List D).all (pur 59)=true then R.ok (D.bl (!a8g xs [])) h else .no)=_
 rw[aR ⟨p,rfl⟩]
 cases xs with
 |nil=>rfl
 |cons a l=>simp[a8g]
theorem azu(c:∀o∈h,vg h.length o):sZ (sA MI.a3z bw) τ h=.ok (.rol []) h:=a4e rfl qx c
theorem Gro.kput(G:Gro tg rows ks)(hk:1<=k)(hv:KOk v):Gro tg rows (ks.set k v):=by
 refine⟨G.rl,G.rx,by rw[cI];exact G.lk,by rw[bK (by omega)];exact G.k0,λq hq=>?_⟩
 rcases bV hq with z|z
 ·exact G.kk q z
 ·subst z;exact hv
def Wok(tg:List Nat)(ws:List (List Nat)):Prop:=∀w∈ws,1<=w.length/\w.length<=6/\∀c∈w,c∈tg
theorem ax5(ws:List (List Nat)):(ws.map sD).all (pur 59)=true:=by
 rw[bZ]
 intro d hd
 obtain⟨w,_,rfl⟩:=bU.mp hd;rfl
theorem ak4{tg:List Nat}{ws:List (List Nat)}{ks:List Int}(P:Src u N)(hN:N<=999980000)(G:Gro tg (r0::rs) ks)(W:Wok tg ws)(t1':1<=tg.length)(t6:tg.length<=6)(rl:rs.length<=50)(wl:ws.length<=50) :
  ∃(u':O) (w:List Nat) (r0':List Int) (rs':List (List Int)) (ks':List Int) (b6 b7 b8 b9:Option D),CAS.a0b ak (τG tg a5 a6 a7 a8 a9) (HG u ws r0 rs ks)=.nx (τG tg a5 b6 b7 b8 b9) (HG u' (ws++[w]) r0' rs' ks')/\Src u' (N+20)/\Wok tg (ws++[w])/\Gro tg (r0'::rs') ks'/\1<=rs'.length/\rs'.length<=rs.length+6:=by
 obtain⟨x,u1,e1,x0,x1,P1⟩:=nj (m:=4) P (by omega) (by omega) (by omega)
 obtain⟨x,rfl⟩:=aT x0;have c1:gq false 2 ak [.ref 0,.int 4] (HG u ws r0 rs ks)=.ok (di x) (HG u1 ws r0 rs ks):=e1 0 _ rfl;have hcl:∀u':O,vg 0 u'->∀o∈HG u' ws r0 rs ks,vg ((HG u' ws r0 rs ks).tail.length+1) o:=λu' hu o ho=>by
  rcases aS.mp ho with z|z
  ·subst z;exact lz (aV _) hu
  ·have:=acq (ws:=ws) (r0:=r0) (rs:=rs) (ks:=ks) P o (bq _ z)
   simpa[HG] using this
 obtain⟨w,u2,wl1,wt,P2,ew⟩:=drawn (tg:=tg) (τ:=τG tg a5 a6 a7 a8 a9) (hs:=(HG u ws r0 rs ks).tail) (u0:=u) (ix:=[0,1]) (fm:=s2 p7 (sI 1) (sA (gq false 2 ak) (ao (sV 0) (ao (sI 4) bw)))) (m:=1+x) P1 (by omega) t1' t6 hcl
  ((u6 ckk (uy (bf rfl) ckk c1) zu).trans (by congr 2)) (by omega) rfl
 obtain⟨w2,u3,w21,w26,wt2,P3,eu⟩:∃(w2:List Nat) (u3:O),1<=w2.length/\w2.length<=6/\(∀c∈w2,c∈tg)/\Src u3 (N+12)/\∀g:SS,du (sIf (a8c (sT (s2 (agm true) (sV 2) (sZ (sA a3z bw)))) (sT (s2 hEq (sA (gq false 2 ak) (ao (sV 0) (ao (sI 2) bw))) (sI 0))))
   (kj 6 (a4y (s2 p7 (s2 gIx (sV 2) (sA (gq false 2 ak) (ao (sV 0) (ao (sA vh (ao (sV 2) bw)) bw)))) (sV 6)) oN (oS (sI 6)))) sNx) g (τG tg a5 (some (sD w)) a7 a8 a9) (HG u2 ws r0 rs ks)=g (τG tg a5 (some (sD w2)) a7 a8 a9) (HG u3 ws r0 rs ks):=by
  have t0:∀{τ:Sd},τ[2]? = some (some (.ref 1))->s2 (agm true) (sV 2) (sZ (sA MI.a3z bw)) τ (HG u2 ws r0 rs ks)=.ok (.bl (!(ws.map sD).isEmpty)) (HG u2 ws r0 rs ks):=λh2=>u6 (bf h2) (azu (acq P2)) (arw rfl (ax5 ws))
  cases hws:ws with
  |nil =>
   subst hws;exact⟨w,u2,by omega,by omega,wt,P2.up (by omega),λg=>ifN (amg (tof (t0 rfl)))⟩
  |cons w0 wr =>
   rw[<-hws];have wp:1<=ws.length:=by rw[hws];simp
   have ne:(!(ws.map sD).isEmpty)=true:=by rw[hws];rfl
   obtain⟨y,u3,e3,y0,y1,P3⟩:=nj (m:=2) P2 (by omega) (by omega) (by omega)
   have c3:gq false 2 ak [.ref 0,.int 2] (HG u2 ws r0 rs ks)=.ok (.int y) (HG u3 ws r0 rs ks):=e3 0 _ rfl
   by_cases hy:y=0
   ·obtain⟨z,u4,e4,z0,z1,P4⟩:=nj (m:=(ws.length:Nat)) P3 (by omega) (by omega) (by omega)
    obtain⟨z,rfl⟩:=aT z0;have c4:gq false 2 ak [.ref 0,di ws.length] (HG u3 ws r0 rs ks)=.ok (di z) (HG u4 ws r0 rs ks):=e4 0 _ rfl;have zl:z<ws.length:=by omega
    obtain⟨v1,v6,vt⟩:=W ws[z] (bG zl);have lw:vh [.ref 1] (HG u3 ws r0 rs ks)=.ok (di ws.length) (HG u3 ws r0 rs ks):=by rw[a4g (xs:=ws.map sD) rfl,ay]
    refine⟨(ws[z]++w).take 6,u4,by rw[bN,ai];omega,by rw[bN];omega,λc hc=>?_,P4.up (by omega),λg=>?_⟩
    ·rcases aY.mp (ei hc) with q|q
     ·exact vt c q
     ·exact wt c q
    ·refine mq (aw (ifT (aez (tof ((t0 rfl).trans (by rw[ne]))) (t2s (uy (bf rfl) ckk c3) ckk (a6d hy)))) (acw ?_))
     exact PAP.aki (u6 (u6 (bf rfl) (uy (bf rfl) (a09 (bf rfl) lw) c4) (a3s (xs:=ws.map sD) rfl (y:=sD ws[z]) (by rw[aP,af zl];rfl))) (bf rfl) (adl (fu (by omega)))) rfl (PAP.aj5 ckk) (av4 6 (fu (by rw[ai];omega)))
   ·refine⟨w,u3,by omega,by omega,wt,P3.up (by omega),λg=>?_⟩
    exact ifN (aez (tof ((t0 rfl).trans (by rw[ne]))) (t2s (uy (bf rfl) ckk c3) ckk (a6e hy)))
 obtain⟨r0',rs',ks',k',a8',a9',e5,G',k1,k2,k3⟩:=ak3 (a5:=a5) (a6:=some (sD w2)) (a8:=a8) (a9:=a9) (u:=u3) (ws:=ws++[w2]) G t6 wt2 w21 (by omega)
 obtain⟨v,u4,e6,v0,v1,P4⟩:=nj (m:=6) P3 (by omega) (by omega) (by omega)
 have c6:gq false 2 ak [.ref 0,.int 6] (HG u3 (ws++[w2]) r0' rs' ks')=.ok (.int v) (HG u4 (ws++[w2]) r0' rs' ks'):=e6 0 _ rfl;have lk:=G'.lk;rw[aW]at lk;refine⟨u4,w2,r0',rs',ks'.set k' v,some (sD w2),some (di k'),a8',a9',?_,P4.up (by omega),λq hq=>?_,G'.kput k1 (by constructor<;>omega),by omega,by omega⟩
 ·unfold CAS.a0b;refine aw (qp ew) ?_;refine aw (eu _) ?_;refine aw (mq (a1u (bf rfl) rfl (arg1 (bf rfl)) (a3r (xs:=ws.map sD) rfl (by rw[ay];exact a2x (by omega))))) ?_
  refine aw (qp ckk) ?_;refine aw (a4x (a93 (bf rfl) (PAP.ao3 w2 _))) ?_;refine aw (aN (λz=>MI.thn z _) (aw (aN (forL (λ_=>True) (kN 8) (CAS.v9 ak) (w2.map λc=>sD [c]) (τG tg a5 (some (sD w2)) (some (di 0)) a8 a9)) (show(_:Hd)=HG u3 (ws++[w2]) r0 rs ks by unfold HG;rw[bt];rfl)) e5)) ?_
  rw[zr];refine ag9 (uy (bf rfl) ckk c6) (bf rfl) (bf rfl) ?_;rw[amh (xs:=ks'.map D.int) rfl (by rw[ay,lk];exact k2)]
  show some _=some _
  congr 1
  unfold HG rI;rw[fW];rfl
 ·rcases aY.mp hq with z|z
  ·exact W q z
  ·rw[av]at z;subst z;exact⟨w21,w26,wt2⟩
end CAS
namespace CAS
open L2 MI AT HND EVX K22 K23 K21 SRC
theorem ak5{tg:List Nat}{ws:List (List Nat)}{ks:List Int}(P:Src u N)(hN:N<=999980000)(G:Gro tg (r0::rs) ks)(t1':1<=tg.length)(t6:tg.length<=6)(r1:1<=rs.length)(rl:rs.length<=50) :
  ∃(u':O) (r0':List Int) (rs':List (List Int)) (b7 b9:Option D),CAS.a0c ak (τG tg a5 a6 a7 a8 a9) (HG u ws r0 rs ks)=.nx (τG tg a5 a6 b7 a8 b9) (HG u' ws r0' rs' ks)/\Src u' (N+3)/\Gro tg (r0'::rs') ks/\rs'.length=rs.length:=by
 obtain⟨k,u1,e1,k0,k1,P1⟩:=nj (m:=((rs.length+1:Nat):Int)) P (by omega) (by omega) (by omega)
 obtain⟨k,rfl⟩:=aT k0;have hk:k<rs.length+1:=by omega
 obtain⟨i,u2,e2,i0,i1,P2⟩:=nj (m:=(tg.length:Nat)) P1 (by omega) (by omega) (by omega)
 obtain⟨i,rfl⟩:=aT i0;obtain⟨z,u3,e3,z0,z1,P3⟩:=nj (m:=((rs.length:Nat):Int)) P2 (by omega) (by omega) (by omega)
 have lg:∀u:O,vh [.ref 3] (HG u ws r0 rs ks)=.ok (di (rs.length+1)) (HG u ws r0 rs ks):=λu=>by rw[a4g (xs:=(List.range (rs.length+1)).map ady) rfl,ay,aZ]
 have c1:gq false 2 ak [.ref 0,di (rs.length+1)] (HG u ws r0 rs ks)=.ok (di k) (HG u1 ws r0 rs ks):=e1 0 _ rfl;have c2:gq false 2 ak [.ref 0,di tg.length] (HG u1 ws r0 rs ks)=.ok (di i) (HG u2 ws r0 rs ks):=e2 0 _ rfl;have c3:gq false 2 ak [.ref 0,.int (((rs.length+1:Nat):Int)-1)] (HG u2 ws r0 rs ks)=.ok (.int z) (HG u3 ws r0 rs ks):=by
  rw[show((rs.length+1:Nat):Int)-1=(rs.length:Nat) by omega];exact e3 0 _ rfl
 obtain⟨r,e⟩:∃r,(r0::rs)[k]? = some r:=⟨_,af (by simpa using hk)⟩
 have lr:=G.rl r (aQ e);obtain⟨x,ex⟩:∃x,r[i]? = some x:=⟨_,af (by rw[lr];omega)⟩
 unfold CAS.a0c
 by_cases x0:x<0
 ·obtain⟨j,ej,ea,st⟩:=a8q (u:=u3) (ws:=ws) (ks:=ks) e;obtain⟨q0,qs,eq,es⟩:=st (r.set i (1+z));have g2:=G.set (k:=k) (i:=i) (x:=1+z) e (by rw[aW];omega)
  rw[<-eq]at g2;refine⟨u3,q0,qs,some (di k),some (di i),?_,P3,g2,by simpa using aN List.length eq⟩
  refine aw (qp (uy (bf rfl) (a09 (bf rfl) (lg u)) c1)) ?_;refine aw (qp (uy (bf rfl) (a09 (bf rfl) (a7n (fu (by omega)))) c2)) ?_
  refine aw (ifT (t2s (a7b rfl rfl rfl e ex) ckk (akg x0))) ?_;refine ag9 (u6 ckk (uy (bf rfl) (u6 (a09 (bf rfl) (lg u2)) ckk (af0 _ _)) c3) zu) (u6 (bf rfl) (bf rfl) ((arv hk).trans (by rw[ej]))) (bf rfl) ?_
  rw[amh (xs:=r.map D.int) ea (by rw[ay,lr];omega),<-es]
  unfold rI;rw[fW]
 ·refine⟨u2,r0,rs,some (di k),some (di i),?_,P2.up (by omega),G,rfl⟩
  refine aw (qp (uy (bf rfl) (a09 (bf rfl) (lg u)) c1)) ?_;refine aw (qp (uy (bf rfl) (a09 (bf rfl) (a7n (fu (by omega)))) c2)) ?_
  exact ifF (t2s (a7b rfl rfl rfl e ex) ckk (ao2 x0))
theorem ax6(e1:f τ h=.ok x h)(e2:g τ h=.ok y h)(l1:a0u x h=some xs)(l2:a0u y h=some ys)(cx:clos h.length (xs++ys))(c:∀o∈h,vg h.length o)(z:xs.length+ys.length<=1000000):sZ (s2 p7 f g) τ h=.ok (.rol (xs++ys)) h :=
 a4e (u6 e1 e2 ((aae l1 l2).trans (aR (fu z)))) cx c
theorem amz(e:f τ h=.ok d h)(cd:MI.clo h.length d)(c:∀o∈h,vg h.length o):sZ (sA MI.a3z (ao f bw)) τ h=.ok (.rol [d]) h :=
 a4e (a09 e (by unfold MI.a3z;rw[aR (fu (by simp))])) (cu cd qx) c
theorem ax7{xs:List D}(e:h[i]? = some (.lst xs)):ahx (.ref i) h=.ok ⟨xs,λh'=>h'[i]? = some (.lst xs)⟩ h:=by unfold ahx;simp only[e]
def cv(n:Nat)(r:List Int):List Nat:=r.map λx=>if 0<=x then x.toNat else n
abbrev rws(r0:List Int)(rs:List (List Int)):List (List Nat):=(List.range (rs.length+1)).map λk=>cv (rs.length+1) (((r0::rs)[k]?).getD [])
theorem ax8{tg:List Nat}{ws:List (List Nat)}{ks:List Int}(P:Src u N)(G:Gro tg (r0::rs) ks)(t6:tg.length<=6)(rl:rs.length<=50) :
  sZ (p6 (sIt (sV 3)) t1 (CAS.a2h ak) [3]) (τG tg a5 a6 a7 a8 a9) (HG u ws r0 rs ks)=.ok (.rol ((rws r0 rs).map a2m)) (HG u ws r0 rs ks):=by
 unfold rws;rw[cF];refine a4e (amm (ck:=λh=>h[3]? = some (.lst ((List.range (rs.length+1)).map ady))) ady (a2m ∘ λk=>cv (rs.length+1) (((r0::rs)[k]?).getD [])) (List.range (rs.length+1)) rfl (a93 (bf rfl) rfl) (by rw[aZ];exact fu (by omega)) λk hk=>?_) (fj λx _=>nu (qt _)) (acq P)
 have hk:=bM.mp hk;obtain⟨r,e⟩:∃r,(r0::rs)[k]? = some r:=⟨_,af (by simpa using hk)⟩
 obtain⟨j,ej,ea,_⟩:=a8q (u:=u) (ws:=ws) (ks:=ks) e;have lr:=G.rl r (aQ e);have lg:vh [.ref 3] (HG u ws r0 rs ks)=.ok (di (rs.length+1)) (HG u ws r0 rs ks):=by rw[a4g (xs:=(List.range (rs.length+1)).map ady) rfl,ay,aZ]
 rw[xj,ej];show _=R.ok (a2m (cv (rs.length+1) (((r0::rs)[k]?).getD []))) _;rw[e];unfold CAS.a2h cv;show _=R.ok (a2m ((r).map _)) _;unfold a2m;rw[cF];refine a4e (amm (ck:=λh=>h[j]? = some (rI r)) D.int (di ∘ λx=>if 0<=x then x.toNat else rs.length+1) r ea (a93 (bf rfl) (ax7 ea)) (fu (by omega)) λx hx=>?_) (fj λx _=>dw _) (acq P)
 rw[xj];unfold CAS.a4z
 by_cases x0:0<=x
 ·refine(SRC.awj (tvc rfl (SRC.azf x0)) (bf rfl)).trans ?_;show R.ok (D.int x) _=R.ok (D.int ((if 0<=x then x.toNat else rs.length+1:Nat):Int)) _
  rw[aR x0,Int.toNat_of_nonneg x0]
 ·refine(SRC.ar5 (tvc rfl (SRC.azg x0)) (a09 (bf rfl) lg)).trans ?_;show _=R.ok (D.int ((if 0<=x then x.toNat else rs.length+1:Nat):Int)) _
  rw[bE x0]
end CAS
namespace CAS
open L2 MI AT HND EVX K22 K23 K21 SRC
theorem ax9(c1:clos i xs)(c2:clos i ys):clos i (xs++ys):=a0v.mpr λx hx=>(aY.mp hx).elim (a0v.mp c1 x) (a0v.mp c2 x)
noncomputable def jw:SF:=nq (CAS.a3e ak) 11
abbrev ak6(tg:List Nat)(r0:List Int)(rs:List (List Int)):List (List Nat):=rws r0 rs++[tg.map λ_=>rs.length+1]
theorem an0{ks:List Int}(G:Gro tg (r0::rs) ks):∀r∈ak6 tg r0 rs,acy tg.length (rs.length+2) r:=by
 intro r hr
 rcases aY.mp hr with z|z
 ·obtain⟨k,hk,rfl⟩:=bU.mp z;have hk:=bM.mp hk;obtain⟨q,e⟩:∃q,(r0::rs)[k]? = some q:=⟨_,af (by simpa using hk)⟩
  rw[e];have hq:=aQ e;refine⟨by unfold cv;rw[ay];exact G.rl q hq,λx hx=>?_⟩
  obtain⟨y,hy,rfl⟩:=bU.mp hx;have:=G.rx q hq y hy;rw[aW]at this
  split<;>omega
 ·rw[av]at z;subst z;refine⟨by rw[ay],λx hx=>?_⟩
  obtain⟨_,_,rfl⟩:=bU.mp hx;omega
theorem ak7{ws:List (List Nat)}{ks:List Int}{X Y:List D}(cX:clos 0 X)(cY:clos 0 Y):a4v 1 (HG u ws r0 rs ks) FU (.tup [.ref 1,.rol X,.rol Y])=some (.tup [.rol (ws.map sD),.rol X,.rol Y]):=by
 have oc:∀{k:Nat} {d d':D} {ds ds':List D},a4v 1 (HG u ws r0 rs ks) k d=some d'->a0r (a4v 1 (HG u ws r0 rs ks) k) ds=some ds'->a0r (a4v 1 (HG u ws r0 rs ks) k) (d::ds)=some (d'::ds'):=λe1 e2=>by unfold a0r;rw[e1,e2]
 refine aak (k:=19) (oc (a6a (k:=17) (by omega) rfl (fj λx _=>g8 _)) (oc (a1p (nu (a01 (aV _) cX))) (oc (a1p (nu (a01 (aV _) cY))) rfl))) ?_
 intro z
 have:=a0v.mp z (.ref 1) bA
 simp only[MI.clo]at this;omega
theorem an1{tg:List Nat}(P:Src o N)(hN:N<=999900000)(t1':1<=tg.length)(t6:tg.length<=6) :
  ∃(ws:List (List Nat)) (rows:List (List Nat)) (ks:List Int) (n:Nat) (o':O),1<=n/\n<=32/\1<=ws.length/\ws.length<=5/\Wok tg ws/\rows.length=n/\ks.length=n/\(∀r∈rows,acy tg.length n r)/\ks[0]? = some (-1)/\(∀k∈ks,KOk k) /\
   Dr CAS.jw 2 [sD tg] o (.tup [.rol (ws.map sD),.rol (rows.map a2m),.rol (ks.map D.int)]) o'/\Src o' (N+200):=by
 obtain⟨n1,u0,e0,n10,n11,P0⟩:=nj (m:=5) P (by omega) (by omega) (by omega)
 obtain⟨n1,rfl⟩:=aT n10
 let rm1:List Int:=List.replicate tg.length (-1)
 have c0:∀{o:O},gq false 2 ak [.ref 0,.int 5] (HG o [] rm1 [] [-1])=gq false 2 ak [.ref 0,.int 5] (HG o [] rm1 [] [-1]):=rfl;have c1:gq false 2 ak [.ref 0,.int 5] (HG o [] rm1 [] [-1])=.ok (di n1) (HG u0 [] rm1 [] [-1]):=e0 0 _ rfl;have G0:Gro tg (rm1::[]) [-1]:=⟨λr hr=>by rw[av]at hr;subst hr;simp[rm1],λr hr x hx=>by rw[av]at hr;subst hr;exact .inl (eJ hx),rfl,rfl,λk hk=>by rw[av]at hk;subst hk;decide⟩
 have lp:=uc (g:=kN 5) (b:=CAS.a0b ak) (λi:Nat=>D.int (i:Nat))
  (λpre τ h=>∃(u:O) (ws:List (List Nat)) (r0:List Int) (rs:List (List Int)) (ks:List Int) (a5 a6 a7 a8 a9:Option D),τ=τG tg a5 a6 a7 a8 a9/\h=HG u ws r0 rs ks/\Src u (N+1+20*pre.length)/\Wok tg ws/\ws.length=pre.length/\Gro tg (r0::rs) ks/\rs.length<=6*pre.length/\(pre≠[]->1<=rs.length))
  (List.range (1+n1)) (τG tg none none none none none) (HG u0 [] rm1 [] [-1]) ?_ ⟨u0,[],rm1,[],[-1],none,none,none,none,none,rfl,rfl,P0,(λw hw=>by cases hw),rfl,G0,aV _,(λz=>absurd rfl z)⟩
 ·obtain⟨τ',h',e2,u,ws,r0,rs,ks,a5,a6,a7,a8,a9,rfl,rfl,P1,W,wl,G,rl,r1⟩:=lp;rw[aZ]at P1 wl rl;have r1:1<=rs.length:=r1 (by intro z;have:=aN List.length z;rw[aZ]at this;simp at this)
  obtain⟨n2,u2,e3,n20,n21,P2⟩:=nj (m:=3) P1 (by omega) (by omega) (by omega)
  obtain⟨n2,rfl⟩:=aT n20;have c3:gq false 2 ak [.ref 0,.int 3] (HG u ws r0 rs ks)=.ok (di n2) (HG u2 ws r0 rs ks):=e3 0 _ rfl;have lq:=uc (g:=kN 5) (b:=CAS.a0c ak) (λi:Nat=>D.int (i:Nat))
   (λpre τ h=>∃(u:O) (q0:List Int) (qs:List (List Int)) (a5 a7 a9:Option D),τ=τG tg a5 a6 a7 a8 a9/\h=HG u ws q0 qs ks/\Src u (N+150+3*pre.length)/\Gro tg (q0::qs) ks/\qs.length=rs.length)
   (List.range n2) (τG tg a5 a6 a7 a8 a9) (HG u2 ws r0 rs ks) ?_ ⟨u2,r0,rs,a5,a7,a9,rfl,rfl,P2.up (by omega),G,rfl⟩
  ·obtain⟨τ',h',e4,u3,q0,qs,b5,b7,b9,rfl,rfl,P3,G3,ql⟩:=lq;rw[aZ]at P3;have lk:=G3.lk;rw[aW]at lk;have cR:clos 0 ((ak6 tg q0 qs).map a2m):=fj λx _=>nu (qt _);have cK:clos 0 ((ks++[-1]).map D.int):=fj λx _=>dw x;refine⟨ws,ak6 tg q0 qs,ks++[-1],qs.length+2,u3,by omega,by omega,by omega,by omega,W,by simp[rws],by simp[lk],an0 G3,?_,?_,Dr.of rfl (by intro x hx;rw[av]at hx;subst hx;exact g8 _) P.clo (r:=.ok (.tup [.ref 1,.rol ((ak6 tg q0 qs).map a2m),.rol ((ks++[-1]).map D.int)]) (HG u3 ws q0 qs ks)) ?_ (a8k (ak7 cR cK) (by intro x hx;rw[show List.take 1 (HG u3 ws q0 qs ks)=[u3] from rfl,av]at hx;subst hx;exact lz (by omega) P3.clo)) (uq (cu (nu (fj λx _=>g8 _)) (cu (nu cR) (cu (nu cK) qx)))) P3.clo,P3.up (by omega)⟩
   ·rw[aM (by omega)];exact G3.k0
   ·intro k hk
    rcases aY.mp hk with z|z
    ·exact G3.kk k z
    ·rw[av]at z;subst z;decide
   ·unfold CAS.jw;rw[dm];show toR (CAS.a3e ak [some (.ref 0),some (sD tg),none,none,none,none,none,none,none,none,none] [o])=_;unfold CAS.a3e;have nw:p6 (sIt (sV 1)) t1 (CAS.a2f ak) [] [some (.ref 0),some (sD tg),some (.ref 1),none,none,none,none,none,none,none,none] [o,.lst []]=.ok (.ref 2) [o,.lst [],rI rm1]:=by
     refine(vq (λc:Nat=>D.str (S [c])) (λ_=>D.int (-1)) tg (a93 (bf rfl) (PAP.ao3 tg _)) (fu (by omega)) λc _=>?_).trans ?_
     ·rw[xj];unfold CAS.a2f;exact zf ckk (a8m _)
     ·show R.ok (D.ref 2) [o,.lst [],.lst (tg.map λ_=>D.int (-1))]=_;rw[List.map_const'];show _=R.ok (D.ref 2) [o,.lst [],.lst ((List.replicate tg.length (-1:Int)).map D.int)];rw[fX]
    refine etr (qp (d:=.ref 1) (h1:=[o,.lst []]) rfl) ?_;refine etr (qp (d:=.ref 3) (h1:=[o,.lst [],rI rm1,.lst [.ref 2]]) (a09 nw rfl)) ?_;refine etr (qp (d:=.ref 4) (h1:=HG o [] rm1 [] [-1]) rfl) ?_;refine etr (a4x (h1:=HG u0 [] rm1 [] [-1]) (ck:=λ_=>True) (xs:=(List.range (1+n1)).map λi:Nat=>D.int (i:Nat)) ?_) ?_
    ·unfold sRg;rw[arg1 (u6 ckk (uy (bf rfl) ckk c1) zu),dq];exact a9k (n:=1+n1) _ (fu (by omega))
    refine aw (aN (λz=>toR (MI.thn z _)) e2) ?_;rw[zr];refine etr (a4x (h1:=HG u2 ws r0 rs ks) (ck:=λ_=>True) (xs:=(List.range n2).map λi:Nat=>D.int (i:Nat)) ?_) ?_
    ·unfold sRg;rw[arg1 (uy (bf rfl) ckk c3),dq];exact a9k (n:=n2) _ (fu (by omega))
    refine aw (aN (λz=>toR (MI.thn z _)) e4) ?_;rw[zr];have hg:=acq (ws:=ws) (r0:=q0) (rs:=qs) (ks:=ks) P3;have lg:vh [.ref 3] (HG u3 ws q0 qs ks)=.ok (di (qs.length+1)) (HG u3 ws q0 qs ks):=by rw[a4g (xs:=(List.range (qs.length+1)).map ady) rfl,ay,aZ]
    refine ets (ax8 P3 G3 t6 (by omega)) ?_
    refine aN toR (ud (akf (bf rfl) (ax6 (bf rfl) (amz (d:=a2m (tg.map λ_=>qs.length+1)) ?_ (nu (qt _)) hg) rfl rfl ?_ hg ?_) (ax6 (bf rfl) (amz (zf ckk (a8m _)) (dw _) hg) (x:=.ref 4) (xs:=ks.map D.int) rfl rfl ?_ hg ?_) (as8.trans ?_)))
    ·unfold a2m;rw[show(tg.map λ_=>qs.length+1).map di=tg.map λ_=>di (qs.length+1) from cF]
     refine a4e (vq (λc:Nat=>D.str (S [c])) (λ_=>di (qs.length+1)) tg (a93 (bf rfl) (PAP.ao3 tg _)) (fu (by omega)) λc _=>?_) (fj λx _=>dw _) hg
     rw[xj];unfold CAS.a5a;exact a09 (bf rfl) lg
    ·exact CAS.ax9 (fj λx _=>nu (qt _)) (cu (nu (qt _)) qx)
    ·simp[rws];omega
    ·exact CAS.ax9 (fj λx _=>dw x) (cu (dw _) qx)
    ·rw[ay,lk];simp;omega
    ·unfold ak6;rw[bt,bt];rfl
  ·rintro pre i post τ h all ⟨u,q0,qs,b5,b7,b9,rfl,rfl,P3,G3,ql⟩
   have pl:=(v5 all).1 ▸ (v5 all).2;obtain⟨u',p0,ps',c7,c9,e,P4,G4,l4⟩:=ak5 (a5:=some (D.int (i:Nat))) (a6:=a6) (a7:=b7) (a8:=a8) (a9:=b9) (ws:=ws) P3 (by omega) G3 t1' t6 (by omega) (by omega)
   exact⟨_,_,rfl,_,_,e,u',p0,ps',_,c7,c9,rfl,rfl,P4.up (by rw[ai,aI];omega),G4,by omega⟩
 ·rintro pre i post τ h all ⟨u,ws,r0,rs,ks,a5,a6,a7,a8,a9,rfl,rfl,P1,W,wl,G,rl,r1⟩
  have pl:=(v5 all).1 ▸ (v5 all).2;obtain⟨u',w,q0,qs,ks',b6,b7,b8,b9,e,P2,W2,G2,l1,l2⟩:=ak4 (a5:=some (D.int (i:Nat))) (a6:=a6) (a7:=a7) (a8:=a8) (a9:=a9) P1 (by omega) G W t1' t6 (by omega) (by omega)
  exact⟨_,_,rfl,_,_,e,u',ws++[w],q0,qs,ks',_,b6,b7,b8,b9,rfl,rfl,P2.up (by rw[ai,aI];omega),W2,by rw[ai,ai,aI,aI,wl],G2,by rw[ai,aI];omega,λ_=>l1⟩
end CAS
namespace CAS
open L2 MI AT HND EVX K22 K23 K21 SRC
noncomputable def uv:SF:=nq (CAS.a4s ak CAS.jw CAS.sr CAS.kh SRC.jk) 11
abbrev τC(a b:Nat)(tg:List Nat)(g k t w i a9 a10:Option D):Sd:=[some (.ref 0),some (di a),some (di b),some (sD tg),g,k,t,w,i,a9,a10]
theorem agh{tg t:List Nat}{ws:List (List Nat)}{A B C E':SF}(P:Src u N)(hN:N<=999900000)(W:Wok tg ws)(w1:1<=ws.length)(w5:ws.length<=5)(t1':1<=tg.length)(t6:tg.length<=6)(tl:t.length<=500)(tt:∀c∈t,c∈tg) :
  ∃(u':O) (t':List Nat) (b9 b10:Option D),CAS.zg ak A B C E' (τC a b tg g k (some (sD t)) (some (.rol (ws.map sD))) i a9 a10) [u]=.nx (τC a b tg g k (some (sD t')) (some (.rol (ws.map sD))) i b9 b10) [u']/\Src u' (N+4)/\t'.length<=t.length+6/\∀c∈t',c∈tg:=by
 obtain⟨x,u1,e1,x0,x1,P1⟩:=nj (m:=(ws.length:Nat)) P (by omega) (by omega) (by omega)
 obtain⟨x,rfl⟩:=aT x0;have c1:gq false 2 ak [.ref 0,di ws.length] [u]=.ok (di x) [u1]:=e1 0 _ rfl;have xl:x<ws.length:=by omega
 obtain⟨v1,v6,vt⟩:=W ws[x] (bG xl);obtain⟨y,u2,e2,y0,y1,P2⟩:=nj (m:=6) P1 (by omega) (by omega) (by omega)
 have c2:gq false 2 ak [.ref 0,.int 6] [u1]=.ok (.int y) [u2]:=e2 0 _ rfl;have lw:vh [.rol (ws.map sD)] [u]=.ok (di ws.length) [u]:=by show R.ok (D.int ((ws.map sD).length:Nat)) [u]=_;rw[ay]
 obtain⟨w,u3,w6,wt,P3,eu⟩:∃(w:List Nat) (u3:O),w.length<=6/\(∀c∈w,c∈tg)/\Src u3 (N+4)/\∀g':SS,du (sIf (sT (s2 hEq (sV 10) (sI 0))) (kj 9 (a4y (sV 9) oN (oS (sA (gq false 2 ak) (ao (sV 0) (ao (sA vh (ao (sV 9) bw)) bw)))))) sNx)
   (du (sIf (sT (s2 hEq (sV 10) (sI 1))) (kj 9 (s2 gIx (sV 3) (sA (gq false 2 ak) (ao (sV 0) (ao (sA vh (ao (sV 3) bw)) bw))))) sNx) g') (τC a b tg g k (some (sD t)) (some (.rol (ws.map sD))) i (some (sD ws[x])) (some (.int y))) [u2]=g' (τC a b tg g k (some (sD t)) (some (.rol (ws.map sD))) i (some (sD w)) (some (.int y))) [u3]:=by
  by_cases h0:y=0
  ·obtain⟨z,u3,e3,z0,z1,P3⟩:=nj (m:=(ws[x].length:Nat)) P2 (by omega) (by omega) (by omega)
   obtain⟨z,rfl⟩:=aT z0;have c3:gq false 2 ak [.ref 0,di ws[x].length] [u2]=.ok (di z) [u3]:=e3 0 _ rfl;refine⟨ws[x].take z,u3,by rw[bN];omega,λc hc=>vt c (ei hc),P3.up (by omega),λg'=>?_⟩
   refine aw (mq (aw (ifT (tvc rfl (a6d h0))) (acw (PAP.aki (bf rfl) rfl (PAP.aj5 (uy (bf rfl) (a09 (bf rfl) (a7n (fu (by omega)))) c3)) (av4 z (fu (by omega))))))) ?_
   exact ifN (tvc rfl (a6e (by omega)))
  ·by_cases h1:y=1
   ·obtain⟨z,u3,e3,z0,z1,P3⟩:=nj (m:=(tg.length:Nat)) P2 (by omega) (by omega) (by omega)
    obtain⟨z,rfl⟩:=aT z0;have zl:z<tg.length:=by omega
    have c3:gq false 2 ak [.ref 0,di tg.length] [u2]=.ok (di z) [u3]:=e3 0 _ rfl;refine⟨[tg[z]],u3,by simp,λc hc=>by rw[av]at hc;subst hc;exact bG zl,P3.up (by omega),λg'=>?_⟩
    refine aw (ifN (tvc rfl (a6e h0))) ?_;exact mq (aw (ifT (tvc rfl (a6d h1))) (acw (u6 (bf rfl) (uy (bf rfl) (a09 (bf rfl) (a7n (fu (by omega)))) c3) (as6 (fu (by omega)) (af zl)))))
   ·refine⟨ws[x],u2,v6,vt,P2.up (by omega),λg'=>?_⟩
    refine aw (ifN (tvc rfl (a6e h0))) ?_;exact ifN (tvc rfl (a6e h1))
 refine⟨u3,t++w,some (sD w),some (.int y),?_,P3,by rw[ai];omega,λc hc=>?_⟩
 ·unfold CAS.zg;refine aw (qp (u6 (bf rfl) (uy (bf rfl) (a09 (bf rfl) lw) c1) (as7 (y:=sD ws[x]) (by rw[aP,af xl];rfl)))) ?_
  refine aw (qp (uy (bf rfl) ckk c2)) ?_;refine aw (eu _) ?_;exact aix rfl (bf rfl) (SRC.af2 (fu (by omega)))
 ·rcases aY.mp hc with z|z
  ·exact tt c z
  ·exact wt c z
theorem axa{u':O}(h:vg 0 u'):∀o∈u'::([]:Hd),vg (([]:Hd).length+1) o:=λo ho=>by rw[av]at ho;subst ho;exact lz (aV _) h
theorem arx(P:Src o N)(hN:N<=999000000):∃(T:Table) (t:List Nat) (o':O),T.Ok/\(∀r,r<T.go.length->PN.Rch T.go r)/\t.length<=240/\(∀c∈t,c∈T.tg)/\Dr CAS.uv 1 [] o (.tup [T.d,sD t]) o'/\Src o' (N+1000):=by
 obtain⟨s,o1,e1,s0,s1,P1⟩:=nj (m:=4) P (by omega) (by omega) (by omega)
 obtain⟨s,rfl⟩:=aT s0;obtain⟨z,o2,e2,z0,z1,P2⟩:=nj (m:=8) P1 (by omega) (by omega) (by omega)
 obtain⟨z,rfl⟩:=aT z0;obtain⟨tg,o3,T1,e3,P3⟩:=aj4 P2 (by omega)
 have t1':=T1.lo;have t6:=T1.hi;have c1:gq false 2 ak [.ref 0,.int 4] [o]=.ok (di s) [o1]:=e1 0 _ rfl;have c2:gq false 2 ak [.ref 0,.int 8] [o1]=.ok (di z) [o2]:=e2 0 _ rfl;have c3:gq false 1 SRC.jk [.ref 0] [o2]=.ok (sD tg) [o3]:=e3 0 _ rfl;obtain⟨rows,ks,n,t,o4,w,i,a9,a10,n1,n32,lr,lk,rr,k0,kk,tl,tt,P4,e4⟩:∃(rows:List (List Nat)) (ks:List Int) (n:Nat) (t:List Nat) (o4:O) (w i a9 a10:Option D),1<=n/\n<=32/\rows.length=n/\ks.length=n/\(∀r∈rows,acy tg.length n r)/\ks[0]? = some (-1)/\(∀k∈ks,KOk k)/\t.length<=100/\(∀c∈t,c∈tg)/\Src o4 (N+500) /\
   sIf (sT (s2 hEq (sV 1) (sI 0)))
     (du (a7m (sA (gq false 3 CAS.kh) (ao (sV 0) (ao (sV 3) (ao (s2 p7 (sI 1) (sA (gq false 2 ak) (ao (sV 0) (ao (s2 gIx (sA a2o (ao (sI 8) (ao (sI 32) bw))) (s2 ab2 (sV 2) (sI 7))) bw)))) bw)))) (a4u 2 (jm (kN 4) (jm (kN 5) a5p))))
      (kj 6 (sMS abu (sC (.str "")) (ao (sZ (p6 (sRg xn (ao (sA (gq false 2 ak) (ao (sV 0) (ao (sI 25) bw))) bw)) t1 (CAS.a6g ak CAS.jw CAS.sr CAS.kh SRC.jk) [0,3])) bw))))
     (du (a7m (sA (gq false 2 CAS.jw) (ao (sV 0) (ao (sV 3) bw))) (a4u 3 (jm (kN 7) (jm (kN 4) (jm (kN 5) a5p)))))
      (du (kj 6 (sC (.str "")))
      (a3v (sRg xn (ao (sA (gq false 2 ak) (ao (sV 0) (ao (sI 12) bw))) bw)) (kN 8) (CAS.zg ak CAS.jw CAS.sr CAS.kh SRC.jk)))) (τC s z tg none none none none none none none) [o3]=.nx (τC s z tg (some (.rol (rows.map a2m))) (some (.rol (ks.map D.int))) (some (sD t)) w i a9 a10) [o4]:=by
  by_cases hs:s=0
  ·have mz:1<=(if z<7 then 8 else 32)/\(if z<7 then 8 else 32)<=32:=by split<;>omega
   obtain⟨x,u1,f1,x0,x1,Q1⟩:=nj (m:=((if z<7 then 8 else 32:Nat):Int)) P3 (by omega) (by omega) (by omega)
   obtain⟨x,rfl⟩:=aT x0;have d1:gq false 2 ak [.ref 0,di (if z<7 then 8 else 32)] [o3]=.ok (di x) [u1]:=f1 0 _ rfl
   obtain⟨ks,rows,u2,lk,k0,kk,lr,rr,f2,Q2⟩:=ak1 (tg:=tg) (n:=1+x) Q1 (by omega) t6 (by omega) (by omega)
   have d2:gq false 3 CAS.kh [.ref 0,sD tg,di (1+x)] [u1]=.ok (.tup [.rol (rows.map a2m),.rol (ks.map D.int)]) [u2]:=f2 0 _ rfl;obtain⟨y,u3,f3,y0,y1,Q3⟩:=nj (m:=25) Q2 (by omega) (by omega) (by omega)
   obtain⟨y,rfl⟩:=aT y0;have d3:gq false 2 ak [.ref 0,.int 25] [u2]=.ok (di y) [u3]:=f3 0 _ rfl;obtain⟨t,u4,tl,tt,Q4,et⟩:=drawn (tg:=tg) (τ:=τC s z tg (some (.rol (rows.map a2m))) (some (.rol (ks.map D.int))) none none none none none) (hs:=[]) (u0:=u2) (ix:=[0,3]) (fm:=sA (gq false 2 ak) (ao (sV 0) (ao (sI 25) bw))) (m:=y) Q3 (by omega) t1' t6 (λu' hu=>axa hu) (uy (bf rfl) ckk d3) (by omega) rfl
   refine⟨rows,ks,1+x,t,u4,none,none,none,none,by omega,by omega,lr,lk,rr,k0,kk,by omega,tt,Q4.up (by omega),?_⟩
   refine aw (ifT (tvc rfl (a6d (by omega)))) ?_
   have ix:gIx (.tup [.int 8,.int 32]) (.int ((z:Int) / 7)) [o3]=.ok (di (if z<7 then 8 else 32)) [o3]:=by
    by_cases h7:z<7
    ·rw[aR h7,show(z:Int) / 7=((0:Nat):Int) by omega];exact a5q rfl
    ·rw[bE h7,show(z:Int) / 7=((1:Nat):Int) by omega];exact a5q rfl
   refine aw (mq (a7o (akf (bf rfl) (bf rfl) (u6 ckk (uy (bf rfl) (u6 (uy ckk ckk aqu) (a1n rfl (div_ii ⟨by decide,by decide⟩)) ix) d1) zu) d2) rfl)) ?_
   exact acw et
  ·obtain⟨ws,rows,ks,n,u1,n1,n32,w1,w5,W,lr,lk,rr,k0,kk,f1,Q1⟩:=an1 (tg:=tg) P3 (by omega) t1' t6
   have d1:gq false 2 CAS.jw [.ref 0,sD tg] [o3]=.ok (.tup [.rol (ws.map sD),.rol (rows.map a2m),.rol (ks.map D.int)]) [u1]:=f1 0 _ rfl;obtain⟨y,u2,f2,y0,y1,Q2⟩:=nj (m:=12) Q1 (by omega) (by omega) (by omega)
   obtain⟨y,rfl⟩:=aT y0;have d2:gq false 2 ak [.ref 0,.int 12] [u1]=.ok (di y) [u2]:=f2 0 _ rfl;have lp:=uc (g:=kN 8) (b:=CAS.zg ak CAS.jw CAS.sr CAS.kh SRC.jk) (λi:Nat=>D.int (i:Nat))
    (λpre τ h=>∃(u:O) (t:List Nat) (i a9 a10:Option D),τ=τC s z tg (some (.rol (rows.map a2m))) (some (.rol (ks.map D.int))) (some (sD t)) (some (.rol (ws.map sD))) i a9 a10/\h=[u]/\Src u (N+300+4*pre.length)/\t.length<=6*pre.length/\∀c∈t,c∈tg)
    (List.range y) (τC s z tg (some (.rol (rows.map a2m))) (some (.rol (ks.map D.int))) (some (sD [])) (some (.rol (ws.map sD))) none none none) [u2] ?_ ⟨u2,[],none,none,none,rfl,rfl,Q2.up (by omega),aV _,(λc hc=>by cases hc)⟩
   ·obtain⟨τ',h',e5,u,t,i,a9,a10,rfl,rfl,Q3,tl,tt⟩:=lp;rw[aZ]at tl Q3;refine⟨rows,ks,n,t,u,some (.rol (ws.map sD)),i,a9,a10,n1,n32,lr,lk,rr,k0,kk,by omega,tt,Q3.up (by omega),?_⟩
    refine aw (ifF (tvc rfl (a6e (by omega)))) ?_
    refine aw (mq (a7o (uy (bf rfl) (bf rfl) d1) rfl)) ?_;refine aw (qp ckk) ?_;unfold a3v;refine aw (aN (λr=>R.fl r _) (show sRg xn _ _ [u1]=.ok ⟨(List.range y).map λi:Nat=>D.int (i:Nat),λ_=>True⟩ [u2] by unfold sRg;rw[arg1 (uy (bf rfl) ckk d2),dq];exact a9k (n:=y) _ (fu (by omega)))) ?_
    exact e5
   ·rintro pre i post τ h all ⟨u,t,i',a9,a10,rfl,rfl,Q3,tl,tt⟩
    have pl:=(v5 all).1 ▸ (v5 all).2;obtain⟨u',t',b9,b10,e,Q4,tl',tt'⟩:=agh (a:=s) (b:=z) (g:=some (.rol (rows.map a2m))) (k:=some (.rol (ks.map D.int))) (i:=some (D.int (i:Nat))) (a9:=a9) (a10:=a10) (A:=CAS.jw) (B:=CAS.sr) (C:=CAS.kh) (E':=SRC.jk) Q3 (by omega) W w1 w5 t1' t6 (by omega) tt
    exact⟨_,_,rfl,_,_,e,u',t',_,b9,b10,rfl,rfl,Q4.up (by rw[ai,aI];omega),by rw[ai,aI];omega,tt'⟩
 obtain⟨t',o5,tl',tt',P5,e5⟩:∃(t':List Nat) (o5:O),t'.length<=240/\(∀c∈t',c∈tg)/\Src o5 (N+600)/\∀g':SS,du (sIf (sT (s2 hEq (sV 2) (sI 3))) (kj 6 (a4y (s2 acb (sV 6) (sI 240)) oN (oS (sA (gq false 2 ak) (ao (sV 0) (ao (sI 241) bw)))))) sNx) g' (τC s z tg (some (.rol (rows.map a2m))) (some (.rol (ks.map D.int))) (some (sD t)) w i a9 a10) [o4]=g' (τC s z tg (some (.rol (rows.map a2m))) (some (.rol (ks.map D.int))) (some (sD t')) w i a9 a10) [o5]:=by
  by_cases h3:z=3
  ·obtain⟨y,u2,f2,y0,y1,Q2⟩:=nj (m:=241) P4 (by omega) (by omega) (by omega)
   obtain⟨y,rfl⟩:=aT y0;have d2:gq false 2 ak [.ref 0,.int 241] [o4]=.ok (di y) [u2]:=f2 0 _ rfl;have ln:(List.replicate 240 t).flatten.length<=1000000:=by rw[List.length_flatten,fX,List.sum_replicate_nat];omega
   refine⟨((List.replicate 240 t).flatten).take y,u2,by rw[bN];omega,λc hc=>?_,Q2.up (by omega),λg'=>?_⟩
   ·obtain⟨l,hl,hc⟩:=List.mem_flatten.mp (ei hc);rw[eJ hl]at hc;exact tt c hc
   ·exact mq (aw (ifT (tvc rfl (a6d (by omega)))) (acw (PAP.aki (a1n rfl (ava (k:=240) (by omega) (by omega))) rfl (PAP.aj5 (uy (bf rfl) ckk d2)) (av4 y (fu ln)))))
  ·exact⟨t,o4,by omega,tt,P4.up (by omega),λg'=>ifN (tvc rfl (a6e (by omega)))⟩
 obtain⟨T,ok,et,rch,em⟩:=ax4 T1 n1 n32 lr lk rr k0 kk;have ca:MI.clo 0 (.tup [T.d,sD t']):=uq (cu Table.clo (cu (g8 _) qx));refine⟨T,t',o5,ok,rch,tl',by rw[et];exact tt',Dr.of rfl (by intro x hx;cases hx) P.clo (r:=.ok (.tup [T.d,sD t']) [o5]) ?_ (p8 (ac3 (aV 1) ca) (by intro x hx;rw[show List.take 1 [o5]=[o5] from rfl,av]at hx;subst hx;exact lz (by omega) P5.clo)) ca P5.clo,P5.up (by omega)⟩
 unfold CAS.uv;rw[dm];show toR (CAS.a4s ak CAS.jw CAS.sr CAS.kh SRC.jk [some (.ref 0),none,none,none,none,none,none,none,none,none,none] [o])=_;unfold CAS.a4s;refine ets (uy (bf rfl) ckk c1) ?_;refine ets (uy (bf rfl) ckk c2) ?_;refine ets (a09 (bf rfl) c3) ?_;refine etr (mq e4) ?_;refine etr (e5 _) ?_;exact aN toR (ud (uy (akf (bf rfl) (bf rfl) (bf rfl) (em _)) (bf rfl) aqu))
end CAS
namespace TWN
open L2 MI AT HND K23 K21 SRC STM
open K22 hiding hp
noncomputable def o8:SF:=nq (TWN.a05 SRC.ak) 7
theorem ak8(l:List Nat):(l.map λc=>[c]).flatten=l:=by
 induction l with
 |nil=>rfl
 |cons a l ih=>rw[ba,cJ,ih];rfl
theorem an2(y:List Nat)(m:Nat)(h:m<=y.length):((List.range m).map λk=>STM.sD [y.getD k 0])=((y.take m).map λc=>[c]).map STM.sD:=by
 apply List.ext_getElem
 ·simp;omega
 ·intro i h1 h2
  simp only[ay,aZ]at h1;simp[fR,af (show i<y.length by omega)]
theorem cu1(P:Src u N):∀o∈[u],vg ([u]:Hd).length o:=λo ho=>by rw[av]at ho;subst ho;exact lz (aV _) P.clo
theorem an3{y:List Nat}(P:Src o N)(hN:N<=999900000)(yl:y.length<=300):∃(ls:List (List Nat)) (o':O),ls.flatten=y/\ls.length<=50/\Dr TWN.o8 2 [STM.sD y] o (.rol (ls.map STM.sD)) o'/\Src o' (N+20):=by
 obtain⟨s,o1,e1,s0,s1,P1⟩:=nj (m:=5) P (by omega) (by omega) (by omega)
 obtain⟨s,rfl⟩:=aT s0;have c1:gq false 2 ak [.ref 0,.int 5] [o]=.ok (di s) [o1]:=e1 0 _ rfl;have fin:∀{u:O} {h:Hd} {i:Nat} {ls:List (List Nat)},Src u (N+20)->h.take 1=[u]->1<=i->h[i]? = some (.lst (ls.map STM.sD))->TWN.o8 [.ref 0,STM.sD y] [o]=.ok (.ref i) h->Dr TWN.o8 2 [STM.sD y] o (.rol (ls.map STM.sD)) u:=λQ hu hi hx e =>
  Dr.of rfl (a2n (g8 _)) P.clo e ((a1q hi hx (fj λx _=>g8 _) (by rw[hu];intro x hx;rw[av]at hx;subst hx;exact lz (aV _) Q.clo)).trans (by rw[hu])) (nu (fj λx _=>g8 _)) Q.clo
 by_cases hs:s=0
 ·let m:=(y.take 40).length
  have mm:(if (y.length:Int)<40 then (y.length:Int) else 40)=(m:Nat):=by simp only[m,bN];split<;>omega
  have ml:m<=y.length:=by simp only[m,bN];omega
  have mn:aa3 [.int 40,di y.length] [o1]=.ok (di m) [o1]:=by show R.ok (D.int (if (y.length:Int)<40 then (y.length:Int) else 40)) [o1]=_;rw[mm]
  have z1:sZ (p6 (sRg xn (ao (sA aa3 (ao (sI 40) (ao (sA vh (ao (sV 1) bw)) bw))) bw)) t1 (TWN.a2k ak) [1]) [some (.ref 0),some (STM.sD y),some (di s),none,none,none,none] [o1]=.ok (.rol (((y.take m).map λc=>[c]).map STM.sD)) [o1]:=by
   rw[<-an2 y m ml];refine a4e (vq (λi:Nat=>D.int (i:Nat)) (λk=>STM.sD [y.getD k 0]) (List.range m) (aar (uy ckk (a09 (bf rfl) (a7n (fu (by omega)))) mn) (fu (by omega))) (by rw[aZ];exact fu (by omega)) λk hk=>?_) (fj λx _=>g8 _) (cu1 P1)
   have hk:=bM.mp hk;rw[xj];unfold TWN.a2k;exact u6 (bf rfl) (bf rfl) ((as6 (fu (by omega)) (af (show k<y.length by omega))).trans (by rw[fR,af (show k<y.length by omega)];rfl))
  have z2:∀{τ:Sd},τ[1]? = some (some (STM.sD y))->sZ (sA MI.a3z (ao (a4y (sV 1) (oS (sI 40)) oN) bw)) τ [o1]=.ok (.rol [STM.sD (y.drop 40)]) [o1]:=λh1=>CAS.amz (PAP.aki (bf h1) (PAP.aj5 ckk) rfl (ac8 40 (fu (by omega)))) (g8 _) (cu1 P1)
  have tk:y.take m=y.take 40:=by simp only[m,bN];by_cases h:y.length<=40<;>simp[bR,h,fL,gA]<;>first|omega|(rw[fL (by omega)])
  refine⟨((y.take m).map λc=>[c])++[y.drop 40],o1,?_,?_,fin (h:=[o1,.lst ((((y.take m).map λc=>[c])++[y.drop 40]).map STM.sD)]) (P1.up (by omega)) rfl (i:=1) (by omega) rfl ?_,P1.up (by omega)⟩
  ·rw[dQ,ak8,tk];simp
  ·simp only[ai,ay,bN,aI,m];omega
  ·unfold TWN.o8;rw[dm];show toR (TWN.a05 ak [some (.ref 0),some (STM.sD y),none,none,none,none,none] [o])=_;unfold TWN.a05;refine ets (uy (bf rfl) ckk c1) ?_;refine etr (a6c (ifr (tvc rfl (a6d (by omega))) (u6 z1 (z2 rfl) ((aae rfl rfl).trans (aR (fu (by simp[m];omega))))))) ?_
   rw[bt];rfl
 ·obtain⟨n2,o2,e2,n20,n21,P2⟩:=nj (m:=5) P1 (by omega) (by omega) (by omega)
  obtain⟨n2,rfl⟩:=aT n20;have c2:gq false 2 ak [.ref 0,.int 5] [o1,.lst []]=.ok (di n2) [o2,.lst []]:=e2 0 _ rfl;have lp:=uc (g:=kN 5) (b:=TWN.a2l ak) (λi:Nat=>D.int (i:Nat))
   (λpre τ h=>∃(u:O) (ps:List (List Nat)) (re:List Nat) (t5 t6:Option D),τ=[some (.ref 0),some (STM.sD y),some (di s),some (STM.sD re),some (.ref 1),t5,t6]/\h=[u,.lst (ps.map STM.sD)]/\Src u (N+2+pre.length)/\ps.length=pre.length/\ps.flatten++re=y)
   (List.range (s+n2)) [some (.ref 0),some (STM.sD y),some (di s),some (STM.sD y),some (.ref 1),none,none] [o2,.lst []] ?_ ⟨o2,[],y,none,none,rfl,rfl,P2,rfl,rfl⟩
  ·obtain⟨τ',h',e,u,ps,re,t5,t6,rfl,rfl,P3,pl,fl⟩:=lp;rw[aZ]at P3 pl;have z2:sZ (sA MI.a3z (ao (sV 3) bw)) [some (.ref 0),some (STM.sD y),some (di s),some (STM.sD re),some (.ref 1),t5,t6] [u,.lst (ps.map STM.sD)]=.ok (.rol [STM.sD re]) [u,.lst (ps.map STM.sD)]:=CAS.amz (bf rfl) (g8 _) (by
    intro o ho
    simp only[aS,bp,cG]at ho
    rcases ho with rfl|rfl
    ·exact lz (aV _) P3.clo
    ·exact lz (aV _) (fj λx _=>g8 _))
   refine⟨ps++[re],u,by rw[dQ,eU];exact fl,by rw[ai,aI];omega,fin (h:=[u,.lst (ps.map STM.sD),.lst ((ps++[re]).map STM.sD)]) (P3.up (by omega)) rfl (i:=2) (by omega) rfl ?_,P3.up (by omega)⟩
   unfold TWN.o8;rw[dm];show toR (TWN.a05 ak [some (.ref 0),some (STM.sD y),none,none,none,none,none] [o])=_;unfold TWN.a05;refine ets (uy (bf rfl) ckk c1) ?_;refine eti (tvc rfl (a6e (by omega))) ?_
   refine ets (bf rfl) ?_;refine etr (qp (d:=.ref 1) (h1:=[o1,.lst []]) rfl) ?_;refine etr (a4x (h1:=[o2,.lst []]) (ck:=λ_=>True) (xs:=(List.range (s+n2)).map λi:Nat=>D.int (i:Nat)) ?_) ?_
   ·unfold sRg;rw[arg1 (u6 (bf rfl) (uy (bf rfl) ckk c2) zu),dq];exact a9k (n:=s+n2) _ (fu (by omega))
   refine aw (aN (λz=>toR (MI.thn z _)) e) ?_;rw[zr];refine etr (ud (u6 (bf rfl) z2 ((aae (x:=.ref 1) (xs:=ps.map STM.sD) rfl rfl).trans (aR (fu (by simp;omega)))))) ?_
   rw[bt];rfl
  ·rintro pre i post τ h all ⟨u,ps,re,t5,t6,rfl,rfl,P3,pl,fl⟩
   have hi:=(v5 all).1 ▸ (v5 all).2;have rl:re.length<=y.length:=by rw[<-fl,ai];omega
   obtain⟨k,u',e3,k0,k1,P4⟩:=nj (m:=((re.length+1:Nat):Int)) P3 (by omega) (by omega) (by omega)
   obtain⟨k,rfl⟩:=aT k0;have c3:gq false 2 ak [.ref 0,.int ((re.length:Int)+1)] [u,.lst (ps.map STM.sD)]=.ok (di k) [u',.lst (ps.map STM.sD)]:=e3 0 _ rfl;refine⟨_,_,rfl,[some (.ref 0),some (STM.sD y),some (di s),some (STM.sD (re.drop k)),some (.ref 1),some (D.int (i:Nat)),some (di k)],[u',.lst ((ps++[re.take k]).map STM.sD)],?_,u',ps++[re.take k],re.drop k,_,_,rfl,rfl,P4.up (by rw[ai,aI];omega),by rw[ai,ai,aI,aI,pl],by rw[dQ,eU,cB,List.take_append_drop];exact fl⟩
   unfold TWN.a2l;refine aw (qp (uy (bf rfl) (u6 (a09 (bf rfl) (a7n (fu (by omega)))) ckk zu) c3)) ?_
   refine aw (mq (a1u (bf rfl) rfl (arg1 (PAP.aki (bf rfl) rfl (PAP.aj5 (bf rfl)) (av4 k (fu (by omega))))) (a3r (xs:=ps.map STM.sD) rfl (by rw[ay];exact a2x (by omega))))) ?_
   refine aw (acw (PAP.aki (bf rfl) (PAP.aj5 (bf rfl)) rfl (ac8 k (fu (by omega))))) ?_
   rw[bt];rfl
end TWN
namespace K52
open L2 MI AT HND K23 K21 STM
open RCH
open K22 hiding hp
noncomputable def iy:SF:=nq K52.a3h 8
noncomputable def bz:SF:=nq (K52.wk SRC.jh) 2
noncomputable def o9:SF:=nq (K52.a3i STM.n6 STM.dj STM.az STM.n8 STM.jf K52.iy K52.bz) 7
section
variable{T:Table}{x:List Nat}
theorem a8x(xl:x.length<=1000)(q:Res):Pu K52.iy 2 [rsD q,STM.sD x] (stD q.2.1 q.2.2.1 x.length q.2.2.2.1 q.2.2.2.2 (STM.tl x q.2.2.2.2)):=by
 obtain⟨acc,p,s,r,b⟩:=q;refine Pu.of rfl (K21.aca (ajx _) (g8 _)) (r:=.ok (stD p s x.length r b (STM.tl x b)) []) ?_ (p8 (a7a _ _ _ _ _ _) (by simp)) (a7a _ _ _ _ _ _)
 unfold K52.iy;rw[dm];show toR (K52.a3h [some (rsD (acc,p,s,r,b)),some (STM.sD x),none,none,none,none,none,none] [])=_;unfold K52.a3h;refine etr (mq (a7o (bf rfl) rfl)) ?_;have t8:acu (sT (s2 a7h (sV 6) (sC .non))) (a4y (sV 1) (oS (s2 gIx (sV 6) (sI 1))) oN) (sC (.str "")) [some (rsD (acc,p,s,r,b)),some (STM.sD x),some (.rol (acc.map K35.pcD)),some (.str (phS p)),some (di s),some (di r),some (bD b),none] []=.ok (STM.sD (STM.tl x b)) []:=by
  cases b with
  |none=>exact SRC.ar5 (tvc rfl rfl) ckk
  |some q=>exact SRC.awj (tvc rfl rfl) (PAP.aki (bf rfl) (PAP.aj5 (a1n rfl (a5q (j:=1) rfl))) rfl (ac8 q.2 (fu (by omega))))
 refine etr (qp t8) ?_;exact aw (aN toR (ud (b11 (bf rfl) (bf rfl) (a09 (bf rfl) (a7n (fu (by omega)))) (bf rfl) (bf rfl) (bf rfl) b0z))) rfl
theorem axb(p:Ph)(s f r:Nat)(b:Bst)(w:List Nat)(h:Hd):hEq (stD p s f r b w) (stD p s f r b w) h=.ok (.bl true) h:=by
 cases b with
 |none =>
  unfold hEq;rw[aR ⟨rfl,rfl⟩];simp[eqD,a8g,bD]
 |some q =>
  unfold hEq;rw[aR ⟨rfl,rfl⟩];simp[eqD,a8g,bD]
theorem a7y(p:Ph)(s f r:Nat)(b:Bst)(w:List Nat):Pu K52.bz 2 [stD p s f r b w,stD p s f r b w] (.bl true):=by
 refine Pu.of rfl (K21.aca (a7a _ _ _ _ _ _) (a7a _ _ _ _ _ _)) (r:=.ok (.bl true) []) ?_ (p8 (a0p _) (by simp)) (a0p _)
 unfold K52.bz;rw[dm];show toR (K52.wk SRC.jh [some (stD p s f r b w),some (stD p s f r b w)] [])=_;unfold K52.wk;have t1:a0g [stD p s f r b w,.ty "tuple"] []=.ok (.bl true) []:=by simp[a0g,akc,tyD,agl]
 have s14:adg (stD p s f r b w) (some 1) (some 4) []=.ok (.tup [di s,di f,di r]) []:=by rw[PAP.b31];rfl
 refine eti (orF (acx (zc (uy (bf rfl) ckk t1) (qm _))) (orF (t2s (a09 (bf rfl) a5n) ckk (adn rfl)) (acx (zc (uy (PAP.aki (bf rfl) (PAP.aj5 ckk) (PAP.aj5 ckk) s14) ckk (SRC.a77 (xs:=[(s:Int),(f:Int),(r:Int)]) (by simp) _)) (qm _))))) ?_
 refine eti (orF (acx (zc (uy (a1n rfl (a5q (j:=0) rfl)) ckk (STM.ajz _ _)) (qm _))) (acx (zc (uy (a1n rfl (a5q (j:=5) rfl)) ckk (STM.ajz _ _)) (qm _)))) ?_
 cases b with
 |none=>exact aw (aN toR (a6c (ifr (t2s (a1n rfl (a5q (j:=4) rfl)) ckk rfl) (aqt (u6 (a1n rfl (a5q (j:=4) rfl)) ckk rfl) (u6 (bf rfl) (bf rfl) (axb _ _ _ _ _ _ _)))))) rfl
 |some q =>
  refine eti (t2s (a1n rfl (a5q (j:=4) rfl)) ckk rfl) ?_;exact aw (aN toR (ud (aqt (uy (a1n rfl (a5q (j:=4) rfl)) ckk (SRC.a77 (xs:=[q.1,(q.2:Int)]) (by simp) _)) (u6 (bf rfl) (bf rfl) (axb _ _ _ _ _ _ _))))) rfl
theorem afg(h:T.Ok)(hx:∀c∈x,c∈T.tg)(xl:x.length<=300){p:Ph}(hp':(phS p == ("closed" : Str))=false)(er:rn T x false (x.length+1) 0 []=(acc,p,s,r,b)){hh:Hd}{i j:Nat}(ij:i≠j)
  (hi:hh[i]? = some (Ob T p s x.length a r b (STM.tl x b))) (hj:hh[j]? = some (Ob T p s x.length a' r b (STM.tl x b))) :
  gq false 5 K52.o9 [.ref i,.ref j,T.d,.rol (hpD T),STM.sD x] hh=.ok (.bl true) hh:=by
 let O1:O:=Ob T p s x.length a r b (STM.tl x b)
 let O2:O:=Ob T p s x.length a' r b (STM.tl x b)
 let DU:D:=stD p s x.length r b (STM.tl x b)
 have c1:∀hh:Hd,gq false 4 STM.jf [T.d,.rol (hpD T),STM.sD x,.bl false] hh=.ok (rsD (acc,p,s,r,b)) hh:=λhh=>by have:=ajy h hx (by omega) false hh;rw[er]at this;exact this
 have run:K52.o9 [.ref 0,.ref 1,T.d,.rol (hpD T),STM.sD x] [O1,O2]=.ok (.bl true) [O1,O2]:=by
  unfold K52.o9;rw[dm];show toR (K52.a3i STM.n6 STM.dj STM.az STM.n8 STM.jf K52.iy K52.bz [some (.ref 0),some (.ref 1),some T.d,some (.rol (hpD T)),some (STM.sD x),none,none] [O1,O2])=_;unfold K52.a3i;refine ets (uy (EVX.asa (bf rfl) (bf rfl) (bf rfl) (u6 (a1k (bf rfl) (jx rfl rfl) rfl (a7x 0 _ rfl)) ckk (a6x p _ false hp')) (c1 _)) (bf rfl) (a8x (by omega) _ _)) ?_
  refine etr (a4x (a93 (akf (bf rfl) (bf rfl) (bf rfl) as8) rfl)) ?_;have lp:=uc (g:=kN 6) (b:=K52.a0e STM.n6 STM.dj STM.az STM.n8 STM.jf K52.iy K52.bz) (λk:Nat=>D.ref k)
   (λpre τ hh=>∃t6:Option D,τ=[some (.ref 0),some (.ref 1),some T.d,some (.rol (hpD T)),some (STM.sD x),some DU,t6]/\hh=[O1,O2])
   [0,1,0] [some (.ref 0),some (.ref 1),some T.d,some (.rol (hpD T)),some (STM.sD x),some DU,none] [O1,O2] ?_ ⟨none,rfl,rfl⟩
  ·obtain⟨τ',h',e,t6,rfl,rfl⟩:=lp;refine aw (aN (λz=>toR (MI.thn z _)) e) ?_;rw[zr];exact aw (aN toR (ud ckk)) rfl
  ·rintro pre k post τ hh all ⟨t6,rfl,rfl⟩
   have hk:k=0\/k=1:=by
    have:k∈[0,1,0]:=by rw[all];simp
    simp at this;omega
   have one:∀{a1:Nat} {tl:Hd->Hd} {k:Nat},([O1,O2]:Hd)[k]? = some (Ob T p s x.length a1 r b (STM.tl x b))->([O1,O2]:Hd).set k (Ob T p s x.length a1 r b (STM.tl x b))=[O1,O2]->K52.a0e STM.n6 STM.dj STM.az STM.n8 STM.jf K52.iy K52.bz [some (.ref 0),some (.ref 1),some T.d,some (.rol (hpD T)),some (STM.sD x),some DU,some (.ref k)] [O1,O2]=.nx [some (.ref 0),some (.ref 1),some T.d,some (.rol (hpD T)),some (STM.sD x),some DU,some (.ref k)] [O1,O2]:=λ{a1} {_} {k} hk hs=>by
    unfold K52.a0e;have m1:gq false 1 STM.dj [.ref k] [O1,O2]=.ok (.str (phS p)) [O1,O2]:=(a7x k _ hk).trans (by rw[hs])
    have m2:gq false 1 STM.n6 [.ref k] [O1,O2]=.ok (di x.length) [O1,O2]:=(arn k _ hk).trans (by rw[hs])
    have m3:gq false 1 STM.n8 [.ref k] [O1,O2]=.ok (STM.sD (STM.tl x b)) [O1,O2]:=(aro k _ hk).trans (by rw[hs])
    have m4:gq false 1 STM.az [.ref k] [O1,O2]=.ok DU [O1,O2]:=(zj k _ hk).trans (by rw[hs])
    refine aw (ifN (orF (t2s (a1k (bf rfl) (jx hk rfl) rfl m1) (a1n rfl (a5q (j:=0) rfl)) (ax3 p _)) (orF (t2s (a1k (bf rfl) (jx hk rfl) rfl m2) (a1n rfl (a5q (j:=2) rfl)) (adn rfl)) (t2s (a1k (bf rfl) (jx hk rfl) rfl m3) (a1n rfl (a5q (j:=5) rfl)) (azr _ _))))) ?_;exact ifF (acx (zc (uy (a1k (bf rfl) (jx hk rfl) rfl m4) (bf rfl) (a7y _ _ _ _ _ _ _)) (qm _)))
   rcases hk with rfl|rfl
   ·exact⟨_,_,rfl,_,_,one (tl:=id) (a1:=a) rfl rfl,_,rfl,rfl⟩
   ·exact⟨_,_,rfl,_,_,one (tl:=id) (a1:=a') rfl rfl,_,rfl,rfl⟩
 have c3:∀d∈[T.d,.rol (hpD T),STM.sD x],MI.clo 0 d:=by
  intro d hd
  simp only[aS,bp,cG]at hd
  rcases hd with rfl|rfl|rfl
  ·exact Table.clo
  ·exact nu (a5o _)
  ·exact g8 _
 refine(azs (n:=5) rfl c3 o7 o7 run (a0p _) o7 o7 ij hi hj).trans ?_;have ue:∀{h:Hd} {k:Nat} {o:O},h[k]? = some o->h.set k o=h:=λ{h} {k} {o} e=>by
  apply ef
  intro n
  by_cases z:k=n
  ·subst z;rw[bC (ag.mp e).1,e]
  ·rw[bK z]
 rw[ue hi,ue hj]
end
end K52
namespace STM
open L2 MI AT HND K23 K21
open RCH
open K22 hiding hp
theorem axc(xs:List D)(k:Nat){h:Hd}:adg (.rol xs) (some (k:Int)) none h=.ok (.ref h.length) (h++[.lst (xs.drop k)]):=by
 show R.ok (D.ref h.length) (h++[.lst (a8y xs (some (k:Int)) none)])=_;rw[abn]
theorem axd{α:Type}(A l:List α)(x:α):(A++x::l)[A.length]? = some x:=by simp
end STM
namespace STM
open L2 MI AT HND K23 K21
open RCH
open K22 hiding hp
theorem ue{h:Hd}{k:Nat}{o:O}(e:h[k]? = some o):h.set k o=h:=by
 apply ef
 intro n
 by_cases z:k=n
 ·subst z;rw[bC (ag.mp e).1,e]
 ·rw[bK z]
structure St (T:Table) (x:List Nat) (acc:List Pc) (p:Ph) (s a r:Nat) (b:Bst):Prop where
 rn:STM.rn T x false (x.length+1) 0 []=(acc,p,s,r,b)
 op:p=.op->a=x.length/\V T x s x.length r b (STM.tl x b)
 nc:p≠.cl
 al:acc.length<=x.length
section
variable{T:Table}{x:List Nat}
theorem St.zero(h:T.Ok):St T [] [] .op 0 0 0 none:=⟨a8u rfl,λ_=>⟨rfl,V.zero h (s:=0) (aJ _)⟩,(λz=>by cases z),aJ _⟩
theorem St.feed(h:T.Ok){l:List Nat}(hx:∀c∈x++l,c∈T.tg)(xl:(x++l).length<=300)(z:St T x acc .op s a r b) :
  ∃(ps:List Pc) (p:Ph) (s' a' r':Nat) (b':Bst),Tel STM.jo [sD l] (Ob T .op s x.length x.length r b (STM.tl x b)) (Ob T p s' (x++l).length a' r' b' (STM.tl (x++l) b')) ps/\St T (x++l) (acc++ps) p s' a' r' b'/\ps.length<=300:=by
 obtain⟨-,v⟩:=z.op rfl;have as:acc.length<=s:=by
  have:=z.rn
  have g:∀{n s0:Nat} {acc0:List Pc},STM.rn T x false n s0 acc0=(acc,.op,s,r,b)->s0<=x.length->acc0.length<=s0->acc.length<=s:=by
   intro n
   induction n with
   |zero=>intro s0 acc0 e _ q;cases e;exact q
   |succ n ih =>
    intro s0 acc0 e h0 q
    obtain⟨g,b1,r1,ha⟩:∃g b1 r1,STM.al T 0 none s0 (x.drop s0)=(g,b1,r1):=⟨_,_,_,rfl⟩
    by_cases hs:s0<x.length/\g=true
    ·obtain⟨hs,rfl⟩:=hs
     cases b1 with
     |none=>rw[a8t hs ha (.inl rfl)]at e;cases e
     |some q1 =>
      obtain⟨k,w⟩:=q1;obtain⟨b1,b2⟩:=adw ha h0;rw[a79 hs ha (.inl rfl)]at e;exact ih e b2 (by simp;omega)
    ·have gf:g=false:=by
      cases g with
      |false=>rfl
      |true =>
       have:x.drop s0=[]:=bS (by
        rcases fU s0 x.length with z|z
        ·exact absurd ⟨z,rfl⟩ hs
        ·exact z)
       rw[this]at ha;cases ha
     subst gf;rw[a8u ha]at e
     cases e;exact q
  exact g this (aV _) (aJ _)
 obtain⟨ps,p,s',a',r',b',w',e,R,pa,pl,sl⟩:=arq h hx xl v;obtain⟨m,hm,em,-,-⟩:=ark (f:=false) (p:=l) (n':=(x++l).length+1) z.rn (aV _) (by omega) (by omega)
 refine⟨ps,p,s',a',r',b',?_,?_,by omega⟩
 ·rcases R with⟨rfl,v',ch⟩|⟨rfl,rfl,rfl,rfl,rfl,ch⟩
  ·obtain rfl:=pa rfl
   rw[v'.tl]at e;exact e
  ·exact e
 ·rcases R with⟨rfl,v',ch⟩|⟨rfl,rfl,rfl,rfl,rfl,ch⟩
  ·obtain rfl:=pa rfl
   obtain⟨m2,hm2,e2⟩:=ch false m acc hm;refine⟨?_,λ_=>⟨rfl,by have:=v';rw[v'.tl]at this;exact this⟩,(λz=>by cases z),by rw[show(acc++ps).length=acc.length+ps.length from ai];omega⟩
   rw[em,e2]
   cases m2 with
   |zero=>omega
   |succ m2=>exact a8u v'.end
  ·exact⟨by rw[em,ch false m acc hm],(λz=>by cases z),(λz=>by cases z),by rw[show(acc++ps).length=acc.length+ps.length from ai];omega⟩
theorem St.close(h:T.Ok)(hx:∀c∈x,c∈T.tg)(xl:x.length<=300)(z:St T x acc .op s a r b) :
  ∃(ps:List Pc) (p:Ph) (s' a':Nat),Tel STM.ik [] (Ob T .op s x.length x.length r b (STM.tl x b)) (Ob T p s' x.length a' 0 none []) ps/\STM.rn T x true (x.length+1) 0 []=(acc++ps,p,s',0,none)/\ps.length<=300:=by
 obtain⟨-,v⟩:=z.op rfl;obtain⟨ps,p,s',a',e,pl,ch⟩:=amv h hx xl v;obtain⟨m,hm,em,-,-⟩:=ark (f:=true) (p:=[]) (n':=x.length+1) z.rn (aV _) (by omega) (by simp)
 rw[bT]at hm em;exact⟨ps,p,s',a',e,by rw[em,ch m acc hm],by omega⟩
end
theorem agi(ps:List Pc)(pl:ps.length<=1000):Pu STM.qe 2 [.rol (ps.map K35.pcD),.rol (ps.map K35.pcD)] (.bl true):=by
 refine Pu.of rfl (K21.aca (nu (K35.a4k 0 ps)) (nu (K35.a4k 0 ps))) (r:=.ok (.bl true) []) ?_ (p8 (a0p _) (by simp)) (a0p _)
 unfold STM.qe;rw[dm];show toR (STM.a2c SRC.jh [some (.rol (ps.map K35.pcD)),some (.rol (ps.map K35.pcD)),none,none] [])=_;unfold STM.a2c;have t2:a0g [.rol (ps.map K35.pcD),.ty "list"] []=.ok (.bl true) []:=by simp[a0g,akc,tyD,agl]
 refine eti (orF (acx (zc (uy (bf rfl) ckk t2) (qm _))) (t2s (a09 (bf rfl) a3d) (a09 (bf rfl) a3d) (adn rfl))) ?_;have ez:aid (sV 0) (sV 1) [some (.rol (ps.map K35.pcD)),some (.rol (ps.map K35.pcD)),none,none] []=.ok ⟨ps.map λp=>D.tup [K35.pcD p,K35.pcD p],λ_=>True/\True⟩ []:=by
  unfold aid;rw[bf (i:=0) rfl,dq,bf (i:=1) rfl,dq];show R.ok (⟨((ps.map K35.pcD).zip (ps.map K35.pcD)).map λp=>.tup [p.1,p.2],λ_=>True/\True⟩:Itm) []=_;rw[amw,cF];rfl
 refine etr (a4x ez) ?_;have lp:=af3 (ck:=λ_=>True/\True) (g:=a4u 2 (jm (kN 2) (jm (kN 3) a5p))) (b:=STM.a1i SRC.jh) (λp=>D.tup [K35.pcD p,K35.pcD p])
  (λpre τ hh=>∃t2 t3:Option D,τ=[some (.rol (ps.map K35.pcD)),some (.rol (ps.map K35.pcD)),t2,t3]/\hh=[]) (λpre τ h _=>⟨trivial,trivial⟩)
  ps [] [some (.rol (ps.map K35.pcD)),some (.rol (ps.map K35.pcD)),none,none] [] ?_ ⟨none,none,rfl,rfl⟩
 ·obtain⟨τ',h',e,t2,t3,rfl,rfl⟩:=lp;refine aw (aN (λz=>toR (MI.thn z _)) e) ?_;rw[zr];exact aw (aN toR (ud ckk)) rfl
 ·rintro pre p post τ hh all ⟨t2,t3,rfl,rfl⟩
  refine⟨_,_,rfl,[some (.rol (ps.map K35.pcD)),some (.rol (ps.map K35.pcD)),some (K35.pcD p),some (K35.pcD p)],[],?_,_,_,rfl,rfl⟩;unfold STM.a1i;exact ifF (orF (acx (zc (uy (bf rfl) ckk (SRC.a77 (xs:=[p.1,(p.2.1:Int),(p.2.2:Int)]) (by simp) _)) (qm _))) (t2s (bf rfl) (bf rfl) (nn3 _ _ _ _)))
theorem afh(ps:List Pc)(h:Hd):agm true (.rol (ps.map K35.pcD)) (.rol (ps.map K35.pcD)) h=.ok (.bl false) h:=by
 have q1:(ps.map K35.pcD).all (pur 59)=true:=by
  rw[bZ]
  intro d hd
  obtain⟨p,_,rfl⟩:=bU.mp hd;rfl
 have q2:a8g (ps.map K35.pcD) (ps.map K35.pcD)=true:=by
  clear q1
  induction ps with
  |nil=>rfl
  |cons p l ih=>rw[ba,a8g,ih,Bool.and_true];simp[K35.pcD,eqD,a8g]
 unfold agm;show(if (ps.map K35.pcD).all (pur 59)=true/\(ps.map K35.pcD).all (pur 59)=true then R.ok (D.bl (!a8g (ps.map K35.pcD) (ps.map K35.pcD))) h else .no)=_
 rw[aR ⟨q1,q1⟩,q2];rfl
end STM
namespace K52
open L2 MI AT HND K23 K21 STM
open RCH
open K22 hiding hp
noncomputable def oh:SF:=nq (K52.a0x STM.az STM.jq SRC.ak STM.iz) 5
section
variable{T:Table}{p:Ph}{s f a a2 r:Nat}{b:Bst}{w:List Nat}
theorem a4t{js:Hd}{o:O}(cj:∀o∈js,vg 0 o)(co:vg 0 o):∀u∈js++[o],vg 0 u:=λu hu=>(aY.mp hu).elim (cj u) λz=>by rw[av]at z;subst z;exact co
theorem a5f{h l:Hd}{k:Nat}{o:O}(e:h[k]? = some o):(h++l)[k]? = some o:=by rw[aM (ag.mp e).1];exact e
theorem agj(h:T.Ok)(P:SRC.Src u N)(hN:N<=999000000){js:Hd}{j:Nat}(cj:∀o∈js,vg 0 o)(hR:(u::js)[1]? = some (Ob T p s f a r b w))(hO:(u::js)[j]? = some (Ob T p s f a2 r b w))(j0:j≠0)(j1:j≠1) :
  ∃(u':O) (js':Hd) (j' a3:Nat),K52.oh [.ref 0,T.d,.ref 1,.ref j] (u::js)=.ok (.ref j') (u'::js')/\SRC.Src u' (N+1)/\(u'::js')[1]? = some (Ob T p s f a r b w)/\(u'::js')[j']? = some (Ob T p s f a3 r b w)/\j'≠0/\j'≠1/\(a3=a2\/a3=f)/\∀o∈js',vg 0 o:=by
 obtain⟨z,u',e1,z0,z1,P1⟩:=SRC.nj (m:=6) P (by omega) (by omega) (by omega)
 have c1:gq false 2 SRC.ak [.ref 0,.int 6] (u::js)=.ok (.int z) (u'::js):=e1 0 _ rfl
 let h1:Hd:=u'::js
 have hR':h1[1]? = some (Ob T p s f a r b w):=hR;have hO':h1[j]? = some (Ob T p s f a2 r b w):=by
  cases j with
  |zero=>exact absurd rfl j0
  |succ j=>exact hO
 have ln:1<h1.length:=(ag.mp hR').1
 let X:O:=Ob T p s f f r b w
 let DU:D:=stD p s f r b w
 have mst:∀{l:Hd},gq false 1 STM.az [.ref 1] (h1++l)=.ok DU (h1++l):=(zj 1 _ (a5f hR')).trans (by rw[ue (a5f hR')])
 have mst0:gq false 1 STM.az [.ref 1] h1=.ok DU h1:=(zj 1 _ hR').trans (by rw[ue hR'])
 have mtw:gq true 1 STM.jq [.ref j] h1=.ok (.ref h1.length) (h1++[X]):=(ak0 h j _ hO').trans (by rw[ue hO'])
 have start:∀{q:R D},toR (du (sIf (sT (s2 hEq (sV 4) (sI 0)))
    (sy (sA (gq true 2 STM.iz) (ao (sV 1) (ao (sMe false "Stream" "stand" 1 STM.az (sV 2) bw) bw)))) sNx)
      (du (sIf (sT (s2 hEq (sV 4) (sI 1))) (sy (sMe true "Stream" "twin" 1 STM.jq (sV 3) bw)) sNx)
      (du (sIf (sT (s2 hEq (sV 4) (sI 2)))
    (sy (sA (gq true 2 STM.iz) (ao (sV 1) (ao (sMe false "Stream" "stand" 1 STM.az (sMe true "Stream" "twin" 1 STM.jq (sV 3) bw) bw) bw)))) sNx)
      (du (sIf (sT (s2 hEq (sV 4) (sI 3)))
    (sy (sMe true "Stream" "twin" 1 STM.jq (sA (gq true 2 STM.iz) (ao (sV 1) (ao (sMe false "Stream" "stand" 1 STM.az (sV 2) bw) bw))) bw)) sNx)
      (sy (sV 3))))) [some (.ref 0),some T.d,some (.ref 1),some (.ref j),some (.int z)] h1)=q->K52.oh [.ref 0,T.d,.ref 1,.ref j] (u::js)=q:=λe=>by
  unfold K52.oh;rw[dm];show toR (K52.a0x STM.az STM.jq SRC.ak STM.iz [some (.ref 0),some T.d,some (.ref 1),some (.ref j),none] (u::js))=_;unfold K52.a0x;exact aw (aN toR (qp (uy (bf rfl) ckk c1))) e
 have eqn:∀{n:Int} {hh:Hd},¬ z=n->sT (s2 hEq (sV 4) (sC (.int n))) [some (.ref 0),some T.d,some (.ref 1),some (.ref j),some (.int z)] hh=.ok false hh:=λq=>tvc rfl (a6e q);have eqy:∀{n:Int} {hh:Hd},z=n->sT (s2 hEq (sV 4) (sC (.int n))) [some (.ref 0),some T.d,some (.ref 1),some (.ref j),some (.int z)] hh=.ok true hh:=λq=>tvc rfl (a6d q);have newX:(h1++[X])[h1.length]? = some X:=axd _ _ _
 by_cases h0:z=0
 ·refine⟨u',js++[X],h1.length,f,start ?_,P1,a5f hR',newX,by omega,by omega,.inr rfl,a4t cj o7⟩
  exact aw (aN toR (a6c (ifr (eqy h0) (uy (bf rfl) (a1k (bf rfl) (jx hR' rfl) rfl mst0) (a06 h _))))) rfl
 by_cases h1':z=1
 ·refine⟨u',js++[X],h1.length,f,start ?_,P1,a5f hR',newX,by omega,by omega,.inr rfl,a4t cj o7⟩
  refine eti (eqn h0) ?_;exact aw (aN toR (a6c (ifr (eqy h1') (a1k (bf rfl) (jx hO' rfl) rfl mtw)))) rfl
 by_cases h2:z=2
 ·have m2:gq false 1 STM.az [.ref h1.length] (h1++[X])=.ok DU (h1++[X]):=(zj _ _ newX).trans (by rw[ue newX])
  refine⟨u',js++[X]++[X],(h1++[X]).length,f,start ?_,P1,a5f (l:=[X]) (a5f (l:=[X]) hR'),axd (h1++[X]) [] X,by simp,by simp[h1],.inr rfl,a4t (a4t cj o7) o7⟩
  refine eti (eqn h0) ?_;refine eti (eqn h1') ?_;exact aw (aN toR (a6c (ifr (eqy h2) (uy (bf rfl) (a1k (a1k (bf rfl) (jx hO' rfl) rfl mtw) (jx newX rfl) rfl m2) (a06 h _))))) rfl
 by_cases h3:z=3
 ·have m3:gq true 1 STM.jq [.ref h1.length] (h1++[X])=.ok (.ref (h1++[X]).length) (h1++[X]++[X]):=(ak0 h _ _ newX).trans (by rw[ue newX])
  refine⟨u',js++[X]++[X],(h1++[X]).length,f,start ?_,P1,a5f (l:=[X]) (a5f (l:=[X]) hR'),axd (h1++[X]) [] X,by simp,by simp[h1],.inr rfl,a4t (a4t cj o7) o7⟩
  refine eti (eqn h0) ?_;refine eti (eqn h1') ?_;refine eti (eqn h2) ?_;exact aw (aN toR (a6c (ifr (eqy h3) (a1k (uy (bf rfl) (a1k (bf rfl) (jx hR' rfl) rfl mst0) (a06 h _)) (jx newX rfl) rfl m3)))) rfl
 ·refine⟨u',js,j,a2,start ?_,P1,hR',hO',j0,j1,.inl rfl,cj⟩;refine eti (eqn h0) ?_;refine eti (eqn h1') ?_;refine eti (eqn h2) ?_;refine eti (eqn h3) ?_;exact aw (aN toR (ud (bf rfl))) rfl
end
end K52
namespace K52
open L2 MI AT HND K23 K21 STM
open RCH
open K22 hiding hp
noncomputable abbrev LB:SS:=K52.aas STM.dj STM.iw STM.az STM.ik STM.jo STM.ji K52.o9 K52.oh CAS.uv SRC.ak STM.qz TWN.o8 STM.qe STM.jf SRC.qd K52.iy K52.bz STM.iz
noncomputable def ak9:SF:=nq (K52.amk STM.dj STM.iw STM.az STM.ik STM.jo STM.ji K52.o9 K52.oh CAS.uv SRC.ak STM.qz TWN.o8 STM.qe STM.jf SRC.qd K52.iy K52.bz STM.iz) 15
abbrev τL(sc:D)(T:Table)(y:List Nat)(j:Nat)(x:List Nat)(t8 t9 t10 t11 t12 t13 t14:Option D):Sd:=[some sc,some (.ref 0),some T.d,some (STM.sD y),some (.rol (hpD T)),some (.ref 1),some (.ref j),some (STM.sD x),t8,t9,t10,t11,t12,t13,t14]
structure Two (T:Table) (x:List Nat) (u:O) (js:Hd) (j:Nat) (acc:List Pc) (p:Ph) (s a a2 r:Nat) (b:Bst):Prop where
 st:St T x acc p s a r b
 ha2:p=.op->a2=x.length
 hR:(u::js)[1]? = some (Ob T p s x.length a r b (STM.tl x b))
 hO:(u::js)[j]? = some (Ob T p s x.length a2 r b (STM.tl x b))
 j0:j≠0
 j1:j≠1
 cj:∀o∈js,vg 0 o
theorem a7z{u o:O}{js:Hd}{k:Nat}(hk:k≠0):∃js':Hd,(u::js).set k o=u::js'/\((∀v∈js,vg 0 v)->vg 0 o->∀v∈js',vg 0 v):=by
 cases k with
 |zero=>exact absurd rfl hk
 |succ k=>exact⟨js.set k o,rfl,λc co v hv=>(bV hv).elim (c v) λz=>by subst z;exact co⟩
section
variable{T:Table}
theorem aka{sc:D}(h:T.Ok){y x l:List Nat}(hx:∀c∈x++l,c∈T.tg)(xl:(x++l).length<=300)(P:SRC.Src u N)(hN:N<=999000000){js:Hd}{j:Nat}(W:Two T x u js j acc p s a a2 r b) :
  ∃(u':O) (js':Hd) (j':Nat) (x':List Nat) (acc':List Pc) (p':Ph) (s' a' a2' r':Nat) (b':Bst),LB (τL sc T y j x (some (STM.sD l)) none none none none none none) (u::js)=.nx (τL sc T y j' x' (some (STM.sD l)) none none none none none none) (u'::js')/\SRC.Src u' (N+1)/\Two T x' u' js' j' acc' p' s' a' a2' r' b'/\((p=.op/\x'=x++l)\/(p≠.op/\x'=x/\p'=p)):=by
 unfold LB K52.aas;have m1:gq false 1 STM.dj [.ref 1] (u::js)=.ok (.str (phS p)) (u::js):=(a7x 1 _ W.hR).trans (by rw[ue W.hR])
 by_cases hp':p=.op
 ·subst hp';obtain⟨rfl,v⟩:=W.st.op rfl;obtain rfl:=W.ha2 rfl;obtain⟨ps,p',s',a',r',b',e,z,pl⟩:=W.st.feed h hx xl;have dr:=e.dr (n:=2) rfl (a2n (g8 _)) o7 o7
  let O':O:=Ob T p' s' (x++l).length a' r' b' (STM.tl (x++l) b')
  obtain⟨js1,e1,c1⟩:=a7z (u:=u) (js:=js) (o:=O') (k:=1) (by omega)
  have f1:gq false 2 STM.jo [.ref 1,STM.sD l] (u::js)=.ok (.rol (ps.map K35.pcD)) (u::js1):=(dr 1 _ W.hR).trans (by rw[e1])
  have hR1:(u::js1)[1]? = some O':=by rw[<-e1,bC (ag.mp W.hR).1]
  have hO1:(u::js1)[j]? = some (Ob T .op s x.length x.length r b (STM.tl x b)):=by rw[<-e1,bK (eV W.j1)];exact W.hO
  obtain⟨js2,e2,c2⟩:=a7z (u:=u) (js:=js1) (o:=O') (k:=j) W.j0;have f2:gq false 2 STM.jo [.ref j,STM.sD l] (u::js1)=.ok (.rol (ps.map K35.pcD)) (u::js2):=(dr j _ hO1).trans (by rw[e2])
  have hR2:(u::js2)[1]? = some O':=by rw[<-e2,bK W.j1];exact hR1
  have hO2:(u::js2)[j]? = some O':=by rw[<-e2,bC (ag.mp hO1).1]
  have cj2:∀o∈js2,vg 0 o:=c2 (c1 W.cj o7) o7;have pc:(phS p' == ("closed" : Str))=false:=by
   have:=z.nc
   cases p' with
   |op=>decide +kernel
   |st=>decide +kernel
   |cl=>exact absurd rfl this
  have f3:=afg h hx xl pc z.rn (eV W.j1) hR2 hO2;obtain⟨u',js3,j',a3,e3,P3,hR3,hO3,j03,j13,aa,cj3⟩:=agj h P hN cj2 hR2 hO2 W.j0 W.j1;refine⟨u',js3,j',x++l,acc++ps,p',s',a',a3,r',b',?_,P3,⟨z,λq=>by rcases aa with rfl|rfl;exact(z.op q).1;rfl,hR3,hO3,j03,j13,cj3⟩,.inl ⟨rfl,rfl⟩⟩
  refine aw (ifT (t2s (a1k (bf rfl) (jx W.hR rfl) rfl m1) ckk (a6x .op _ true (by decide +kernel)))) ?_
  have xl2:x.length+l.length<=300:=by rw[<-ai];exact xl
  refine aw (mq (aix rfl (bf rfl) (SRC.af2 (fu (by omega))))) ?_
  refine aw (ifN (orF (t2s (a1k (bf rfl) (jx W.hR rfl) (arg1 (bf rfl)) f1) (a1k (bf rfl) (jx hO1 rfl) (arg1 (bf rfl)) f2) (afh ps _)) (acx (zc (PAP.aof (cns (bf rfl) (cns (bf rfl) (cns (bf rfl) (cns (bf rfl) (cns (bf rfl) rfl))))) f3) (qm _))))) ?_;exact acw (EVX.asa (bf rfl) (bf rfl) (bf rfl) (bf rfl) (aw (aR rfl) e3))
 ·refine⟨u,js,j,x,acc,p,s,a,a2,r,b,?_,P.up (by omega),W,.inr ⟨hp',rfl,rfl⟩⟩
  have pf:(phS p == ("open" : Str))=false:=by cases p<;>first|exact absurd rfl hp'|decide +kernel
  exact ifF (t2s (a1k (bf rfl) (jx W.hR rfl) rfl m1) ckk (a6x p _ false pf))
theorem azv(p:Ph)(s:Nat)(h:Hd):hNe (ftD p s) (ftD p s) h=.ok (.bl false) h:=by
 cases p with
 |st=>exact adn rfl
 |op=>rfl
 |cl=>rfl
theorem axe(ns:List Int):∃h',K52.ak9 [.scr (ns.map D.int)] []=.ok (.bl true) h':=by
 obtain⟨o,P,es⟩:=SRC.aj3 ns [];obtain⟨T,y,o1,ok,-,yl,yt,ec,P1⟩:=CAS.arx P (by omega)
 have c1:gq false 1 CAS.uv [.ref 0] [o]=.ok (.tup [T.d,STM.sD y]) [o1]:=ec 0 _ rfl
 let O0:O:=Ob T .op 0 0 0 0 none []
 obtain⟨ls,o2,lf,ll,el,P2⟩:=TWN.an3 (y:=y) P1 (by omega) (by omega)
 have c2:gq false 2 TWN.o8 [.ref 0,STM.sD y] [o1,O0,O0]=.ok (.rol (ls.map STM.sD)) [o2,O0,O0]:=el 0 _ rfl;have c3:gq false 1 STM.az [.ref 1] [o1,O0]=.ok (stD .op 0 0 0 none []) [o1,O0]:=(zj 1 _ rfl).trans rfl;have c0:∀hh:Hd,gq false 1 STM.qz [T.d] hh=.ok (.rol (hpD T)) hh:=λhh=>STM.ars ok hh;have lp:=uc (g:=kN 8) (b:=LB) STM.sD
  (λpre τ hh=>∃(u:O) (js:Hd) (j:Nat) (x:List Nat) (acc:List Pc) (p:Ph) (s a a2 r:Nat) (b:Bst) (t8:Option D),τ=τL (.scr (ns.map D.int)) T y j x t8 none none none none none none/\hh=u::js/\SRC.Src u (2000+pre.length)/\Two T x u js j acc p s a a2 r b/\x.length<=pre.flatten.length/\(∀c∈x,c∈T.tg))
  ls (τL (.scr (ns.map D.int)) T y 2 [] none none none none none none none) [o2,O0,O0] ?_ ⟨o2,[O0,O0],2,[],[],.op,0,0,0,0,none,none,rfl,rfl,P2.up (by omega),⟨St.zero ok,λ_=>rfl,rfl,rfl,by omega,by omega,λv hv=>by simp only[aS,bp,cG]at hv;rcases hv with rfl|rfl<;>exact o7⟩,aJ _,(λc hc=>by cases hc)⟩
 ·obtain⟨τ',h',e,u,js,j,x,acc,p,s,a,a2,r,b,t8,rfl,rfl,P3,W,xl,xt⟩:=lp;have xl:x.length<=240:=by rw[lf]at xl;omega
  have pre:∀{q:R D},toR (du (sIf (sOr (sT (s2 hNe (sMe false "Stream" "state" 1 STM.dj (sV 5) bw) (sC (.str "open")))) (sT (s2 hEq (sA (gq false 2 SRC.ak) (ao (sV 1) (ao (sI 4) bw))) (sI 0))))
    (sy (sA (gq false 5 K52.o9) (ao (sV 5) (ao (sA (gq true 2 STM.iz) (ao (sV 2) (ao (sMe false "Stream" "stand" 1 STM.az (sV 5) bw) bw))) (ao (sV 2) (ao (sV 4) (ao (sV 7) bw))))))) sNx)
     (du (kj 9 (sMe false "Stream" "close" 1 STM.ik (sV 6) bw))
     (du (kj 10 (sA (gq false 4 STM.jf) (ao (sV 2) (ao (sV 4) (ao (sV 7) (ao (sC (.bl false)) bw))))))
     (du (sIf (a6y (a4m (sA (gq false 2 K52.bz) (ao (sMe false "Stream" "stand" 1 STM.az (sV 5) bw) (ao (sA (gq false 2 K52.iy) (ao (sV 10) (ao (sV 7) bw))) bw))))) ab3 sNx)
     (du (kj 11 (sMe false "Stream" "close" 1 STM.ik (sV 5) bw))
     (du (kj 12 (sA (gq false 4 STM.jf) (ao (sV 2) (ao (sV 4) (ao (sV 7) (ao (sC (.bl true)) bw))))))
     (du (sIf (sOr (sT (s2 (agm true) (sV 11) (sV 9))) (a6y (a4m (sA (gq false 2 STM.qe) (ao (sV 11) (ao (sZ (a4y (s2 gIx (sV 12) (sI 0)) (oS (sA vh (ao (s2 gIx (sV 10) (sI 0)) bw))) oN)) bw)))))) ab3 sNx)
     (du (kj 13 (sA (gq true 2 STM.iz) (ao (sV 2) (ao (sMe false "Stream" "stand" 1 STM.az (sV 5) bw) bw))))
     (du (kj 14 (sA (gq false 2 K52.iy) (ao (sV 12) (ao (sV 7) bw))))
     (du (sIf (sOr (sT (s2 hNe (sMe false "Stream" "fault" 1 STM.iw (sV 13) bw) (sMe false "Stream" "fault" 1 STM.iw (sV 6) bw))) (a6y (a4m (sA (gq false 2 K52.bz) (ao (sMe false "Stream" "stand" 1 STM.az (sV 13) bw) (ao (sV 14) bw)))))) ab3 sNx)
     (sy (sA (gq false 2 K52.bz) (ao (sMe false "Stream" "stand" 1 STM.az (sV 6) bw) (ao (sV 14) bw))))))))))))) (τL (.scr (ns.map D.int)) T y j x t8 none none none none none none) (u::js))=q->K52.ak9 [.scr (ns.map D.int)] []=q:=λhq=>by
   unfold K52.ak9;rw[dm];show toR (K52.amk STM.dj STM.iw STM.az STM.ik STM.jo STM.ji K52.o9 K52.oh CAS.uv SRC.ak STM.qz TWN.o8 STM.qe STM.jf SRC.qd K52.iy K52.bz STM.iz [some (.scr (ns.map D.int)),none,none,none,none,none,none,none,none,none,none,none,none,none,none] [])=_;unfold K52.amk;refine ets (a09 (bf rfl) es) ?_;refine etr (mq (a7o (a09 (bf rfl) c1) rfl)) ?_;refine ets (a09 (bf rfl) (c0 _)) ?_;refine ets (a09 (bf rfl) (STM.ajv ok _)) ?_;refine ets (uy (bf rfl) (a1k (bf rfl) (jx rfl rfl) rfl c3) (a06 ok _)) ?_
   refine etr (qp ckk) ?_;refine etr (a4x (a93 (uy (bf rfl) (bf rfl) c2) rfl)) ?_;refine aw (aN (λz=>toR (MI.thn z _)) e) ?_;rw[zr];exact hq
  have m1:gq false 1 STM.dj [.ref 1] (u::js)=.ok (.str (phS p)) (u::js):=(a7x 1 _ W.hR).trans (by rw[ue W.hR])
  have pc:(phS p == ("closed" : Str))=false:=by
   have:=W.st.nc
   cases p with
   |op=>decide +kernel
   |st=>decide +kernel
   |cl=>exact absurd rfl this
  have call:∀(u':O),(u'::js)[1]? = some (Ob T p s x.length a r b (STM.tl x b))->sy (sA (gq false 5 K52.o9) (ao (sV 5) (ao (sA (gq true 2 STM.iz) (ao (sV 2) (ao (sMe false "Stream" "stand" 1 STM.az (sV 5) bw) bw))) (ao (sV 2) (ao (sV 4) (ao (sV 7) bw)))))) (τL (.scr (ns.map D.int)) T y j x t8 none none none none none none) (u'::js)=.rt (.bl true) (u'::js++[Ob T p s x.length x.length r b (STM.tl x b)]):=λu' hR=>by
   have m4:gq false 1 STM.az [.ref 1] (u'::js)=.ok (stD p s x.length r b (STM.tl x b)) (u'::js):=(zj 1 _ hR).trans (by rw[ue hR])
   have l1:1<(u'::js).length:=(ag.mp hR).1;have f3:=afg ok xt (by omega) pc W.st.rn (show 1≠(u'::js).length by omega) (a5f (l:=[Ob T p s x.length x.length r b (STM.tl x b)]) hR) (axd (u'::js) [] (Ob T p s x.length x.length r b (STM.tl x b)))
   exact ud (PAP.aof (cns (bf rfl) (cns (uy (bf rfl) (a1k (bf rfl) (jx hR rfl) rfl m4) (a06 ok _)) (cns (bf rfl) (cns (bf rfl) (cns (bf rfl) rfl))))) f3)
  by_cases hp':p=.op
  ·subst hp';obtain⟨z,u',ez,z0,z1,P4⟩:=SRC.nj (m:=4) P3 (by omega) (by omega) (by omega)
   have d1:gq false 2 SRC.ak [.ref 0,.int 4] (u::js)=.ok (.int z) (u'::js):=ez 0 _ rfl;have hR':(u'::js)[1]? = some (Ob T .op s x.length a r b (STM.tl x b)):=W.hR;have hO':(u'::js)[j]? = some (Ob T .op s x.length a2 r b (STM.tl x b)):=by
    have:=W.hO
    have j0:=W.j0
    cases j with
    |zero=>exact absurd rfl j0
    |succ j=>exact this
   have no:hNe (.str "open") (.str "open") (u::js)=.ok (.bl false) (u::js):=ax3 .op _
   by_cases hz:z=0
   ·exact⟨_,pre (aw (aN toR (a6c (aw (ifT (orF (t2s (a1k (bf rfl) (jx W.hR rfl) rfl m1) ckk no) (t2s (uy (bf rfl) ckk d1) ckk (a6d hz)))) (call u' hR')))) rfl)⟩
   ·obtain⟨rfl,v⟩:=W.st.op rfl;obtain rfl:=W.ha2 rfl;obtain⟨qs,p2,s2',ac,tel,er2,ql⟩:=W.st.close ok xt (by omega)
    have dr:=tel.dr (n:=1) rfl a1j o7 o7
    let O2:O:=Ob T p2 s2' x.length ac 0 none []
    obtain⟨js1,e1,k1⟩:=a7z (u:=u') (js:=js) (o:=O2) (k:=j) W.j0;have f1:gq false 1 STM.ik [.ref j] (u'::js)=.ok (.rol (qs.map K35.pcD)) (u'::js1):=(dr j _ hO').trans (by rw[e1])
    have hR1:(u'::js1)[1]? = some (Ob T .op s x.length x.length r b (STM.tl x b)):=by rw[<-e1,bK W.j1];exact hR'
    have hO1:(u'::js1)[j]? = some O2:=by rw[<-e1,bC (ag.mp hO').1]
    obtain⟨js2,e2,k2⟩:=a7z (u:=u') (js:=js1) (o:=O2) (k:=1) (by omega)
    have f2:gq false 1 STM.ik [.ref 1] (u'::js1)=.ok (.rol (qs.map K35.pcD)) (u'::js2):=(dr 1 _ hR1).trans (by rw[e2])
    have hR2:(u'::js2)[1]? = some O2:=by rw[<-e2,bC (ag.mp hR1).1]
    have hO2:(u'::js2)[j]? = some O2:=by rw[<-e2,bK (eV W.j1)];exact hO1
    have cj2:∀o∈u'::js2,vg 0 o:=λv hv=>(aS.mp hv).elim (λq=>by subst q;exact P4.clo) (k2 (k1 W.cj o7) o7 v)
    let Q:Res:=(acc,.op,s,r,b)
    let Q2:Res:=(acc++qs,p2,s2',0,none)
    have g1:∀hh:Hd,gq false 4 STM.jf [T.d,.rol (hpD T),STM.sD x,.bl false] hh=.ok (rsD Q) hh:=λhh=>by have:=ajy ok xt (by omega) false hh;rw[W.st.rn]at this;exact this
    have g2:∀hh:Hd,gq false 4 STM.jf [T.d,.rol (hpD T),STM.sD x,.bl true] hh=.ok (rsD Q2) hh:=λhh=>by have:=ajy ok xt (by omega) true hh;rw[er2]at this;exact this
    have m4:gq false 1 STM.az [.ref 1] (u'::js1)=.ok (stD .op s x.length r b (STM.tl x b)) (u'::js1):=(zj 1 _ hR1).trans (by rw[ue hR1])
    let X:O:=Ob T p2 s2' x.length x.length 0 none []
    let DU:D:=stD p2 s2' x.length 0 none []
    have m5:gq false 1 STM.az [.ref 1] (u'::js2)=.ok DU (u'::js2):=(zj 1 _ hR2).trans (by rw[ue hR2])
    let B:Hd:=u'::js2++[X]
    have hX:B[(u'::js2).length]? = some X:=axd (u'::js2) [] X;have hOB:B[j]? = some O2:=a5f hO2;have m6:gq false 1 STM.iw [.ref (u'::js2).length] B=.ok (ftD p2 s2') B:=(afb _ _ hX).trans (by rw[ue hX])
    have m7:gq false 1 STM.iw [.ref j] B=.ok (ftD p2 s2') B:=(afb _ _ hOB).trans (by rw[ue hOB])
    have m8:gq false 1 STM.az [.ref (u'::js2).length] B=.ok DU B:=(zj _ _ hX).trans (by rw[ue hX])
    have m9:gq false 1 STM.az [.ref j] B=.ok DU B:=(zj _ _ hOB).trans (by rw[ue hOB])
    have sl':∀{τ:Sd},τ[12]? = some (some (rsD Q2))->τ[10]? = some (some (rsD Q))->sZ (a4y (s2 gIx (sV 12) (sI 0)) (oS (sA vh (ao (s2 gIx (sV 10) (sI 0)) bw))) oN) τ (u'::js2)=.ok (.rol (qs.map K35.pcD)) (u'::js2):=λh9 h7=>by
     have e:((acc++qs).map K35.pcD).drop (acc.map K35.pcD).length=qs.map K35.pcD:=by rw[bt,gN]
     refine a4e ((PAP.aki (u6 (bf h9) ckk (a5q (j:=0) rfl)) (PAP.aj5 (a09 (u6 (bf h7) ckk (a5q (j:=0) rfl)) a3d)) rfl (axc _ _)).trans (by rw[e])) (K35.a4k _ _) (λo ho=>lz (aV _) (cj2 o ho))
    refine⟨B,pre ?_⟩;refine eti (orF (t2s (a1k (bf rfl) (jx W.hR rfl) rfl m1) ckk no) (t2s (uy (bf rfl) ckk d1) ckk (a6e hz))) ?_;refine ets (a1k (bf rfl) (jx hO' rfl) rfl f1) ?_;refine ets (EVX.asa (bf rfl) (bf rfl) (bf rfl) ckk (g1 _)) ?_;refine eti (acx (zc (uy (a1k (bf rfl) (jx hR1 rfl) rfl m4) (uy (bf rfl) (bf rfl) (a8x (by omega) Q _)) (a7y _ _ _ _ _ _ _)) (qm _))) ?_
    refine ets (a1k (bf rfl) (jx hR1 rfl) rfl f2) ?_;refine ets (EVX.asa (bf rfl) (bf rfl) (bf rfl) ckk (g2 _)) ?_;refine eti (orF (t2s (bf rfl) (bf rfl) (afh qs _)) (acx (zc (uy (bf rfl) (sl' rfl rfl) (agi qs (by omega) _)) (qm _)))) ?_
    refine ets (uy (bf rfl) (a1k (bf rfl) (jx hR2 rfl) rfl m5) (a06 ok _)) ?_;refine ets (uy (bf rfl) (bf rfl) (a8x (by omega) Q2 _)) ?_
    refine eti (orF (t2s (a1k (bf rfl) (jx hX rfl) rfl m6) (a1k (bf rfl) (jx hOB rfl) rfl m7) (azv _ _ _)) (acx (zc (uy (a1k (bf rfl) (jx hX rfl) rfl m8) (bf rfl) (a7y _ _ _ _ _ _ _)) (qm _)))) ?_;exact aw (aN toR (ud (uy (a1k (bf rfl) (jx hOB rfl) rfl m9) (bf rfl) (a7y _ _ _ _ _ _ _)))) rfl
  ·have pf:(phS p == ("open" : Str))=false:=by cases p<;>first|exact absurd rfl hp'|decide +kernel
   have no:hNe (.str (phS p)) (.str "open") (u::js)=.ok (.bl true) (u::js):=by rw[aqr,pf];rfl
   exact⟨_,pre (aw (aN toR (a6c (aw (ifT (orT (t2s (a1k (bf rfl) (jx W.hR rfl) rfl m1) ckk no))) (call u W.hR)))) rfl)⟩
 ·rintro pre l post τ hh all ⟨u,js,j,x,acc,p,s,a,a2,r,b,t8,rfl,rfl,P3,W,xl,xt⟩
  have lt:ls=pre++l::post:=all;have fl:pre.flatten.length+l.length<=y.length:=by rw[<-lf,lt,dQ,cJ,ai,ai];omega
  have lm:∀c∈l,c∈T.tg:=λc hc=>yt c (by rw[<-lf,lt];exact List.mem_flatten.mpr ⟨l,by simp,hc⟩)
  have xlt:∀c∈x++l,c∈T.tg:=λc hc=>(aY.mp hc).elim (xt c) (lm c);have pl:pre.length<=50:=by have:=aN List.length lt;simp at this;omega
  obtain⟨u',js',j',x',acc',p',s',a',a2',r',b',e,P',W',hx'⟩:=aka (sc:=.scr (ns.map D.int)) (y:=y) ok xlt (by rw[ai];omega) P3 (by omega) W
  refine⟨_,_,rfl,_,_,e,u',js',j',x',acc',p',s',a',a2',r',b',_,rfl,rfl,P'.up (by rw[ai,aI];omega),W',?_,?_⟩
  ·rw[dQ,eU,ai]
   rcases hx' with⟨-,rfl⟩|⟨-,rfl,-⟩
   ·rw[ai];omega
   ·omega
  ·rcases hx' with⟨-,rfl⟩|⟨-,rfl,-⟩
   ·exact xlt
   ·exact xt
end
end K52
namespace K52
open L2 MI
def an4(K:Fg):Sp:=λvs H Q _=>∃(a:Addr) (ns:List Int),vs=[.ref a]/\SqF K H a (ns.map V.int)/\ns.length<=63/\∀H',Q (.bl true) H'
theorem acr{K:Fg}{ι:List Addr}{H:Hp}:∀ns:List Int,Reps K ι H (ns.map V.int) (ns.map D.int)
 |[]=>.nil
 |n::ns=>.cons (.int n) (acr ns)
theorem axf{K:Fg}(vs:List V)(H:Hp)(Q:VK)(E:XK)(h:an4 K vs H Q E):a00 K 1 K52.ak9 vs H Q E:=by
 obtain⟨a,ns,rfl,hS,hl,q⟩:=h;obtain⟨h',e⟩:=K52.axe ns;refine⟨rfl,[],[.scr (ns.map D.int)],[],.cons (.scr hS (acr ns)) .nil,⟨gM,rfl,λi a o z=>by simp at z⟩,?_⟩
 rw[e]
 intro ι' H' b g r hr
 cases r
 exact q H'
theorem axg{K:Fg}{H:Hp}{a:Addr}{vs:List V}(hO:Only H)(hS:SqL K H a vs):SqF K H a vs:=by
 rcases hS with r|r
 ·rcases r with r|⟨o,r⟩
  ·rcases hO a with z|⟨o,xs,z⟩<;>rw[z]at r<;>cases r
  ·exact .inl ⟨o,r⟩
 ·exact .inr (.inr r)
def Dg(K:Fg)(f:Addr)(nm rq:Str)(t:Stmt):Prop:=∃oc od kV dc pm an cd ct sl,K.lookup f=some ⟨oc,od,.func (PySem.W.fnOf nm rq (a3w t) (km t) (bc t) .none kV dc pm an cd ct),sl⟩/\PySem.W.codeIn K cd rq=true/\PySem.W.keepIn K (.ref f)=true
theorem dg{K:Fg}{f:Addr}{nm rq:Str}{t:Stmt}(d:Dg K f nm rq t):∃e,Fun K nm rq t f e:=by
 obtain⟨_,_,_,_,_,_,_,_,_,l,c,k⟩:=d;exact⟨_,anb l c k⟩
abbrev fo(x:Str)(t:Stmt)(kV dc pm:Value)(an:Option Addr)(cd ct:Value):=PySem.W.fnOf x x (a3w t) (km t) (bc t) .none kV dc pm an cd ct
def Df(K:Fg)(f:Addr)(nm:Str)(i:Nat):Prop:=∃oc od kV dc pm an cd ct sl,PySem.W.nsIn K mainGlobals nm=some (some (.ref f))/\K.lookup f=some ⟨oc,od,.func (fo nm (top i) kV dc pm an cd ct),sl⟩/\PySem.W.codeIn K cd nm=true/\PySem.W.keepIn K (.ref f)=true
theorem df{K:Fg}{f:Addr}{nm:Str}{i:Nat}(d:Df K f nm i):∃e,PySem.W.nsIn K mainGlobals nm=some (some (.ref f))/\Fun K nm nm (top i) f e:=by
 obtain⟨_,_,_,_,_,_,_,_,_,a,l,c,k⟩:=d;exact⟨_,a,anb l c k⟩
theorem a0i{P:Program}{w:World}{K:Fg}{mg:Str->Option Value}{base h:Heap}{f:Addr}{nm:Str}{i k:Nat}{F:SF}{N ps:List Str}{b:SS}(S:FnScope N ps (bc (top i)))(d:Df K f nm i)(X:K.In h)(G:h.Ns mainGlobals mg)
  (hb:∀(cdv:Value) (A:Around) (outer:List Env) (s:Shared) (H:Hp) (E:XK),Room k (A.deeper (PyProof.Rows.envOfC nm (bc (top i)) s.heap.objs.size f cdv))->MSs (a5r CX0 P w K mg base N nm (bc (top i)) f cdv A outer s H E).nox X0 (km (top i)) b)
  (h:∀(kV doc pm:Value) (an:Option Addr) (cdv ct:Value) (us:List Value),us.length=ps.length->bindArgs (PySem.W.fnOf nm nm (a3w (top i)) (km (top i)) (bc (top i)) .none kV doc pm an cdv ct) ⟨us,[]⟩=pure (ps.zip us)) (e:F=nq b N.length:=by rfl) :
  ∃fd,Dn P w K mg base (k+1) nm ps (a00 K ps.length F) f fd:=by
 obtain⟨_,a,Fu⟩:=df d;rw[e];exact⟨_,xr Fu S hb,fF X G a,Fu.kp,Fu.binds h⟩
local macro_rules|`(tactic|walk_at "b") => `(tactic|(intro _ _ _ _ _ _ us hl;first|(apply b0e hl;intro _;exact rfl)|(apply b0f hl;intro _ _;exact rfl)|(apply b0g hl;intro _ _ _;exact rfl)|(apply b0h hl;intro _ _ _ _;exact rfl)|(apply b0i hl;intro _ _ _ _ _;exact rfl)|(apply b1x hl;intro _ _ _ _ _ _;exact rfl)|(apply len0 hl;exact rfl)))
theorem axh{l:PySem.W.OpenLaw}{w:World}{K:Fg}{h:Heap}{mg:Str->Option Value}{fa f1 f2 f3 f4 f5 f6 f7 f8 f9 f10 f11 f12 f13 f14 f15 f16 f17 f18 f19 f20 f21 f22 f23 f24 f25 f26 f27:Addr}(X:K.In h)(G:h.Ns mainGlobals mg)(hfa:mg "law" = some (.ref fa))
  (d1:Df K f1 "is_text" 6)
  (d2:Df K f2 "looked_text" 8)
  (d3:Df K f3 "room_from" 9)
  (d4:Df K f4 "rooms_along" 10)
  (d5:Df K f5 "hope_words" 12)
  (d6:Df K f6 "hope_word" 13)
  (d7:Df K f7 "hopes" 14)
  (d8:Df K f8 "resumed" 20)
  (d9:Df K f9 "_law_source" 22)
  (d10:Df K f10 "_law_draw" 23)
  (d11:Df K f11 "_law_signs" 24)
  (d12:Df K f12 "_law_tongue" 25)
  (d13:Df K f13 "_law_rooms" 26)
  (d14:Df K f14 "_law_grown" 27)
  (d15:Df K f15 "_law_met" 28)
  (d16:Df K f16 "_law_case" 29)
  (d17:Df K f17 "_law_hope" 30)
  (d18:Df K f18 "_law_along" 31)
  (d19:Df K f19 "_law_run" 32)
  (d20:Df K f20 "_law_numbers" 33)
  (d21:Df K f21 "_law_pieces" 34)
  (d22:Df K f22 "_law_parts" 36)
  (d23:Df K f23 "_law_stand" 37)
  (d24:Df K f24 "_law_stand_right" 38)
  (d25:Df K f25 "_law_alike" 39)
  (d26:Df K f26 "_law_another" 40)
  (d27:Df K f27 "law" 41)
  {C1:Addr} (q1:PySem.W.nsIn K mainGlobals "Stream" = some (some (.ref C1))) (qc1:Cls K C1) (qn1_0:NoAttr K C1 "table") (qn1_1:NoAttr K C1 "hope") (qn1_2:NoAttr K C1 "phase") (qn1_3:NoAttr K C1 "start") (qn1_4:NoAttr K C1 "fed") (qn1_5:NoAttr K C1 "at") (qn1_6:NoAttr K C1 "room") (qn1_7:NoAttr K C1 "last") (qn1_8:NoAttr K C1 "rest")
  {j1:Addr} {B1:Addr} (qd1:PySem.W.nsIn K mainGlobals "Reader" = some (some (.ref B1))) (qf1:PySem.W.findCls K (.ref B1) (.type "type") "__init__" = some (.val (.ref j1))) (qs1:PySem.W.specialIn K (.ref B1) "__getattribute__" = some (some (.builtin "type.__getattribute__"))) (qr1:PySem.W.readsIn K B1 (.type "type")=true) (qh1:PySem.W.handedIn (.ref j1)=true) (jl1:Dg K j1 "__init__" "Reader.__init__" (cst (top 16) 0))
  {j2:Addr} (qm2:Meth K C1 "state" j2) (jl2:Dg K j2 "state" "Reader.state" (cst (top 16) 1))
  {j3:Addr} (qm3:Meth K C1 "seen" j3) (jl3:Dg K j3 "seen" "Reader.seen" (cst (top 16) 2))
  {j4:Addr} (qm4:Meth K C1 "stopped_at" j4) (jl4:Dg K j4 "stopped_at" "Reader.stopped_at" (cst (top 16) 3))
  {j5:Addr} (qm5:Meth K C1 "look_ended" j5) (jl5:Dg K j5 "look_ended" "Reader.look_ended" (cst (top 16) 4))
  {j6:Addr} (qm6:Meth K C1 "take" j6) (jl6:Dg K j6 "take" "Reader.take" (cst (top 16) 5))
  {j7:Addr} (qm7:Mk K C1 j7) (jl7:Dg K j7 "__init__" "Walker.__init__" (cst (top 17) 0))
  {j8:Addr} (qm8:Meth K C1 "begin" j8) (jl8:Dg K j8 "begin" "Walker.begin" (cst (top 17) 1))
  {j9:Addr} (qm9:Meth K C1 "feed" j9) (jl9:Dg K j9 "feed" "Walker.feed" (cst (top 17) 2))
  {j10:Addr} (qm10:Meth K C1 "close" j10) (jl10:Dg K j10 "close" "Walker.close" (cst (top 17) 3))
  {j11:Addr} (qm11:Meth K C1 "read" j11) (jl11:Dg K j11 "read" "Walker.read" (cst (top 17) 4))
  {j12:Addr} (qm12:Meth K C1 "go" j12) (jl12:Dg K j12 "go" "Walker.go" (cst (top 17) 5))
  {j13:Addr} (qm13:Meth K C1 "go_behind" j13) (jl13:Dg K j13 "go_behind" "Walker.go_behind" (cst (top 17) 6))
  {j14:Addr} (qm14:Meth K C1 "stop" j14) (jl14:Dg K j14 "stop" "Walker.stop" (cst (top 17) 7))
  {j15:Addr} (qm15:Meth K C1 "kept" j15) (jl15:Dg K j15 "kept" "Walker.kept" (cst (top 17) 8))
  {j16:Addr} (qm16:Meth K C1 "settle" j16) (jl16:Dg K j16 "settle" "Stream.settle" (cst (top 19) 0))
  {j17:Addr} (qm17:Meth K C1 "fault" j17) (jl17:Dg K j17 "fault" "Stream.fault" (cst (top 19) 1))
  {j18:Addr} (qm18:Meth K C1 "stand" j18) (jl18:Dg K j18 "stand" "Stream.stand" (cst (top 19) 2))
  {j19:Addr} (qm19:Meth K C1 "twin" j19) (jl19:Dg K j19 "twin" "Stream.twin" (cst (top 19) 3))
  (z1:PySem.W.nsIn K mainGlobals "abs" = some none) (z2:PySem.W.nsIn K mainGlobals "all" = some none) (z3:PySem.W.nsIn K mainGlobals "bool" = some none) (z4:PySem.W.nsIn K mainGlobals "int" = some none) (z5:PySem.W.nsIn K mainGlobals "isinstance" = some none) (z6:PySem.W.nsIn K mainGlobals "len" = some none) (z7:PySem.W.nsIn K mainGlobals "list" = some none) (z8:PySem.W.nsIn K mainGlobals "min" = some none) (z9:PySem.W.nsIn K mainGlobals "range" = some none) (z10:PySem.W.nsIn K mainGlobals "sorted" = some none) (z11:PySem.W.nsIn K mainGlobals "str" = some none) (z12:PySem.W.nsIn K mainGlobals "sum" = some none) (z13:PySem.W.nsIn K mainGlobals "tuple" = some none) (z14:PySem.W.nsIn K mainGlobals "zip" = some none)  :
  ∃fd:FuncData,(∀(s:Shared) (v:Value),BindsTo s fd ⟨[v],[]⟩ [("_law_script",v)])/\∀base:Heap,K.In base->base.Ns mainGlobals mg->FnOk l.prog w K mg base CX0 10 fa fd ["_law_script"] (an4 K):=by
 obtain⟨_,a27,F27⟩:=df d27;have e:=hfa.symm.trans (fF X G a27);cases e
 obtain⟨oc,od,kV27,dc27,pm27,an27,cd27,ct27,sl,rfl,lk,hc⟩:=id F27.ex;have b27:=F27.binds (ps:=["_law_script"]) (by walk_at "b")
 have M:Nm mg:=⟨bL X G z1,bL X G z2,bL X G z3,bL X G z4,bL X G z5,bL X G z6,bL X G z7,bL X G z8,bL X G z9,bL X G z10,bL X G z11,bL X G z12,bL X G z13,bL X G z14⟩;refine⟨PySem.W.fnOf "law" "law" (a3w (top 41)) (km (top 41)) (bc (top 41)) .none kV27 dc27 pm27 an27 cd27 ct27,λs v=>.of_eq rfl,λbase _ _=>?_⟩
 have Q_Stream:CK K mg "Stream" C1 ["table","hope","phase","start","fed","at","room","last","rest"]:=⟨fF X G q1,q1,qc1,λk hk=>by
  simp only[aS,bp,cG]at hk
  rcases hk with rfl|rfl|rfl|rfl|rfl|rfl|rfl|rfl|rfl
  ·exact qn1_0
  ·exact qn1_1
  ·exact qn1_2
  ·exact qn1_3
  ·exact qn1_4
  ·exact qn1_5
  ·exact qn1_6
  ·exact qn1_7
  ·exact qn1_8⟩
 obtain⟨_,D_0⟩:=a0i (F:=STP.ut) (k:=0) b0j d1 X G (m_0 M) (by walk_at "b")
 obtain⟨_,D_1⟩:=a0i (F:=STM.ww) (k:=1) b0k d2 X G (m_1 D_0 (by decide)) (by walk_at "b")
 obtain⟨_,D_3⟩:=a0i (F:=STP.o6) (k:=0) b0n d4 X G (m_3 ) (by walk_at "b")
 obtain⟨_,D_2⟩:=a0i (F:=STP.qj) (k:=1) b0m d3 X G (m_2 D_3 (by decide)) (by walk_at "b")
 obtain⟨_,D_5⟩:=a0i (F:=RCH.jg) (k:=0) b0p d6 X G (m_5 M) (by walk_at "b")
 obtain⟨_,D_4⟩:=a0i (F:=RCH.jb) (k:=1) b0o d5 X G (m_4 M D_5 (by decide)) (by walk_at "b")
 obtain⟨_,D_6⟩:=a0i (F:=RCH.a3k) (k:=2) b0q d7 X G (m_6 M D_4 (by decide)) (by walk_at "b")
 obtain⟨_,J1⟩:=dg jl1;have jb1:=J1.binds (ps:=["self","table"]) (by walk_at "b")
 have D_7:Dc l.prog w K mg base 4 "Reader" "__init__" ["self","table"] 2 STM.wz _ _:=⟨xr J1 b0r (m_7 Q_Stream D_6 (by decide)),jb1,⟨_,_,fF X G qd1,qs1,qr1,qf1,qh1⟩,J1.kp⟩
 obtain⟨_,J8⟩:=dg jl8;have jb8:=J8.binds (ps:=["self","place"]) (by walk_at "b")
 have D_14:Dm l.prog w K mg base 1 C1 "begin" ["self","place"] 2 STM.jd _ _:=⟨xr J8 avi (b22 Q_Stream),jb8,qm8⟩;obtain⟨_,J7⟩:=dg jl7;have jb7:=J7.binds (ps:=["self","table"]) (by walk_at "b")
 have D_13:Di l.prog w K mg base 5 "Stream" C1 ["table","hope","phase","start","fed","at","room","last","rest"] ["self","table"] 1 STM.ji _ _:=⟨xr J7 avh (b21 Q_Stream D_7 (by decide) D_14 (by decide)),jb7,qm7,Q_Stream⟩
 obtain⟨_,D_26⟩:=a0i (F:=STM.iz) (k:=6) avu d8 X G (b2f Q_Stream D_13 (by decide)) (by walk_at "b")
 obtain⟨_,D_27⟩:=a0i (F:=SRC.qd) (k:=0) avv d9 X G (b2g M) (by walk_at "b")
 obtain⟨_,D_28⟩:=a0i (F:=SRC.ak) (k:=0) avw d10 X G (b2h M) (by walk_at "b")
 obtain⟨_,D_29⟩:=a0i (F:=SRC.qi) (k:=0) avx d11 X G (b2j ) (by walk_at "b")
 obtain⟨_,D_30⟩:=a0i (F:=SRC.jk) (k:=1) avy d12 X G (b2k M D_28 (by decide) D_29 (by decide)) (by walk_at "b")
 obtain⟨_,D_31⟩:=a0i (F:=CAS.kh) (k:=1) avz d13 X G (b2l M D_28 (by decide)) (by walk_at "b")
 obtain⟨_,D_32⟩:=a0i (F:=CAS.jw) (k:=1) aw0 d14 X G (b2m M D_28 (by decide)) (by walk_at "b")
 obtain⟨_,D_33⟩:=a0i (F:=CAS.sr) (k:=0) aw1 d15 X G (b2n M) (by walk_at "b")
 obtain⟨_,D_34⟩:=a0i (F:=CAS.uv) (k:=2) aw2 d16 X G (b2o M D_28 (by decide) D_32 (by decide) D_33 (by decide) D_31 (by decide) D_30 (by decide)) (by walk_at "b")
 obtain⟨_,D_35⟩:=a0i (F:=STM.qz) (k:=0) aw3 d17 X G (b2p M) (by walk_at "b")
 obtain⟨_,D_36⟩:=a0i (F:=STM.ju) (k:=0) aw4 d18 X G (b2q M) (by walk_at "b")
 obtain⟨_,D_37⟩:=a0i (F:=STM.jf) (k:=1) aw5 d19 X G (b2r M D_36 (by decide)) (by walk_at "b")
 obtain⟨_,D_38⟩:=a0i (F:=SRC.jh) (k:=0) aw6 d20 X G (b2s M) (by walk_at "b")
 obtain⟨_,D_39⟩:=a0i (F:=STM.qe) (k:=1) aw7 d21 X G (b2t M D_38 (by decide)) (by walk_at "b")
 obtain⟨_,D_40⟩:=a0i (F:=TWN.o8) (k:=1) aw8 d22 X G (b2u M D_28 (by decide)) (by walk_at "b")
 obtain⟨_,D_41⟩:=a0i (F:=K52.iy) (k:=0) aw9 d23 X G (b2v M) (by walk_at "b")
 obtain⟨_,D_42⟩:=a0i (F:=K52.bz) (k:=1) awa d24 X G (b2w M D_38 (by decide)) (by walk_at "b")
 obtain⟨_,J3⟩:=dg jl3;have jb3:=J3.binds (ps:=["self"]) (by walk_at "b")
 have D_9:Dm l.prog w K mg base 1 C1 "seen" ["self"] 1 STM.n6 _ _:=⟨xr J3 b0t (m_9 Q_Stream),jb3,qm3⟩;obtain⟨_,J2⟩:=dg jl2;have jb2:=J2.binds (ps:=["self"]) (by walk_at "b")
 have D_8:Dm l.prog w K mg base 1 C1 "state" ["self"] 1 STM.dj _ _:=⟨xr J2 b0s (m_8 Q_Stream),jb2,qm2⟩;obtain⟨_,J18⟩:=dg jl18;have jb18:=J18.binds (ps:=["self"]) (by walk_at "b")
 have D_24:Dm l.prog w K mg base 1 C1 "stand" ["self"] 1 STM.az _ _:=⟨xr J18 avs (b2d Q_Stream),jb18,qm18⟩;obtain⟨_,J15⟩:=dg jl15;have jb15:=J15.binds (ps:=["self"]) (by walk_at "b")
 have D_21:Dm l.prog w K mg base 1 C1 "kept" ["self"] 1 STM.n8 _ _:=⟨xr J15 avp (b2a Q_Stream),jb15,qm15⟩;obtain⟨_,D_43⟩:=a0i (F:=K52.o9) (k:=2) awb d25 X G (b2x Q_Stream D_9 (by decide) D_8 (by decide) D_24 (by decide) D_21 (by decide) D_37 (by decide) D_41 (by decide) D_42 (by decide)) (by walk_at "b")
 obtain⟨_,J19⟩:=dg jl19;have jb19:=J19.binds (ps:=["self"]) (by walk_at "b")
 have D_25:Dm l.prog w K mg base 8 C1 "twin" ["self"] 1 STM.jq _ _:=⟨xr J19 avt (b2e Q_Stream D_24 (by decide) D_26 (by decide)),jb19,qm19⟩
 obtain⟨_,D_44⟩:=a0i (F:=K52.oh) (k:=8) awc d26 X G (b2y Q_Stream D_24 (by decide) D_25 (by decide) D_28 (by decide) D_26 (by decide)) (by walk_at "b")
 obtain⟨_,J4⟩:=dg jl4;have jb4:=J4.binds (ps:=["self"]) (by walk_at "b")
 have D_10:Dm l.prog w K mg base 1 C1 "stopped_at" ["self"] 1 STM.ph _ _:=⟨xr J4 avd (b1y Q_Stream),jb4,qm4⟩;obtain⟨_,J17⟩:=dg jl17;have jb17:=J17.binds (ps:=["self"]) (by walk_at "b")
 have D_23:Dm l.prog w K mg base 2 C1 "fault" ["self"] 1 STM.iw _ _:=⟨xr J17 avr (b2c Q_Stream D_10 (by decide)),jb17,qm17⟩
 obtain⟨_,J5⟩:=dg jl5;have jb5:=J5.binds (ps:=["self"]) (by walk_at "b")
 have D_11:Dm l.prog w K mg base 1 C1 "look_ended" ["self"] 1 STM.dh _ _:=⟨xr J5 ave (b1z Q_Stream),jb5,qm5⟩;obtain⟨_,J13⟩:=dg jl13;have jb13:=J13.binds (ps:=["self"]) (by walk_at "b")
 have D_19:Dm l.prog w K mg base 2 C1 "go_behind" ["self"] 1 STM.qg _ _:=⟨xr J13 avn (b28 Q_Stream D_14 (by decide)),jb13,qm13⟩
 obtain⟨_,J14⟩:=dg jl14;have jb14:=J14.binds (ps:=["self"]) (by walk_at "b")
 have D_20:Dm l.prog w K mg base 2 C1 "stop" ["self"] 1 STM.wu _ _:=⟨xr J14 avo (b29 Q_Stream D_14 (by decide)),jb14,qm14⟩
 obtain⟨_,J16⟩:=dg jl16;have jb16:=J16.binds (ps:=["self","told"]) (by walk_at "b")
 have D_22:Dm l.prog w K mg base 3 C1 "settle" ["self","told"] 2 STM.bx _ _:=⟨xr J16 avq (b2b Q_Stream D_19 (by decide) D_20 (by decide)),jb16,qm16⟩
 obtain⟨_,J12⟩:=dg jl12;have jb12:=J12.binds (ps:=["self","sign"]) (by walk_at "b")
 have D_18:Dm l.prog w K mg base 3 C1 "go" ["self","sign"] 2 STM.jz _ _:=⟨xr J12 avm (b26 Q_Stream D_2 (by decide)),jb12,qm12⟩
 obtain⟨_,J11⟩:=dg jl11;have jb11:=J11.binds (ps:=["self","signs"]) (by walk_at "b")
 have D_17:Dm l.prog w K mg base 4 C1 "read" ["self","signs"] 2 STM.gj _ _:=⟨xr J11 avl (b25 Q_Stream D_22 (by decide) D_18 (by decide)),jb11,qm11⟩
 obtain⟨_,J10⟩:=dg jl10;have jb10:=J10.binds (ps:=["self"]) (by walk_at "b")
 have D_16:Dm l.prog w K mg base 5 C1 "close" ["self"] 1 STM.ik _ _:=⟨xr J10 avk (b24 Q_Stream D_11 (by decide) D_22 (by decide) D_17 (by decide)),jb10,qm10⟩
 obtain⟨_,J6⟩:=dg jl6;have jb6:=J6.binds (ps:=["self","part"]) (by walk_at "b")
 have D_12:Dm l.prog w K mg base 3 C1 "take" ["self","part"] 2 STM.wy _ _:=⟨xr J6 avf (b20 M Q_Stream D_11 (by decide) D_1 (by decide)),jb6,qm6⟩
 obtain⟨_,J9⟩:=dg jl9;have jb9:=J9.binds (ps:=["self","part"]) (by walk_at "b")
 have D_15:Dm l.prog w K mg base 5 C1 "feed" ["self","part"] 2 STM.jo _ _:=⟨xr J9 avj (b23 Q_Stream D_12 (by decide) D_17 (by decide)),jb9,qm9⟩
 have D_45:Dn l.prog w K mg base 10 "law" ["_law_script"] (a00 K 1 (K52.ak9)) _ _:=⟨xr F27 awd (b2z M Q_Stream D_8 (by decide) D_23 (by decide) D_24 (by decide) D_16 (by decide) D_15 (by decide) D_13 (by decide) D_43 (by decide) D_44 (by decide) D_34 (by decide) D_28 (by decide) D_35 (by decide) D_40 (by decide) D_39 (by decide) D_37 (by decide) D_27 (by decide) D_41 (by decide) D_42 (by decide) D_26 (by decide)),fF X G a27,F27.kp,b27⟩
 exact D_45.ok.imp axf
theorem walk{l:PySem.W.OpenLaw}{q:Program}{loose:List Str}{XP:(Str->Option Value)->Heap->Prop}{YP:World->Heap->Prop}{d:DefRec}{K:Params->Fg}(hn:l.most=some 63)(hdf:d.params.defaults=[])
  (hY:∀(w:World) (h:Heap),YP w h->(K w.params).In h)
  (F:∀(w:World) (mg:Str->Option Value) (fa:Addr) (h:Heap),(K w.params).In h->h.Ns mainGlobals mg->mg d.name=some (.ref fa)->
   ∃fd:FuncData,(∀(s:Shared) (u:Value),BindsTo s fd ⟨[u],[]⟩ [("_law_script",u)])/\∀base:Heap,(K w.params).In base->base.Ns mainGlobals mg->FnOk l.prog w (K w.params) mg base CX0 10 fa fd ["_law_script"] (an4 (K w.params))) :
  PySem.W.WalkO q loose XP YP l.row.toRowW d [] (λf vs=>PySem.call f vs) :=
 L2.ap9 (n:=63) (k:=10) (x := "_law_script") (CX:=λ_=>CX0) (sp:=λw=>an4 (K w.params)) hn (by decide) hdf ⟨rfl,by decide,by decide,rfl⟩ hY F (λ_ _ a ns hl hO hS=>⟨a,ns,rfl,axg hO hS,hl,λ_=>rfl⟩) λ_ _ _ _ _ z=>z
end K52
open PySem.W PyProof.Rows
local macro_rules|`(tactic|o_head $H) => `(tactic|refine PySem.W.holds_open (q:=K52.hq) (loose:=K52.hl) (Xt:=fun _=>true) (XP:=fun _ _=>True) (Yf:=Hook.obs $H) (Ya:=Hook.val $H) (YP:=Hook.says $H) (N:=20000) ?hl (Hook.of $H) (Hook.keeps $H) (fun _ _=>trivial) (fun _ _ _ _ _=>trivial) (by rfl) (by rfl) (by rfl) (fun _ _=>recFacts_nil rfl) (by rfl) (by assumption) (by decide +kernel) ⟨rfl,rfl,rfl,rfl,rfl,by decide +kernel⟩ ?hw ?hc)
set_option maxRecDepth 100000 in
set_option maxHeartbeats 0 in
theorem PySem.Challenge.cw_nearreach_k52_stands_and_readers_resumed_holds : PySem.Challenge.rw_nearreach_k52_stands_and_readers_resumed.Holds := by
 w_on;refine holds_law K52.said fun said=>?_;o_head (kHook K52.A.heap_1 [2,3,15,22,23,24,25,28,35,36,37,40,47,48,49,52,59,60,61,64,67,68,69,71,72,74,75,76,78,79,81,82,83,85,86,88,89,90,93,94,95,97,98,100,101,102,105,106,114,116,117,119,120,121,123,124,126,127,128,130,131,133,134,135,137,138,140,141,142,144,145,147,148,149,151,152,154,155,156,157,158,159,160,163,170,172,173,175,176,177,179,180,182,183,184,186,187,189,190,191,193,194,196,197,198,200,201,203,204,205,207,208,210,211,212,214,215,217,218,219,221,222,224,225,226,228,229,231,232,233,234,235,238,245,247,248,250,251,252,254,255,257,258,259,261,262,264,265,266,268,269,271,272,273,274,275,278,280,281,283,284,285,288,289,290,292,293,295,296,297,299,300,302,303,304,306,307,309,310,311,314,315,316,319,320,321,324,325,326,329,330,331,334,335,336,338,339,341,342,343,345,346,348,349,350,352,353,355,356,357,359,360,362,363,371,374,375,376,378,379,381,382,383,385,386,388,389,390,392,393,395,396,397,399,400,402,403,404,406,407,409,410] (fun _=>by kernel_rfl))
 (case hw=>w_witness2)
 (case hl=>exact K52.hlok)
 k_fill
 refine K52.walk (l:=PySem.Challenge.rw_nearreach_k52_stands_and_readers_resumed) rfl rfl (fun w h Y=>PySem.W.kIn_of Y) ?F
 case F =>
  intro w mg fa h KX G hmg
  refine' K52.axh KX G hmg ?_ ?_ ?_ ?_ ?_ ?_ ?_ ?_ ?_ ?_ ?_ ?_ ?_ ?_ ?_ ?_ ?_ ?_ ?_ ?_ ?_ ?_ ?_ ?_ ?_ ?_ ?_ ?q1 ?qc1 ?qn1_0 ?qn1_1 ?qn1_2 ?qn1_3 ?qn1_4 ?qn1_5 ?qn1_6 ?qn1_7 ?qn1_8 ?qd1 ?qf1 ?qs1 ?qr1 ?qh1 ?jl1 ?qm2 ?jl2 ?qm3 ?jl3 ?qm4 ?jl4 ?qm5 ?jl5 ?qm6 ?jl6 ?qm7 ?jl7 ?qm8 ?jl8 ?qm9 ?jl9 ?qm10 ?jl10 ?qm11 ?jl11 ?qm12 ?jl12 ?qm13 ?jl13 ?qm14 ?jl14 ?qm15 ?jl15 ?qm16 ?jl16 ?qm17 ?jl17 ?qm18 ?jl18 ?qm19 ?jl19 ?_ ?_ ?_ ?_ ?_ ?_ ?_ ?_ ?_ ?_ ?_ ?_ ?_ ?_
  all_goals first | k_is | exact ⟨_,_,_,_,_,_,_,_,_,by k_is,by k_is,by k_is,by k_is⟩ | skip
  try (case q1=>k_is)
  try (case qc1=>constructor<;>first | k_is | kernel_rfl)
  try (case qn1_0=>unfold L2.NoAttr;kernel_rfl)
  try (case qn1_1=>unfold L2.NoAttr;kernel_rfl)
  try (case qn1_2=>unfold L2.NoAttr;kernel_rfl)
  try (case qn1_3=>unfold L2.NoAttr;kernel_rfl)
  try (case qn1_4=>unfold L2.NoAttr;kernel_rfl)
  try (case qn1_5=>unfold L2.NoAttr;kernel_rfl)
  try (case qn1_6=>unfold L2.NoAttr;kernel_rfl)
  try (case qn1_7=>unfold L2.NoAttr;kernel_rfl)
  try (case qn1_8=>unfold L2.NoAttr;kernel_rfl)
  try (case qd1=>k_is)
  try (case qf1=>k_is)
  try (case qs1=>first | k_is | kernel_rfl)
  try (case qr1=>kernel_rfl)
  try (case qh1=>first | rfl | kernel_rfl)
  try (case jl1=>exact ⟨_,_,_,_,_,_,_,_,_,by k_is,by k_is,by k_is⟩)
  try (case qm2=>constructor<;>first | k_is | kernel_rfl)
  try (case jl2=>exact ⟨_,_,_,_,_,_,_,_,_,by k_is,by k_is,by k_is⟩)
  try (case qm3=>constructor<;>first | k_is | kernel_rfl)
  try (case jl3=>exact ⟨_,_,_,_,_,_,_,_,_,by k_is,by k_is,by k_is⟩)
  try (case qm4=>constructor<;>first | k_is | kernel_rfl)
  try (case jl4=>exact ⟨_,_,_,_,_,_,_,_,_,by k_is,by k_is,by k_is⟩)
  try (case qm5=>constructor<;>first | k_is | kernel_rfl)
  try (case jl5=>exact ⟨_,_,_,_,_,_,_,_,_,by k_is,by k_is,by k_is⟩)
  try (case qm6=>constructor<;>first | k_is | kernel_rfl)
  try (case jl6=>exact ⟨_,_,_,_,_,_,_,_,_,by k_is,by k_is,by k_is⟩)
  try (case qm7=>constructor<;>first | k_is | kernel_rfl)
  try (case jl7=>exact ⟨_,_,_,_,_,_,_,_,_,by k_is,by k_is,by k_is⟩)
  try (case qm8=>constructor<;>first | k_is | kernel_rfl)
  try (case jl8=>exact ⟨_,_,_,_,_,_,_,_,_,by k_is,by k_is,by k_is⟩)
  try (case qm9=>constructor<;>first | k_is | kernel_rfl)
  try (case jl9=>exact ⟨_,_,_,_,_,_,_,_,_,by k_is,by k_is,by k_is⟩)
  try (case qm10=>constructor<;>first | k_is | kernel_rfl)
  try (case jl10=>exact ⟨_,_,_,_,_,_,_,_,_,by k_is,by k_is,by k_is⟩)
  try (case qm11=>constructor<;>first | k_is | kernel_rfl)
  try (case jl11=>exact ⟨_,_,_,_,_,_,_,_,_,by k_is,by k_is,by k_is⟩)
  try (case qm12=>constructor<;>first | k_is | kernel_rfl)
  try (case jl12=>exact ⟨_,_,_,_,_,_,_,_,_,by k_is,by k_is,by k_is⟩)
  try (case qm13=>constructor<;>first | k_is | kernel_rfl)
  try (case jl13=>exact ⟨_,_,_,_,_,_,_,_,_,by k_is,by k_is,by k_is⟩)
  try (case qm14=>constructor<;>first | k_is | kernel_rfl)
  try (case jl14=>exact ⟨_,_,_,_,_,_,_,_,_,by k_is,by k_is,by k_is⟩)
  try (case qm15=>constructor<;>first | k_is | kernel_rfl)
  try (case jl15=>exact ⟨_,_,_,_,_,_,_,_,_,by k_is,by k_is,by k_is⟩)
  try (case qm16=>constructor<;>first | k_is | kernel_rfl)
  try (case jl16=>exact ⟨_,_,_,_,_,_,_,_,_,by k_is,by k_is,by k_is⟩)
  try (case qm17=>constructor<;>first | k_is | kernel_rfl)
  try (case jl17=>exact ⟨_,_,_,_,_,_,_,_,_,by k_is,by k_is,by k_is⟩)
  try (case qm18=>constructor<;>first | k_is | kernel_rfl)
  try (case jl18=>exact ⟨_,_,_,_,_,_,_,_,_,by k_is,by k_is,by k_is⟩)
  try (case qm19=>constructor<;>first | k_is | kernel_rfl)
  try (case jl19=>exact ⟨_,_,_,_,_,_,_,_,_,by k_is,by k_is,by k_is⟩)
