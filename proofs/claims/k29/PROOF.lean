import PyProof.Rows.All
import Wide.All
import OpenK.AllK
import Wide.FinOn
import Lean
import PyProof.EqAt
import PyProof.EqKinds
import PyProof.TupleCall
import PyProof.ListStr
import PyProof.TupleOfStr
import PyProof.ConsumeWalk
import PyProof.SliceStr2
import PyProof.CompUse
import PyProof.Rows.SetFrom
import PyProof.SetRoads
import PyProof.StrLawsIn
import PyProof.Rows.StrIndexOr
import PyProof.Rows.StrJoin2
import PyProof.Rows.SumAny
import PyProof.Draws
import PyProof.ZipIter
import PyProof.EnumMake
import PyProof.ListRange
import PyProof.Rows.Range3
import KE.KStateDown
import PyProof.WalkInts
import PyProof.SeqI3
import Wide.Txt2
import PyProof.Rows.SortWalk
import PyProof.ReprRoads
import PyProof.CallFns
import KE.KTryDeep
import PyProof.ExcBaseAll.ValueError
import KE.KTryMore
import KE.KIsNot
import PyProof.ExcAttrAll.ValueError
import PyProof.NsDelKeeps
import PySem.SetOps
import PyProof.SetScanFacts
import PyProof.Walks
import PyProof.CollectWalk
import KE.KRevIter
import PyProof.CollectIter
import PyProof.WalksS
import PyProof.DictItems
import KE.KPairComp
import PyProof.WalksMore
import PyProof.ListNew
import PyProof.AttrMissHeap
import PyProof.FactsAll.zip
import PyProof.SeqWrite
import KE.KDictOf
import PySem.Challenge.RW_nearreach_k29_least_tables
set_option Elab.async false
set_option linter.all false
set_option maxRecDepth 100000
set_option maxHeartbeats 4000000
section
open PySem PySem.W PyProof.Rows
theorem K29.said:PySem.Challenge.rw_nearreach_k29_least_tables.wellSaid=true:=by kernel_rfl
noncomputable def K29.hq:Program:=view PySem.Challenge.pw_nearreach_k29_least_tables [PySem.Challenge.pw_nearreach_k29_least_tables.main.body.length - 1]
noncomputable def K29.hl:List Str:=PySem.Challenge.pw_nearreach_k29_least_tables.boundNames
local macro_rules | `(tactic| o_head $H) => `(tactic| refine PySem.W.holds_open (q:=K29.hq) (loose:=K29.hl) (Xt:=fun _=>true) (XP:=fun _ _=>True) (Yf:=Hook.obs $H) (Ya:=Hook.val $H) (YP:=Hook.says $H) (N:=20000) ?hl (Hook.of $H) (Hook.keeps $H) (fun _ _=>trivial) (fun _ _ _ _ _=>trivial) (by rfl) (by rfl) (by rfl) (fun _ _=>recFacts_nil rfl) (by rfl) (by assumption) (by decide +kernel) ⟨rfl,rfl,rfl,rfl,rfl,by decide +kernel⟩ ?hw ?hc)
set_option maxRecDepth 100000 in
set_option maxHeartbeats 0 in
theorem K29.A (hyp:∀ p:Prop,p):PySem.Challenge.rw_nearreach_k29_least_tables.Holds:=by
 w_on;refine holds_law K29.said fun said=>?_;k_head
 all_goals exact hyp _
set_option maxRecDepth 100000 in
set_option maxHeartbeats 0 in
theorem K29.hlok:LeftO PySem.Challenge.rw_nearreach_k29_least_tables.row.prog K29.hq K29.hl (fun _=>true) (Hook.obs (kHook K29.A.heap_1 [2,3,15,17,18,20,21,22,25,26,27,30,31,32,35,36,37,40,41,42,44,45,47,48,49,51,52,54,55,56,58,59,61,62,63,65,66,68,69,70,72,73,75,76,77,80,81,82,84,85,87,88,89,92,93,94,97,98,99,101,102,104,105,106,108,109,111,112,113,116,117,118,121,122,123,125,126,128,129,130,132,133,135,136,137,140,141,142,144,145,147,148,149,151,152,154,155] (fun _=>by kernel_rfl))) (Hook.val (kHook K29.A.heap_1 [2,3,15,17,18,20,21,22,25,26,27,30,31,32,35,36,37,40,41,42,44,45,47,48,49,51,52,54,55,56,58,59,61,62,63,65,66,68,69,70,72,73,75,76,77,80,81,82,84,85,87,88,89,92,93,94,97,98,99,101,102,104,105,106,108,109,111,112,113,116,117,118,121,122,123,125,126,128,129,130,132,133,135,136,137,140,141,142,144,145,147,148,149,151,152,154,155] (fun _=>by kernel_rfl))) 20000:=by
 intro w
 kernel_rfl
end
abbrev Fg:=PySem.W.Frag
def a6:=@List.getElem?_eq_getElem
def a7:=@List.getElem?_eq_some_iff
def a8:=@PySem.wpAny_bind
def a9:=@List.length_map
def af:=@PySem.Heap.get?_push_of_some
def ag:=@List.length_append
def ah:=@Nat.le_refl
def ai:=@List.mem_cons_of_mem
def ar:=@List.getElem?_map
def av:=@PySem.wpAny_pure
def aw:=@List.getElem?_append_right
def ax:=@List.getElem?_append_left
def ay:=@List.mem_cons
def aE:=@List.mem_map
def aI:=@List.mem_singleton
def aJ:=@List.size_toArray
def aK:=@List.map_cons
def aL:=@Option.map_eq_some_iff
def aM:=@List.length_singleton
def aN:=@List.mem_of_getElem?
def aO:=@List.length_range
def aP:=@List.mem_cons_self
def aQ:=@if_pos
def aR:=@decide_eq_false
def aS:=@decide_eq_true
def aT:=@PySem.Heap.get?_push_size
def aU:=@PySem.Heap.lt_size
def aV:=@List.map_map
def aW:=@List.length_cons
def aX:=@List.mem_range
def aY:=@Nat.lt_of_lt_of_le
def aZ:=@congrArg
def b6:=@Eq.trans
def b9:=@List.getElem?_cons_succ
def bg:=@if_neg
def bo:=@Bool.false_ne_true
def bp:=@Option.some.inj
def bq:=@List.not_mem_nil
def br:=@List.getElem_mem
def bt:=@List.getElem?_eq_none
def bA:=@Bool.false_eq_true
def bB:=@List.mem_append
def bC:=@List.map_append
def bD:=@List.nodup_append
def bE:=@List.getElem?_cons_zero
def bF:=@List.getElem?_set_self
def bG:=@PyProof.Rows.callWith_type1
def bH:=@List.length_nil
def bI:=@List.set_cons_succ
def bJ:=@PySem.W.mg_none_of
def bK:=@List.set_cons_zero
def bL:=@List.foldl_cons
def bM:=@Nat.ne_of_lt
def bN:=@List.getElem?_range
def bO:=@List.map_nil
def bP:=@List.getElem?_set_ne
def bQ:=@List.all_eq_true
def bR:=@PyProof.Rows.slot_tuple_getitem
def bS:=@List.mem_append_right
def bT:=@beq_eq_false_iff_ne
def bU:=@Nat.zero_le
def bV:=@List.map_congr_left
def bW:=@List.getElem_of_mem
def bX:=@List.nodup_cons
def bY:=@List.getElem?_zip_eq_some
def bZ:=@List.take_of_length_le
def c9:=@Nat.le_trans
def cb:=@PySem.W.kia_one
def cc:=@List.append_nil
def cf:=@PySem.mem_of_lookup
def cp:=@List.find?_cons
def cq:=@List.nil_append
def cv:=@Bool.and_eq_true
def cy:=@List.getElem?_of_mem
def cA:=@PySem.Heap.size_push
def cB:=@Option.map_some
def cC:=@Nat.lt_irrefl
def cD:=@beq_self_eq_true
def cE:=@PySem.wpAny_field
def cF:=@PySem.wpAny_truthy_bool
def cG:=@List.nodup_nil
def cH:=@PySem.wpAny_holding
def cI:=@PySem.wpAny_Call_Name_kw
def cJ:=@Bool.not_true
def cK:=@or_false
def cL:=@Int.eq_ofNat_of_zero_le
def cM:=@if_false
def cN:=@List.drop_eq_nil_of_le
def cO:=@Array.length_toList
def cP:=@Int.toNat_natCast
def cQ:=@if_true
def cR:=@List.replicate_succ
def cS:=@Array.getElem?_eq_getElem
def cT:=@PySem.wpAny_mono
def cU:=@List.length_take
def cV:=@PySem.wpAny_call_entry
def cW:=@List.cons_append
def cX:=@List.mem_append_left
def cY:=@PySem.wpAny_callSpecial?_slot
def cZ:=@PySem.wpAny_newObj_type
def d0:=@List.append_assoc
def da:=@Nat.lt_of_succ_lt
def de:=@List.length_zip
def dn:=@PySem.F.slot_tuple_iterator_next
def dv:=@List.getD_eq_getElem?_getD
def dA:=@List.nodup_range
def dB:=@PySem.Paired.length
def dC:=@PySem.wpAny_seqItems
def dD:=@List.pairwise_iff_getElem
def dE:=@List.mem_or_eq_of_mem_set
def dF:=@PySem.wpAny_passesOwn
def dG:=@List.flatten_cons
def dH:=@not_true_eq_false
def dI:=@List.foldl_append
def dJ:=@decide_false
def dM:=@List.filterMap_cons
def dO:=@List.getElem?_replicate
def dP:=@PySem.F.slot_zip_getattribute
def dQ:=@List.any_eq_true
def dR:=@List.find?_eq_none
def dS:=@List.mem_filter
def dU:=@List.length_replicate
def dW:=@PySem.Heap.get?_update_self
def dX:=@Array.getElem?_toList
def dY:=@decide_true
def dZ:=@List.any_cons
def e9:=@List.idxOf_append
def ee:=@List.length_eraseIdx
def eh:=@List.forIn_nil
def ei:=@Bool.not_false
def et:=@List.drop_eq_getElem_cons
def eA:=@List.length_drop
def eB:=@List.filter_cons
def eC:=@PySem.sizeLine_eq
def eD:=@PySem.Heap.SameBut.update
def eE:=@List.mem_of_mem_eraseIdx
def eF:=@List.of_mem_zip
def eG:=@PySem.wpAny_specialOf
def eI:=@Array.forIn_toList
def eJ:=@List.forIn_cons
def eK:=@List.length_eq_zero_iff
def eM:=@List.getElem?_take
def eN:=@PySem.wpAny_setField_rec
def eO:=@Bool.true_and
def eP:=@Bool.true_eq_false
def eQ:=@Int.emod_lt_of_pos
def eR:=@decide_eq_true_iff
def eS:=@PySem.Heap.get?_update_other
def eT:=@List.range_succ_eq_map
def eU:=@List.length_pos_of_mem
def eV:=@PySem.call_meets
def eW:=@PySem.F.slot_tuple_hash
def eX:=@Option.isSome_map
def eY:=@Nat.le_of_lt
def eZ:=@Nat.le_of_eq
def fg:=@PySem.isSubtype_tuple_tuple
def fh:=@List.singleton_append
def fm:=@List.length_filter_le
def fq:=@List.set_append_right
def ft:=@List.getElem_inj
def fw:=@PySem.wpAny_isInstance
def fz:=@Option.getD_some
def fA:=@Nat.lt_succ_self
def fB:=@List.mem_iff_getElem
def fD:=@PySem.wpAny_standAt
def fE:=@List.all_cons
def fF:=@Nat.add_assoc
def fG:=@PySem.F.args_tuple_iterator_next_1
def fH:=@Sum.inl.inj
def fI:=@Ne.symm
def fJ:=@PySem.wpAny_execs_nil
def fK:=@List.length_set
def fL:=@PySem.F.slot_tuple_eq
def fM:=@List.map_eq_nil_iff
def fN:=@List.range_succ
def fO:=@PySem.F.entry_tuple_iterator_next
def fP:=@List.cons.injEq
def fQ:=@PySem.F.slot_dict_len
def fR:=@Int.emod_nonneg
def fS:=@PySem.wpAny_pyIter_tuple
def fT:=@PySem.wpAny_typeOf
def fU:=@PySem.wpAny_tupleItemsOf
def fV:=@List.any_map
def fW:=@PySem.tupleKind_room_in1
def fX:=@Nat.lt_of_le_of_lt
def fY:=@Nat.succ_pos
def fZ:=@Nat.min_self
def g7:=@Nat.add_sub_cancel
def g9:=@List.map_inj_right
def gc:=@Nat.sub_self
def gs:=@List.getElem_range
def gu:=@List.take_succ
def gy:=@PySem.wpAny_newTuple
def gz:=@List.getElem?_eq_none_iff
def gA:=@PySem.wpAny_pyIter_list
def gB:=@PySem.W.kitx_dict
def gC:=@Option.isSome_iff_exists
def gD:=@PySem.F.args_tuple_add_2
def gE:=@PySem.wpAny_rule
def gF:=@Nat.le_succ_of_le
def gG:=@List.idxOf_lt_length_iff
def gH:=@List.eq_of_mem_replicate
def gI:=@List.ext_getElem?
def gJ:=@of_decide_eq_true
def gK:=@PySem.F.entry_tuple_add
def gL:=@Bool.and_self
def gM:=@PySem.W.mg_of
def gN:=@PySem.noFill_tuple_add
def gO:=@List.lookup_cons
def gP:=@PySem.Around.in1_units
def gQ:=@List.range'_succ
def gR:=@PySem.wpAny_pyIter_zip
def gS:=@PySem.seqIndex_neg
def gT:=@Nat.add_comm
def gU:=@PySem.wpAny_ret_mkInt
def gV:=@Nat.zero_add
def gW:=@Nat.succ.inj
def gX:=@Nat.not_lt_zero
def gY:=@PySem.F.slot_zip_next
def gZ:=@beq_iff_eq
def h9:=@and_self
def hE:=@Bool.and_false
def hI:=@List.take_zero
def hJ:=@List.foldl_nil
def hR:=@PySem.seqIndex_of
def hU:=@Nat.mod_mul
def hV:=@List.zip_map'
def hW:=@Prod.ext
open PySem PySem.Spec
namespace L2
open PyProof.Rows
abbrev Key:=Sum Int Str
def aam:Key->Value->Bool
 |.inl k,v=>Value.isInt k v
 |.inr x,v=>Value.isStrOf x v
def az0(w:World):Key->Int
 |.inl k=>hashInt k
 |.inr x=>hashStr w x
theorem ji:∀{k:Key} {v:Value},aam k v=true->(∃i t,k=Sum.inl i/\v=Value.int i t)\/(∃x t,k=Sum.inr x/\v=Value.str x t)
 |.inl i,v,h=>by
  obtain⟨t,e⟩:=Value.isInt_shape (k:=i) (v:=v) h;exact .inl ⟨i,t,rfl,e⟩
 |.inr x,v,h=>by
  obtain⟨t,e⟩:=Value.isStrOf_shape (x:=x) (v:=v) h;exact .inr ⟨x,t,rfl,e⟩
theorem ac0(i:Int)(t:Tok):aam (.inl i) (.int i t)=true:=by simp[aam,Value.isInt]
theorem ac1(x:Str)(t:Tok):aam (.inr x) (.str x t)=true:=by simp[aam,Value.isStrOf]
theorem ap5(a b:Int):decide ((Sum.inl a:Key)=Sum.inl b)=(a == b):=by
 by_cases e:a=b
 ·subst e;simp
 ·have h:¬ (Sum.inl a:Key)=Sum.inl b:=λq=>e (fH q);rw[aR h];exact(bT.mpr e).symm
theorem ap6(a b:Str):decide ((Sum.inr a:Key)=Sum.inr b)=decide (a=b):=by
 by_cases e:a=b
 ·subst e;simp
 ·have h:¬ (Sum.inr a:Key)=Sum.inr b:=λq=>e (Sum.inr.inj q);rw[aR h,aR e]
theorem ap7(a:Int)(b:Str):decide ((Sum.inl a:Key)=Sum.inr b)=false:=aR (λq=>nomatch q)
theorem ap8(a:Str)(b:Int):decide ((Sum.inr a:Key)=Sum.inl b)=false:=aR (λq=>nomatch q)
def ju(prog:Program)(w:World):PySem.KeyKind prog w Key where
 is:=aam
 hash:=az0 w
 inj:=λv a b ha hb=>by
  rcases ji ha with⟨i,t,rfl,rfl⟩|⟨x,t,rfl,rfl⟩
  ·rcases ji hb with⟨j,u,rfl,e⟩|⟨y,u,rfl,e⟩
   ·injection e with e1 _;rw[e1]
   ·exact nomatch e
  ·rcases ji hb with⟨j,u,rfl,e⟩|⟨y,u,rfl,e⟩
   ·exact nomatch e
   ·injection e with e1 _;rw[e1]
 byValue:=λk v h=>by
  rcases ji h with⟨i,t,rfl,rfl⟩|⟨x,t,rfl,rfl⟩<;>rfl
 pyHash:=λhv h=>by
  rcases ji hv with⟨i,t,rfl,rfl⟩|⟨x,t,rfl,rfl⟩
  ·exact wpAny_pyHash_int h
  ·exact wpAny_pyHash_str h
 eqBool:=λhu hv h=>by
  rcases ji hu with⟨i,t,rfl,rfl⟩|⟨x,t,rfl,rfl⟩
  ·rcases ji hv with⟨j,u,rfl,rfl⟩|⟨y,u,rfl,rfl⟩
   ·rw[ap5]at h;exact wpAny_eqBool_int h
   ·rw[ap7]at h;exact SeqAt.EqAt.int_str i t y u _ _ _ _ h
  ·rcases ji hv with⟨j,u,rfl,rfl⟩|⟨y,u,rfl,rfl⟩
   ·rw[ap8]at h;exact SeqAt.EqAt.str_int x t j u _ _ _ _ h
   ·rw[ap6]at h;exact wpAny_eqBool_str h
 «strs»:=λk x t v h=>by
  rcases ji h with⟨i,u,rfl,e⟩|⟨y,u,rfl,e⟩
  ·exact nomatch e
  ·injection e with e1 _
   subst e1
   cases v<;>rfl
theorem a89(prog:Program)(w:World)(i:Int)(t:Tok):(ju prog w).is (.inl i) (.int i t)=true:=ac0 i t
theorem a8a(prog:Program)(w:World)(x:Str)(t:Tok):(ju prog w).is (.inr x) (.str x t)=true:=ac1 x t
inductive V where
 |non|bl (b:Bool)|int (i:Int)|str (x:Str)|byt (b:Array UInt8)|flt (b:UInt64)|ref (a:Addr)|ty (n:String)
 deriving DecidableEq
def RelV:V->Value->Prop
 |.non,u=>u=Value.none
 |.bl b,u=>u=Value.bool b
 |.int i,u=>∃t,u=Value.int i t
 |.str x,u=>∃t,u=Value.str x t
 |.byt b,u=>∃t,u=Value.bytes b t
 |.flt b,u=>∃t,u=Value.float b t
 |.ref a,u=>u=Value.ref a
 |.ty n,u=>u=Value.type n
abbrev Vals:List V->List Value->Prop:=Paired RelV
theorem Vals.length(r:Vals xs us):xs.length=us.length:=dB r
theorem Vals.get:∀{xs:List V} {us:List Value} {i:Nat} {x:V},Vals xs us->xs[i]? = some x->∃u,us[i]? = some u/\RelV x u
 |_,_,_,_,.nil,e=>by simp at e
 |_,_,0,_,.cons r _,e=>by simp at e;subst e;exact⟨_,rfl,r⟩
 |_,_,i+1,x,.cons _ t,e=>by
  obtain⟨u,h1,h2⟩:=Vals.get (i:=i) (x:=x) t (by simpa using e)
  exact⟨u,by simpa using h1,h2⟩
theorem Vals.set(r:RelV x u):∀{xs:List V} {us:List Value} (i:Nat),Vals xs us->Vals (xs.set i x) (us.set i u)
 |_,_,_,.nil=>.nil
 |_,_,0,.cons _ t=>.cons r t
 |_,_,i+1,.cons q t=>.cons q (Vals.set r i t)
theorem Vals.append:∀{xs ys:List V} {us ws:List Value},Vals xs us->Vals ys ws->Vals (xs++ys) (us++ws)
 |_,_,_,_,.nil,s=>s
 |_,_,_,_,.cons r t,s=>.cons r (Vals.append t s)
theorem Vals.take:∀{xs:List V} {us:List Value} (n:Nat),Vals xs us->Vals (xs.take n) (us.take n)
 |_,_,0,_=>.nil
 |_,_,_+1,.nil=>.nil
 |_,_,n+1,.cons r t=>.cons r (Vals.take n t)
theorem Vals.drop:∀{xs:List V} {us:List Value} (n:Nat),Vals xs us->Vals (xs.drop n) (us.drop n)
 |_,_,0,r=>r
 |_,_,_+1,.nil=>.nil
 |_,_,n+1,.cons _ t=>Vals.drop n t
def RelO:Option V->Option Value->Prop
 |some v,some u=>RelV v u
 |none,none=>True
 |_,_=>False
def KV{κ:Type}:List (κ×V)->List (κ×Value)->Prop:=Paired λ(p:κ×V) (q:κ×Value)=>p.1=q.1/\RelV p.2 q.2
def kV:Key->V
 |.inl i=>.int i
 |.inr x=>.str x
def TupD(h:Heap)(a:Addr)(aC:Array Value):Prop:=∃o,h.get? a=some o/\(o.cls=.type "tuple"/\o.dict=none)/\∃n,o.data=.seq aC n
theorem TupD.r{h:Heap}{a:Addr}{i:Array Value}(x:TupD h a i):IsTup h a i:=let ⟨o,e,c,d⟩:=x; ⟨o,e,c.1,d⟩
theorem TupD.new(h:Heap)(i:Array Value):TupD (h.push {cls:=.type "tuple",data:=.seq i}) h.objs.size i:=⟨_,aT _ rfl,⟨rfl,rfl⟩,_,rfl⟩
inductive HO where
 |lst (xs:List V)
 |tup (xs:List V)
 |dK (kvs:List (Key×V))|dT (kvs:List (List Key×V))
 |set (S:Int->Bool) (n:Nat)
 |ins (C dx:Addr) (fs:List (Str×V))
 |own (x:Addr)
 |xd (fs:List (Str×V))
 |met (f x:Addr)
 |rng (lo hi:Int)
 |frz (o:Obj) (u:HO)
 |tbl (ps:Array Value)
 |ext (φ:Heap->Prop)
abbrev Hp:=Addr->Option HO
def upd(H:Hp)(a:Addr)(o:HO):Hp:=λb=>if b=a then some o else H b
theorem dh:upd H a o a=some o:=by unfold upd;rw[aQ rfl]
theorem bu(h:b≠a):upd H a o b=H b:=by unfold upd;rw[bg h]
theorem ap9{H:Hp}{a b:Addr}{o u:HO}(h:H a=some o)(h':H b=some u)(d:o≠u):a≠b:=by
 intro e;subst e;rw[h]at h';exact d (bp h')
theorem cj{H:Hp}{a b:Addr}{o:HO}(h:H a=some o)(h':H b=none):a≠b:=by
 intro e;subst e;rw[h]at h';cases h'
section
variable(P:Program)(w:World)
def ObjOk(H:Hp)(h:Heap)(a:Addr):HO->Prop
 |.lst xs=>xs.length<=sizeLine/\∃(its:List Value) (n:Nat),Vals xs its/\h.get? a=some {cls:=.type "list",data:=.seq its.toArray n}
 |.tup xs=>xs.length<=sizeLine/\∃its:List Value,Vals xs its/\TupD h a its.toArray
 |.dK kvs=>kvs.length<=sizeLine/\(a == sysModules)=false/\∃vs,KV kvs vs/\h.DictOf (ju P w) a vs
 | .dT kvs=>kvs.length<=sizeLine/\(a == sysModules)=false/\∃xs:List (List Key×Addr×Value),
   Paired (λ(p:List Key×V) (q:List Key×Addr×Value)=>p.1=q.1/\H q.2.1=some (.tup (p.1.map kV))/\RelV p.2 q.2.2) kvs xs /\
   ∃o es ep,h.get? a=some o/\o.ExactDict/\o.data=.dict es ep/\es.toList=xs.map (entryOfKey (tupleKind (ju P w)))/\(xs.map (·.1)).Nodup
 |.set S n=>h.SetOf (intKind P w) a S n
 | .ins C dx fs=>H dx=some (.own a)/\fs.length<=1000/\dx≠a/\h.get? a=some (PySem.W.instObj C dx) /\
   ∃mA,h.Ns1 dx mA/\(∀f,RelO (fs.lookup f) (mA f))/\PySem.Within mA (fs.map (·.1))
 |.own _=>∃o,h.get? a=some o
 |.xd fs=>∃mA,h.Ns1 a mA/\∀f,RelO (fs.lookup f) (mA f)
 |.rng lo hi=>∃t u v,h.get? a=some {cls:=.type "range",data:=.fields #[.int lo t,.int hi u,.int 1 v]}
 |.frz o u=>h.get? a=some o/\ObjOk H h a u
 |.tbl ps=>h.get? a=some {cls:=.none,data:=.fields ps}
 |.met f x=>h.get? a=some (PySem.W.methodObj (.ref f) (.ref x))
 |.ext φ=>φ h/\(∃o,h.get? a=some o)/\∀h1 h2:Heap,φ h1->(∀o,h1.get? a=some o->h2.get? a=some o)->φ h2
def HOk(H:Hp)(h:Heap):Prop:=∀a o,H a=some o->ObjOk P w H h a o
end
section
variable{P:Program}{w:World}{H H':Hp}{h h':Heap}{a:Addr}{o:HO}
theorem ObjOk.lt(x:ObjOk P w H h a o):a<h.objs.size:=by
 cases o with
 |lst xs=>obtain⟨_,_,_,_,e⟩:=x;exact aU e
 |tup xs=>obtain⟨_,_,_,p⟩:=x;exact p.r.lt
 |dK kvs=>obtain⟨_,_,_,_,o,_,_,e,_⟩:=x;exact aU e
 |dT kvs=>obtain⟨_,_,_,_,o,_,_,e,_⟩:=x;exact aU e
 |set S n=>obtain⟨o,_,_,_,e,_⟩:=x;exact aU e
 |ins C dx fs=>obtain⟨_,_,_,e,_⟩:=x;exact aU e
 |own y=>obtain⟨_,e⟩:=x;exact aU e
 |xd fs=>obtain⟨_,⟨_,_,_,e,_⟩,_⟩:=x;exact aU e
 |rng lo hi=>obtain⟨_,_,_,e⟩:=x;exact aU e
 |frz ob u=>obtain⟨e,_⟩:=x;exact aU e
 |tbl ps=>exact aU (show h.get? a=some _ from x)
 |met f y=>exact aU (show h.get? a=some _ from x)
 |ext φ=>obtain⟨_,⟨_,e⟩,_⟩:=x;exact aU e
theorem Paired.mapP{α β:Type}{F G:α->β->Prop}:∀{l₁:List α} {l₂:List β},Paired F l₁ l₂->(∀a b,F a b->G a b)->Paired G l₁ l₂
 |_,_,.nil,_=>.nil
 |_,_,.cons r t,f=>.cons (f _ _ r) (Paired.mapP t f)
theorem ObjOk.stay(x:ObjOk P w H h a o)(k:∀b u,(b=a\/H b=some (.own a))->h.get? b=some u->h'.get? b=some u)
  (ho:∀b,H b=some (.own a)->H' b=some (.own a)) (ht:∀b xs,H b=some (.tup xs)->H' b=some (.tup xs)):ObjOk P w H' h' a o:=by
 induction o with
 |lst xs=>obtain⟨z,its,n,r,e⟩:=x;exact⟨z,its,n,r,k _ _ (.inl rfl) e⟩
 |tup xs=>obtain⟨z,its,r,ob,e,c⟩:=x;exact⟨z,its,r,ob,k _ _ (.inl rfl) e,c⟩
 |dK kvs=>obtain⟨z,y,vs,r,ob,es,ep,e,c⟩:=x;exact⟨z,y,vs,r,ob,es,ep,k _ _ (.inl rfl) e,c⟩
 |dT kvs =>
  obtain⟨z,y,xs,r,ob,es,ep,e,c⟩:=x;exact⟨z,y,xs,Paired.mapP r λp q z=>⟨z.1,ht _ _ z.2.1,z.2.2⟩,ob,es,ep,k _ _ (.inl rfl) e,c⟩
 |set S n=>obtain⟨ob,es,ep,t,e,c⟩:=x;exact⟨ob,es,ep,t,k _ _ (.inl rfl) e,c⟩
 |ins C dx fs =>
  obtain⟨d,z,ne,e,mA,⟨od,es,ep,e2,c⟩,r⟩:=x;exact⟨ho _ d,z,ne,k _ _ (.inl rfl) e,mA,⟨od,es,ep,k _ _ (.inr d) e2,c⟩,r⟩
 |own y=>obtain⟨ob,e⟩:=x;exact⟨ob,k _ _ (.inl rfl) e⟩
 |xd fs=>obtain⟨mA,⟨od,es,ep,e,c⟩,r⟩:=x;exact⟨mA,⟨od,es,ep,k _ _ (.inl rfl) e,c⟩,r⟩
 |rng lo hi=>obtain⟨t,u,v,e⟩:=x;exact⟨t,u,v,k _ _ (.inl rfl) e⟩
 |frz ob u ih=>obtain⟨e,q⟩:=x;exact⟨k _ _ (.inl rfl) e,ih q⟩
 |tbl ps =>
  have e:h.get? a=some {cls:=.none,data:=.fields ps}:=x;show h'.get? a=some {cls:=.none,data:=.fields ps};exact k a _ (.inl rfl) e
 |met f y =>
  have e:h.get? a=some (PySem.W.methodObj (.ref f) (.ref y)):=x;show h'.get? a=some (PySem.W.methodObj (.ref f) (.ref y));exact k a _ (.inl rfl) e
 |ext φ=>obtain⟨p,⟨o,e⟩,st⟩:=x;exact⟨st _ _ p λo q=>k _ _ (.inl rfl) q,⟨o,k _ _ (.inl rfl) e⟩,st⟩
theorem HOk.lt(x:HOk P w H h)(e:H a=some o):a<h.objs.size:=(x a o e).lt
theorem HOk.fresh(x:HOk P w H h)(e:h.objs.size<=a):H a=none:=by
 cases q:H a with
 |none=>rfl
 |some u=>exact absurd (aY (x.lt q) e) (cC _)
theorem HOk.kept(x:HOk P w H h)(k:∀b u,h.get? b=some u->h'.get? b=some u):HOk P w H h':=λa o e =>
 (x a o e).stay (λb u _ q=>k b u q) (λ_ q=>q) λ_ _ q=>q
theorem HOk.laid(x:HOk P w H h)(k:∀b u,h.get? b=some u->h'.get? b=some u)(hp:h.objs.size<=a)(new:ObjOk P w (upd H a o) h' a o):HOk P w (upd H a o) h':=λb u e=>by
 have hn:=x.fresh hp
 by_cases hb:b=a
 ·subst hb;rw[dh]at e;cases e;exact new
 ·rw[bu hb]at e;exact(x b u e).stay (λc v _ q=>k c v q) (λc q=>by rw[bu (cj q hn)];exact q) λc xs q=>by rw[bu (cj q hn)];exact q
end
def Rd(H:Hp)(a:Addr)(u:HO):Prop:=H a=some u\/∃o,H a=some (.frz o u)
theorem Rd.of(h:H a=some u):Rd H a u:=.inl h
theorem Rd.ok(r:Rd H a u)(x:HOk P w H h):ObjOk P w H h a u:=by
 rcases r with r|⟨o,r⟩
 ·exact x a u r
 ·obtain⟨_,q⟩:=x a _ r;exact q
def Mut:Option HO->Prop
 |some (.lst _)=>True
 |some (.dK _)=>True
 |some (.dT _)=>True
 |some (.set _ _)=>True
 |some (.ins _ _ _)=>True
 |some (.ext _)=>True
 |_=>False
section
variable{P:Program}{w:World}{H:Hp}{h h':Heap}{x e:Addr}{o':HO}
theorem HOk.write(ok:HOk P w H h)(mu:Mut (H x))(he:e=x\/H e=some (.own x))(k:∀b u,b≠e->h.get? b=some u->h'.get? b=some u)(heo:∃u,h'.get? e=some u)
  (new:ObjOk P w (upd H x o') h' x o'):HOk P w (upd H x o') h':=λb u q=>by
 have nown:∀c y,H c=some (.own y)->c≠x:=λc y r z=>by subst z;rw[r]at mu;exact mu
 have ntup:∀c xs,H c=some (.tup xs)->c≠x:=λc xs r z=>by subst z;rw[r]at mu;exact mu
 by_cases hb:b=x
 ·subst hb;rw[dh]at q;cases q;exact new
 ·rw[bu hb]at q
  by_cases hbe:b=e
  ·have q':H b=some (.own x):=by
    rcases he with z|z
    ·exact absurd (hbe.trans z) hb
    ·rw[hbe];exact z
   rw[q]at q';cases q'
   obtain⟨v,hv⟩:=heo;exact⟨v,by rw[hbe];exact hv⟩
  ·refine(ok b u q).stay (λc v hc r=>k c v ?_ r) (λc r=>by rw[bu (nown c b r)];exact r) λc xs r=>by rw[bu (ntup c xs r)];exact r
   rcases hc with rfl|hc
   ·exact hbe
   ·rintro rfl
    rcases he with z|z
    ·exact nown c b hc z
    ·rw[hc]at z;cases z;exact hb rfl
end
structure Un (fs ex:List Addr) (H H':Hp) (h h':Heap):Prop where
 keep:∀b o,h.get? b=some o->H b=none->b∉fs->b∉ex->h'.get? b=some o
 slot:∀b o,h.get? b=some o->H b=none->b∈fs->b∉ex->∃sl,h'.get? b=some {o with slots:=sl}
 free:∀b o,h.get? b=some o->H b=none->b∉ex->H' b=none
 there:∀b o,h.get? b=some o->b∉ex->∃o',h'.get? b=some o'
 tups:∀b xs,H b=some (.tup xs)->H' b=some (.tup xs)
 frzs:∀b o u,H b=some (.frz o u)->H' b=some (.frz o u)
 tbls:∀b ps,H b=some (.tbl ps)->∃more,H' b=some (.tbl (ps++more))
section
variable{fs fs' ex ex':List Addr}{H H1 H2:Hp}{h h1 h2 h':Heap}{a x e:Addr}{o:HO}
theorem Un.any(u:Un fs ex H H1 h h1)(q:h.get? b=some ob)(n:H b=none)(hx:b∉ex):∃sl,h1.get? b=some {ob with slots:=sl}:=by
 by_cases hb:b∈fs
 ·exact u.slot b ob q n hb hx
 ·exact⟨ob.slots,u.keep b ob q n hb hx⟩
theorem Un.kept(k:∀b u,h.get? b=some u->h'.get? b=some u):Un fs ex H H h h' :=
 ⟨λb ob q _ _ _=>k b ob q,λb ob q _ _ _=>⟨ob.slots,k b ob q⟩,λ_ _ _ n _=>n,λb ob q _=>⟨ob,k b ob q⟩,λ_ _ q=>q,λ_ _ _ q=>q,λ_ ps q=>⟨#[],by rw[q];simp⟩⟩
theorem Un.refl:Un fs ex H H h h:=Un.kept λ_ _ q=>q
theorem Un.laid(k:∀b u,h.get? b=some u->h'.get? b=some u)(hp:h.objs.size<=a)(hn:H a=none):Un fs ex H (upd H a o) h h' where
 keep:=λb u q _ _ _=>k b u q
 slot:=λb u q _ _ _=>⟨u.slots,k b u q⟩
 free:=λb u q n _=>by rw[bu (bM (aY (aU q) hp))];exact n
 there:=λb u q _=>⟨u,k b u q⟩
 tups:=λb xs q=>by rw[bu (cj q hn)];exact q
 frzs:=λb u xs q=>by rw[bu (cj q hn)];exact q
 tbls:=λb ps q=>⟨#[],by rw[bu (cj q hn),q];simp⟩
theorem Un.write(mu:Mut (H x))(he:e=x\/H e=some (.own x))(k:∀b u,b≠e->h.get? b=some u->h'.get? b=some u)(heo:∃u,h'.get? e=some u):Un fs ex H (upd H x o) h h':=by
 have hx:∀b,H b=none->b≠x:=λb n z=>by subst z;rw[n]at mu;exact mu
 have hb:∀b,H b=none->b≠e:=λb n z=>by
  subst z
  rcases he with r|r
  ·exact hx b n r
  ·rw[n]at r;cases r
 have hm:∀b u,H b=some u->¬ Mut (some u)->b≠x:=λb u q nm z=>by subst z;rw[q]at mu;exact nm mu
 refine⟨λb u q n _ _=>k b u (hb b n) q,λb u q n _ _=>⟨u.slots,k b u (hb b n) q⟩,λb u q n _=>by rw[bu (hx b n)];exact n,λb u q _=>?_,
  λb xs q=>by rw[bu (hm b _ q λz=>z)];exact q,λb u xs q=>by rw[bu (hm b _ q λz=>z)];exact q,λb ps q=>⟨#[],by rw[bu (hm b _ q λz=>z),q];simp⟩⟩
 by_cases hbe:b=e
 ·subst hbe;exact heo
 ·exact⟨u,k b u hbe q⟩
end
def trk(h:Heap)(H:Hp):List Addr:=(List.range h.objs.size).filter λa=>(H a).isSome
def agj(h:Heap)(H:Hp):Heap:=PySem.W.hideAll h (trk h H)
theorem ac2(h:Heap)(H:Hp):(agj h H).objs.size=h.objs.size:=PySem.W.hideAll_size _ _
theorem agk{h:Heap}(e:h.get? b=some o)(n:H b=none):(agj h H).get? b=some o :=
 PySem.W.hideAll_get _ e λhm=>by
  have q:(H b).isSome=true:=(dS.mp hm).2;rw[n]at q;simp at q
theorem al5(e:(agj h H).get? b=some o):h.get? b=some o/\H b=none:=by
 have e':h.get? b=some o:=PySem.W.of_hideAll (trk h H) e;refine⟨e',?_⟩
 cases q:H b with
 |none=>rfl
 |some x =>
  have hm:b∈trk h H:=dS.mpr ⟨aX.mpr (aU e'),by simp[q]⟩
  have z:(agj h H).get? b=none:=PySem.W.hideAll_none (trk h H) hm;rw[z]at e;cases e
def al6(g h:Heap)(L:Addr):List (Addr×Obj):=(List.range h.objs.size).filterMap λa=>if a=L\/(g.get? a).isSome=true then none else (h.get? a).map λo=>(a,o)
def aG(g h:Heap)(L d:Addr):List (Addr×Obj):=(al6 g h L).filter λp=>decide (p.1≠d)
structure Mod (K:Fg) (mg:Str->Option Value) (base:Heap):Prop where
 kin:K.In base
 glob:base.Ns mainGlobals mg
 blt:∃mb,base.Ns builtinsNs mb/\∀x:Str,x ≠ "__name__"->mb x=bootBuiltins x
 nolimit:base.NoLimit
structure Cx where
 prog:Program
 w:World
 K:Fg
 mg:Str->Option Value
 base:Heap
 A:Around
 N:List Str
 s₀:Shared
 H₀:Hp
 env:Env
 outer:List Env
 stack:List Env
 ex:List Addr
 fn:Str->Bool
 calm:Bool
 pn:List (Addr×Obj)
 xe:Value->Shared->Prop
def frs(l:List Env):List Addr:=l.filterMap (·.frame)
abbrev Cx.fs(X:Cx):List Addr:=frs X.outer
def Vis(sc:Scope)(x:Str):Prop:=sc.names.lookup x=some .local\/sc.names.lookup x=some .cell\/sc.names.lookup x=some .free
def Loc(sc:Scope)(x:Str):Prop:=sc.names.lookup x=some .local\/sc.names.lookup x=some .cell
def Look(env:Env)(h:Heap)(m:Str->Option Value)(x:Str)(u:Value):Prop :=
 (env.kindOf x=some .local/\m x=some u)\/((env.kindOf x=some .cell\/env.kindOf x=some .free)/\∃c,env.cells.lookup x=some c/\h.IsCell c (some u))
structure Cx.Ok (X:Cx):Prop where
 mod:Mod X.K X.mg X.base
 kind:X.env.scope.kind=.function
 glob:X.env.globals=mainGlobals
 blt:X.env.builtins=builtinsNs
 above:X.s₀.heap.objs.size<=X.env.locals
 inj:∀x y c,X.env.cells.lookup x=some c->X.env.cells.lookup y=some c->x=y
 has:∀x,(X.env.kindOf x=some .cell\/X.env.kindOf x=some .free)->∃c,X.env.cells.lookup x=some c
 cab:∀x c,X.fn x=true->X.env.cells.lookup x=some c->X.s₀.heap.objs.size<=c
 hd:X.calm=true->X.A.handled=none
 frames:X.A.frames=some X.stack
 stk:X.stack=X.outer\/(X.stack=X.env::X.outer/\X.env.frame=some X.env.locals)
 exf:∀b∈X.ex,b≠X.env.locals/\∀x c,X.env.cells.lookup x=some c->c≠b
 bs:∀b o,X.base.get? b=some o->X.s₀.heap.get? b=some o/\X.H₀ b=none
 bsz:X.base.objs.size<=X.s₀.heap.objs.size
 noex:∀b o,X.base.get? b=some o->b∉X.ex
 exfs:∀b∈X.ex,b∉X.fs
 funs:X.s₀.heap.FunFrames X.base X.outer
 frf:∀b∈X.fs,X.H₀ b=none
structure Inv (X:Cx) (aA:List (Addr×Obj)) (σ:List (Option V)) (H:Hp) (s:Shared):Prop where
 ok:X.Ok
 os:s.os=X.s₀.os
 bare:AllBare s.gens
 base:Un X.fs X.ex X.H₀ H X.s₀.heap s.heap
 loc:∃m,s.heap.Ns X.env.locals m/\∀(i:Nat) (x:Str) (v:V),X.N[i]? = some x->σ[i]? = some (some v)->Vis X.env.scope x->∃u,RelV v u/\Look X.env s.heap m x u
 cell:∀x c,X.env.cells.lookup x=some c->∃v,s.heap.IsCell c v
 free:H X.env.locals=none
 freeC:∀x c,X.env.cells.lookup x=some c->H c=none
 pin:∀p∈X.pn++aA,s.heap.get? p.1=some p.2/\H p.1=none/\p.1≠X.env.locals/\p.1∉X.fs/\∀v,p.2.data≠.cell v
 hok:HOk X.prog X.w H s.heap
 len:σ.length=X.N.length
section
variable{X:Cx}{aA:List (Addr×Obj)}{σ:List (Option V)}{H H':Hp}{s:Shared}{h':Heap}
theorem Cx.Ok.nofr(ok:X.Ok)(e:X.base.get? b=some o):b∉X.fs:=λhb=>by
 have:=(ok.funs.mem hb).1
 rw[e]at this;cases this
theorem Inv.bs(I:Inv X aA σ H s):∀b o,X.base.get? b=some o->s.heap.get? b=some o/\H b=none:=λb o e =>
 ⟨I.base.keep b o (I.ok.bs b o e).1 (I.ok.bs b o e).2 (I.ok.nofr e) (I.ok.noex b o e),I.base.free b o (I.ok.bs b o e).1 (I.ok.bs b o e).2 (I.ok.noex b o e)⟩
theorem Inv.bk(I:Inv X aA σ H s):∀b o,X.base.get? b=some o->s.heap.get? b=some o:=λb o e=>(I.bs b o e).1
theorem Inv.mod(I:Inv X aA σ H s):Mod X.K X.mg X.base:=I.ok.mod
theorem Inv.kIn(I:Inv X aA σ H s):X.K.In s.heap:=I.ok.mod.kin.keeps I.bk
theorem Inv.fr(I:Inv X aA σ H s):∃m,Fr X.base X.env.locals s.heap m :=
 let ⟨m,hn,_⟩:=I.loc
 ⟨m,hn,I.bk,c9 I.ok.bsz I.ok.above⟩
theorem Inv.lt(I:Inv X aA σ H s):X.env.locals<s.heap.objs.size:=let ⟨_,hn,_⟩:=I.loc;hn.lt
theorem Inv.sz(I:Inv X aA σ H s):X.s₀.heap.objs.size<=s.heap.objs.size:=c9 I.ok.above (eY I.lt)
theorem Inv.nofs(I:Inv X aA σ H s)(h:s.heap.objs.size<=a):a∉X.fs:=λhb=>by
 obtain⟨_,o,ho,_⟩:=I.ok.funs.mem hb;exact absurd (aY (aU ho) (c9 I.sz h)) (cC _)
theorem Inv.cne(I:Inv X aA σ H s):∀x c,X.env.cells.lookup x=some c->c≠X.env.locals:=λx c e z=>by
 obtain⟨v,o,ho,hd⟩:=I.cell x c e;obtain⟨m,⟨o',es,ep,ho',hd',_⟩,_⟩:=I.loc;rw[z,ho']at ho;cases ho;rw[hd']at hd;cases hd
theorem Inv.funs(I:Inv X aA σ H s):s.heap.FunFrames X.base X.outer:=by
 have all:∀(l:List Env),(∀b∈frs l,b∈X.fs)->X.s₀.heap.FunFrames X.base l->s.heap.FunFrames X.base l:=by
  intro l
  induction l with
  |nil=>intro _ _;trivial
  |cons env r ih =>
   intro hs hl
   obtain⟨hk,⟨L,o,hf,hn,ho,hd⟩,hr⟩:=hl;have hL:L∈X.fs:=hs L (by unfold frs;rw[dM,hf];exact aP)
   obtain⟨sl,e⟩:=I.base.slot L o ho (I.ok.frf L hL) hL λz=>I.ok.exfs L z hL;exact⟨hk,⟨L,_,hf,hn,e,hd⟩,ih (λb hb=>hs b (by unfold frs;rw[dM,hf];exact ai _ hb)) hr⟩
 exact all X.outer (λ_ hb=>hb) I.ok.funs
theorem Inv.stack(I:Inv X aA σ H s):s.heap.FunFrames X.base X.stack:=by
 rcases I.ok.stk with e|⟨e,hf⟩
 ·rw[e];exact I.funs
 ·rw[e];obtain⟨m,hn,_⟩:=I.loc;refine .cons (by rw[I.ok.kind];decide) hf hn ?_ I.funs
  exact Heap.get?_none_of_le (c9 I.ok.bsz I.ok.above)
theorem Inv.stkSub(I:Inv X aA σ H s):∀b∈frs X.stack,b∈X.env.locals::X.fs:=λb hb=>by
 rcases I.ok.stk with e|⟨e,hf⟩
 ·rw[e]at hb;exact ai _ hb
 ·rw[e]at hb;unfold frs at hb;rw[dM,hf]at hb;exact hb
theorem Inv.stkFree(I:Inv X aA σ H s):∀b∈frs X.stack,H b=none:=λb hb=>by
 rcases ay.mp (I.stkSub b hb) with e|hb
 ·rw[e];exact I.free
 ·obtain⟨_,o,ho,_⟩:=I.ok.funs.mem hb;exact I.base.free b o ho (I.ok.frf b hb) λz=>I.ok.exfs b z hb
theorem Inv.step{g':Array GenState}{t':Nat}{d':Drawn}{ch:List Addr}(I:Inv X aA σ H s)
  (hch:∀b∈ch,(b∈X.ex\/X.s₀.heap.objs.size<=b)/\b≠X.env.locals/\(∀x c,X.env.cells.lookup x=some c->c≠b)/\∀p∈X.pn++aA,p.1≠b)
  (keep:∀b o,b≠X.env.locals->b∉X.fs->b∉ch->s.heap.get? b=some o->H b=none->h'.get? b=some o)
  (slot:∀b o,b≠X.env.locals->b∈X.fs->b∉ch->s.heap.get? b=some o->H b=none->∃sl,h'.get? b=some {o with slots:=sl}) (free:∀b o,b∉ch->s.heap.get? b=some o->H b=none->H' b=none)
  (there:∀b o,b∉ch->s.heap.get? b=some o->∃o',h'.get? b=some o')
  (tups:∀b xs,H b=some (.tup xs)->H' b=some (.tup xs)) (frzs:∀b o u,H b=some (.frz o u)->H' b=some (.frz o u)) (tbls:∀b ps,H b=some (.tbl ps)->∃more,H' b=some (.tbl (ps++more)))
  (ns:∀m,s.heap.Ns X.env.locals m->h'.Ns X.env.locals m) (hok:HOk X.prog X.w H' h') (hg:AllBare g') :
  Inv X aA σ H' {s with heap:=h',gens:=g',drawn:=d',toks:=t' }:=by
 have neL:∀b o,X.s₀.heap.get? b=some o->b≠X.env.locals:=λb o e=>bM (aY (aU e) I.ok.above);have neC:∀b o,X.s₀.heap.get? b=some o->b∉X.ex->b∉ch:=λb o e hx hb=>by
  rcases(hch b hb).1 with z|z
  ·exact hx z
  ·exact absurd (aY (aU e) z) (cC _)
 have cellK:∀x c,X.env.cells.lookup x=some c->∀v,s.heap.IsCell c v->h'.IsCell c v:=λx c e v ⟨o,ho,hd⟩=>by
  have nch:c∉ch:=λz=>(hch c z).2.2.1 x c e rfl
  by_cases hc:c∈X.fs
  ·obtain⟨sl,q⟩:=slot c o (I.cne x c e) hc nch ho (I.freeC x c e);exact⟨_,q,hd⟩
  ·exact⟨o,keep c o (I.cne x c e) hc nch ho (I.freeC x c e),hd⟩
 refine⟨I.ok,I.os,hg,⟨λb o e n hb hx=>?_,λb o e n hb hx=>?_,λb o e n hx=>?_,λb o e hx=>?_,λb xs e=>tups b xs (I.base.tups b xs e),λb o xs e=>frzs b o xs (I.base.frzs b o xs e),λb ps e=>?_⟩,?_,λx c e=>?_,?_,λx c e=>?_,λp hp=>?_,hok,I.len⟩
 ·exact keep b o (neL b o e) hb (neC b o e hx) (I.base.keep b o e n hb hx) (I.base.free b o e n hx)
 ·obtain⟨sl,e1⟩:=I.base.slot b o e n hb hx;obtain⟨sl',e2⟩:=slot b _ (neL b o e) hb (neC b o e hx) e1 (I.base.free b o e n hx);exact⟨sl',e2⟩
 ·obtain⟨o',e1⟩:=I.base.there b o e hx;exact free b o' (neC b o e hx) e1 (I.base.free b o e n hx)
 ·obtain⟨o',e1⟩:=I.base.there b o e hx;exact there b o' (neC b o e hx) e1
 ·obtain⟨m1,e1⟩:=I.base.tbls b ps e;obtain⟨m2,e2⟩:=tbls b _ e1;exact⟨m1++m2,by rw[e2,Array.append_assoc]⟩
 ·obtain⟨m,hn,hl⟩:=I.loc;refine⟨m,ns m hn,λi x v e1 e2 e3=>?_⟩;obtain⟨u,r,l⟩:=hl i x v e1 e2 e3;refine⟨u,r,?_⟩
  rcases l with l|⟨k,c,e,z⟩
  ·exact .inl l
  ·exact .inr ⟨k,c,e,cellK x c e _ z⟩
 ·obtain⟨v,z⟩:=I.cell x c e;exact⟨v,cellK x c e v z⟩
 ·obtain⟨m,⟨o,_,_,ho,_⟩,_⟩:=I.loc;exact free _ o (λz=>(hch _ z).2.1 rfl) ho I.free
 ·obtain⟨v,o,ho,hd⟩:=I.cell x c e;exact free c o (λz=>(hch c z).2.2.1 x c e rfl) ho (I.freeC x c e)
 ·obtain⟨e,n,ne,nf,d⟩:=I.pin p hp;have nch:p.1∉ch:=λz=>(hch p.1 z).2.2.2 p hp rfl;exact⟨keep p.1 p.2 ne nf nch e n,free p.1 p.2 nch e n,ne,nf,d⟩
theorem Inv.un{t':Nat}(I:Inv X aA σ H s)(u:Un X.fs [] H H' s.heap h')(hok:HOk X.prog X.w H' h'):Inv X aA σ H' {s with heap:=h',toks:=t' }:=by
 obtain⟨m,⟨o,es,ep,ho,r⟩,_⟩:=id I.loc;obtain⟨sl,hL⟩:=u.any ho I.free (by simp)
 exact I.step (g':=s.gens) (d':=s.drawn) (ch:=[]) (λ_ z=>nomatch z) (λb o _ hb _ e n=>u.keep b o e n hb (by simp)) (λb o _ hb _ e n=>u.slot b o e n hb (by simp)) (λb o _ e n=>u.free b o e n (by simp)) (λb o _ e=>u.there b o e (by simp)) u.tups u.frzs u.tbls (λm' hm=>by
  obtain⟨o',es',ep',ho',r'⟩:=hm;rw[ho]at ho';cases ho'
  exact⟨_,es',ep',hL,r'⟩) hok I.bare
theorem Inv.call{g':Array GenState}{t':Nat}{d':Drawn}{ch:List Addr}(I:Inv X aA σ H s)(u:Un (frs X.stack) ch H H' s.heap h')(hok:HOk X.prog X.w H' h')(hg:AllBare g')
  (hch:∀b∈ch,(b∈X.ex\/X.s₀.heap.objs.size<=b)/\b≠X.env.locals/\(∀x c,X.env.cells.lookup x=some c->c≠b)/\∀p∈X.pn++aA,p.1≠b) :
  Inv X aA σ H' {s with heap:=h',gens:=g',drawn:=d',toks:=t' }:=by
 obtain⟨m,⟨o,es,ep,ho,r⟩,_⟩:=id I.loc;obtain⟨sl,hL⟩:=u.any ho I.free λz=>(hch _ z).2.1 rfl;exact I.step (ch:=ch) hch (λb o hL hb hc e n=>u.keep b o e n (λz=>(ay.mp (I.stkSub b z)).elim hL hb) hc) (λb o _ _ hc e n=>u.any e n hc) (λb o hc e n=>u.free b o e n hc) (λb o hc e=>u.there b o e hc) u.tups u.frzs u.tbls (λm' hm=>by
  obtain⟨o',es',ep',ho',r'⟩:=hm;rw[ho]at ho';cases ho'
  exact⟨_,es',ep',hL,r'⟩) hok hg
theorem Inv.turned{t':Nat}{it:Addr}(I:Inv X aA σ H s)(k:∀b o,b≠it->s.heap.get? b=some o->h'.get? b=some o)(hn:H it=none)(hL:it≠X.env.locals)
  (h1:it∈X.ex\/X.s₀.heap.objs.size<=it) (h2:∀x c,X.env.cells.lookup x=some c->c≠it) (h3:∀p∈X.pn++aA,p.1≠it):Inv X aA σ H {s with heap:=h',toks:=t' }:=by
 have nit:∀b u,H b=some u->b≠it:=λb u e z=>by rw[z,hn]at e;cases e
 refine I.step (g':=s.gens) (d':=s.drawn) (ch:=[it]) (λb hb=>?_) (λb o _ _ hc e _=>k b o (λz=>hc (by simp[z])) e) (λb o _ _ hc e _=>⟨o.slots,k b o (λz=>hc (by simp[z])) e⟩) (λ_ _ _ _ n=>n)
  (λb o hc e=>⟨o,k b o (λz=>hc (by simp[z])) e⟩) (λ_ _ e=>e) (λ_ _ _ e=>e) (λb ps e=>⟨#[],by rw[e];simp⟩) (λm hm=>?_) (λb u e=>?_) I.bare
 ·have e:b=it:=by simpa using hb
  subst e;exact⟨h1,hL,h2,h3⟩
 ·obtain⟨o,es,ep,ho,r⟩:=hm;exact⟨o,es,ep,k _ o (fI hL) ho,r⟩
 ·refine(I.hok b u e).stay (λc v hc q=>k c v ?_ q) (λ_ q=>q) λ_ _ q=>q
  rcases hc with z|z
  ·rw[z];exact nit b u e
  ·exact nit c _ z
theorem Inv.tok(I:Inv X aA σ H s)(t:Nat):Inv X aA σ H {s with toks:=t}:=I.un (h':=s.heap) (t':=t) Un.refl I.hok
theorem Inv.kept(I:Inv X aA σ H s)(k:∀b u,s.heap.get? b=some u->h'.get? b=some u):Inv X aA σ H {s with heap:=h',toks:=t' }:=I.un (Un.kept k) (I.hok.kept k)
theorem Inv.laid(I:Inv X aA σ H s)(k:∀b u,s.heap.get? b=some u->h'.get? b=some u)(hp:s.heap.objs.size<=a)(new:ObjOk X.prog X.w (upd H a o) h' a o) :
  Inv X aA σ (upd H a o) {s with heap:=h',toks:=t' }:=I.un (Un.laid k hp (I.hok.fresh hp)) (I.hok.laid k hp new)
theorem Inv.write(I:Inv X aA σ H s)(mu:Mut (H x))(he:e=x\/H e=some (.own x))(k:∀b u,b≠e->s.heap.get? b=some u->h'.get? b=some u)(heo:∃u,h'.get? e=some u)
  (new:ObjOk X.prog X.w (upd H x o) h' x o):Inv X aA σ (upd H x o) {s with heap:=h',toks:=t' }:=I.un (Un.write mu he k heo) (I.hok.write mu he k heo new)
theorem Inv.weak{σ':List (Option V)}(I:Inv X aA σ H s)(hl:σ'.length=σ.length)(w:∀(i:Nat) v,σ'[i]? = some (some v)->σ[i]? = some (some v)):Inv X aA σ' H s :=
 ⟨I.ok,I.os,I.bare,I.base,let ⟨m,hn,hl'⟩:=I.loc; ⟨m,hn,λi x v e1 e2 e3=>hl' i x v e1 (w i v e2) e3⟩,I.cell,I.free,I.freeC,I.pin,I.hok,hl.trans I.len⟩
theorem Inv.pins_of(I:Inv X aA σ H s)(h:∀p∈pins',s.heap.get? p.1=some p.2/\H p.1=none/\p.1≠X.env.locals/\p.1∉X.fs/\∀v,p.2.data≠.cell v):Inv X pins' σ H s :=
 ⟨I.ok,I.os,I.bare,I.base,I.loc,I.cell,I.free,I.freeC,λp hp=>(bB.mp hp).elim (λz=>I.pin p (cX _ z)) (h p),I.hok,I.len⟩
theorem a9a{N:List Str}(hN:N.Nodup){i j:Nat}(a:N[i]? = some x)(b:N[j]? = some x):i=j:=by
 obtain⟨h1,e1⟩:=a7.mp a;obtain⟨h2,e2⟩:=a7.mp b;exact(ft hN).mp (e1.trans e2.symm)
abbrev Hf(X:Cx)(x:Str):Prop:=X.fn x=true\/X.env.scope.names.lookup x=some .local
theorem a6q{i:Nat}(I:Inv X aA σ H s)(hN:X.N.Nodup)(hi:X.N[i]? = some x)(hx:Loc X.env.scope x)(r:RelV v u)
  (h:∀s',Inv X aA (σ.set i (some v)) H s'->(∃a,Heap.SameBut a s.heap s'.heap/\(a=X.env.locals\/X.env.cells.lookup x=some a))->Q () s') (hf:Hf X x:=by first|exact .inl rfl|exact .inr rfl|assumption):wpAny M A (storeName X.env x u) Q E s:=by
 obtain⟨m,hn,hl⟩:=id I.loc;have hcls:(X.env.scope.kind == .class || (X.env.scope.kind == .module && X.env.locals != X.env.globals))=false:=by rw[I.ok.kind];rfl
 have hiσ:i<σ.length:=by rw[I.len];exact(a7.mp hi).1
 have cne:=I.cne;have tracked:∀{a:Addr} {h':Heap},(∃o,s.heap.get? a=some o/\H a=none)->Heap.SameBut a s.heap h'->HOk X.prog X.w H h':=λ{a h'} ha hs b ob e=>by
  obtain⟨_,_,hfree⟩:=ha;refine(I.hok b ob e).stay (λc w' hc q=>(hs.2 c ?_).trans q) (λ_ q=>q) λ_ _ q=>q
  rintro rfl
  rcases hc with rfl|hc
  ·rw[hfree]at e;cases e
  ·rw[hfree]at hc;cases hc
 rcases hx with hk|hk
 ·refine wpAny_storeName_local hk hn (λh' hn' hs=>?_) hcls;obtain⟨oL,_,_,hoL,_⟩:=id hn;refine h _ ⟨I.ok,I.os,I.bare,⟨λb o e n hb hx=>?_,λb o e n hb hx=>?_,I.base.free,λb o e hx=>?_,I.base.tups,I.base.frzs,I.base.tbls⟩,⟨_,hn',λj y v' e1 e2 e3=>?_⟩,λy c e=>?_,I.free,I.freeC,λp hp=>?_,tracked ⟨oL,hoL,I.free⟩ hs,by simpa using I.len⟩ ⟨_,hs,.inl rfl⟩
  ·exact(hs.2 b (bM (aY (aU e) I.ok.above))).trans (I.base.keep b o e n hb hx)
  ·obtain⟨sl,e1⟩:=I.base.slot b o e n hb hx;exact⟨sl,(hs.2 b (bM (aY (aU e) I.ok.above))).trans e1⟩
  ·obtain⟨o',e1⟩:=I.base.there b o e hx;exact⟨o',(hs.2 b (bM (aY (aU e) I.ok.above))).trans e1⟩
  ·by_cases hj:j=i
   ·subst hj;rw[hi]at e1;cases e1
    rw[bF hiσ]at e2;cases e2
    exact⟨u,r,.inl ⟨hk,by simp⟩⟩
   ·rw[bP (fI hj)]at e2;obtain⟨u',r',q⟩:=hl j y v' e1 e2 e3;refine⟨u',r',?_⟩
    rcases q with⟨k,e⟩|⟨k,c,e,z⟩
    ·refine .inl ⟨k,?_⟩;have:y≠x:=λe=>hj (a9a hN e1 (e ▸ hi));simp[this,e]
    ·exact .inr ⟨k,c,e,z.sameBut hs (cne y c e)⟩
  ·obtain⟨w',z⟩:=I.cell y c e;exact⟨w',z.sameBut hs (cne y c e)⟩
  ·obtain⟨e,n,ne,nf,d⟩:=I.pin p hp;exact⟨(hs.2 p.1 ne).trans e,n,ne,nf,d⟩
 ·have hfn:X.fn x=true:=by
   rcases hf with z|z
   ·exact z
   ·rw[z]at hk;cases hk
  obtain⟨c,hc⟩:=I.ok.has x (.inl hk);obtain⟨w',z⟩:=I.cell x c hc;refine wpAny_storeName_cell I.ok.kind hk hc z (λh' hc' hs=>?_);obtain⟨oc,hoc,hocd⟩:=id z;refine h {s with heap:=h' } ⟨I.ok,I.os,I.bare,⟨λb o e n hb hx=>?_,λb o e n hb hx=>?_,I.base.free,λb o e hx=>?_,I.base.tups,I.base.frzs,I.base.tbls⟩,⟨m,hn.sameBut hs (fI (cne x c hc)),λj y v' e1 e2 e3=>?_⟩,λy c' e=>?_,I.free,I.freeC,λp hp=>?_,tracked ⟨oc,hoc,I.freeC x c hc⟩ hs,by simpa using I.len⟩ ⟨c,hs,.inr hc⟩
  ·exact(hs.2 b (bM (aY (aU e) (I.ok.cab x c hfn hc)))).trans (I.base.keep b o e n hb hx)
  ·obtain⟨sl,e1⟩:=I.base.slot b o e n hb hx;exact⟨sl,(hs.2 b (bM (aY (aU e) (I.ok.cab x c hfn hc)))).trans e1⟩
  ·obtain⟨o',e1⟩:=I.base.there b o e hx;exact⟨o',(hs.2 b (bM (aY (aU e) (I.ok.cab x c hfn hc)))).trans e1⟩
  ·by_cases hj:j=i
   ·subst hj;rw[hi]at e1;cases e1
    rw[bF hiσ]at e2;cases e2
    exact⟨u,r,.inr ⟨.inl hk,c,hc,hc'⟩⟩
   ·rw[bP (fI hj)]at e2;obtain⟨u',r',q⟩:=hl j y v' e1 e2 e3;refine⟨u',r',?_⟩
    rcases q with q|⟨k,c',e,z'⟩
    ·exact .inl q
    ·refine .inr ⟨k,c',e,z'.sameBut hs ?_⟩
     rintro rfl
     exact hj (a9a hN e1 (I.ok.inj _ _ _ e hc ▸ hi))
  ·by_cases hcc:c'=c
   ·subst hcc;exact⟨_,hc'⟩
   ·obtain⟨w2,z2⟩:=I.cell y c' e;exact⟨w2,z2.sameBut hs hcc⟩
  ·obtain⟨e,n,ne,nf,d⟩:=I.pin p hp;refine⟨(hs.2 p.1 ?_).trans e,n,ne,nf,d⟩
   intro q
   rw[q,hoc]at e;have q':oc=p.2:=bp e;exact d w' (by rw[<-q'];exact hocd)
theorem a5c(I:Inv X aA σ H s)(hN:X.N.Nodup)(hi:X.N[i]? = some x)(hx:Loc X.env.scope x)(r:RelV v u)
  (h:∀s',Inv X aA (σ.set i (some v)) H s'->Q () s') (hf:Hf X x:=by first|exact .inl rfl|exact .inr rfl|assumption):wpAny M A (storeName X.env x u) Q E s :=
 a6q I hN hi hx r (λs' I' _=>h s' I') hf
end
abbrev XK:=Value->Option Addr->Hp->Prop
abbrev St:=List (Option V)
abbrev VK:=V->Hp->Prop
abbrev TE:=St->Hp->VK->Prop
abbrev TT:=St->Hp->(Bool->Hp->Prop)->Prop
abbrev TA:=St->Hp->(List V->Hp->Prop)->Prop
structure Ends where
 nx:St->Hp->Prop
 rt:VK
 bk:St->Hp->Prop:=λ_ _=>False
 ct:St->Hp->Prop:=λ_ _=>False
abbrev TS:=Ends->St->Hp->Prop
def EP(X:Cx)(aA:List (Addr×Obj))(σ:St)(Q:VK)(u:Value)(s':Shared):Prop:=∃v H',Inv X aA σ H' s'/\RelV v u/\Q v H'
def TP(X:Cx)(aA:List (Addr×Obj))(σ:St)(Q:Bool->Hp->Prop)(b:Bool)(s':Shared):Prop:=∃H',Inv X aA σ H' s'/\Q b H'
def AP(X:Cx)(aA:List (Addr×Obj))(σ:St)(Q:List V->Hp->Prop)(us:List Value)(s':Shared):Prop:=∃vs H',Inv X aA σ H' s'/\Vals vs us/\Q vs H'
def SP(X:Cx)(aA:List (Addr×Obj))(D:Ends)(f:Flow)(s':Shared):Prop :=
 match f with
 |.next=>∃σ' H',Inv X aA σ' H' s'/\D.nx σ' H'
 |.brk=>∃σ' H',Inv X aA σ' H' s'/\D.bk σ' H'
 |.cont=>∃σ' H',Inv X aA σ' H' s'/\D.ct σ' H'
 |.ret u=>∃v σ' H',Inv X aA σ' H' s'/\RelV v u/\D.rt v H'
def PE(X:Cx)(e:Expr)(t:TE):Prop :=
 ∀(aA:List (Addr×Obj)) (s:Shared) (σ:St) (H:Hp) (Q:VK),Inv X aA σ H s->t σ H Q->wpAny (model X.prog X.w) X.A (eval e X.env) (EP X aA σ Q) X.xe s
def PT(X:Cx)(e:Expr)(t:TT):Prop :=
 ∀(aA:List (Addr×Obj)) (s:Shared) (σ:St) (H:Hp) (Q:Bool->Hp->Prop),Inv X aA σ H s->t σ H Q->wpAny (model X.prog X.w) X.A (isTrue e X.env (eval e X.env)) (TP X aA σ Q) X.xe s
def PW(X:Cx)(e:Expr)(t:TT):Prop :=
 ∀(whole:Sem Value) (aA:List (Addr×Obj)) (s:Shared) (σ:St) (H:Hp) (Q:Bool->Hp->Prop),Inv X aA σ H s->t σ H Q->wpAny (model X.prog X.w) X.A (isTrue e X.env whole) (TP X aA σ Q) X.xe s
theorem PW.pt(h:PW X e t):PT X e t:=h _
def PA(X:Cx)(es:List Expr)(t:TA):Prop :=
 ∀(pos:Pos) (aA:List (Addr×Obj)) (s:Shared) (σ:St) (H:Hp) (Q:List V->Hp->Prop),Inv X aA σ H s->t σ H Q->wpAny (model X.prog X.w) X.A (spliced (backTo pos (starEach es X.env))) (AP X aA σ Q) X.xe s
def PS(X:Cx)(st:Stmt)(t:TS):Prop :=
 ∀(aA:List (Addr×Obj)) (s:Shared) (σ:St) (H:Hp) (D:Ends),Inv X aA σ H s->t D σ H->wpAny (model X.prog X.w) X.A (exec st X.env) (SP X aA D) X.xe s
def PSs(X:Cx)(st:List Stmt)(t:TS):Prop :=
 ∀(aA:List (Addr×Obj)) (s:Shared) (σ:St) (H:Hp) (D:Ends),Inv X aA σ H s->t D σ H->wpAny (model X.prog X.w) X.A (execs st X.env) (SP X aA D) X.xe s
theorem thn{α:Type}{t:Sem α}{Q Q':α->Shared->Prop}{M:Model}{A:Around}{E:Value->Shared->Prop}{s:Shared}(h:wpAny M A t Q E s)(hQ:∀a s,Q a s->Q' a s):wpAny M A t Q' E s:=cT h hQ λ_ _ x=>x
section
variable{X:Cx}
def az1(i:Nat):TE:=λσ H Q=>∃v,σ[i]? = some (some v)/\Q v H
def tC(v:V):TE:=λ_ H Q=>Q v H
theorem apa(hN:X.N[i]? = some x)(hv:Vis X.env.scope x)(hd:(x == ("__debug__" : Str))=false:=by decide)(hcd:(x == ("__classdict__" : Str))=false:=by decide):PE X (.Name x pos) (az1 i):=by
 intro aA s σ H Q I h
 obtain⟨v,e,h⟩:=h;obtain⟨m,hn,hl⟩:=I.loc;obtain⟨u,r,l⟩:=hl i x v hN e hv;have fin:EP X aA σ Q u s:=⟨v,H,I,r,h⟩
 rcases l with⟨hk,hm⟩|⟨hk,c,hc,hcell⟩
 ·exact wpAny_Name (wpAny_loadName_local I.ok.kind hk hn hm fin) hd
 ·rcases hk with hk|hk
  ·exact wpAny_Name (wpAny_loadName_cell I.ok.kind hk hc hcell fin) hd
  ·exact wpAny_Name (wpAny_loadName_free I.ok.kind hk hc hcell fin hcd) hd
theorem apb{i j pos}:PE X (.Constant (.int i) j pos) (tC (.int i)):=λ_ _ _ H _ I h=>wpAny_Constant_int ⟨.int i,H,I.tok _,⟨_,rfl⟩,h⟩
theorem avm{b j pos}:PE X (.Constant (.bool b) j pos) (tC (.bl b)):=λ_ _ _ H _ I h=>Constant_bool ⟨.bl b,H,I,rfl,h⟩
theorem apc{x j pos}:PE X (.Constant (.str x) j pos) (tC (.str x)):=λ_ _ _ H _ I h=>Calls.Constant_str ⟨.str x,H,I.tok _,⟨_,rfl⟩,h⟩
def Gl(X:Cx)(x:Str):Prop:=X.env.kindOf x=some .globalImplicit
theorem a8b(I:Inv X aA σ H s)(hg:Gl X x)(hm:X.mg x=some u)(h:Q u s)
  (hd:(x == ("__debug__" : Str))=false:=by decide):wpAny (model X.prog X.w) X.A (eval (.Name x pos) X.env) Q E s :=
 Calls.Name_function_global I.ok.kind hg (Calls.loadGlobal_global (by rw[I.ok.glob];exact I.mod.glob.keeps I.bk) hm h) hd
theorem a05(I:Inv X aA σ H s)(hg:Gl X x)(hm:X.mg x=none)(hv:bootBuiltins x=some u)(h:Q u s)
  (hn:x ≠ "__name__":=by decide) (hd:(x == ("__debug__" : Str))=false:=by decide):wpAny (model X.prog X.w) X.A (eval (.Name x pos) X.env) Q E s:=by
 obtain⟨mb,h1,h2⟩:=I.mod.blt;exact Calls.Name_function_global I.ok.kind hg (Calls.loadGlobal_builtin (by rw[I.ok.glob];exact I.mod.glob.keeps I.bk) hm (by rw[I.ok.blt];exact h1.keeps I.bk) ((h2 x hn).trans hv) h) hd
theorem al7(hg:Gl X x)(hm:X.mg x=some u)(r:RelV v u)(hd:(x == ("__debug__" : Str))=false:=by decide):PE X (.Name x pos) (tC v) :=
 λ_ _ _ H _ I h=>a8b I hg hm ⟨v,H,I,r,h⟩ hd
theorem al8(hg:Gl X x)(hm:X.mg x=none)(hv:bootBuiltins x=some u)(r:RelV v u)(hn:x ≠ "__name__":=by decide)(hd:(x == ("__debug__" : Str))=false:=by decide):PE X (.Name x pos) (tC v) :=
 λ_ _ _ H _ I h=>a05 I hg hm hv ⟨v,H,I,r,h⟩ hn hd
variable{a b:Expr}{ta tb:TE}{pos:Pos}
variable{tA tB':TT}{aG:List Expr}
def az2(t u:TT):TT:=λσ H Q=>t σ H λc H1=>if c=true then u σ H1 Q else Q false H1
def tOr(t u:TT):TT:=λσ H Q=>t σ H λc H1=>if c=true then Q true H1 else u σ H1 Q
def az3(t:TT):TT:=λσ H Q=>t σ H λc H1=>Q (!c) H1
theorem al9(ha:PT X a tA):PW X (.BoolOp .And [a] pos) tA:=by
 intro wh aA s σ H Q I h
 refine isTrue_and (thn (ha aA s σ H Q I h) λc s1 e=>?_)
 cases c with
 |true=>exact isTrue_and_nil e
 |false=>exact e
theorem apd(ha:PT X a tA):PW X (.BoolOp .Or [a] pos) tA:=by
 intro wh aA s σ H Q I h
 refine isTrue_or (thn (ha aA s σ H Q I h) λc s1 e=>?_)
 cases c with
 |false=>exact isTrue_or_nil e
 |true=>exact e
theorem ape(ha:PT X a tA)(hb:PW X (.BoolOp .And (b::aG) pos) tB'):PW X (.BoolOp .And (a::b::aG) pos) (az2 tA tB'):=by
 intro wh aA s σ H Q I h
 refine isTrue_and (thn (ha aA s σ H _ I h) λc s1 ⟨H1,I1,q1⟩=>?_)
 cases c with
 |true=>exact hb wh aA s1 σ H1 Q I1 q1
 |false=>exact⟨H1,I1,q1⟩
theorem avn(ha:PT X a tA)(hb:PW X (.BoolOp .Or (b::aG) pos) tB'):PW X (.BoolOp .Or (a::b::aG) pos) (tOr tA tB'):=by
 intro wh aA s σ H Q I h
 refine isTrue_or (thn (ha aA s σ H _ I h) λc s1 ⟨H1,I1,q1⟩=>?_)
 cases c with
 |true=>exact⟨H1,I1,q1⟩
 |false=>exact hb wh aA s1 σ H1 Q I1 q1
theorem apf(ha:PT X a tA):PT X (.UnaryOp .Not a pos) (az3 tA):=by
 intro aA s σ H Q I h
 exact isTrue_not (ha aA s σ H (λc H1=>Q (!c) H1) I h)
def avo(ta tb:TE):TE:=λσ H Q=>ta σ H λx H1=>∃c,x=.bl c/\if c=true then tb σ H1 Q else Q (.bl false) H1
def avp(ta:TE):TE:=λσ H Q=>ta σ H λx H1=>∃c,x=.bl c/\Q (.bl (!c)) H1
theorem apg{op}(h:PE X a t):PE X (.BoolOp op [a] pos) t:=λaA s σ H Q I hw=>BoolOp_one (h aA s σ H Q I hw)
theorem aph(ha:PE X a ta)(hb:PE X (.BoolOp .And (b::aG) pos) tb):PE X (.BoolOp .And (a::b::aG) pos) (avo ta tb):=by
 intro aA s σ H Q I h
 refine BoolOp_and (thn (ha aA s σ H _ I h) λv s1 ⟨x,H1,I1,r1,q1⟩=>?_);obtain⟨c,rfl,q1⟩:=q1;cases r1
 refine cF ?_
 cases c with
 |true=>exact hb aA s1 σ H1 Q I1 q1
 |false=>exact⟨.bl false,H1,I1,rfl,q1⟩
theorem api(ha:PE X a ta):PE X (.UnaryOp .Not a pos) (avp ta):=by
 intro aA s σ H Q I h
 refine UnaryOp_ (thn (ha aA s σ H _ I h) λv s1 ⟨x,H1,I1,r1,q1⟩=>?_);obtain⟨c,rfl,q1⟩:=q1;cases r1
 exact not_of (cF ⟨.bl (!c),H1,I1,rfl,q1⟩)
end
def SqL(K:Fg)(H:Hp)(a:Addr)(xs:List V):Prop :=
 Rd H a (.lst xs) \/
  ∃(o:Obj) (its:Array Value) (n:Nat),K.lookup a=some o/\o.cls=.type "list"/\o.dict=none/\o.data=.seq its n/\its.size<=sizeLine/\Vals xs its.toList
def SqT(K:Fg)(H:Hp)(a:Addr)(xs:List V):Prop :=
 Rd H a (.tup xs) \/
  ∃(o:Obj) (its:Array Value) (n:Nat),K.lookup a=some o/\o.cls=.type "tuple"/\o.data=.seq its n/\its.size<=sizeLine/\Vals xs its.toList
def az4:Value->Option V
 |.none=>some .non
 |.bool b=>some (.bl b)
 |.int i _=>some (.int i)
 |.str x _=>some (.str x)
 |.bytes b _=>some (.byt b)
 |.float b _=>some (.flt b)
 |.ref a=>some (.ref a)
 |.type n=>some (.ty n)
 |_=>none
theorem RelV.abs(r:RelV x u):az4 u=some x:=by
 cases x with
 |non=>cases r;rfl
 |bl _=>cases r;rfl
 |int _=>obtain⟨t,rfl⟩:=r;rfl
 |str _=>obtain⟨t,rfl⟩:=r;rfl
 |byt _=>obtain⟨t,rfl⟩:=r;rfl
 |flt _=>obtain⟨t,rfl⟩:=r;rfl
 |ref _=>cases r;rfl
 |ty _=>cases r;rfl
theorem RelV.inj(r:RelV x u)(q:RelV y u):x=y:=bp (r.abs.symm.trans q.abs)
theorem Vals.inj:∀{xs ys:List V} {us:List Value},Vals xs us->Vals ys us->xs=ys
 |_,_,_,.nil,.nil=>rfl
 |_,_,_,.cons r t,.cons r' t'=>by rw[r.inj r',Vals.inj t t']
section
variable{X:Cx}{aA:List (Addr×Obj)}{σ:St}{H:Hp}{s:Shared}{a:Addr}{xs ys:List V}
theorem SqL.of{K:Fg}(h:H a=some (.lst xs)):SqL K H a xs:=.inl (.inl h)
theorem SqT.of{K:Fg}(h:H a=some (.tup xs)):SqT K H a xs:=.inl (.inl h)
theorem Inv.list(I:Inv X aA σ H s)(h:SqL X.K H a xs):∃its:List Value,Vals xs its/\PlainL s.heap a its.toArray/\xs.length<=sizeLine:=by
 rcases h with h|⟨o,its,n,hk,hc,hd,hs,hz,r⟩
 ·obtain⟨z,its,n,r,e⟩:=h.ok I.hok;exact⟨its,r,⟨_,n,e,rfl,rfl,rfl⟩,z⟩
 ·refine⟨its.toList,r,⟨o,n,I.kIn a o hk,hc,hd,by simpa using hs⟩,?_⟩
  have e:=r.length;simp only[cO]at e;omega
theorem Inv.tuple(I:Inv X aA σ H s)(h:SqT X.K H a xs):∃its:List Value,Vals xs its/\IsTup s.heap a its.toArray/\xs.length<=sizeLine:=by
 rcases h with h|⟨o,its,n,hk,hc,hs,hz,r⟩
 ·obtain⟨z,its,r,p⟩:=h.ok I.hok;exact⟨its,r,p.r,z⟩
 ·refine⟨its.toList,r,⟨o,I.kIn a o hk,hc,n,by simpa using hs⟩,?_⟩
  have e:=r.length;simp only[cO]at e;omega
theorem Inv.list_inj(I:Inv X aA σ H s)(h:SqL X.K H a xs)(h':SqL X.K H a ys):xs=ys:=by
 obtain⟨its,r,⟨o,n,e,_,_,d⟩,_⟩:=I.list h;obtain⟨its',r',⟨o',n',e',_,_,d'⟩,_⟩:=I.list h';rw[e]at e';cases e'
 rw[d]at d'
 injection d' with d1 _
 have:its=its':=by simpa using aZ Array.toList d1
 subst this;exact r.inj r'
theorem Inv.tuple_inj(I:Inv X aA σ H s)(h:SqT X.K H a xs)(h':SqT X.K H a ys):xs=ys:=by
 obtain⟨its,r,⟨o,e,_,n,d⟩,_⟩:=I.tuple h;obtain⟨its',r',⟨o',e',_,n',d'⟩,_⟩:=I.tuple h';rw[e]at e';cases e'
 rw[d]at d'
 injection d' with d1 _
 have:its=its':=by simpa using aZ Array.toList d1
 subst this;exact r.inj r'
end
abbrev Cx.wish(X:Cx)(E:Value->Shared->Prop):Cx:={X with xe:=E}
abbrev Cx.nox(X:Cx):Cx:=X.wish λ_ _=>False
theorem Cx.Ok.wish{X:Cx}(ok:X.Ok)(E:Value->Shared->Prop):(X.wish E).Ok :=
 ⟨ok.mod,ok.kind,ok.glob,ok.blt,ok.above,ok.inj,ok.has,ok.cab,ok.hd,ok.frames,ok.stk,ok.exf,ok.bs,ok.bsz,ok.noex,ok.exfs,ok.funs,ok.frf⟩
theorem Cx.Ok.unwish{X:Cx}(ok:(X.wish E).Ok):X.Ok :=
 ⟨ok.mod,ok.kind,ok.glob,ok.blt,ok.above,ok.inj,ok.has,ok.cab,ok.hd,ok.frames,ok.stk,ok.exf,ok.bs,ok.bsz,ok.noex,ok.exfs,ok.funs,ok.frf⟩
section
variable{X:Cx}{aA:List (Addr×Obj)}{σ:St}{H:Hp}{s:Shared}{E:Value->Shared->Prop}
theorem Inv.wish(I:Inv X aA σ H s)(E:Value->Shared->Prop):Inv (X.wish E) aA σ H s:=⟨I.ok.wish E,I.os,I.bare,I.base,I.loc,I.cell,I.free,I.freeC,I.pin,I.hok,I.len⟩
theorem Inv.unwish(I:Inv (X.wish E) aA σ H s):Inv X aA σ H s:=⟨I.ok.unwish,I.os,I.bare,I.base,I.loc,I.cell,I.free,I.freeC,I.pin,I.hok,I.len⟩
theorem SP.unwish(h:SP (X.wish E) aA D f s'):SP X aA D f s':=by
 cases f with
 |next=>obtain⟨σ',H',I,q⟩:=h;exact⟨σ',H',I.unwish,q⟩
 |brk=>obtain⟨σ',H',I,q⟩:=h;exact⟨σ',H',I.unwish,q⟩
 |cont=>obtain⟨σ',H',I,q⟩:=h;exact⟨σ',H',I.unwish,q⟩
 |ret u=>obtain⟨v,σ',H',I,r,q⟩:=h;exact⟨v,σ',H',I.unwish,r,q⟩
theorem PSs.nox{st:List Stmt}{t:TS}(h:PSs X.nox st t):PSs X st t:=λaA s σ H D I hw =>
 cT (h aA s σ H D (I.wish _) hw) (λ_ _ q=>q.unwish) λ_ _ z=>False.elim z
end
section
variable{X:Cx}{st:Stmt}{aG:List Stmt}{t u:TS}{e:Expr}{te:TE}{pos:Pos}
def avq:TS:=λD σ H=>D.nx σ H
def az5(t u:TS):TS:=λD σ H=>t {D with nx:=u D} σ H
theorem ala:PSs X [] avq:=λ_ _ σ H _ I h=>fJ ⟨σ,H,I,h⟩
theorem agl(h1:PS X st t)(h2:PSs X aG u):PSs X (st::aG) (az5 t u):=by
 intro aA s σ H D I h
 refine wpAny_execs_cons (thn (h1 aA s σ H {D with nx:=u D} I h) λf s1 q=>?_)
 cases f with
 |next =>
  obtain⟨σ',H',I',q⟩:=q;exact h2 aA s1 σ' H' D I' q
 |ret v=>exact q
 |brk=>exact q
 |cont=>exact q
theorem alb(h1:PS X st t):PSs X [st] t:=by
 intro aA s σ H D I h
 refine wpAny_execs_cons (thn (h1 aA s σ H D I h) λf s1 q=>?_)
 cases f with
 |next=>exact fJ q
 |ret v=>exact q
 |brk=>exact q
 |cont=>exact q
theorem Inv.quiet(I:Inv X aA σ H s):interactive X.env=false:=by simp[interactive,I.ok.kind]
def avr(te:TE):TS:=λD σ H=>te σ H λ_ H1=>D.nx σ H1
theorem alc(he:PE X e te)(hs:swapsWith e none pos.line X.env=pure false:=by rfl):PS X (.Expr e pos) (avr te):=by
 intro aA s σ H D I h
 exact wpAny_Expr_any (thn (he aA s σ H _ I h) λv s1 ⟨x,H1,I1,r1,q1⟩=>⟨σ,H1,I1,q1⟩) I.quiet hs
def az6(te:TE):TS:=λD σ H=>te σ H D.rt
theorem apj(he:PE X e te):PS X (.Return (some e) pos) (az6 te):=by
 intro aA s σ H D I h
 exact wpAny_Return_some (thn (he aA s σ H _ I h) λv s1 ⟨x,H1,I1,r1,q1⟩=>⟨x,σ,H1,I1,r1,q1⟩)
def az7(c:TT)(t u:TS):TS:=λD σ H=>c σ H λb H1=>if b=true then t D σ H1 else u D σ H1
theorem avs{c:Expr}{a b:List Stmt}{tc:TT}(hc:PT X c tc)(ha:PSs X a t)(hb:PSs X b u):PS X (.If c a b pos) (az7 tc t u):=by
 intro aA s σ H D I h
 refine wpAny_If (thn (hc aA s σ H _ I h) λd s1 ⟨H1,I1,q1⟩=>?_)
 cases d with
 |true=>exact ha aA s1 σ H1 D I1 q1
 |false=>exact hb aA s1 σ H1 D I1 q1
end
abbrev TG:=V->St->Hp->(St->Hp->Prop)->Prop
abbrev TGs:=List V->St->Hp->(St->Hp->Prop)->Prop
def PG(X:Cx)(target:Expr)(t:TG):Prop :=
 ∀(aA:List (Addr×Obj)) (s:Shared) (σ:St) (H:Hp) (v:V) (u:Value) (Q:St->Hp->Prop),Inv X aA σ H s->RelV v u->t v σ H Q->
  wpAny (model X.prog X.w) X.A (assign target X.env u) (λ_ s'=>∃σ' H',Inv X aA σ' H' s'/\Q σ' H') X.xe s
def PGs(X:Cx)(ts:List Expr)(t:TGs):Prop :=
 ∀(aA:List (Addr×Obj)) (s:Shared) (σ:St) (H:Hp) (vs:List V) (us:List Value) (Q:St->Hp->Prop),Inv X aA σ H s->Vals vs us->t vs σ H Q->
  wpAny (model X.prog X.w) X.A (assignInOrder ((assignEach ts X.env).map (·.2)) us) (λ_ s'=>∃σ' H',Inv X aA σ' H' s'/\Q σ' H') X.xe s
abbrev apk:=V->V->V->Hp->(Hp->Prop)->Prop
def avt(X:Cx)(t:apk):Prop :=
 ∀(aA:List (Addr×Obj)) (s:Shared) (σ:St) (H:Hp) (o i v:V) (ov iv u:Value) (Q:Hp->Prop),Inv X aA σ H s->RelV o ov->RelV i iv->RelV v u->t o i v H Q->
  wpAny (model X.prog X.w) X.A (setItem ov iv u) (λ_ s'=>∃H',Inv X aA σ H' s'/\Q H') X.xe s
abbrev TIp:=V->V->Hp->VK->Prop
def PIp(X:Cx)(op:Operator)(t:TIp):Prop :=
 ∀(aA:List (Addr×Obj)) (s:Shared) (σ:St) (H:Hp) (x y:V) (v u:Value) (Q:VK),Inv X aA σ H s->RelV x v->RelV y u->t x y H Q->
  wpAny (model X.prog X.w) X.A (inplaceOp op v u) (EP X aA σ Q) X.xe s
section
variable{X:Cx}{pos:Pos}
def a4d(i:Nat):TG:=λv σ H Q=>Q (σ.set i (some v)) H
theorem a8c(hN:X.N.Nodup)(hi:X.N[i]? = some x)(hx:Loc X.env.scope x)(hf:Hf X x:=by first|exact .inl rfl|exact .inr rfl|assumption):PG X (.Name x pos) (a4d i):=by
 intro aA s σ H v u Q I r h
 exact wpAny_assign_Name (a5c I hN hi hx r (λs' I'=>⟨_,H,I',h⟩) hf)
def ay1:TGs:=λvs σ H Q=>vs=[]/\Q σ H
def agm(t:TG)(u:TGs):TGs:=λvs σ H Q=>∃v r,vs=v::r/\t v σ H λσ' H'=>u r σ' H' Q
theorem a8d:PGs X [] ay1:=by
 intro aA s σ H vs us Q I r h
 obtain⟨e,h⟩:=h;subst e;cases r
 exact assignInOrder_nil ⟨σ,H,I,h⟩
theorem a1i{e:Expr}{es:List Expr}{t:TG}{u:TGs}(h1:PG X e t)(h2:PGs X es u)
  (hs:(assignEach (e::es) X.env).map (·.2)=assign e X.env::(assignEach es X.env).map (·.2):=by rfl):PGs X (e::es) (agm t u):=by
 intro aA s σ H vs us Q I r h
 obtain⟨v,vr,e1,h⟩:=h;subst e1
 cases r with
 |cons r rr =>
  rw[hs];refine assignInOrder_cons (thn (h1 aA s σ H _ _ _ I r h) λ_ s1 ⟨σ1,H1,I1,q1⟩=>?_);exact h2 aA s1 σ1 H1 _ _ Q I1 rr q1
def a2i(K:Fg)(n:Nat)(t:TGs):TG:=λv σ H Q=>∃a xs,v=.ref a/\SqT K H a xs/\xs.length=n/\t xs σ H Q
theorem ac3(hc:X.calm=true)(h:PGs X es t)
  (hn:(assignEach es X.env).length=n:=by rfl) (hst:(assignEach es X.env).findIdx? (·.1)=none:=by rfl):PG X (.Tuple es k pos) (a2i X.K n t):=by
 intro aA s σ H v u Q I r hw
 obtain⟨a,xs,e1,hq,hl,hw⟩:=hw;subst e1;cases r
 obtain⟨its,rv,ht,hz⟩:=I.tuple hq;refine assign_Tuple_tuple (I.ok.hd hc) ht (by simp[hn,<-hl,rv.length]) hst λh' hx=>?_
 have I1:Inv X aA σ H {s with heap:=h' }:=I.kept (t':=s.toks) λb o e=>hx b o (bM (aU e)) e
 exact h aA _ σ H xs _ Q I1 (by simpa using rv) hw
def a6r(to ti:TE)(t:apk):TG:=λv σ H Q=>to σ H λo H1=>ti σ H1 λi H2=>t o i v H2 λH3=>Q σ H3
theorem apl{o i:Expr}{to ti:TE}{t:apk}(ho:PE X o to)(hi:PE X i ti)(hs:avt X t)
  (ha:∀v,assign (.Subscript o i pos) X.env v=(do
   let ov <-holding [v] (eval o X.env)
   let iv <-holding [v,ov] (eval i X.env)
   standAt pos
   holding [v,ov,iv] (setItem ov iv v)
   release [v,ov,iv] []):=by intro _;rfl):PG X (.Subscript o i pos) (a6r to ti t):=by
 intro aA s σ H v u Q I r h
 rw[ha];refine a8 (cH (thn (ho aA s σ H _ I h) λov s1 ⟨x,H1,I1,r1,q1⟩=>?_));refine a8 (cH (thn (hi aA s1 σ H1 _ I1 q1) λiv s2 ⟨y,H2,I2,r2,q2⟩=>?_));refine a8 (fD (a8 (cH (thn (hs aA s2 σ H2 x y v ov iv u _ I2 r1 r2 r q2) λ_ s3 ⟨H3,I3,q3⟩=>?_))));exact wpAny_release ⟨σ,H3,I3,q3⟩
def av2(te:TE)(g:TG):TS:=λD σ H=>te σ H λx H1=>g x σ H1 D.nx
theorem aji{tg e:Expr}{te:TE}{g:TG}(he:PE X e te)(hg:PG X tg g)(hs:swapsWithSole [tg] e pos.line X.env=pure false:=by rfl)(hw:swappedStores [tg] e X.env=pure none:=by rfl)
  (h1:(assignEach [tg] X.env).map (·.2)=[assign tg X.env]:=by rfl):PS X (.Assign [tg] e pos) (av2 te g):=by
 intro aA s σ H D I h
 refine wpAny_Assign_stores (thn (he aA s σ H _ I h) λv s1 ⟨x,H1,I1,r1,q1⟩=>?_) hs hw;rw[h1];exact thn (hg aA s1 σ H1 x v _ I1 r1 q1) λ_ s2 q=>q
theorem apm{i:Nat}{x:Str}{e:Expr}{te:TE}{pos':Pos}(hN:X.N.Nodup)(hi:X.N[i]? = some x)(hx:Loc X.env.scope x)(he:PE X e te)(hs:swapsWith e (some (.Name x pos')) pos.line X.env=pure false:=by rfl)(hf:Hf X x:=by first|exact .inl rfl|exact .inr rfl|assumption) :
  PS X (.Assign [.Name x pos'] e pos) (av2 te (a4d i)):=by
 intro aA s σ H D I h
 refine wpAny_Assign_Name (thn (he aA s σ H _ I h) λv s1 ⟨y,H1,I1,r1,q1⟩=>?_) hs;exact a5c I1 hN hi hx r1 (λs2 I2=>⟨_,H1,I2,q1⟩) hf
def az8(i:Nat)(te:TE)(ti:TIp):TS:=λD σ H=>∃x,σ[i]? = some (some x)/\te σ H λy H1=>ti x y H1 λz H2=>D.nx (σ.set i (some z)) H2
theorem apn{i:Nat}{x:Str}{e:Expr}{te:TE}{op:Operator}{ti:TIp}{pos':Pos}(hN:X.N.Nodup)(hi:X.N[i]? = some x)(hx:Loc X.env.scope x)(he:PE X e te)(ho:PIp X op ti)(hf:Hf X x:=by first|exact .inl rfl|exact .inr rfl|assumption) :
  PS X (.AugAssign (.Name x pos') op e pos) (az8 i te ti):=by
 intro aA s σ H D I h
 obtain⟨v,e1,h⟩:=h;obtain⟨m,hn,hl⟩:=I.loc;have vis:Vis X.env.scope x:=by rcases hx with k|k;exact .inl k;exact .inr (.inl k)
 obtain⟨u,r,l⟩:=hl i x v hi e1 vis;refine wpAny_AugAssign_Name ?_;have go:wpAny (model X.prog X.w) X.A (eval e X.env) (λw s₂=>wpAny (model X.prog X.w) X.A (inplaceOp op u w) (λr s₃=>wpAny (model X.prog X.w) X.A (storeName X.env x r) (λ_=>SP X aA D .next) X.xe s₃) X.xe s₂) X.xe s:=by
  refine thn (he aA s σ H _ I h) ?_
  rintro w s1 ⟨y,H1,I1,r1,q1⟩
  refine thn (ho aA s1 σ H1 v y u w _ I1 r r1 q1) ?_
  rintro z s2 ⟨zv,H2,I2,r2,q2⟩
  exact a5c I2 hN hi hx r2 (λs3 I3=>⟨_,H2,I3,q2⟩) hf
 rcases l with⟨hk,hm⟩|⟨hk,c,hc,hcell⟩
 ·exact wpAny_loadName_local I.ok.kind hk hn hm go
 ·rcases hk with hk|hk
  ·exact wpAny_loadName_cell I.ok.kind hk hc hcell go
  ·rcases hx with k|k
   ·have:X.env.scope.names.lookup x=some .free:=hk
    rw[k]at this;cases this
   ·have:X.env.scope.names.lookup x=some .free:=hk
    rw[k]at this;cases this
def avu(to ti te:TE)(tget:V->V->Hp->VK->Prop)(tip:TIp)(tset:apk):TS:=λD σ H=>to σ H λo H1=>ti σ H1 λi H2=>tget o i H2 λx H3=>te σ H3 λy H4=>tip x y H4 λz H5=>tset o i z H5 λH6=>D.nx σ H6
def ay2(X:Cx)(t:V->V->Hp->VK->Prop):Prop :=
 ∀(aA:List (Addr×Obj)) (s:Shared) (σ:St) (H:Hp) (o i:V) (ov iv:Value) (Q:VK),Inv X aA σ H s->RelV o ov->RelV i iv->t o i H Q->
  wpAny (model X.prog X.w) X.A (getItem ov iv) (EP X aA σ Q) X.xe s
theorem ald{o i e:Expr}{to ti te:TE}{tget:V->V->Hp->VK->Prop}{tip:TIp}{tset:apk}{op:Operator}{tpos:Pos}(ho:PE X o to)(hi:PE X i ti)(hg:ay2 X tget)(he:PE X e te)(hp:PIp X op tip)(hs:avt X tset)
  (ha:∀ov iv new,augStore i ov iv new=(do holding [new,ov,iv] (setItem ov iv new);release [new,ov,iv] [];pure .next):=by intros;rfl):PS X (.AugAssign (.Subscript o i tpos) op e pos) (avu to ti te tget tip tset):=by
 intro aA s σ H D I h
 refine wpAny_AugAssign_SubscriptAny (thn (ho aA s σ H _ I h) λov s1 ⟨x1,H1,I1,r1,q1⟩=>?_) ha;refine thn (hi aA s1 σ H1 _ I1 q1) ?_
 rintro iv s2 ⟨x2,H2,I2,r2,q2⟩
 refine thn (hg aA s2 σ H2 x1 x2 ov iv _ I2 r1 r2 q2) ?_
 rintro old s3 ⟨x3,H3,I3,r3,q3⟩
 refine thn (he aA s3 σ H3 _ I3 q3) ?_
 rintro v s4 ⟨x4,H4,I4,r4,q4⟩
 refine thn (hp aA s4 σ H4 x3 x4 old v _ I4 r3 r4 q4) ?_
 rintro new s5 ⟨x5,H5,I5,r5,q5⟩
 exact thn (hs aA s5 σ H5 x1 x2 x5 ov iv new _ I5 r1 r2 r5 q5) λ_ s6 ⟨H6,I6,q6⟩=>⟨σ,H6,I6,q6⟩
end
section
variable{X:Cx}{pos:Pos}
def apo(c:TT)(tb:TS):TS:=λD σ H=>∃W:Nat->St->Hp->Prop,(∃m,W m σ H)/\∀m σ H,W m σ H->
 c σ H λb H1=>if b=true then ∃N:St->Hp->Prop,(∀σ' H',N σ' H'->∃m',m'<m/\W m' σ' H')/\tb {D with nx:=N,ct:=N,bk:=D.nx} σ H1 else D.nx σ H1
theorem agn{c:Expr}{body:List Stmt}{tc:TT}{tb:TS}(hp:PassesOwn (model X.prog X.w) X.A X.env X.xe)(hc:PT X c tc)(hb:PSs X body tb):PS X (.While c body [] pos) (apo tc tb):=by
 intro aA s σ H D I h
 obtain⟨W,⟨m0,w0⟩,turn⟩:=h;refine wpAny_While (codeAny_whileLoop (λn s'=>∃σ' H',Inv X aA σ' H' s'/\W n σ' H') ?_ m0 ⟨σ,H,I,w0⟩)
 rintro n s1 ⟨σ1,H1,I1,w1⟩
 refine dF hp (thn (hc aA s1 σ1 H1 _ I1 (turn n σ1 H1 w1)) λb s2 ⟨H2,I2,q2⟩=>?_)
 cases b with
 |true =>
  obtain⟨N,hN,q2⟩:=q2;rw[aQ rfl];refine dF hp (thn (hb aA s2 σ1 H2 _ I2 q2) λf s3 q3=>?_)
  cases f with
  |next =>
   obtain⟨σ3,H3,I3,n3⟩:=q3;obtain⟨m',hm,w3⟩:=hN σ3 H3 n3;exact⟨m',hm,σ3,H3,I3,w3⟩
  |cont =>
   obtain⟨σ3,H3,I3,n3⟩:=q3;obtain⟨m',hm,w3⟩:=hN σ3 H3 n3;exact⟨m',hm,σ3,H3,I3,w3⟩
  |brk=>exact q3
  |ret v=>exact q3
 |false =>
  rw[bg bo];exact fJ ⟨σ1,H2,I2,q2⟩
end
structure It where
 go:Nat->Hp->Prop
 yld:Nat->Hp->V->Hp->Prop
 stop:Nat->Hp->Prop
def a1y(X:Cx)(aA:List (Addr×Obj))(H:Hp)(b:Addr):Prop :=
 H b=none/\b≠X.env.locals/\b∉X.fs/\(b∈X.ex\/X.s₀.heap.objs.size<=b)/\(∀x c,X.env.cells.lookup x=some c->c≠b)/\∀p∈X.pn++aA,p.1≠b
theorem Inv.fpOk(I:Inv X aA σ H s)(hb:s.heap.objs.size<=b)(hn:H' b=none):a1y X aA H' b:=by
 refine⟨hn,Nat.ne_of_gt (aY I.lt hb),I.nofs hb,.inr (c9 I.sz hb),λx c e z=>?_,λp hp z=>?_⟩
 ·obtain⟨v,q⟩:=I.cell x c e;exact absurd (aY q.lt (by rw[z];exact hb)) (cC _)
 ·exact absurd (aY (aU (I.pin p hp).1) (by rw[z];exact hb)) (cC _)
structure Turn (P:Program) (w:World) (K:Fg) (tg:Expr) (J:It) (fp:List Addr) (it:Addr) (tn:Nat->Heap->Prop):Prop where
 mem:it∈fp
 obj:∀i h,tn i h->∀b∈fp,∃o,h.get? b=some o/\∀v,o.data≠.cell v
 keep:∀i h h',tn i h->(∀b∈fp,∀o,h.get? b=some o->h'.get? b=some o)->tn i h'
 item:∀(X:Cx),X.prog=P->X.w=w->X.K=K->X.calm=true->∀(i:Nat) (aA:List (Addr×Obj)) (s:Shared) (σ:St) (H:Hp) (E:Value->Shared->Prop),Inv X aA σ H s->(∀b∈fp,a1y X aA H b)->tn i s.heap->J.go i H->
  wpAny (model P w) X.A (pyNext (.ref it)) (λr s1=>∃u,r=some u /\
   wpAny (model P w) X.A (letOwnedTupleGo tg (.ref it) u) (λ_ s2=>∃x H',Inv X aA σ H' s2/\RelV x u/\J.yld i H x H'/\tn (i+1) s2.heap/\∀b∈fp,H' b=none) E s1) E s
 done:∀(X:Cx),X.prog=P->X.w=w->X.K=K->X.calm=true->∀(i:Nat) (aA:List (Addr×Obj)) (s:Shared) (σ:St) (H:Hp) (E:Value->Shared->Prop),Inv X aA σ H s->(∀b∈fp,a1y X aA H b)->tn i s.heap->J.stop i H->
  wpAny (model P w) X.A (pyNext (.ref it)) (λr s1=>r=none/\Inv X aA σ H s1) E s
 self:∀(A:Around) (i:Nat) (s:Shared) (Q:Value->Shared->Prop) (E:Value->Shared->Prop),tn i s.heap->Q (.ref it) s->wpAny (model P w) A (pyIter (.ref it)) Q E s
abbrev TI:=St->Hp->(It->Hp->Prop)->Prop
def PIE(X:Cx)(aA:List (Addr×Obj))(σ:St)(tg:Expr)(R:It->Hp->Prop)(itv:Value)(s2:Shared):Prop :=
 ∃(it:Addr) (fp:List Addr) (tn:Nat->Heap->Prop) (J:It) (H':Hp),itv=.ref it/\Inv X aA σ H' s2/\Turn X.prog X.w X.K tg J fp it tn/\tn 0 s2.heap/\(∀b∈fp,a1y X aA H' b)/\R J H'
def PI(X:Cx)(tg aF:Expr)(wi:TI):Prop :=
 ∀(aA:List (Addr×Obj)) (s:Shared) (σ:St) (H:Hp) (R:It->Hp->Prop),Inv X aA σ H s->wi σ H R->
  wpAny (model X.prog X.w) X.A (eval aF X.env) (λv s1=>wpAny (model X.prog X.w) X.A (pyIter v) (PIE X aA σ tg R) X.xe s1) X.xe s
theorem ago{s:Shared}(ho:s.heap.get? it=some o)(hc:o.cls=.type n)(hd:o.data=.fields vs)
  (hn:["enumerate","zip","dict_itemiterator","dict_reverseitemiterator","odict_iterator","itertools.zip_longest","itertools.pairwise"].contains n=false) (hQ:Q () s):wpAny M A (letOwnedTupleGo tg (.ref it) u) Q E s:=by
 unfold letOwnedTupleGo
 cases tg<;>first
  |exact av hQ
  | (cases u<;>first
    |exact av hQ
    | (refine a8 (wpAny_load ho ?_)
       rw[hc,hd];show wpAny M A (if (["enumerate","zip","dict_itemiterator","dict_reverseitemiterator","odict_iterator","itertools.zip_longest","itertools.pairwise"].contains n && vs[0]? == some (rawInt _))=true then _ else _) Q E s
       rw[bg (by intro h;rw[hn,Bool.false_and]at h;cases h)]
       exact av hQ))
def Itl(K:Fg)(a:Addr):It :=
 ⟨λi H=>∃xs x,SqL K H a xs/\xs[i]? = some x,λi H x H'=>H'=H/\∀xs,SqL K H a xs->xs[i]? = some x,λi H=>∃xs,SqL K H a xs/\xs.length<=i⟩
def Itt(K:Fg)(a:Addr):It :=
 ⟨λi H=>∃xs x,SqT K H a xs/\xs[i]? = some x,λi H x H'=>H'=H/\∀xs,SqT K H a xs->xs[i]? = some x,λi H=>∃xs,SqT K H a xs/\xs.length<=i⟩
def Itr(lo:Int)(n:Nat):It:=⟨λi _=>i<n,λi H x H'=>H'=H/\x=.int (lo+i),λi _=>n<=i⟩
theorem ac4{P:Program}{w:World}{K:Fg}{tg:Expr}(a it:Addr):Turn P w K tg (Itl K a) [it] it (λi h=>h.IsListIter it a i) where
 mem:=by simp
 obj:=λi h st b hb=>by
  have e:b=it:=by simpa using hb
  subst e;obtain⟨o,e,c,d⟩:=st;exact⟨o,e,λv z=>by rw[d]at z;cases z⟩
 keep:=λi h h' st k=>st.at λo e=>k it (by simp) o e
 item:=by
  intro X hP hw hK hc i aA s σ H E I hf st hg
  subst hP hw hK;obtain⟨xs,x,hq,hx⟩:=hg;obtain⟨its,rv,p,hz⟩:=I.list hq;obtain⟨u,hu,ru⟩:=rv.get hx;obtain⟨f0,f1,f2,f3,f4,f5⟩:=hf it (by simp)
  refine wpAny_pyNext_list_item st p.isList (x:=u) (by simpa using hu) λh' st' sb=>?_
  have I1:Inv X aA σ H {s with heap:=h' }:=I.turned (t':=s.toks) (λb o hb e=>(sb.2 b hb).trans e) f0 f1 f3 f4 f5
  obtain⟨o,e,c,d⟩:=id st';exact⟨u,rfl,ago (s:={s with heap:=h' }) e c d (by decide) ⟨x,H,I1,ru,⟨rfl,λys hy=>by rw[I.list_inj hy hq];exact hx⟩,st',λb hb=>(hf b hb).1⟩⟩
 done:=by
  intro X hP hw hK hc i aA s σ H E I hf st hg
  subst hP hw hK;obtain⟨xs,hq,hx⟩:=hg;obtain⟨its,rv,p,hz⟩:=I.list hq;obtain⟨f0,f1,f2,f3,f4,f5⟩:=hf it (by simp)
  have hl:=rv.length;exact wpAny_pyNext_list_end (I.ok.hd hc) st p.isList (by simp;omega) λh' eb=>⟨rfl,I.turned (t':=s.toks) (λb o hb e=>eb b o hb e) f0 f1 f3 f4 f5⟩
 self:=λ_ _ _ _ _ st h=>wpAny_pyIter_listiter st h
theorem aan{P:Program}{w:World}{K:Fg}{tg:Expr}(a it:Addr):Turn P w K tg (Itt K a) [it] it (λi h=>h.IsTupleIter it a i) where
 mem:=by simp
 obj:=λi h st b hb=>by
  have e:b=it:=by simpa using hb
  subst e;obtain⟨o,e,c,d⟩:=st;exact⟨o,e,λv z=>by rw[d]at z;cases z⟩
 keep:=λi h h' st k=>st.at λo e=>k it (by simp) o e
 item:=by
  intro X hP hw hK hc i aA s σ H E I hf st hg
  subst hP hw hK;obtain⟨xs,x,hq,hx⟩:=hg;obtain⟨its,rv,p,hz⟩:=I.tuple hq;obtain⟨u,hu,ru⟩:=rv.get hx;obtain⟨f0,f1,f2,f3,f4,f5⟩:=hf it (by simp)
  refine wpAny_pyNext_tuple_item st (show s.heap.IsTuple a its.toArray from p) (x:=u) (by simpa using hu) λh' st' sb=>?_
  have I1:Inv X aA σ H {s with heap:=h' }:=I.turned (t':=s.toks) (λb o hb e=>(sb.2 b hb).trans e) f0 f1 f3 f4 f5
  obtain⟨o,e,c,d⟩:=id st';exact⟨u,rfl,ago (s:={s with heap:=h' }) e c d (by decide) ⟨x,H,I1,ru,⟨rfl,λys hy=>by rw[I.tuple_inj hy hq];exact hx⟩,st',λb hb=>(hf b hb).1⟩⟩
 done:=by
  intro X hP hw hK hc i aA s σ H E I hf st hg
  subst hP hw hK;obtain⟨xs,hq,hx⟩:=hg;obtain⟨its,rv,p,hz⟩:=I.tuple hq;obtain⟨f0,f1,f2,f3,f4,f5⟩:=hf it (by simp)
  have hl:=rv.length;exact wpAny_pyNext_tuple_end (I.ok.hd hc) st (show s.heap.IsTuple a its.toArray from p) (by simp;omega) λh' eb=>⟨rfl,I.turned (t':=s.toks) (λb o hb e=>eb b o hb e) f0 f1 f3 f4 f5⟩
 self:=λ_ _ _ _ _ st h=>wpAny_pyIter_tupleiter st h
theorem aao{P:Program}{w:World}{K:Fg}{tg:Expr}(it:Addr)(lo:Int)(n:Nat):Turn P w K tg (Itr lo n) [it] it (λi h=>IsRangeIter h it (lo+(i:Nat)*1) ((n:Int)-(i:Nat)) 1) where
 mem:=by simp
 obj:=λi h st b hb=>by
  have e:b=it:=by simpa using hb
  subst e;exact⟨_,st,λv z=>by
   have z':Data.fields _=Data.cell v:=z
   cases z'⟩
 keep:=λi h h' st k=>k it (by simp) _ st
 item:=by
  intro X hP hw hK hc i aA s σ H E I hf st hg
  subst hP hw hK;obtain⟨f0,f1,f2,f3,f4,f5⟩:=hf it (by simp)
  have W:=Walks.range (prog:=X.prog) (w:=X.w) (I.ok.hd hc) it lo 1 n;refine W.item i s _ _ hg st λv h' tk hv st' kk=>?_;obtain⟨t,rfl⟩:=hv;have I1:Inv X aA σ H {s with heap:=h',toks:=tk}:=I.turned (λb o hb e=>kk b o (by simpa using hb) e) f0 f1 f3 f4 f5
  refine⟨_,rfl,ago (s:={s with heap:=h',toks:=tk}) (n := "range_iterator") st' rfl rfl (by decide) ⟨.int (lo+i),H,I1,⟨t,?_⟩,⟨rfl,rfl⟩,st',λb hb=>(hf b hb).1⟩⟩
  rw[Int.mul_one]
 done:=by
  intro X hP hw hK hc i aA s σ H E I hf st hg
  subst hP hw hK;obtain⟨f0,f1,f2,f3,f4,f5⟩:=hf it (by simp)
  exact wpAny_pyNext_range_end (I.ok.hd hc) st (by have:n<=i:=hg;omega) λh' eb=>⟨rfl,I.turned (t':=s.toks) (λb o hb e=>eb b o hb e) f0 f1 f3 f4 f5⟩
 self:=λ_ _ _ _ _ st h=>wpAny_pyIter_rangeiter st h
section
variable{X:Cx}{tg:Expr}
def avv(K:Fg)(tl:TE):TI:=λσ H R=>tl σ H λx H1=>∃a,x=.ref a/\(∃xs,SqL K H1 a xs)/\R (Itl K a) H1
def az9(K:Fg)(tl:TE):TI:=λσ H R=>tl σ H λx H1=>∃a,x=.ref a/\(∃xs,SqT K H1 a xs)/\R (Itt K a) H1
theorem ac6{l:Expr}{tl:TE}(hl:PE X l tl):PI X tg l (avv X.K tl):=by
 intro aA s σ H R I h
 refine thn (hl aA s σ H _ I h) ?_
 rintro v s1 ⟨x,H1,I1,r1,q1⟩
 obtain⟨a,e,⟨xs,hq⟩,q⟩:=q1;subst e;cases r1
 obtain⟨its,rv,p,hz⟩:=I1.list hq;refine gA p.isList ?_;refine⟨s1.heap.objs.size,[s1.heap.objs.size],_,_,H1,rfl,I1.kept (t':=s1.toks) λb o e=>af _ e,ac4 a _,⟨_,aT _ rfl,rfl,rfl⟩,λb hb=>?_,q⟩;have e:b=s1.heap.objs.size:=by simpa using hb
 subst e;exact I1.fpOk (ah _) (I1.hok.fresh (ah _))
theorem apq{l:Expr}{tl:TE}(hl:PE X l tl):PI X tg l (az9 X.K tl):=by
 intro aA s σ H R I h
 refine thn (hl aA s σ H _ I h) ?_
 rintro v s1 ⟨x,H1,I1,r1,q1⟩
 obtain⟨a,e,⟨xs,hq⟩,q⟩:=q1;subst e;cases r1
 obtain⟨its,rv,p,hz⟩:=I1.tuple hq;refine fS (show s1.heap.IsTuple a its.toArray from p) ?_
 refine⟨s1.heap.objs.size,[s1.heap.objs.size],_,_,H1,rfl,I1.kept (t':=s1.toks) λb o e=>af _ e,aan a _,⟨_,aT _ rfl,rfl,rfl⟩,λb hb=>?_,q⟩;have e:b=s1.heap.objs.size:=by simpa using hb
 subst e;exact I1.fpOk (ah _) (I1.hok.fresh (ah _))
theorem a9b{s:Shared}{lo hi:Int}{tk:Nat}(I:Inv X aA σ H s)(h1 : -(2^62)<=lo)(h2:lo<2^62)(h3 : -(2^62)<=hi)(h4:hi<2^62)
  (q:R (Itr lo (hi-lo).toNat) H):wpAny (model X.prog X.w) X.A (pyIter (.ref s.heap.objs.size)) (PIE X aA σ tg R) E {s with heap:=s.heap.push {cls:=.type "range",data:=.fields #[.int lo t,.int hi u,.int 1 v]},toks:=tk}:=by
 refine wpAny_pyIter_range (IsRange.new ..) (small_one h1 h2 h3 h4) ?_;have I1:Inv X aA σ H {s with heap:=s.heap.push {cls:=.type "range",data:=.fields #[.int lo t,.int hi u,.int 1 v]},toks:=tk}:=I.kept λb o e=>af _ e
 refine⟨(s.heap.push {cls:=.type "range",data:=.fields #[.int lo t,.int hi u,.int 1 v]}).objs.size,[(s.heap.push {cls:=.type "range",data:=.fields #[.int lo t,.int hi u,.int 1 v]}).objs.size],_,_,H,rfl,
  I1.kept (t':=tk) λb o e=>af _ e,aao _ lo (hi-lo).toNat,?_,λb hb=>?_,q⟩
 ·have e1:lo+((0:Nat):Int)*1=lo:=by simp
  have e2:(((hi-lo).toNat:Nat):Int)-((0:Nat):Int)=Builtin.Range.rangeSize lo hi 1:=by rw[rangeSize_one];split<;>omega
  show IsRangeIter _ _ (lo+((0:Nat):Int)*1) ((((hi-lo).toNat:Nat):Int)-((0:Nat):Int)) 1;rw[e1,e2];exact aT _ rfl
 ·have e:b=(s.heap.push {cls:=.type "range",data:=.fields #[.int lo t,.int hi u,.int 1 v]}).objs.size:=by simpa using hb
  subst e;exact I1.fpOk (ah _) (I1.hok.fresh (ah _))
def avw(ta:TA):TI:=λσ H R=>ta σ H λvs H1=>∃j:Int,vs=[.int j] /\ -(2^62)<=j/\j<2^62/\R (Itr 0 j.toNat) H1
def avx(ta:TA):TI:=λσ H R=>ta σ H λvs H1=>∃i j:Int,vs=[.int i,.int j]/\(-(2^62)<=i/\i<2^62 /\ -(2^62)<=j/\j<2^62)/\R (Itr i (j-i).toNat) H1
theorem ac8{a:Expr}{ta:TA}{p pos:Pos}(hg:Gl X "range")(hm:X.mg "range" = none)(ha:PA X [a] ta)(hs:starEach [a] X.env=[(false,eval a X.env)]:=by rfl):PI X tg (.Call (.Name "range" p) [a] [] pos) (avw ta):=by
 intro aA s σ H R I h
 refine Call_ (a05 I hg hm boot_range (bG (thn (ha pos aA s σ H _ I h) λus s1 ⟨vs,H1,I1,r1,q1⟩=>?_) hs rfl));obtain⟨j,e,q1,q2,q⟩:=q1;subst e
 cases r1 with
 |cons r rr =>
  cases rr
  obtain⟨t,rfl⟩:=r;exact call_range_1 (a9b I1 (by omega) (by omega) q1 q2 (by simpa using q))
theorem aca{a b:Expr}{ta:TA}{p pos:Pos}(hg:Gl X "range")(hm:X.mg "range" = none)(ha:PA X [a,b] ta)(hs:starEach [a,b] X.env=[(false,eval a X.env),(false,eval b X.env)]:=by rfl)(hs2:starEach [b] X.env=[(false,eval b X.env)]:=by rfl) :
  PI X tg (.Call (.Name "range" p) [a,b] [] pos) (avx ta):=by
 intro aA s σ H R I h
 refine Call_ (a05 I hg hm boot_range (bG (thn (ha pos aA s σ H _ I h) λus s1 ⟨vs,H1,I1,r1,q1⟩=>?_) (by rw[hs,hs2]) (by rw[hs2];rfl)))
 obtain⟨i,j,e,⟨q1,q2,q3,q4⟩,q⟩:=q1;subst e
 cases r1 with
 |cons r rr =>
  cases rr with
  |cons r' rr =>
   cases rr
   obtain⟨t,rfl⟩:=r;obtain⟨t',rfl⟩:=r';exact call_range_2 (a9b I1 q1 q2 q3 q4 q)
def aza(wi:TI)(g:TG)(tb:TS):TS:=λD σ H=>wi σ H λJ H1=>∃W:Nat->Nat->St->Hp->Prop,(∃m,W 0 m σ H1)/\∀i m σ H,W i m σ H->
 (J.stop i H/\D.nx σ H)\/(J.go i H/\∃N:St->Hp->Prop,(∀σ' H',N σ' H'->∃m',m'<m/\W (i+1) m' σ' H')/\∀x H',J.yld i H x H'->g x σ H' λσ2 H2=>tb {D with nx:=N,ct:=N,bk:=D.nx} σ2 H2)
def a2y(fp:List Addr)(h:Heap):List (Addr×Obj):=fp.filterMap λb=>(h.get? b).map λo=>(b,o)
theorem a0f{h:Heap}(hb:b∈fp)(e:h.get? b=some o):(b,o)∈a2y fp h:=List.mem_filterMap.mpr ⟨b,hb,by rw[e];rfl⟩
theorem acb(hp:p∈a2y fp h):p.1∈fp/\h.get? p.1=some p.2:=by
 obtain⟨b,hb,e⟩:=List.mem_filterMap.mp hp
 cases q:h.get? b with
 |none=>rw[q]at e;cases e
 |some o =>
  rw[q]at e;have e':(b,o)=p:=bp e;subst e';exact⟨hb,q⟩
theorem Inv.pinned(I:Inv X aA σ H s)(hf:∀b∈fp,a1y X aA H b)(ho:∀b∈fp,∃o,s.heap.get? b=some o/\∀v,o.data≠.cell v):Inv X (aA++a2y fp s.heap) σ H s :=
 I.pins_of λp hp=>(bB.mp hp).elim (λz=>I.pin p (bS _ z)) λz=>by
  obtain⟨hb,e⟩:=acb z;obtain⟨f0,f1,f2,_⟩:=hf p.1 hb;obtain⟨o,e',d⟩:=ho p.1 hb;rw[e]at e';cases e'
  exact⟨e,f0,f1,f2,d⟩
theorem Inv.unpinned(I:Inv X (aA++pl) σ H s):Inv X aA σ H s:=I.pins_of λp hp=>I.pin p (bS _ (cX _ hp))
theorem apr{aF:Expr}{body:List Stmt}{wi:TI}{g:TG}{tb:TS}{pos:Pos}(hp:PassesOwn (model X.prog X.w) X.A X.env X.xe)(hc:X.calm=true)(hi:PI X tg aF wi)(hg:PG X tg g)(hb:PSs X body tb)
  (hs:∀x,foldedSetIterable aF X.env x=pure x:=by intro _;rfl):PS X (.For tg aF body [] pos) (aza wi g tb):=by
 intro aA s σ H D I h
 refine wpAny_For (thn (hi aA s σ H _ I h) λv s1 h1=>thn h1 λitv s2 h2=>?_) hs;obtain⟨it,fp,tn,J,H2,e,I2,T,st2,f2,W,⟨m0,w0⟩,turn⟩:=h2;subst e;have stat:∀{H':Hp},(∀b∈fp,H' b=none)->∀b∈fp,a1y X aA H' b:=λhn b hb=>⟨hn b hb,(f2 b hb).2⟩;refine codeAny_forLoop_any (λn s'=>∃i σ' H',Inv X aA σ' H' s'/\tn i s'.heap/\(∀b∈fp,H' b=none)/\W i n σ' H') ?_ m0 ⟨0,σ,H2,I2,st2,λb hb=>(f2 b hb).1,w0⟩
 rintro n s3 ⟨i,σ3,H3,I3,st3,fr3,w3⟩
 rcases turn i n σ3 H3 w3 with⟨stop,qn⟩|⟨go,N,hN,step⟩
 ·refine dF hp (thn (T.done X rfl rfl rfl hc i aA s3 σ3 H3 X.xe I3 (stat fr3) st3 stop) λr s4 ⟨hr,I4⟩=>?_);subst hr;exact fJ ⟨σ3,H3,I4,qn⟩
 ·refine dF hp (thn (T.item X rfl rfl rfl hc i aA s3 σ3 H3 X.xe I3 (stat fr3) st3 go) λr s4 ⟨u,hr,h4⟩=>?_);subst hr;refine dF hp (thn h4 λ_ s5 ⟨x,H5,I5,r5,y5,st5,fr5⟩=>?_);have I5':=I5.pinned (stat fr5) (T.obj _ _ st5);refine dF hp (thn (hg _ s5 σ3 H5 x u _ I5' r5 (step x H5 y5)) λ_ s6 ⟨σ6,H6,I6,q6⟩=>?_);refine dF hp (thn (hb _ s6 σ6 H6 _ I6 q6) λf s7 q7=>?_);have again:∀{σ7:St} {H7:Hp},Inv X (aA++a2y fp s5.heap) σ7 H7 s7->N σ7 H7->∃m,m<n/\∃i σ' H',Inv X aA σ' H' s7/\tn i s7.heap/\(∀b∈fp,H' b=none)/\W i m σ' H':=λ{σ7 H7} I7 n7=>by
   obtain⟨m',hm,w7⟩:=hN σ7 H7 n7;refine⟨m',hm,i+1,σ7,H7,I7.unpinned,T.keep _ _ _ st5 λb hb o e=>(I7.pin (b,o) (bS _ (bS _ (a0f hb e)))).1,λb hb=>?_,w7⟩;obtain⟨o,e,d⟩:=T.obj _ _ st5 b hb;exact(I7.pin (b,o) (bS _ (bS _ (a0f hb e)))).2.1
  cases f with
  |next=>obtain⟨σ7,H7,I7,n7⟩:=q7;exact again I7 n7
  |cont=>obtain⟨σ7,H7,I7,n7⟩:=q7;exact again I7 n7
  |brk=>obtain⟨σ7,H7,I7,q7⟩:=q7;exact⟨σ7,H7,I7.unpinned,q7⟩
  |ret v=>obtain⟨x7,σ7,H7,I7,r7,q7⟩:=q7;exact⟨x7,σ7,H7,I7.unpinned,r7,q7⟩
end
abbrev R2:=V->V->Hp->VK->Prop
def OpR(X:Cx)(f:Value->Value->Sem Value)(r:R2):Prop :=
 ∀(aA:List (Addr×Obj)) (s:Shared) (σ:St) (H:Hp) (x y:V) (v u:Value) (Q:VK),Inv X aA σ H s->RelV x v->RelV y u->r x y H Q->
  wpAny (model X.prog X.w) X.A (f v u) (EP X aA σ Q) X.xe s
def UnR(X:Cx)(f:Value->Sem Value)(r:V->Hp->VK->Prop):Prop :=
 ∀(aA:List (Addr×Obj)) (s:Shared) (σ:St) (H:Hp) (x:V) (v:Value) (Q:VK),Inv X aA σ H s->RelV x v->r x H Q->
  wpAny (model X.prog X.w) X.A (f v) (EP X aA σ Q) X.xe s
def CallR(X:Cx)(f:Value)(r:List V->Hp->VK->Prop):Prop :=
 ∀(aA:List (Addr×Obj)) (s:Shared) (σ:St) (H:Hp) (xs:List V) (us:List Value) (Q:VK),Inv X aA σ H s->Vals xs us->r xs H Q->
  wpAny (model X.prog X.w) X.A (call f us) (EP X aA σ Q) X.xe s
def azb(X:Cx)(r:V->Hp->(Bool->Hp->Prop)->Prop):Prop :=
 ∀(aA:List (Addr×Obj)) (s:Shared) (σ:St) (H:Hp) (x:V) (v:Value) (Q:Bool->Hp->Prop),Inv X aA σ H s->RelV x v->r x H Q->
  wpAny (model X.prog X.w) X.A (truthy v) (TP X aA σ Q) X.xe s
def tOp(r:R2)(ta tb:TE):TE:=λσ H Q=>ta σ H λx H1=>tb σ H1 λy H2=>r x y H2 Q
def tUn(r:V->Hp->VK->Prop)(ta:TE):TE:=λσ H Q=>ta σ H λx H1=>r x H1 Q
def rI(C:Int->Int->Prop)(g:Int->Int->V):R2:=λx y H Q=>∃i j,x=.int i/\y=.int j/\C i j/\Q (g i j) H
def rI0(g:Int->Int->V):R2:=λx y H Q=>∃i j,x=.int i/\y=.int j/\Q (g i j) H
def rU(g:Int->V):V->Hp->VK->Prop:=λx H Q=>∃i,x=.int i/\Q (g i) H
section
variable{X:Cx}{a b c:Expr}{ta tb tc:TE}{pos:Pos}
theorem avy(ha:PE X a ta)(hb:PE X b tb){aA:List (Addr×Obj)}{s:Shared}{σ:St}{H:Hp}{R:V->V->Hp->Prop}(I:Inv X aA σ H s)
  (h:ta σ H λx H1=>tb σ H1 λy H2=>R x y H2) {Q:Value->Shared->Prop} {f:Value->Value->Sem Value}
  (hf:∀v u s2 x y H2,Inv X aA σ H2 s2->RelV x v->RelV y u->R x y H2->wpAny (model X.prog X.w) X.A (f v u) Q X.xe s2) :
  wpAny (model X.prog X.w) X.A (eval a X.env) (λv s₁=>wpAny (model X.prog X.w) X.A (eval b X.env) (λu s₂=>wpAny (model X.prog X.w) X.A (f v u) Q X.xe s₂) X.xe s₁) X.xe s:=by
 refine thn (ha aA s σ H _ I h) ?_
 rintro v s1 ⟨x,H1,I1,r1,q1⟩
 refine thn (hb aA s1 σ H1 _ I1 q1) ?_
 rintro u s2 ⟨y,H2,I2,r2,q2⟩
 exact hf v u s2 x y H2 I2 r1 r2 q2
theorem avz{op:Operator}{r:R2}(ho:OpR X (binaryOp op) r)(ha:PE X a ta)(hb:PE X b tb):PE X (.BinOp a op b pos) (tOp r ta tb):=by
 intro aA s σ H Q I h
 exact wpAny_BinOp (avy ha hb I h λv u s2 x y H2 I2 rx ry q=>ho aA s2 σ H2 x y v u Q I2 rx ry q)
theorem aw0{op:UnaryOp}{r:V->Hp->VK->Prop}(ho:UnR X (unaryOp op) r)(ha:PE X a ta):PE X (.UnaryOp op a pos) (tUn r ta):=by
 intro aA s σ H Q I h
 exact UnaryOp_ (thn (ha aA s σ H _ I h) λv s1 ⟨x,H1,I1,r1,q1⟩=>ho aA s1 σ H1 x v Q I1 r1 q1)
theorem opI{f:Value->Value->Sem Value}{C:Int->Int->Prop}{g:Int->Int->Int}
  (rule:∀(i j:Int) (t u:Tok) (s:Shared) (Q:Value->Shared->Prop) (E:Value->Shared->Prop),C i j->Q (.int (g i j) s.toks) {s with toks:=s.toks+1}->wpAny (model X.prog X.w) X.A (f (.int i t) (.int j u)) Q E s) :
  OpR X f (rI C λi j=>.int (g i j)):=by
 intro aA s σ H x y v u Q I rx ry h
 obtain⟨i,j,rfl,rfl,hc,q⟩:=h;obtain⟨t,rfl⟩:=rx;obtain⟨t',rfl⟩:=ry;exact rule i j t t' s _ _ hc ⟨.int (g i j),H,I.tok _,⟨_,rfl⟩,q⟩
theorem aw1{f:Value->Value->Sem Value}{g:Int->Int->Int}
  (rule:∀(i j:Int) (t u:Tok) (s:Shared) (Q:Value->Shared->Prop) (E:Value->Shared->Prop),Q (.int (g i j) s.toks) {s with toks:=s.toks+1}->wpAny (model X.prog X.w) X.A (f (.int i t) (.int j u)) Q E s) :
  OpR X f (rI0 λi j=>.int (g i j)):=by
 intro aA s σ H x y v u Q I rx ry h
 obtain⟨i,j,rfl,rfl,q⟩:=h;obtain⟨t,rfl⟩:=rx;obtain⟨t',rfl⟩:=ry;exact rule i j t t' s _ _ ⟨.int (g i j),H,I.tok _,⟨_,rfl⟩,q⟩
theorem av3{f:Value->Value->Sem Value}{g:Int->Int->Bool}
  (rule:∀(i j:Int) (t u:Tok) (s:Shared) (Q:Value->Shared->Prop) (E:Value->Shared->Prop),Q (.bool (g i j)) s->wpAny (model X.prog X.w) X.A (f (.int i t) (.int j u)) Q E s) :
  OpR X f (rI0 λi j=>.bl (g i j)):=by
 intro aA s σ H x y v u Q I rx ry h
 obtain⟨i,j,rfl,rfl,q⟩:=h;obtain⟨t,rfl⟩:=rx;obtain⟨t',rfl⟩:=ry;exact rule i j t t' s _ _ ⟨.bl (g i j),H,I,rfl,q⟩
def ay3(i j:Int):Prop:=0<j/\j<1073741824
def ay4(i j:Int):Prop:=0<=j/\j<=1000000/\i.natAbs<2^64
def CMul(i j:Int):Prop:=(-(2^64)<i/\i<2^64)\/(-(2^64)<j/\j<2^64)
theorem CMul.ok(h:CMul i j):IntMulOk i j:=by
 rcases h with⟨h1,h2⟩|⟨h1,h2⟩
 ·exact .of_left (intBits_le_64 h1 h2)
 ·exact .of_right (intBits_le_64 h1 h2)
theorem aps:OpR X (binaryOp .Add) (rI0 λi j=>.int (i+j)):=aw1 λ_ _ _ _ _ _ _ q=>add_int q
theorem apt:OpR X (binaryOp .Sub) (rI0 λi j=>.int (i-j)):=aw1 λ_ _ _ _ _ _ _ q=>sub_int q
theorem apu:OpR X (binaryOp .Mult) (rI CMul λi j=>.int (i*j)):=opI λ_ _ _ _ _ _ _ hc q=>mul_int q hc.ok
theorem ale:OpR X (binaryOp .FloorDiv) (rI ay3 λi j=>.int (i / j)):=opI λi j _ _ _ _ _ hc q=>by
 have h1:(0:Int)<j:=hc.1;have h2:j<1073741824:=hc.2;exact floordiv_int (by omega) (by rw[Int.fdiv_eq_ediv_of_nonneg i (by omega)];exact q) (.inl (PyProof.noPylong_small (by omega)))
theorem apv:OpR X (binaryOp .Mod) (rI (λ_ j=>0<j) λi j=>.int (i%j)):=opI λi j _ _ _ _ _ hc q=>by
 have h1:(0:Int)<j:=hc;exact mod_int' (by omega) (by rw[Int.fmod_eq_emod_of_nonneg i (by omega)];exact q)
theorem apw:OpR X (binaryOp .Pow) (rI ay4 λi j=>.int (i^j.toNat)):=opI λ_ _ _ _ _ _ _ hc q=>pow_int_small hc.1 hc.2.1 hc.2.2 q
theorem acd:OpR X (inplaceOp .Add) (rI0 λi j=>.int (i+j)):=aw1 λ_ _ _ _ _ _ _ q=>iadd_int q
theorem unI{f:Value->Sem Value}{g:Int->Int}
  (rule:∀(i:Int) (t:Tok) (s:Shared) (Q:Value->Shared->Prop) (E:Value->Shared->Prop),Q (.int (g i) s.toks) {s with toks:=s.toks+1}->wpAny (model X.prog X.w) X.A (f (.int i t)) Q E s) :
  UnR X f (rU λi=>.int (g i)):=by
 intro aA s σ H x v Q I rx h
 obtain⟨i,rfl,q⟩:=h;obtain⟨t,rfl⟩:=rx;exact rule i t s _ _ ⟨.int (g i),H,I.tok _,⟨_,rfl⟩,q⟩
theorem apx:UnR X (unaryOp .USub) (rU λi=>.int (-i)):=unI λ_ _ _ _ _ q=>neg_int q
end
section
variable{X:Cx}{a b c:Expr}{ta tb tc:TE}{pos:Pos}
theorem ace(I:Inv X aA σ H s)(q:Q (.bl k) H)(e:k=k'):EP X aA σ Q (.bool k') s:=by
 subst e;exact⟨.bl k,H,I,rfl,q⟩
theorem apy:OpR X (compareOp .Lt) (rI0 λi j=>.bl (decide (i<j))):=av3 λ_ _ _ _ _ _ _ q=>lt_int q
theorem aap:OpR X (compareOp .LtE) (rI0 λi j=>.bl (decide (i<=j))):=av3 λ_ _ _ _ _ _ _ q=>le_int q
theorem aw2:OpR X (compareOp .Gt) (rI0 λi j=>.bl (decide (j<i))):=av3 λ_ _ _ _ _ _ _ q=>gt_int q
theorem aw3:OpR X (compareOp .GtE) (rI0 λi j=>.bl (decide (j<=i))):=av3 λ_ _ _ _ _ _ _ q=>ge_int q
theorem a6s:OpR X (compareOp .Lt) (λx y H Q=>∃i j,x=.str i/\y=.str j/\Q (.bl (decide (i.cps.toList<j.cps.toList))) H):=by
 intro aA s σ H x y v u Q I rx ry h
 obtain⟨i,j,rfl,rfl,q⟩:=h;obtain⟨t,rfl⟩:=rx;obtain⟨t',rfl⟩:=ry;exact lt_str (ace I q rfl)
theorem a6t:OpR X (compareOp .NotIn) (λx y H Q=>∃i j,x=.str i/\y=.str j/\Q (.bl (!(!(Builtin.Str.occurrences j i 0 j.length 1).isEmpty))) H):=by
 intro aA s σ H x y v u Q I rx ry h
 obtain⟨i,j,rfl,rfl,q⟩:=h;obtain⟨t,rfl⟩:=rx;obtain⟨t',rfl⟩:=ry;exact notIn_str (ace I q rfl)
theorem OpR.or(h:OpR X f r)(h':OpR X f r'):OpR X f (λx y H Q=>r x y H Q\/r' x y H Q):=by
 intro aA s σ H x y v u Q I rx ry q
 rcases q with q|q
 ·exact h aA s σ H x y v u Q I rx ry q
 ·exact h' aA s σ H x y v u Q I rx ry q
theorem a9c(b:Expr)(h:op≠.In:=by decide)(h2:op≠.NotIn:=by decide):behindInMarks op b=false:=by
 have e1:(op == CmpOp.In)=false:=by cases op<;>first|rfl|exact absurd rfl h
 have e2:(op == CmpOp.NotIn)=false:=by cases op<;>first|rfl|exact absurd rfl h2
 cases b<;>simp[behindInMarks,e1,e2]
theorem alf(ho:OpR X (compareOp op) r)(ha:PE X a ta)(hb:PE X b tb)(hm:behindInMarks op b=false):PE X (.Compare a [op] [b] pos) (tOp r ta tb):=by
 intro aA s σ H Q I h
 exact wpAny_Compare1 (avy ha hb I h λv u s2 x y H2 I2 rx ry q=>ho aA s2 σ H2 x y v u Q I2 rx ry q) hm
def alg(t:TE):TT:=λσ H Q=>t σ H λx H'=>∃k,x=.bl k/\Q k H'
theorem alh{op:CmpOp}{r:R2}(ho:OpR X (compareOp op) r)(ha:PE X a ta)(hb:PE X b tb)(hm:behindInMarks op b=false):PT X (.Compare a [op] [b] pos) (alg (tOp r ta tb)):=by
 intro aA s σ H Q I h
 refine wpAny_isTrue_Compare1 (thn (ha aA s σ H _ I h) λv s1 ⟨x,H1,I1,r1,q1⟩=>thn (hb aA s1 σ H1 _ I1 q1) λu s2 ⟨y,H2,I2,r2,q2⟩ =>
  thn (ho aA s2 σ H2 x y v u _ I2 r1 r2 q2) λc s3 ⟨z,H3,I3,r3,k,e,q3⟩=>?_) hm
 subst e;cases r3
 exact cF ⟨H3,I3,q3⟩
def acf(r r':R2)(ta tb tc:TE):TE:=λσ H Q=>ta σ H λx H1=>tb σ H1 λy H2=>r x y H2 λz H3=>∃k,z=.bl k /\
 (if k=true then tc σ H3 λw' H4=>r' y w' H4 Q else Q (.bl false) H3)
theorem agp{op op':CmpOp}{r r':R2}(ho:OpR X (compareOp op) r)(ho':OpR X (compareOp op') r')(ha:PE X a ta)(hb:PE X b tb)(hc:PE X c tc)
  (hm:lastMarks [op,op'] [b,c]=false:=by with_unfolding_all rfl):PE X (.Compare a [op,op'] [b,c] pos) (acf r r' ta tb tc):=by
 intro aA s σ H Q I h
 refine Compare_chain (thn (ha aA s σ H _ I h) λv s1 ⟨x,H1,I1,r1,q1⟩=>chain_link (thn (hb aA s1 σ H1 _ I1 q1) λu s2 ⟨y,H2,I2,r2,q2⟩ =>
  thn (ho aA s2 σ H2 x y v u _ I2 r1 r2 q2) λd s3 ⟨z,H3,I3,r3,k,e,q3⟩=>?_)) hm
 subst e;cases r3
 refine cF ?_
 cases k with
 |false=>exact ite_ff ⟨.bl false,H3,I3,rfl,q3⟩
 |true=>exact ite_tt (chain_last (thn (hc aA s3 σ H3 _ I3 q3) λw' s4 ⟨z',H4,I4,r4,q4⟩=>ho' aA s4 σ H4 y z' u w' Q I4 r2 r4 q4))
theorem agq{op op':CmpOp}{r r':R2}(ho:OpR X (compareOp op) r)(ho':OpR X (compareOp op') r')(ha:PE X a ta)(hb:PE X b tb)(hc:PE X c tc)
  (hm:lastMarks [op,op'] [b,c]=false:=by with_unfolding_all rfl):PT X (.Compare a [op,op'] [b,c] pos) (alg (acf r r' ta tb tc)):=by
 intro aA s σ H Q I h
 refine isTrue_chain (thn (ha aA s σ H _ I h) λv s1 ⟨x,H1,I1,r1,q1⟩=>test_link (thn (hb aA s1 σ H1 _ I1 q1) λu s2 ⟨y,H2,I2,r2,q2⟩ =>
  thn (ho aA s2 σ H2 x y v u _ I2 r1 r2 q2) λd s3 ⟨z,H3,I3,r3,k,e,q3⟩=>?_)) hm
 subst e;cases r3
 refine cF ?_
 cases k with
 |false =>
  obtain⟨k',e',q'⟩:=q3
  cases e'
  exact ite_ff ⟨H3,I3,q'⟩
 |true =>
  refine ite_tt (test_last (thn (hc aA s3 σ H3 _ I3 q3) λw' s4 ⟨z',H4,I4,r4,q4⟩=>thn (ho' aA s4 σ H4 y z' u w' _ I4 r2 r4 q4) λd' s5 ⟨z2,H5,I5,r5,k2,e2,q5⟩=>?_));subst e2;cases r5
  exact cF ⟨H5,I5,q5⟩
def aw4(K:Fg)(x:V)(H:Hp)(k:Bool):Prop :=
 match x with
 |.non=>k=false
 |.bl b=>k=b
 |.int i=>k=(i != 0)
 |.str y=>y.length<=sizeLine/\k=((y.length:Int) != 0)
 |.byt y=>y.size<=sizeLine/\k=((y.size:Int) != 0)
 |.ref p=>(∃xs,SqL K H p xs/\k = !xs.isEmpty)\/(∃xs,SqT K H p xs/\k = !xs.isEmpty)\/∃kvs,H p=some (.dK kvs)/\k = !kvs.isEmpty
 |_=>False
theorem aaq{κ:Type}{kvs:List (κ×V)}{vs:List (κ×Value)}(r:KV kvs vs):(!vs.isEmpty) = !kvs.isEmpty:=by
 cases r<;>rfl
theorem a4j(r:Vals xs its):(!its.toArray.isEmpty) = !xs.isEmpty:=by
 cases r<;>simp
theorem a0s:(sizeLine:Nat)<2^63:=by rw[eC];decide
theorem apz:azb X (λx H Q=>∃k,aw4 X.K x H k/\Q k H):=by
 intro aA s σ H x v Q I rx h
 obtain⟨k,e,q⟩:=h;have hl:=a0s;have hs:sizeLine=16777216:=eC
 cases x with
 |non =>
  cases rx
  have e':k=false:=e;subst e';exact truthy_none ⟨H,I,q⟩
 |bl b =>
  cases rx
  have e':k=b:=e;subst e';exact cF ⟨H,I,q⟩
 |int i =>
  obtain⟨t,rfl⟩:=rx;have e':k=(i != 0):=e;subst e';exact PySem.P.truthy_int ⟨H,I,q⟩
 |str y =>
  obtain⟨t,rfl⟩:=rx;obtain⟨hy,e'⟩:y.length<=sizeLine/\k=((y.length:Int) != 0):=e;subst e';exact PySem.P.truthy_str (by omega) ⟨H,I.tok _,q⟩
 |byt y =>
  obtain⟨t,rfl⟩:=rx;obtain⟨hy,e'⟩:y.size<=sizeLine/\k=((y.size:Int) != 0):=e;subst e';exact PySem.W.truthy_bytes (by omega) ⟨H,I.tok _,q⟩
 |ref p =>
  cases rx
  have e':(∃xs,SqL X.K H p xs/\k = !xs.isEmpty)\/(∃xs,SqT X.K H p xs/\k = !xs.isEmpty)\/∃kvs,H p=some (.dK kvs)/\k = !kvs.isEmpty:=e
  rcases e' with⟨xs,hx,e'⟩|⟨xs,hx,e'⟩|⟨kvs,hx,e'⟩
  ·subst e';obtain⟨its,r,pl,hz⟩:=I.list hx;have aH:=r.length;exact wpAny_truthy_list pl.isList (by simp only[aJ];omega) ⟨H,I.tok _,by rw[a4j r];exact q⟩
  ·subst e';obtain⟨its,r,pl,hz⟩:=I.tuple hx;have aH:=r.length;exact truthy_tuple pl (by simp only[aJ];omega) ⟨H,I.tok _,by rw[a4j r];exact q⟩
  ·subst e';obtain⟨hz,hS,vs,r,m⟩:kvs.length<=sizeLine/\(p == sysModules)=false/\∃vs,KV kvs vs/\s.heap.DictOf (ju X.prog X.w) p vs:=I.hok p _ hx;have aH:kvs.length=vs.length:=dB r;exact wpAny_truthy_dict hS m (by omega) ⟨H,I.tok _,by rw[aaq r];exact q⟩
 |_=>exact(show False from e).elim
theorem agr(ha:PE X a ta)(he:∀whole,isTrue a X.env whole=(do let v <-whole;standAt a.pos;holding [v] (truthy v))) :
  PT X a (λσ H Q=>ta σ H λx H'=>∃k,aw4 X.K x H' k/\Q k H'):=by
 intro aA s σ H Q I h
 exact isTrue_plain (thn (ha aA s σ H _ I h) λv s1 ⟨x,H1,I1,r1,q1⟩=>apz aA s1 σ H1 x v Q I1 r1 q1) (he _)
theorem aar:OpR X (binaryOp .Add) (λx y H Q=>∃i j,x=.str i/\y=.str j/\i.length+j.length<=sizeLine/\Q (.str (i++j)) H):=by
 intro aA s σ H x y v u Q I rx ry h
 obtain⟨i,j,rfl,rfl,hz,q⟩:=h;obtain⟨t,rfl⟩:=rx;obtain⟨t',rfl⟩:=ry;exact add_str (λt' tk=>⟨.str (i++j),H,I.tok _,⟨_,rfl⟩,q⟩) hz
theorem a2z:OpR X (inplaceOp .Add) (λx y H Q=>∃i j,x=.str i/\y=.str j/\i.length+j.length<=sizeLine/\Q (.str (i++j)) H):=by
 intro aA s σ H x y v u Q I rx ry h
 obtain⟨i,j,rfl,rfl,hz,q⟩:=h;obtain⟨t,rfl⟩:=rx;obtain⟨t',rfl⟩:=ry;exact iadd_str (λt' tk=>⟨.str (i++j),H,I.tok _,⟨_,rfl⟩,q⟩) hz
theorem vals1(r:Vals [x] us):∃u,us=[u]/\RelV x u:=by
 cases r with
 |cons r1 r2=>cases r2;exact⟨_,rfl,r1⟩
theorem vals2(r:Vals [x,y] us):∃u w',us=[u,w']/\RelV x u/\RelV y w':=by
 cases r with
 |cons r1 r2 =>
  cases r2 with
  |cons r3 r4=>cases r4;exact⟨_,_,rfl,r1,r3⟩
theorem ags:CallR X (.builtin "abs") (λxs H Q=>∃i,xs=[.int i]/\Q (.int (if i<0 then -i else i)) H):=by
 intro aA s σ H xs us Q I r h
 obtain⟨i,rfl,q⟩:=h;obtain⟨u,rfl,t,rfl⟩:=vals1 r;exact call_abs_int λu tk=>⟨.int (if i<0 then -i else i),H,I.tok _,⟨_,rfl⟩,q⟩
end
structure ObjM (h:Heap) (x dx C:Addr) (mA:Str->Option Value):Prop where
 obj:h.get? x=some (PySem.W.instObj C dx)
 ns:h.Ns1 dx mA
 ne:dx≠x
theorem acg{h:Heap}(n:h.Ns1 dx mA):∃od,h.get? dx=some od/\∀name,PySem.W.lookIn name od=some (mA name):=by
 obtain⟨o,es,ep,ho,hd,hk,_,hm⟩:=n;refine⟨o,ho,λname=>?_⟩;have e:=hm name;unfold nsFind findBy at e;rw[<-Array.find?_toList]at e;unfold PySem.W.lookIn;rw[hd];dsimp only
 split
 ·rename_i y q;rw[q]at e;exact aZ some e
 ·rename_i q;rw[q]at e;have a:es.toList.any (·.refKey)=false:=by
   rw[List.any_eq_false]
   intro y hy
   obtain⟨z,t,hkey⟩:=hk y (Array.mem_toList_iff.mp hy);simp[DictEntry.refKey,hkey]
  have a':¬ es.toList.any (·.refKey)=true:=by rw[a];exact bo
  rw[bg a'];exact aZ some e
theorem ObjM.look(I:ObjM h x dx C mA):∃od,PySem.W.InstAt h x (PySem.W.instObj C dx) C (some od)/\∀name,PySem.W.lookIn name od=some (mA name) :=
 let ⟨od,ho,hl⟩:=acg I.ns
 ⟨od,⟨I.obj,rfl,rfl,ho⟩,hl⟩
theorem RelO.some_of(r:RelO (some v) o):∃u,o=some u/\RelV v u:=by
 cases o with
 |none=>exact(show False from r).elim
 |some u=>exact⟨u,rfl,r⟩
section
variable{P:Program}{w:World}{H H':Hp}{h h':Heap}{a C dx:Addr}{fs fs':List (Str×V)}
theorem ali(hok:HOk P w H h)(e:H a=some (.ins C dx fs)):∃mA,ObjM h a dx C mA/\(∀f,RelO (fs.lookup f) (mA f))/\PySem.Within mA (fs.map (·.1))/\fs.length<=1000/\H dx=some (.own a):=by
 obtain⟨d,z,ne,ob,mA,n,r,q⟩:=(show ObjOk P w H h a (.ins C dx fs) from hok a _ e)
 exact⟨mA,⟨ob,n,ne⟩,r,q,z,d⟩
end
structure Cls (K:Fg) (C:Addr):Prop where
 pg:PySem.W.plainGet K C Str.empty=true
 hd:PySem.W.hasDictIn K C=true
 po:PySem.W.plainOver K C=true
 sa:PySem.W.findIn K (.ref C) "__setattr__" = some (some (.builtin "object.__setattr__"))
theorem Cls.get{K:Fg}{C:Addr}(c:Cls K C)(f:Str):PySem.W.plainGet K C f=true:=c.pg
section
variable{X:Cx}{aA:List (Addr×Obj)}{σ:St}{H:Hp}{s:Shared}{A:Around}{E:Value->Shared->Prop}{Q:Value->Shared->Prop}{c:Value}{b:Bool}
inductive TyOf (K:Fg) (H:Hp):V->Value->Prop where
 |non:TyOf K H .non (.type "NoneType")
 |bl (x:Bool):TyOf K H (.bl x) (.type "bool")
 |int (i:Int):TyOf K H (.int i) (.type "int")
 |str (x:Str):TyOf K H (.str x) (.type "str")
 |flt (x:UInt64):TyOf K H (.flt x) (.type "float")
 |lst {a:Addr} {xs:List V} (e:H a=some (.lst xs)):TyOf K H (.ref a) (.type "list")
 |frz {a:Addr} {o:Obj} {xs:List V} (e:H a=some (.frz o (.lst xs))):TyOf K H (.ref a) (.type "list")
 |tup {a:Addr} {xs:List V} (e:H a=some (.tup xs)):TyOf K H (.ref a) (.type "tuple")
 |dK {a:Addr} {kvs:List (Key×V)} (e:H a=some (.dK kvs)):TyOf K H (.ref a) (.type "dict")
 |dT {a:Addr} {kvs:List (List Key×V)} (e:H a=some (.dT kvs)):TyOf K H (.ref a) (.type "dict")
 | ins {a C dx:Addr} {fs:List (Str×V)} (e:H a=some (.ins C dx fs)) (cl:Cls K C) (ha:PySem.W.findIn K (.ref C) "__class__" = some (some (.builtin "object.__class__")))
   (hn:PySem.W.specialIn K (.builtin "object.__class__") "__get__" = some (some (.builtin "getset_descriptor.__get__"))) (htk:PySem.W.takesIn K (.builtin "object.__class__")=some true)
   (hm:PySem.W.mroIn K C (.type "object")=some true):TyOf K H (.ref a) (.ref C)
theorem ach(I:Inv X aA σ H s)(rx:RelV x u)(ty:TyOf X.K H x t)(e:PySem.W.kitOne X.K t c=some b)(h:∀tk,Q (.bool b) {s with toks:=tk}) :
  wpAny (model X.prog X.w) A (call (.builtin "isinstance") [u,c]) Q E s:=by
 cases ty with
 |non=>cases (show u=Value.none from rx);exact cb PySem.W.kitx_none I.kIn True.intro e (λz=>nomatch z) h
 |bl y=>cases (show u=Value.bool y from rx);exact cb PySem.W.kitx_bool I.kIn True.intro e (λz=>nomatch z) h
 |int i=>obtain⟨t,q⟩:=(show ∃t,u=Value.int i t from rx);cases q;exact cb PySem.W.kitx_int I.kIn True.intro e (λz=>nomatch z) h
 |str y=>obtain⟨t,q⟩:=(show ∃t,u=Value.str y t from rx);cases q;exact cb PySem.W.kitx_str I.kIn True.intro e (λz=>nomatch z) h
 |flt y=>obtain⟨t,q⟩:=(show ∃t,u=Value.float y t from rx);cases q;exact cb PySem.W.kitx_float I.kIn True.intro e (λz=>nomatch z) h
 |@lst a xs ea =>
  cases (show u=Value.ref a from rx)
  obtain⟨_,_,n,_,h1⟩:=(show ObjOk X.prog X.w H s.heap a (.lst xs) from I.hok a _ ea)
  exact cb PySem.W.kitx_list I.kIn ⟨_,h1,rfl⟩ e (λz=>nomatch z) h
 |@frz a ob xs ea =>
  cases (show u=Value.ref a from rx)
  obtain⟨_,_,_,n,_,h1⟩:=(show ObjOk X.prog X.w H s.heap a (.frz ob (.lst xs)) from I.hok a _ ea)
  exact cb PySem.W.kitx_list I.kIn ⟨_,h1,rfl⟩ e (λz=>nomatch z) h
 |@tup a xs ea =>
  cases (show u=Value.ref a from rx)
  obtain⟨_,_,_,p⟩:=(show ObjOk X.prog X.w H s.heap a (.tup xs) from I.hok a _ ea)
  obtain⟨o,h1,h2,_⟩:=p;exact cb PySem.W.kitx_tuple I.kIn ⟨o,h1,h2.1⟩ e (λz=>nomatch z) h
 |@dK a kvs ea =>
  cases (show u=Value.ref a from rx)
  obtain⟨_,_,vs,_,p⟩:=(show ObjOk X.prog X.w H s.heap a (.dK kvs) from I.hok a _ ea)
  obtain⟨o,es,ep,h1,h2,_⟩:=p;exact cb gB I.kIn ⟨o,h1,h2.1⟩ e (λz=>nomatch z) h
 |@dT a kvs ea =>
  cases (show u=Value.ref a from rx)
  obtain⟨_,_,xs,_,o,es,ep,h1,h2,_⟩:=(show ObjOk X.prog X.w H s.heap a (.dT kvs) from I.hok a _ ea)
  exact cb gB I.kIn ⟨o,h1,h2.1⟩ e (λz=>nomatch z) h
 |@ins a C dx fs ea cl ha hn htk hm =>
  cases (show u=Value.ref a from rx)
  obtain⟨mA,O,_⟩:=ali I.hok ea;obtain⟨od,J,_⟩:=O.look;exact cb (PySem.W.kitx_own (cl.get _) cl.hd ha hn htk hm) I.kIn J e (λz=>nomatch z) h
end
structure Room (k:Nat) (A:Around):Prop where
 hd:A.handled=none
 dp:A.depth+3*k+5<recursionLimit
 un:A.units+16*k+200<cLine
 gd:A.guards=some []
theorem Room.mono(r:Room k A)(h:j<=k):Room j A:=⟨r.hd,by have:=r.dp;omega,by have:=r.un;omega,r.gd⟩
theorem Room.deeper(r:Room (k+1) A)(env:Env):Room k (A.deeper env) :=
 ⟨r.hd,by have:=r.dp;show A.depth+1+3*k+5<_;omega,by have:=r.un;show A.units+3+16*k+200<_;omega,r.gd⟩
theorem Room.depth(r:Room k A):A.depth<recursionLimit:=by have:=r.dp;omega
theorem Room.units(r:Room k A):A.units+64<cLine:=by have:=r.un;omega
def ay5:TA:=λ_ H Q=>Q [] H
def aw5(ta:TE)(tr:TA):TA:=λσ H Q=>ta σ H λx H1=>tr σ H1 λxs H2=>Q (x::xs) H2
section
variable{X:Cx}{e:Expr}{es:List Expr}{te:TE}{t:TA}{pos:Pos}
theorem a4k:PA X [] ay5:=λ_ _ _ _ H Q I h=>Calls.spliced_nil ⟨[],H,I,.nil,h⟩
theorem a06(ha:PE X e te)(hr:PA X es t)(hs:starEach (e::es) X.env=(false,eval e X.env)::starEach es X.env:=by rfl):PA X (e::es) (aw5 te t):=by
 intro pos aA s σ H Q I h
 rw[hs];show wpAny _ _ (spliced ((false,eval e X.env)::backTo pos (starEach es X.env))) _ _ s;refine Calls.spliced_cons (thn (ha aA s σ H _ I h) λu s1 ⟨x,H1,I1,r1,q1⟩=>?_);exact thn (hr pos aA s1 σ H1 _ I1 q1) λus s2 ⟨xs,H2,I2,r2,q2⟩=>⟨x::xs,H2,I2,.cons r1 r2,q2⟩
def azc(t:TA):TE:=λσ H Q=>t σ H λxs H1=>xs.length<=sizeLine/\∀p,H1 p=none->Q (.ref p) (upd H1 p (.tup xs))
def azd(t:TA):TE:=λσ H Q=>t σ H λxs H1=>xs.length<=sizeLine/\∀p,H1 p=none->Q (.ref p) (upd H1 p (.lst xs))
theorem aq0{x1}(h:PA X es t):PE X (.Tuple es x1 pos) (azc t):=by
 intro aA s σ H Q I hq
 refine wpAny_Tuple_spliced (thn (h pos aA s σ H _ I hq) λus s1 ⟨xs,H1,I1,r,z,q⟩=>⟨by rw[<-r.length];exact z,?_⟩)
 have hf:H1 s1.heap.objs.size=none:=I1.hok.fresh (ah _);refine⟨.ref s1.heap.objs.size,upd H1 s1.heap.objs.size (.tup xs),I1.laid (t':=s1.toks) (λb u e=>af _ e) (ah _) ?_,rfl,q _ hf⟩;exact⟨z,us,r,⟨_,aT _ rfl,⟨rfl,rfl⟩,_,rfl⟩⟩
theorem aq1(h:PA X es t):PE X (.List es pos) (azd t):=by
 intro aA s σ H Q I hq
 refine wpAny_List_spliced (thn (h pos aA s σ H _ I hq) λus s1 ⟨xs,H1,I1,r,z,q⟩=>⟨by rw[<-r.length];exact z,?_⟩)
 have hf:H1 s1.heap.objs.size=none:=I1.hok.fresh (ah _);refine⟨.ref s1.heap.objs.size,upd H1 s1.heap.objs.size (.lst xs),I1.laid (t':=s1.toks) (λb u e=>af _ e) (ah _) ?_,rfl,q _ hf⟩;exact⟨z,us,0,r,aT _ rfl⟩
end
abbrev Sp:=List V->Hp->VK->XK->Prop
abbrev CXT:=List Env->Hp->Shared->XK->Value->Shared->Prop
structure Env0 (P:Program) (w:World) (K:Fg) (mg:Str->Option Value) (base:Heap) (A:Around) (outer:List Env) (s:Shared) (H:Hp):Prop where
 frames:A.frames=some outer
 mod:Mod K mg base
 bs:∀b o,base.get? b=some o->s.heap.get? b=some o/\H b=none
 bsz:base.objs.size<=s.heap.objs.size
 funs:s.heap.FunFrames base outer
 frf:∀b∈frs outer,H b=none
 hok:HOk P w H s.heap
 bare:AllBare s.gens
def CE(outer:List Env)(P:Program)(w:World)(H:Hp)(s:Shared)(Q:VK)(u:Value)(s':Shared):Prop :=
 ∃v H',s'.os=s.os/\AllBare s'.gens/\Un (frs outer) [] H H' s.heap s'.heap/\HOk P w H' s'.heap/\RelV v u/\Q v H'
def CR(CX:CXT)(outer:List Env)(P:Program)(w:World)(H:Hp)(s:Shared)(Q:VK)(E:XK)(r:Result)(s':Shared):Prop :=
 match r with
 |.ok (.ret u)=>CE outer P w H s Q u s'
 |.ok _=>False
 |.error e=>CX outer H s E e s'
structure FnOk (P:Program) (w:World) (K:Fg) (mg:Str->Option Value) (base:Heap) (CX:CXT) (k:Nat) (f:Addr) (fd:FuncData) (ps:List Str) (sp:Sp):Prop where
 len:∀vs H Q E,sp vs H Q E->vs.length=ps.length
 run:∀(A:Around) (outer:List Env) (s:Shared) (H:Hp) (args:Args) (us:List Value) (vs:List V) (Q:VK) (E:XK),Room k A->Env0 P w K mg base A outer s H->BindsTo s fd args (ps.zip us)->Vals vs us->sp vs H Q E->
  codeAny (model P w) A (.call (.ref f) args) (CR CX outer P w H s Q E) s
theorem FnOk.imp{P:Program}{w:World}{K:Fg}{mg:Str->Option Value}{base:Heap}{CX:CXT}{k:Nat}{f:Addr}{fd:FuncData}{ps:List Str}{sp sp':Sp}(F:FnOk P w K mg base CX k f fd ps sp)
  (h:∀vs H Q E,sp' vs H Q E->sp vs H Q E):FnOk P w K mg base CX k f fd ps sp' :=
 ⟨λvs H Q E q=>F.len vs H Q E (h _ _ _ _ q),λA outer s H args us vs Q E hr he hb hv hs=>F.run A outer s H args us vs Q E hr he hb hv (h _ _ _ _ hs)⟩
section
variable{X:Cx}{aA:List (Addr×Obj)}{σ:St}{H:Hp}{s s':Shared}
theorem Inv.env0(I:Inv X aA σ H s):Env0 X.prog X.w X.K X.mg X.base X.A X.stack s H :=
 ⟨I.ok.frames,I.ok.mod,I.bs,c9 I.ok.bsz I.sz,I.stack,I.stkFree,I.hok,I.bare⟩
theorem Inv.after(I:Inv X aA σ H s)(h:CE X.stack X.prog X.w H s Q u s'):EP X aA σ Q u s':=by
 obtain⟨v,H',os,bare,un,hok,r,q⟩:=h;obtain⟨hh,g,d,t,os'⟩:=s';obtain rfl:os'=s.os:=os;exact⟨v,H',I.call (h':=hh) (g':=g) (d':=d) (t':=t) (ch:=[]) un hok bare (λb z=>absurd z (by simp)),r,q⟩
end
def aq2(sp:Sp)(dvs:List V)(E:XK)(t:TA):TE:=λσ H Q=>t σ H λvs H1=>sp (vs++dvs) H1 Q E
def Binds(K:Fg)(fd:FuncData)(ps:List Str)(ds:List Value):Prop :=
 ∀(s:Shared) (us:List Value),K.In s.heap->(us++ds).length=ps.length->BindsTo s fd ⟨us,[]⟩ (ps.zip (us++ds))
theorem Binds.all{K:Fg}{fd:FuncData}{ps:List Str}(h:∀us:List Value,us.length=ps.length->bindArgs fd ⟨us,[]⟩=pure (ps.zip us)):Binds K fd ps []:=λs us _ hl=>by
 rw[cc]at hl ⊢;exact .of_eq (h us hl)
def a9d(CX:CXT)(X:Cx)(E:XK):Prop:=∀(aA:List (Addr×Obj)) (σ:St) (H:Hp) (s:Shared) (e:Value) (s':Shared),Inv X aA σ H s->CX X.stack H s E e s'->X.xe e s'
section
variable{X:Cx}{CX:CXT}{k:Nat}{f C:Addr}{fd:FuncData}{ps:List Str}{sp:Sp}{dvs:List V}{ds:List Value}{E:XK}{x m:Str}{p pos apos:Pos}{e o:Expr}{es:List Expr}{ta:TE}{t:TA}
theorem ajj(F:FnOk X.prog X.w X.K X.mg X.base CX k f fd ps sp)(hr:Room k X.A)(hb:Binds X.K fd ps ds)(hd:Vals dvs ds)(hx:a9d CX X E)
  (I:Inv X aA σ H s) (r:Vals vs us) (h:sp (vs++dvs) H Q E):wpAny (model X.prog X.w) X.A (call (.ref f) us) (EP X aA σ Q) X.xe s:=by
 have r2:Vals (vs++dvs) (us++ds):=r.append hd;have hl:(us++ds).length=ps.length:=by rw[<-r2.length];exact F.len _ _ _ _ h
 refine wpAny_call (codeAny_mono (F.run X.A X.stack s H ⟨us,[]⟩ (us++ds) (vs++dvs) Q E hr I.env0 (hb s us I.kIn hl) r2 h) λr s' hq=>?_)
 cases r with
 |error e=>exact hx aA σ H s e s' I hq
 |ok fl =>
  cases fl with
  |ret u=>exact I.after hq
  |next=>exact False.elim hq
  |brk=>exact False.elim hq
  |cont=>exact False.elim hq
theorem alj(F:FnOk X.prog X.w X.K X.mg X.base CX k f fd ps sp)(hr:Room k X.A)(hg:Gl X x)(hm:X.mg x=some (.ref f))(hk:PySem.W.keepIn X.K (.ref f)=true)(hb:Binds X.K fd ps ds)(hd:Vals dvs ds)(hx:a9d CX X E)
  (ha:PA X (e::es) t) (hdb:(x == ("__debug__" : Str))=false:=by decide) (he:starEach (e::es) X.env=(false,eval e X.env)::starEach es X.env:=by rfl) (hpl:(backTo pos (starEach es X.env)).any (·.1)=false:=by rfl) :
  PE X (.Call (.Name x p) (e::es) [] pos) (aq2 sp dvs E t):=by
 intro aA s σ H Q I h
 refine cI (a8b I hg hm ?_ hdb);refine PySem.W.callWith_K (h₀:=X.base) I.ok.mod.kin hk (thn (ha pos aA s σ H _ I h) λus s1 ⟨vs,H1,I1,r,q⟩=>⟨I1.kIn,?_⟩) he hpl;exact ajj F hr hb hd hx I1 r q
theorem agt(F:FnOk X.prog X.w X.K X.mg X.base CX k f fd ps sp)(hr:Room k X.A)(hg:Gl X x)(hm:X.mg x=some (.ref f))(hk:PySem.W.keepIn X.K (.ref f)=true)(hb:Binds X.K fd ps ds)(hd:Vals dvs ds)(hx:a9d CX X E)
  (hdb:(x == ("__debug__" : Str))=false:=by decide):PE X (.Call (.Name x p) [] [] pos) (aq2 sp dvs E ay5):=by
 intro aA s σ H Q I h
 refine cI (a8b I hg hm ?_ hdb);exact PySem.W.callWith_K0 I.kIn hk (ajj (us:=[]) F hr hb hd hx I .nil h)
end
structure FnScope (N P:List Str) (sc:Scope):Prop where
 kind:sc.kind=.function
 co:sc.isCoroutine=false
 gen:sc.isGenerator=false
 nd:N.Nodup
 pre:N.take P.length=P
 par:∀x∈P,sc.names.lookup x=some .local\/sc.names.lookup x=some .cell
 nofree:∀y∈sc.names,y.2≠.free
theorem a6u{kindOf:Str->Option NameKind}{x:Str}:∀{binds:List (Str×Value)} {m:Str->Option Value},(∀v,(x,v)∉binds)->bindL kindOf binds m x=m x
 |[],_,_=>rfl
 |(n,v)::r,m,h=>by
  unfold bindL;rw[a6u λw hw=>h w (ai _ hw)]
  split
  ·have:x≠n:=by rintro rfl;exact h v aP
   simp[this]
  ·rfl
theorem a6v{kindOf:Str->Option NameKind}{x:Str}:∀{binds:List (Str×Value)} {m:Str->Option Value},(∀v,(x,v)∉binds)->bindC kindOf binds m x=m x
 |[],_,_=>rfl
 |(n,v)::r,m,h=>by
  unfold bindC;rw[a6v λw hw=>h w (ai _ hw)]
  split
  ·rfl
  ·have:x≠n:=by rintro rfl;exact h v aP
   simp[this]
theorem a6w{kindOf:Str->Option NameKind}{x:Str}{v:Value}:∀{P:List Str} {vs:List Value} {i:Nat} {m:Str->Option Value},P.Nodup->P[i]? = some x->vs[i]? = some v->kindOf x=some .local->
  bindL kindOf (P.zip vs) m x=some v
 |[],_,_,_,_,h,_,_=>by simp at h
 |_::_,[],_,_,_,_,h,_=>by simp at h
 |p::P,w::vs,0,m,nd,h1,h2,hk=>by
  simp at h1 h2;subst h1;subst h2
  show bindL kindOf ((p,w)::P.zip vs) m p=_;unfold bindL;rw[a6u λv hv=>(bX.mp nd).1 (eF hv).1,aQ hk];simp
 |p::P,w::vs,i+1,m,nd,h1,h2,hk=>by
  show bindL kindOf ((p,w)::P.zip vs) m x=_;unfold bindL;exact a6w (i:=i) (bX.mp nd).2 (by simpa using h1) (by simpa using h2) hk
theorem a6x{kindOf:Str->Option NameKind}{x:Str}{v:Value}:∀{P:List Str} {vs:List Value} {i:Nat} {m:Str->Option Value},P.Nodup->P[i]? = some x->vs[i]? = some v->kindOf x≠some .local->
  bindC kindOf (P.zip vs) m x=some v
 |[],_,_,_,_,h,_,_=>by simp at h
 |_::_,[],_,_,_,_,h,_=>by simp at h
 |p::P,w::vs,0,m,nd,h1,h2,hk=>by
  simp at h1 h2;subst h1;subst h2
  show bindC kindOf ((p,w)::P.zip vs) m p=_;unfold bindC;rw[a6v λv hv=>(bX.mp nd).1 (eF hv).1,bg hk];simp
 |p::P,w::vs,i+1,m,nd,h1,h2,hk=>by
  show bindC kindOf ((p,w)::P.zip vs) m x=_;unfold bindC;exact a6x (i:=i) (bX.mp nd).2 (by simpa using h1) (by simpa using h2) hk
def start(N:List Str)(vs:List V):St:=vs.map some++List.replicate (N.length-vs.length) none
def ag8(CX:CXT)(P:Program)(w:World)(K:Fg)(mg:Str->Option Value)(base:Heap)(N:List Str)(qual:Str)(aB:Scope)(f:Addr)(cd:Value)(A:Around)(outer:List Env)(s:Shared)(H:Hp)(E:XK):Cx where
 prog:=P
 w:=w
 K:=K
 mg:=mg
 base:=base
 A:=A.deeper (envOfC qual aB s.heap.objs.size f cd)
 N:=N
 s₀:=s
 H₀:=H
 env:=envOfC qual aB s.heap.objs.size f cd
 outer:=outer
 stack:=envOfC qual aB s.heap.objs.size f cd::outer
 ex:=[]
 calm:=true
 fn:=λ_=>true
 pn:=[]
 xe:=λe s'=>wpAny (model P w) (A.deeper (envOfC qual aB s.heap.objs.size f cd)) (leaving (envOfC qual aB s.heap.objs.size f cd) e) (λ_ s''=>CX outer H s E e s'') (λe' s''=>CX outer H s E e' s'') s'
theorem a9e{sc:Scope}(h:sc.names.lookup x=some .cell):∃c,(cellsFrom n sc.names []).lookup x=some c:=by
 have q:=PySem.W.cellsFrom_some sc.names n [] (.inl h);exact gC.mp q
theorem aci{CX:CXT}{P:Program}{w:World}{K:Fg}{mg:Str->Option Value}{base:Heap}{N ps:List Str}{qual:Str}{aB:Scope}{f:Addr}{cd:Value}{A:Around}{outer:List Env}{s s1:Shared}{H:Hp}{E:XK}{us:List Value}{vs:List V}
  (S:FnScope N ps aB) (hd:A.handled=none) (e0:Env0 P w K mg base A outer s H) (hl:vs.length=ps.length) (r:Vals vs us)
  (x:InCallC s s.heap.objs.size (bindL (envOfC qual aB s.heap.objs.size f cd).kindOf (ps.zip us) λ_=>none) (cellsFrom (s.heap.objs.size+1) aB.names []) (bindC (envOfC qual aB s.heap.objs.size f cd).kindOf (ps.zip us) λ_=>none) s1) :
  Inv (ag8 CX P w K mg base N qual aB f cd A outer s H E) [] (start N vs) H s1:=by
 have hpl:ps.length<=N.length:=by have:=aZ List.length S.pre;rw[cU]at this;omega
 obtain⟨h1,tk,rfl,hk⟩:=x.done;have noA:∀b:Addr,b∉(ag8 CX P w K mg base N qual aB f cd A outer s H E).ex:=λb z=>absurd (show b∈([]:List Addr) from z) (by simp)
 refine⟨⟨e0.mod,S.kind,rfl,rfl,ah _,λy z c h1 h2=>?_,λy hy=>?_,λy c _ h=>?_,λ_=>hd,Around.frames_deeper e0.frames,.inr ⟨rfl,rfl⟩,λb z=>absurd z (noA b),e0.bs,e0.bsz,λb _ _=>noA b,λb z=>absurd z (noA b),e0.funs,e0.frf⟩,
  rfl,e0.bare,Un.kept hk,⟨_,x.toInCall.ns,λi y v h1 h2 h3=>?_⟩,λy c h=>⟨_,x.cell y c h⟩,e0.hok.fresh (ah _),λy c h=>?_,λp hp=>absurd (show p∈([]:List (Addr×Obj)) from hp) (by simp),e0.hok.kept hk,?_⟩
 ·exact name_of_addr x.apart (cf h1) (cf h2)
 ·have hy:aB.names.lookup y=some .cell\/aB.names.lookup y=some .free:=hy
  rcases hy with hy|hy
  ·exact a9e hy
  ·exact absurd rfl (S.nofree _ (cf hy))
 ·exact eY (x.above y c (cf h))
 ·have hi:i<vs.length:=by
   unfold start at h2
   by_cases hi:i<vs.length
   ·exact hi
   ·rw[aw (by simpa using hi)]at h2
    rw[dO]at h2
    split at h2<;>cases h2
  have ha:vs[i]? = some v:=by
   unfold start at h2;rw[ax (by simpa using hi),ar]at h2
   cases e:vs[i]? with
   |none=>rw[e]at h2;cases h2
   |some a=>rw[e]at h2;cases h2;rfl
  obtain⟨u,hu,rv⟩:=r.get ha;have hp:ps[i]? = some y:=by
   rw[<-S.pre,List.getElem?_take_of_lt (by omega)];exact h1
  have ndP:ps.Nodup:=by rw[<-S.pre];exact S.nd.sublist (List.take_sublist _ _)
  refine⟨u,rv,?_⟩
  rcases S.par y (aN hp) with k|k
  ·exact .inl ⟨k,a6w ndP hp hu k⟩
  ·obtain⟨c,e⟩:=a9e (n:=s.heap.objs.size+1) k;refine .inr ⟨.inl k,c,e,?_⟩;have q:=x.cell y c e;rw[a6x ndP hp hu (by show aB.names.lookup y≠_;rw[k];decide)]at q
   exact q
 ·exact e0.hok.fresh (eY (x.above y c (cf h)))
 ·unfold start;show _=N.length;rw[ag,a9,dU];omega
theorem aw6{CX:CXT}{P:Program}{w:World}{K:Fg}{mg:Str->Option Value}{base:Heap}{k:Nat}{f:Addr}{name qual:Str}{params:Arguments}{body:List Stmt}{aB:Scope}{dV kV doc pm cdv ct oc:Value}{an od:Option Addr}
  {osl:Array (Option Value)} {N ps:List Str} {sp:Sp} (lk:K.lookup f=some ⟨oc,od,.func (PySem.W.fnOf name qual params body aB dV kV doc pm an cdv ct),osl⟩) (hcd:PySem.W.codeIn K cdv qual=true) (S:FnScope N ps aB)
  (len:∀vs H Q E,sp vs H Q E->vs.length=ps.length)
  (hbody:∀(A:Around) (outer:List Env) (s:Shared) (H:Hp) (vs:List V) (Q:VK) (E:XK),Room k (A.deeper (envOfC qual aB s.heap.objs.size f cdv))->sp vs H Q E->
   ∃t,PSs (ag8 CX P w K mg base N qual aB f cdv A outer s H E) body t/\t {nx:=λ_ H'=>Q .non H',rt:=Q} (start N vs) H) :
  FnOk P w K mg base CX (k+1) f (PySem.W.fnOf name qual params body aB dV kV doc pm an cdv ct) ps sp:=by
 refine⟨len,λA outer s H args us vs Q E hr e0 hb r hsp=>?_⟩;have hl:=len _ _ _ _ hsp;have KX:K.In s.heap:=e0.mod.kin.keeps λb o e=>(e0.bs b o e).1;have lim:s.heap.NoLimit:=e0.mod.nolimit.keeps λb o e=>(e0.bs b o e).1;have hkind:∀y∈ps.zip us,aB.names.lookup y.1=some .local\/(aB.names.lookup y.1=some .cell/\((cellsFrom (s.heap.objs.size+1) aB.names []).lookup y.1).isSome=true):=λ⟨n,v⟩ hy=>by
  rcases S.par n (eF hy).1 with q|q
  ·exact .inl q
  ·exact .inr ⟨q,PySem.W.cellsFrom_some _ _ _ (.inl q)⟩
 refine codeAny_call_function hr.depth (KX _ _ lk) rfl S.co S.gen rfl (PySem.W.codeRec_of KX hcd) (hb _ _ _ _ ?_);refine wpAny_newFunctionEnv_cells S.kind hkind λenv he s1 x=>?_;subst he;refine⟨lim.keeps x.toInCall.keep,codeAny_func ?_⟩;obtain⟨t,ht,hq⟩:=hbody A outer s H vs Q E (hr.deeper _) hsp;have I:Inv (ag8 CX P w K mg base N qual aB f cdv A outer s H E) [] (start N vs) H s1:=aci S hr.hd e0 hl r x;refine cT (ht [] s1 (start N vs) H _ I hq) (λfl s' hs=>?_) λe s' hs=>hs;have fin:∀{σ':St} {H':Hp} {v:V} {u:Value},Inv (ag8 CX P w K mg base N qual aB f cdv A outer s H E) [] σ' H' s'->RelV v u->Q v H'->CE outer P w H s Q u s' :=
  λ{σ' H' v u} J rv q=>⟨v,H',J.os,J.bare,J.base,J.hok,rv,q⟩
 cases fl with
 |ret u =>
  obtain⟨v,σ',H',J,rv,q⟩:=hs;exact fin J rv q
 |next =>
  obtain⟨σ',H',J,q⟩:=hs;exact fin (v:=V.non) (u:=Value.none) J rfl q
 |brk =>
  obtain⟨_,_,_,q⟩:=hs;exact False.elim q
 |cont =>
  obtain⟨_,_,_,q⟩:=hs;exact False.elim q
section
variable{X:Cx}{x:Str}{p pos:Pos}{e:Expr}{es:List Expr}{t:TA}{id T:String}{r:List V->Hp->VK->Prop}
def tCB(r:List V->Hp->VK->Prop)(t:TA):TE:=λσ H Q=>t σ H λvs H1=>r vs H1 Q
theorem agu(hc:CallR X (.builtin id) r)(hg:Gl X x)(hm:X.mg x=none)(hv:bootBuiltins x=some (.builtin id))(ha:PA X (e::es) t)(hn:x ≠ "__name__":=by decide)(hdb:(x == ("__debug__" : Str))=false:=by decide)
  (he:starEach (e::es) X.env=(false,eval e X.env)::starEach es X.env:=by rfl) (hpl:(backTo pos (starEach es X.env)).any (·.1)=false:=by rfl):PE X (.Call (.Name x p) (e::es) [] pos) (tCB r t):=by
 intro aA s σ H Q I h
 refine cI (a05 I hg hm hv ?_ hn hdb);exact PyProof.Rows.callWith_builtin1 (thn (ha pos aA s σ H _ I h) λus s1 ⟨vs,H1,I1,r1,q1⟩=>hc aA s1 σ H1 vs us Q I1 r1 q1) he hpl
theorem a3a(hc:CallR X (.type T) r)(hg:Gl X x)(hm:X.mg x=none)(hv:bootBuiltins x=some (.type T))(ha:PA X (e::es) t)(hn:x ≠ "__name__":=by decide)(hdb:(x == ("__debug__" : Str))=false:=by decide)
  (he:starEach (e::es) X.env=(false,eval e X.env)::starEach es X.env:=by rfl) (hpl:(backTo pos (starEach es X.env)).any (·.1)=false:=by rfl):PE X (.Call (.Name x p) (e::es) [] pos) (tCB r t):=by
 intro aA s σ H Q I h
 refine cI (a05 I hg hm hv ?_ hn hdb);exact bG (thn (ha pos aA s σ H _ I h) λus s1 ⟨vs,H1,I1,r1,q1⟩=>hc aA s1 σ H1 vs us Q I1 r1 q1) he hpl
end
end L2
namespace HT
open PyProof.Rows
section
variable{prog:Program}{w:World}{A:Around}{E:Value->Shared->Prop}{s:Shared}
theorem alk{vs ws:List Value}(ht:IsTup s.heap t vs.toArray)(hb:IsTup s.heap b ws.toArray)(hv:vs≠[])
  (h1:ws=[]->Q (.ref t) s) (h2:ws≠[]->Q (.ref s.heap.objs.size) {s with heap:=s.heap.push {cls:=.type "tuple",data:=.seq (vs++ws).toArray} })
  (hsz:vs.length+ws.length<=sizeLine):wpAny (model prog w) A (binaryOp .Add (.ref t) (.ref b)) Q E s:=by
 obtain⟨⟨cls,dd,data,sl⟩,ho,hc,n,hd⟩:=id ht;obtain⟨⟨cls2,dd2,data2,sl2⟩,ho2,hc2,n2,hd2⟩:=id hb;simp only at hc hd hc2 hd2;subst hc hd hc2 hd2;have e:vs.toArray++ws.toArray=(vs++ws).toArray:=by simp
 by_cases hw:ws=[]
 ·exact concat_meets ⟨_,ho,rfl⟩ ⟨_,ho2,rfl⟩ gN seq_tuple_add PySem.F.slot_tuple_add gK (gD _ _)
   (tuple_addW1 t b vs.toArray ws.toArray n n2 dd dd2 sl sl2 (by simpa using hv) (by simp[hw])) ⟨ho,ho2,h1 hw⟩
 ·refine concat_meets ⟨_,ho,rfl⟩ ⟨_,ho2,rfl⟩ gN seq_tuple_add PySem.F.slot_tuple_add gK (gD _ _)
   (tuple_addW2 t b vs.toArray ws.toArray n n2 dd dd2 sl sl2 (by simpa using hv) (by simpa using hw) (by rw[aJ,aJ];exact hsz)) ⟨ho,ho2,?_⟩
  rw[e];exact h2 hw
def sIx(n d:Nat):Option Int->Nat
 |none=>d
 |some v=>if v<0 then (v+(n:Int)).toNat else min v.toNat n
theorem a9f(n d:Nat):sIx n d none=d:=rfl
theorem acj(n d k:Nat):sIx n d (some (k:Int))=min k n:=by
 show(if (k:Int)<0 then ((k:Int)+(n:Int)).toNat else min (k:Int).toNat n)=min k n
 rw[bg (by omega),cP]
theorem ack(n d:Nat)(hd:d<=n)(o:Option Int):sIx n d o<=n:=by
 cases o with
 |none=>exact hd
 |some v =>
  show(if v<0 then (v+(n:Int)).toNat else min v.toNat n)<=n
  by_cases hv:v<0
  ·rw[aQ hv];omega
  ·rw[bg hv];exact Nat.min_le_right _ _
theorem acl(v:Int)(n d:Nat):(if v<0 then max (v+(n:Int)) 0 else min v (n:Int))=((sIx n d (some v):Nat):Int):=by
 show(if v<0 then max (v+(n:Int)) 0 else min v (n:Int))=(((if v<0 then (v+(n:Int)).toNat else min v.toNat n):Nat):Int)
 by_cases hv:v<0
 ·simp only[aQ hv];omega
 ·simp only[bg hv];omega
theorem aas(lo hi:Option Int)(n:Nat):Builtin.Slice.sliceAdjust lo hi 1 (n:Int)=(((sIx n 0 lo:Nat):Int),((sIx n n hi:Nat):Int)):=by
 have h1:¬ ((1:Int)<0):=by omega
 unfold Builtin.Slice.sliceAdjust;simp only[h1,cM];refine hW ?_ ?_
 ·cases lo with
  |none=>rfl
  |some v=>exact acl v n 0
 ·cases hi with
  |none=>rfl
  |some v=>exact acl v n n
theorem aat(i j:Nat):Builtin.Slice.slicePlaces (i:Int) (j:Int) 1=j-i:=by
 unfold Builtin.Slice.slicePlaces;have h1:(1:Int) > 0:=by omega
 simp only[h1,cQ,Int.ediv_one]
 split<;>omega
theorem a4l(p:IsPart v o)(h:Q o s):wpAny (model prog w) A (Builtin.Slice.slicePartIndex v) Q E s:=by
 cases p with
 |none=>exact slicePart_none h
 |int i t=>exact slicePart_int h
theorem a00{sl:Addr}{vl vu:Value}{lo hi:Option Int}{n:Nat}{Q:Int×Int×Nat->Shared->Prop}(hs:s.heap.IsSliceOf sl vl vu .none)(pl:IsPart vl lo)(pu:IsPart vu hi)
  (h:Q (((sIx n 0 lo:Nat):Int),1,sIx n n hi-sIx n 0 lo) s):wpAny (model prog w) A (Builtin.Slice.sliceApplied (.ref sl) (pure (n:Int))) Q E s:=by
 obtain⟨os,hos,hcs,hds⟩:=id hs;unfold Builtin.Slice.sliceApplied Builtin.Slice.sliceFields;refine a8 (a8 (cE hos hds (x:=vl) rfl (a8 (cE hos hds (x:=vu) rfl (a8 (cE hos hds (x:=.none) rfl (av ?_)))))));refine a8 (slicePart_none ?_);show wpAny _ _ (if ((1:Int) == 0)=true then _ else _) _ _ s
 rw[bg (by decide)]
 refine a8 (a4l pl (a8 (a4l pu (a8 (av ?_)))));show wpAny _ _ (match Builtin.Slice.sliceAdjust lo hi 1 (n:Int) with|(lo,hi)=>pure (lo,(1:Int),Builtin.Slice.slicePlaces lo hi 1)) _ _ s
 rw[aas lo hi n];show wpAny _ _ (pure (((sIx n 0 lo:Nat):Int),(1:Int),Builtin.Slice.slicePlaces ((sIx n 0 lo:Nat):Int) ((sIx n n hi:Nat):Int) 1)) _ _ s;rw[aat];exact av h
theorem agv(xs:Array Value)(i k:Nat):((List.range k).filterMap λ(m:Nat)=>xs[((i:Int)+(m:Int)*1).toNat]?).toArray=((xs.toList.drop i).take k).toArray:=by
 have e:(λ(m:Nat)=>xs[((i:Int)+(m:Int)*1).toNat]?)=λm=>xs[i+m]?:=by
  funext m
  have:((i:Int)+(m:Int)*1).toNat=i+m:=by omega
  rw[this]
 rw[e];have:=pick_run xs i k;rw[List.filterMap_map]at this;have e2:((λx=>xs[x]?) ∘ λx=>i+x)=λm=>xs[i+m]?:=rfl;rw[e2]at this;rw[this]
theorem a1z{t sl:Addr}{aC:Array Value}{vl vu:Value}{lo hi:Option Int}{Q:Value->Shared->Prop}(ht:IsTup s.heap t aC)(hs:s.heap.IsSliceOf sl vl vu .none)(pl:IsPart vl lo)(pu:IsPart vu hi)
  (hw:¬ (sIx aC.size 0 lo=0/\sIx aC.size aC.size hi=aC.size))
  (h:Q (.ref s.heap.objs.size) {s with heap:=s.heap.push {cls:=.type "tuple",data:=.seq ((aC.toList.drop (sIx aC.size 0 lo)).take (sIx aC.size aC.size hi-sIx aC.size 0 lo)).toArray} })
  (hsz:aC.size<=sizeLine):wpAny (model prog w) A (getItem (.ref t) (.ref sl)) Q E s:=by
 have htake:sizeOk (.seq ((aC.toList.drop (sIx aC.size 0 lo)).take (sIx aC.size aC.size hi-sIx aC.size 0 lo)).toArray):=by
  show((aC.toList.drop (sIx aC.size 0 lo)).take (sIx aC.size aC.size hi-sIx aC.size 0 lo)).toArray.size<=sizeLine;rw[aJ,cU,eA,cO];omega
 have hj:sIx aC.size aC.size hi<=aC.size:=ack _ _ (ah _) hi;obtain⟨os,hos,hcs,hds⟩:=id hs;have hTs:s.TypeIs (.ref sl) "slice":=⟨os,hos,hcs⟩;unfold getItem
 try with_reducible refine cH ?_
 first|refine a8 (av ?_)|skip
 refine a8 (wpAny_sequenceKey ht.typeIs (by decide) ?_)
 refine a8 (cY (name:=Str.ofString "__getitem__") ht.typeIs bR
  (cV bR ht.typeIs entry_tuple_getitem ?_ (args_tuple_getitem _ _)))
 show wpAny _ _ (Builtin.Tuple.tupleItemsOf (.ref t)>>=_) _ _ s;refine a8 (tupleItemsOf_ ht ?_);refine a8 (fT hTs ?_);rw[aQ (by decide)]
 refine a8 (a00 hs pl pu ?_);have hno:¬ ((((sIx aC.size 0 lo:Nat):Int) == 0 && (1:Int) == 1 && (sIx aC.size aC.size hi-sIx aC.size 0 lo) == aC.size)=true):=by
  intro q
  rw[cv,cv]at q;have q1:((sIx aC.size 0 lo:Nat):Int)=0:=eq_of_beq q.1.1;have q2:sIx aC.size aC.size hi-sIx aC.size 0 lo=aC.size:=eq_of_beq q.2;exact hw ⟨by omega,by omega⟩
 show wpAny _ _ (if (((sIx aC.size 0 lo:Nat):Int) == 0 && (1:Int) == 1 && (sIx aC.size aC.size hi-sIx aC.size 0 lo) == aC.size)=true then _ else _) _ _ s
 rw[bg hno,agv]
 first
  |exact a8 (m:=Builtin.Tuple.tupleExact _) (cZ (av ⟨_,rfl,av h⟩) htake)
  |exact a8 (m:=Builtin.Tuple.tupleExact _) (cZ (a8 (av (av ⟨_,rfl,av h⟩))) htake)
  |exact a8 (a8 (m:=Builtin.Tuple.tupleExact _) (cZ (av (av ⟨_,rfl,av h⟩)) htake))
  |exact a8 (a8 (m:=Builtin.Tuple.tupleExact _) (cZ (av ⟨_,rfl,av h⟩) htake))
end
end HT
namespace L2
open PyProof.Rows
abbrev TO:=St->Hp->(Option Int->Hp->Prop)->Prop
def PO(X:Cx)(e:Option Expr)(t:TO):Prop :=
 ∀(aA:List (Addr×Obj)) (s:Shared) (σ:St) (H:Hp) (Q:Option Int->Hp->Prop),Inv X aA σ H s->t σ H Q->
  wpAny (model X.prog X.w) X.A (evalPart e X.env) (λu s'=>∃o H',Inv X aA σ H' s'/\IsPart u o/\Q o H') X.xe s
def alm:TO:=λ_ H Q=>Q none H
def aw7(t:TE):TO:=λσ H Q=>t σ H λx H1=>∃i,x=.int i/\Q (some i) H1
theorem intsAre_of{ns:List Int}:∀{us:List Value},Vals (ns.map V.int) us->IntsAre us ns:=by
 induction ns with
 |nil=>intro us r;rw[bO]at r;cases r;exact .nil
 |cons n ns ih =>
  intro us r
  rw[aK]at r
  cases r with
  |cons r1 r2 =>
   obtain⟨t,e⟩:=r1;subst e;exact .cons n t (ih r2)
section
variable{X:Cx}{e:Expr}{te:TE}{lo hi:Option Expr}{tl th:TO}{pos p2:Pos}
theorem aln:PO X none alm:=by
 intro aA s σ H Q I h
 rw[evalPart_none];exact av ⟨none,H,I,.none,h⟩
theorem alo(h:PE X e te):PO X (some e) (aw7 te):=by
 intro aA s σ H Q I hw
 rw[evalPart_some];refine thn (h aA s σ H _ I hw) ?_
 rintro u s1 ⟨x,H1,I1,r1,q1⟩
 obtain⟨i,rfl,q⟩:=q1;obtain⟨t,rfl⟩:=r1;exact⟨some i,H1,I1,.int i t,q⟩
def SlR(X:Cx)(r:V->Option Int->Option Int->Hp->VK->Prop):Prop :=
 ∀(aA:List (Addr×Obj)) (s:Shared) (σ:St) (H:Hp) (x:V) (v vl vu:Value) (lo hi:Option Int) (sl:Addr) (Q:VK),Inv X aA σ H s->RelV x v->s.heap.IsSliceOf sl vl vu .none->IsPart vl lo->IsPart vu hi->r x lo hi H Q->
  ∃T id,typeLookup (.type T) "__getitem__" = pure (some (.builtin id))/\s.TypeIs v T/\wpAny (model X.prog X.w) X.A (getItem v (.ref sl)) (EP X aA σ Q) X.xe s
theorem SlR.or(h:SlR X r)(h':SlR X r'):SlR X (λx lo hi H Q=>r x lo hi H Q\/r' x lo hi H Q):=by
 intro aA s σ H x v vl vu lo hi sl Q I rx hs pl pu q
 rcases q with q|q
 ·exact h aA s σ H x v vl vu lo hi sl Q I rx hs pl pu q
 ·exact h' aA s σ H x v vl vu lo hi sl Q I rx hs pl pu q
def tSl(r:V->Option Int->Option Int->Hp->VK->Prop)(te:TE)(tl th:TO):TE:=λσ H Q=>te σ H λx H1=>tl σ H1 λl H2=>th σ H2 λu H3=>r x l u H3 Q
theorem agw(hr:SlR X r)(he:PE X e te)(hl:PO X lo tl)(hu:PO X hi th):PE X (.Subscript e (.Slice lo hi none p2) pos) (tSl r te tl th):=by
 intro aA s σ H Q I h
 refine Subscript_ (thn (he aA s σ H _ I h) λv s1 ⟨x,H1,I1,r1,q1⟩=>?_);refine wpAny_Slice (thn (hl aA s1 σ H1 _ I1 q1) λvl s2 ⟨l,H2,I2,pl,q2⟩=>thn (hu aA s2 σ H2 _ I2 q2) λvu s3 ⟨u,H3,I3,pu,q3⟩=>?_);rw[evalPart_none];refine av ?_;have I4:Inv X aA σ H3 {s3 with heap:=s3.heap.push {cls:=.type "slice",data:=.fields #[vl,vu,.none]} }:=I3.kept (t':=s3.toks) λb ob q=>af _ q
 obtain⟨T,id,hT,ht,hg⟩:=hr aA {s3 with heap:=s3.heap.push {cls:=.type "slice",data:=.fields #[vl,vu,.none]} } σ H3 x v vl vu l u s3.heap.objs.size Q I4 r1 (Heap.IsSliceOf.new ..) pl pu q3
 show wpAny (model X.prog X.w) X.A (subscriptTail e (.Slice lo hi none p2) v (.ref s3.heap.objs.size)) (EP X aA σ Q) X.xe {s3 with heap:=s3.heap.push {cls:=.type "slice",data:=.fields #[vl,vu,.none]} }
 exact tail_any (ops:=[.ref s3.heap.objs.size,v]) ht hT hg (by with_unfolding_all rfl)
def ajk(xs:List V)(lo hi:Option Int):List V:=(xs.drop (HT.sIx xs.length 0 lo)).take (HT.sIx xs.length xs.length hi-HT.sIx xs.length 0 lo)
theorem a3b(xs:List V)(lo hi:Option Int):(ajk xs lo hi).length<=xs.length:=by
 unfold ajk;rw[cU,eA];omega
def aw8(K:Fg):V->Option Int->Option Int->Hp->VK->Prop:=λx lo hi H Q=>∃a xs,x=.ref a/\SqT K H a xs /\
 ¬ (HT.sIx xs.length 0 lo=0/\HT.sIx xs.length xs.length hi=xs.length)/\∀p,H p=none->Q (.ref p) (upd H p (.tup (ajk xs lo hi)))
theorem aq3:SlR X (aw8 X.K):=by
 intro aA s σ H x v vl vu lo hi sl Q I rx hs pl pu h
 obtain⟨a,xs,rfl,hx,hw,q⟩:=h;cases rx
 obtain⟨its,r,ht,hz⟩:=I.tuple hx;have aH:its.toArray.size=xs.length:=by rw[aJ];exact r.length.symm
 refine⟨"tuple",_,bR.lookup,ht.typeIs,?_⟩;refine HT.a1z ht hs pl pu (by rw[aH];exact hw) ?_ (by rw[aH];exact hz)
 rw[aH];refine⟨.ref s.heap.objs.size,_,I.laid (t':=s.toks) (o:=.tup (ajk xs lo hi)) (λb ob q=>af _ q) (ah _) ?_,rfl,q _ (I.hok.fresh (ah _))⟩;exact⟨c9 (a3b xs lo hi) hz,_,(r.drop (HT.sIx xs.length 0 lo)).take (HT.sIx xs.length xs.length hi-HT.sIx xs.length 0 lo),TupD.new _ _⟩
def aq4(K:Fg):R2:=λx y H Q=>∃a b xs ys,x=.ref a/\y=.ref b/\SqT K H a xs/\SqT K H b ys/\xs≠[]/\xs.length+ys.length<=sizeLine /\
 (ys=[]->Q (.ref a) H)/\(ys≠[]->∀p,H p=none->Q (.ref p) (upd H p (.tup (xs++ys))))
theorem Vals.nil_iff(r:Vals xs us):us=[]↔xs=[]:=by
 cases r with
 |nil=>simp
 |cons _ _=>simp
theorem alp:OpR X (binaryOp .Add) (aq4 X.K):=by
 intro aA s σ H x y v u Q I rx ry h
 obtain⟨a,b,xs,ys,rfl,rfl,ha,hb,hx,hz,q1,q2⟩:=h;cases rx
 cases ry
 obtain⟨its,r1,p1,_⟩:=I.tuple ha;obtain⟨its2,r2,p2,_⟩:=I.tuple hb;refine HT.alk p1 p2 (λz=>hx (r1.nil_iff.mp z)) (λz=>⟨.ref a,H,I,rfl,q1 (r2.nil_iff.mp z)⟩) (λz=>?_) (by rw[<-r1.length,<-r2.length];exact hz)
 refine⟨.ref s.heap.objs.size,_,I.laid (t':=s.toks) (o:=.tup (xs++ys)) (λb ob q=>af _ q) (ah _) ?_,rfl,q2 (λw=>z (r2.nil_iff.mpr w)) _ (I.hok.fresh (ah _))⟩;exact⟨by rw[ag];exact hz,_,r1.append r2,TupD.new _ _⟩
end
def ixN(n:Nat)(i:Int):Option Nat:=if 0<=i then (if i<n then some i.toNat else none) else if -(n:Int)<=i then some (i+n).toNat else none
def atI{α:Type}(xs:List α)(i:Int):Option α:=(ixN xs.length i).bind λj=>xs[j]?
theorem a8e(h:ixN n i=some j):seqIndex? i n=some j/\j<n /\ -(n:Int)<=i/\i<n:=by
 unfold ixN at h
 by_cases h0:0<=i
 ·rw[aQ h0]at h
  by_cases h1:i<n
  ·rw[aQ h1]at h;have e:i.toNat=j:=bp h;exact⟨by rw[hR h0 h1,e],by omega,by omega,h1⟩
  ·rw[bg h1]at h;cases h
 ·rw[bg h0]at h
  by_cases h1 : -(n:Int)<=i
  ·rw[aQ h1]at h;have e:(i+n).toNat=j:=bp h;exact⟨by rw[gS (by omega) h1,e],by omega,h1,by omega⟩
  ·rw[bg h1]at h;cases h
theorem a5d{α:Type}{xs:List α}{i:Int}{v:α}(h:atI xs i=some v):∃j,seqIndex? i xs.length=some j/\xs[j]? = some v/\j<xs.length /\ -(xs.length:Int)<=i/\i<xs.length:=by
 unfold atI at h
 cases e:ixN xs.length i with
 |none=>rw[e]at h;cases h
 |some j =>
  rw[e]at h;obtain⟨h1,h2,h3,h4⟩:=a8e e;exact⟨j,h1,h,h2,h3,h4⟩
theorem qx{α:Type}{xs:List α}{j:Nat}{v:α}(h:xs[j]? = some v):atI xs (j:Int)=some v:=by
 have hj:j<xs.length:=(a7.mp h).1;have e:ixN xs.length (j:Int)=some j:=by
  unfold ixN;rw[aQ (by omega),aQ (by omega)];simp
 unfold atI;rw[e];exact h
def a5e(b:Expr):Prop:=∀o i,subscripted b false o i=operate [o,i] (getItem o i)
def IxR(X:Cx)(r:R2):Prop :=
 ∀(value slice:Expr) (aA:List (Addr×Obj)) (s:Shared) (σ:St) (H:Hp) (x y:V) (v u:Value) (Q:VK),Inv X aA σ H s->RelV x v->RelV y u->r x y H Q->
  subscripted slice false v u=operate [v,u] (getItem v u)->wpAny (model X.prog X.w) X.A (subscriptTail value slice v u) (EP X aA σ Q) X.xe s
def MtR(X:Cx)(id:String)(r:V->List V->Hp->VK->Prop):Prop :=
 ∀(aA:List (Addr×Obj)) (s:Shared) (σ:St) (H:Hp) (x:V) (xs:List V) (v:Value) (us:List Value) (Q:VK),Inv X aA σ H s->RelV x v->Vals xs us->r x xs H Q->
  wpAny (model X.prog X.w) X.A (call (.builtin id) (v::us)) (EP X aA σ Q) X.xe s
section
variable{X:Cx}{a b:Expr}{ta tb:TE}{pos:Pos}
theorem IxR.or(h:IxR X r)(h':IxR X r'):IxR X (λx y H Q=>r x y H Q\/r' x y H Q):=by
 intro value slice aA s σ H x y v u Q I rx ry q hs
 rcases q with q|q
 ·exact h value slice aA s σ H x y v u Q I rx ry q hs
 ·exact h' value slice aA s σ H x y v u Q I rx ry q hs
theorem MtR.or{id:String}{r r':V->List V->Hp->VK->Prop}(h:MtR X id r)(h':MtR X id r'):MtR X id (λx xs H Q=>r x xs H Q\/r' x xs H Q):=by
 intro aA s σ H x xs v us Q I rx rs q
 rcases q with q|q
 ·exact h aA s σ H x xs v us Q I rx rs q
 ·exact h' aA s σ H x xs v us Q I rx rs q
theorem aw9(hr:IxR X r)(ha:PE X a ta)(hb:PE X b tb)(hs:a5e b):PE X (.Subscript a b pos) (tOp r ta tb):=by
 intro aA s σ H Q I h
 exact Subscript_ (avy ha hb I h λv u s2 x y H2 I2 rx ry q=>hr a b aA s2 σ H2 x y v u Q I2 rx ry q (hs _ _))
def av4(K:Fg):R2:=λx y H Q=>∃p xs i v,x=.ref p/\y=.int i/\SqL K H p xs/\atI xs i=some v/\Q v H
def ay6(K:Fg):R2:=λx y H Q=>∃p xs i v,x=.ref p/\y=.int i/\SqT K H p xs/\atI xs i=some v/\Q v H
def ay7:R2:=λx y H Q=>∃z i c,x=.str z/\y=.int i/\z.length<=sizeLine/\atI z.cps.toList i=some c/\Q (.str ⟨#[c]⟩) H
theorem alq:IxR X (av4 X.K):=by
 intro value slice aA s σ H x y v u Q I rx ry h hs
 obtain⟨p,xs,i,z,rfl,rfl,hq,he,q⟩:=h;cases rx
 obtain⟨t,rfl⟩:=ry;obtain⟨its,r,pl,hz⟩:=I.list hq;obtain⟨j,h1,h2,h3,h4,h5⟩:=a5d he;obtain⟨w,ew,rw'⟩:=r.get h2;have hl:=r.length;have hn:=a0s;have fin:EP X aA σ Q w s:=⟨z,H,I,rw',q⟩
 by_cases h0:0<=i
 ·have hj:i.toNat=j:=by
   rw[hR h0 h5]at h1;exact bp h1
  exact item_listR pl.isList h0 (by omega) (by rw[hj];simpa using ew) fin hs
 ·have hj:(i+(its.toArray.size:Int)).toNat=j:=by
   rw[gS (by omega) h4]at h1
   rw[aJ,<-hl];exact bp h1
  exact subscriptTail_builtinR (x:=w) pl.isList.typeIs slot_list_getitem.lookup
   (wpAny_getItem_list_neg (Q:=λr s'=>r=w/\EP X aA σ Q r s') pl.isList (by omega) (by rw[aJ]<;>omega) (by omega) (by rw[hj];simpa using ew) ⟨rfl,fin⟩) hs
theorem a3c:IxR X (ay6 X.K):=by
 intro value slice aA s σ H x y v u Q I rx ry h hs
 obtain⟨p,xs,i,z,rfl,rfl,hq,he,q⟩:=h;cases rx
 obtain⟨t,rfl⟩:=ry;obtain⟨its,r,pl,hz⟩:=I.tuple hq;obtain⟨j,h1,h2,h3,h4,h5⟩:=a5d he;obtain⟨w,ew,rw'⟩:=r.get h2;have hl:=r.length;have hn:=a0s;have fin:EP X aA σ Q w s:=⟨z,H,I,rw',q⟩;exact subscriptTail_builtinR (x:=w) pl.typeIs slot_tuple_getitem.lookup
  (getItem_tuple (j:=j) (Q:=λr s'=>r=w/\EP X aA σ Q r s') pl (by omega) (by omega) (by rw[aJ,<-hl];exact h1) (by simpa using ew) ⟨rfl,fin⟩) hs
theorem aq5:IxR X ay7:=by
 intro value slice aA s σ H x y v u Q I rx ry h hs
 obtain⟨z,i,c,rfl,rfl,hz,he,q⟩:=h;obtain⟨t,rfl⟩:=rx;obtain⟨t',rfl⟩:=ry;obtain⟨j,h1,h2,h3,h4,h5⟩:=a5d he;have hl:z.cps.toList.length=z.length:=by simp[Str.length]
 rw[hl]at h1 h4 h5;have hn:=a0s;exact tail_any (typeIs_str s z t) slot_str_getitem.lookup (getItem_str (c:=c) (by
  have e1:decide (i < -(2^63:Int))=false:=aR (by omega)
  have e2:decide (i≥2^63)=false:=aR (by omega)
  rw[e1,e2,Bool.or_false]) (by rw[h1];simpa using h2) ⟨.str ⟨#[c]⟩,H,I.tok _,⟨_,rfl⟩,q⟩) hs
def rIx(K:Fg):R2:=λx y H Q=>av4 K x y H Q\/ay6 K x y H Q\/ay7 x y H Q
theorem aq6:IxR X (rIx X.K):=alq.or (a3c.or aq5)
theorem aau(its:List Value)(n j:Nat)(u:Value):Obj.mapSeq (·.setIfInBounds j u) {cls:=.type "list",data:=.seq its.toArray n}={cls:=.type "list",data:=.seq (its.set j u).toArray n}:=by
 simp[Obj.mapSeq]
theorem Inv.lst{aA:List (Addr×Obj)}{σ:St}{H:Hp}{s:Shared}{p:Addr}{xs:List V}(I:Inv X aA σ H s)(h:H p=some (.lst xs)) :
  ∃(its:List Value) (n:Nat),Vals xs its/\s.heap.get? p=some {cls:=.type "list",data:=.seq its.toArray n}/\xs.length<=sizeLine:=by
 obtain⟨z,its,n,r,e⟩:=I.hok p _ h;exact⟨its,n,r,e,z⟩
theorem Inv.lstUpd{its its':List Value}(I:Inv X aA σ H s)(h:H p=some (.lst xs))
  (ho:s.heap.get? p=some {cls:=.type "list",data:=.seq its.toArray n}) (hf:f {cls:=.type "list",data:=.seq its.toArray n}={cls:=.type "list",data:=.seq its'.toArray n' }) (r:Vals ys its') (hz:ys.length<=sizeLine) (t:Nat) :
  Inv X aA σ (upd H p (.lst ys)) {s with heap:=s.heap.update p f,toks:=t}:=by
 have e:(s.heap.update p f).get? p=some {cls:=.type "list",data:=.seq its'.toArray n' }:=by
  rw[dW f ho (by rw[hf]<;>rfl),hf]
 refine I.write (x:=p) (e:=p) (by rw[h];trivial) (.inl rfl) (λb u hb q=>(eS _ _ (fI hb)).trans q) ⟨_,e⟩ ?_
 exact⟨hz,its',n',r,e⟩
def aq7:V->V->V->Hp->(Hp->Prop)->Prop:=λo i v H Q=>∃p xs k j,o=.ref p/\i=.int k/\H p=some (.lst xs)/\ixN xs.length k=some j/\Q (upd H p (.lst (xs.set j v)))
theorem set_list:avt X aq7:=by
 intro aA s σ H o i v ov iv u Q I ro ri rv h
 obtain⟨p,xs,k,j,rfl,rfl,hp,hj,q⟩:=h;cases ro
 obtain⟨t,rfl⟩:=ri;obtain⟨its,n,r,ho,hz⟩:=I.lst hp;obtain⟨h1,h2,h3,h4⟩:=a8e hj;have hl:=r.length;have hn:=a0s;have I':Inv X aA σ (upd H p (.lst (xs.set j v))) {s with heap:=s.heap.update p (Obj.mapSeq (·.setIfInBounds j u))} :=
  I.lstUpd hp ho (aau its n j u) (r.set rv j) (by rw[fK];exact hz) s.toks
 by_cases h0:0<=k
 ·have hk:k.toNat=j:=by
   rw[hR h0 h4]at h1;exact bp h1
  exact PySem.W.ki_setAt ho h0 (by omega) (by rw[aJ,<-hl];exact h4) (by rw[hk];exact⟨_,I',q⟩)
 ·have hk:(k+(its.toArray.size:Int)).toNat=j:=by
   rw[gS (by omega) h3]at h1
   rw[aJ,<-hl];exact bp h1
  exact PySem.W.ki_setBack ho (by omega) (by rw[aJ,<-hl];exact h3) (by omega) (by rw[hk];exact⟨_,I',q⟩)
theorem a6y(lo hi:Option Int)(n:Nat):(sliceBounds lo hi none n).1=((HT.sIx n 0 lo:Nat):Int)/\(sliceBounds lo hi none n).2.1=((HT.sIx n n hi:Nat):Int)/\(sliceBounds lo hi none n).2.2=1:=by
 refine⟨?_,?_,rfl⟩
 ·cases lo with
  |none=>simp[sliceBounds,HT.sIx]
  |some i =>
   simp only[sliceBounds,HT.sIx,Option.getD_none,show(1:Int) > 0 by decide,cQ]
   by_cases h:i<0
   ·simp only[h,cQ]<;>omega
   ·simp only[h,cM]<;>omega
 ·cases hi with
  |none=>simp[sliceBounds,HT.sIx]
  |some i =>
   simp only[sliceBounds,HT.sIx,Option.getD_none,show(1:Int) > 0 by decide,cQ]
   by_cases h:i<0
   ·simp only[h,cQ]<;>omega
   ·simp only[h,cM]<;>omega
theorem a5f(its:List Value)(lo hi:Option Int):slicePick its.toArray lo hi none=((its.drop (HT.sIx its.length 0 lo)).take (HT.sIx its.length its.length hi-HT.sIx its.length 0 lo)).toArray:=by
 obtain⟨h1,h2,h3⟩:=a6y lo hi its.toArray.size;unfold slicePick;rw[h1,h2,h3];simp only[sliceRange_one,pick_run,aJ]<;>rfl
def awa(K:Fg):V->Option Int->Option Int->Hp->VK->Prop:=λx lo hi H Q=>∃a xs,x=.ref a/\SqL K H a xs/\∀p,H p=none->Q (.ref p) (upd H p (.lst (ajk xs lo hi)))
theorem alr:SlR X (awa X.K):=by
 intro aA s σ H x v vl vu lo hi sl Q I rx hs pl pu h
 obtain⟨a,xs,rfl,hx,q⟩:=h;cases rx
 obtain⟨its,r,ht,hz⟩:=I.list hx;have aH:=r.length;refine⟨"list",_,slot_list_getitem.lookup,ht.isList.typeIs,?_⟩;refine wpAny_getItem_list_slice ht.isList hs pl pu .none (by simp) ?_ (by rw[aJ]<;>omega)
 rw[a5f,<-aH];refine⟨.ref s.heap.objs.size,_,I.laid (t':=s.toks) (o:=.lst (ajk xs lo hi)) (λb ob q=>af _ q) (ah _) ?_,rfl,q _ (I.hok.fresh (ah _))⟩;exact⟨c9 (a3b xs lo hi) hz,_,0,(r.drop (HT.sIx xs.length 0 lo)).take (HT.sIx xs.length xs.length hi-HT.sIx xs.length 0 lo),aT _ rfl⟩
def a0w:V->Bool
 |.non=>true
 |.bl _=>true
 |.int _=>true
 |.str _=>true
 |_=>false
def eqV:V->V->Bool
 |.non,.non=>true
 |.bl a,.bl b=>a == b
 |.bl a,.int b=>(if a then 1 else 0) == b
 |.int a,.bl b=>a == (if b then 1 else 0)
 |.int a,.int b=>a == b
 |.str a,.str b=>a == b
 |_,_=>false
theorem acn(ry:RelV y u)(rx:RelV x v)(fy:a0w y=true)(fx:a0w x=true):SeqAt.EqAt A s u v (eqV y x):=by
 cases y with
 |non =>
  cases ry
  cases x with
  |non=>cases rx;exact SeqAt.EqAt.same _
  |bl b=>cases rx;exact SeqAt.EqAt.none_bool b
  |int b=>obtain⟨t,rfl⟩:=rx;exact SeqAt.EqAt.none_int b t
  |str b=>obtain⟨t,rfl⟩:=rx;exact SeqAt.EqAt.none_str b t
  |_=>exact absurd (show false=true from fx) bo
 |bl a =>
  cases ry
  cases x with
  |non=>cases rx;exact SeqAt.EqAt.bool_none a
  |bl b=>cases rx;exact SeqAt.EqAt.bool_bool a b
  |int b=>obtain⟨t,rfl⟩:=rx;exact SeqAt.EqAt.bool_int a b t
  |str b=>obtain⟨t,rfl⟩:=rx;exact SeqAt.EqAt.bool_str a b t
  |_=>exact absurd (show false=true from fx) bo
 |int a =>
  obtain⟨t',rfl⟩:=ry
  cases x with
  |non=>cases rx;exact SeqAt.EqAt.int_none a t'
  |bl b=>cases rx;exact SeqAt.EqAt.int_bool a t' b
  |int b=>obtain⟨t,rfl⟩:=rx;exact SeqAt.EqAt.int_int a t' b t
  |str b=>obtain⟨t,rfl⟩:=rx;exact SeqAt.EqAt.int_str a t' b t
  |_=>exact absurd (show false=true from fx) bo
 |str a =>
  obtain⟨t',rfl⟩:=ry
  cases x with
  |non=>cases rx;exact SeqAt.EqAt.str_none a t'
  |bl b=>cases rx;exact SeqAt.EqAt.str_bool a t' b
  |int b=>obtain⟨t,rfl⟩:=rx;exact SeqAt.EqAt.str_int a t' b t
  |str b=>obtain⟨t,rfl⟩:=rx;exact SeqAt.EqAt.str_str a t' b t
  |_=>exact absurd (show false=true from fx) bo
 |_=>exact absurd (show false=true from fy) bo
def eqU(x:V)(u:Value):Bool:=match u with
 |.none=>eqV .non x
 |.bool b=>eqV (.bl b) x
 |.int i _=>eqV (.int i) x
 |.str z _=>eqV (.str z) x
 |_=>false
theorem ajl(r:RelV y u)(f:a0w y=true):eqU x u=eqV y x:=by
 cases y with
 |non=>cases r;rfl
 |bl b=>cases r;rfl
 |int i=>obtain⟨t,rfl⟩:=r;rfl
 |str z=>obtain⟨t,rfl⟩:=r;rfl
 |_=>exact absurd (show false=true from f) bo
theorem a8f:∀{xs:List V} {us:List Value},Vals xs us->xs.all a0w=true->us.any (eqU x)=xs.any λy=>eqV y x
 |_,_,.nil,_=>rfl
 |y::xs,u::us,.cons r t,f=>by
  rw[fE,cv]at f;rw[dZ,dZ,ajl r f.1,a8f t f.2]
theorem a5g(rx:RelV x v)(fx:a0w x=true):∀{xs:List V} {us:List Value},Vals xs us->xs.all a0w=true->∀u∈us,SeqAt.EqAt A s u v (eqU x u)
 |_,_,.nil,_=>λu hu=>by cases hu
 |y::xs,u::us,.cons r t,f=>λu' hu=>by
  rw[fE,cv]at f
  rcases ay.mp hu with rfl|hu
  ·rw[ajl r f.1];exact acn r rx f.1 fx
  ·exact a5g rx fx t f.2 u' hu
def inV(x:V)(xs:List V):Bool:=xs.any λy=>eqV y x
def rIn(K:Fg)(neg:Bool):R2:=λx y H Q=>∃p xs,y=.ref p/\(SqL K H p xs\/SqT K H p xs)/\a0w x=true/\xs.all a0w=true/\Q (.bl (if neg then !inV x xs else inV x xs)) H
theorem a6z:OpR X (compareOp .NotIn) (rIn X.K true):=by
 intro aA s σ H x y v u Q I rx ry h
 obtain⟨p,xs,rfl,hq,fx,fs,q⟩:=h;cases ry
 rcases hq with hq|hq
 ·obtain⟨its,r,pl,hz⟩:=I.list hq;refine SeqAt.notIn_listAt (eqU x) pl.isList (λw hw=>a5g rx fx r fs w (by simpa using hw)) ⟨.bl _,H,I,rfl,?_⟩
  rw[show its.toArray.any (eqU x)=its.any (eqU x) by simp,a8f r fs]
  exact q
 ·obtain⟨its,r,pl,hz⟩:=I.tuple hq;refine SeqAt.notIn_tupleAt (eqU x) pl (λw hw=>a5g rx fx r fs w (by simpa using hw)) ⟨.bl _,H,I,rfl,?_⟩
  rw[show its.toArray.any (eqU x)=its.any (eqU x) by simp,a8f r fs]
  exact q
theorem a70:CallR X (.builtin "len") (λxs H Q=>∃p ys,xs=[.ref p]/\(SqL X.K H p ys\/SqT X.K H p ys)/\Q (.int ys.length) H):=by
 intro aA s σ H xs us Q I r h
 obtain⟨p,ys,rfl,hq,q⟩:=h;obtain⟨u,rfl,rx⟩:=vals1 r;cases rx
 have hn:=a0s
 rcases hq with hq|hq
 ·obtain⟨its,r',pl,hz⟩:=I.list hq;have aH:=r'.length;exact Calls.call_len_list pl.isList (by simp only[aJ]<;>omega) ⟨.int ys.length,H,I.tok _,⟨s.toks+1,by rw[aJ,aH]⟩,q⟩
 ·obtain⟨its,r',pl,hz⟩:=I.tuple hq;have aH:=r'.length;exact len_tuple pl (by simp only[aJ]<;>omega) ⟨.int ys.length,H,I.tok _,⟨s.toks+1,by rw[aJ,aH]⟩,q⟩
theorem a71:CallR X (.builtin "len") (λxs H Q=>∃z,xs=[.str z]/\z.length<=sizeLine/\Q (.int z.length) H):=by
 intro aA s σ H xs us Q I r h
 obtain⟨z,rfl,hz,q⟩:=h;obtain⟨u,rfl,t,rfl⟩:=vals1 r;have hn:=a0s;exact len_str (by omega) ⟨.int z.length,H,I.tok _,⟨_,rfl⟩,q⟩
theorem CallR.or(h:CallR X f r)(h':CallR X f r'):CallR X f (λxs H Q=>r xs H Q\/r' xs H Q):=by
 intro aA s σ H xs us Q I rs q
 rcases q with q|q
 ·exact h aA s σ H xs us Q I rs q
 ·exact h' aA s σ H xs us Q I rs q
theorem a72:CallR X (.type "list") (λxs H Q=>∃p ys,xs=[.ref p]/\(SqL X.K H p ys\/SqT X.K H p ys)/\∀l,H l=none->Q (.ref l) (upd H l (.lst ys))):=by
 intro aA s σ H xs us Q I r h
 obtain⟨p,ys,rfl,hq,q⟩:=h;obtain⟨u,rfl,rx⟩:=vals1 r;cases rx
 have fin:∀(its:List Value),Vals ys its->ys.length<=sizeLine->∀(h':Heap) (c':Nat),(∀b o',s.heap.get? b=some o'->h'.get? b=some o')->
   h'.get? s.heap.objs.size=some {cls:=.type "list",dict:=none,data:=.seq its.toArray c',slots := #[]}->EP X aA σ Q (.ref s.heap.objs.size) {s with heap:=h' }:=λits r' hz h' c' kp e =>
  ⟨.ref s.heap.objs.size,_,I.laid (t':=s.toks) kp (ah _) (show ObjOk X.prog X.w _ h' _ (.lst ys) from ⟨hz,its,c',r',e⟩),rfl,q _ (I.hok.fresh (ah _))⟩
 rcases hq with hq|hq
 ·obtain⟨its,r',pl,hz⟩:=I.list hq;have aH:=r'.length;obtain⟨o,ho,hc,n,hd⟩:=pl.isList;exact call_list_seq p (.inl rfl) ho hc hd (λh' c' kp e=>fin its r' hz h' c' kp e) (by simp only[aJ]<;>omega)
 ·obtain⟨its,r',pl,hz⟩:=I.tuple hq;have aH:=r'.length;obtain⟨o,ho,hc,n,hd⟩:=pl;exact call_list_seq p (.inr rfl) ho hc hd (λh' c' kp e=>fin its r' hz h' c' kp e) (by simp only[aJ]<;>omega)
theorem a5h:CallR X (.type "tuple") (λxs H Q=>∃p ys,xs=[.ref p]/\((SqL X.K H p ys/\∀l,H l=none->Q (.ref l) (upd H l (.tup ys)))\/(SqT X.K H p ys/\Q (.ref p) H))):=by
 intro aA s σ H xs us Q I r h
 obtain⟨p,ys,rfl,h⟩:=h;obtain⟨u,rfl,rx⟩:=vals1 r;cases rx
 rcases h with⟨hq,q⟩|⟨hq,q⟩
 ·obtain⟨its,r',pl,hz⟩:=I.list hq;have aH:=r'.length;refine call_tuple_list pl.isList (λh' kp=>?_) (by simp only[aJ]<;>omega)
  have I1:Inv X aA σ H {s with heap:=h' }:=I.kept (t':=s.toks) kp
  have I2:Inv X aA σ (upd H h'.objs.size (.tup ys)) {s with heap:=h'.push {cls:=.type "tuple",data:=.seq its.toArray} } :=
   I1.laid (t':=s.toks) (λb o e=>af _ e) (ah _) (show ObjOk X.prog X.w _ _ _ (.tup ys) from ⟨hz,its,r',TupD.new _ _⟩)
  exact⟨.ref h'.objs.size,_,I2,rfl,q _ (I1.hok.fresh (ah _))⟩
 ·obtain⟨its,r',pl,hz⟩:=I.tuple hq;exact call_tuple_same pl ⟨.ref p,H,I,rfl,q⟩
def tyV(K:Fg)(T:String)(x:V)(H:Hp):Prop:=match x with
 |.str _=>T = "str"
 |.int _=>T = "int"
 | .ref p=>(T = "list"/\∃xs,SqL K H p xs)\/(T = "tuple"/\((∃o,K.lookup p=some o/\o.cls=.type "tuple"/\o.dict=none)\/∃xs,H p=some (.tup xs))) \/
   (T = "dict"/\((∃kvs,H p=some (.dK kvs))\/∃kvs,H p=some (.dT kvs)))\/(T = "set"/\∃S n,H p=some (.set S n))
 |_=>False
theorem aq8(I:Inv X aA σ H s)(r:RelV x v)(ty:tyV X.K T x H) :
  s.TypeIs v T/\∀a,v=.ref a->∃ob,s.heap.get? a=some ob/\ob.dict=none:=by
 cases x with
 |str z =>
  obtain⟨t,rfl⟩:=r
  cases (show T = "str" from ty)
  exact⟨typeIs_str s z t,λ_ e=>nomatch e⟩
 |int i =>
  obtain⟨t,rfl⟩:=r
  cases (show T = "int" from ty)
  exact⟨typeIs_int s i t,λ_ e=>nomatch e⟩
 |ref p =>
  cases r
  rcases ty with⟨rfl,xs,hq⟩|⟨rfl,⟨o,hk,hc,hd⟩|⟨xs,hk⟩⟩|⟨rfl,hk⟩|⟨rfl,S,n,hk⟩
  ·obtain⟨its,_,pl,_⟩:=I.list hq;refine⟨pl.isList.typeIs,λa e=>?_⟩;cases e
   obtain⟨o,n,e,c,hd,_⟩:=pl;exact⟨o,e,hd⟩
  ·refine⟨⟨o,I.kIn p o hk,hc⟩,λa e=>?_⟩;cases e
   exact⟨o,I.kIn _ o hk,hd⟩
  ·obtain⟨_,_,_,o,e,c,_⟩:=(show ObjOk X.prog X.w H s.heap p (.tup xs) from I.hok p _ hk)
   exact⟨⟨o,e,c.1⟩,λa z=>by cases z;exact⟨o,e,c.2⟩⟩
  ·have z:∃o,s.heap.get? p=some o/\o.ExactDict:=by
    rcases hk with⟨kvs,hk⟩|⟨kvs,hk⟩
    ·obtain⟨_,_,_,_,o,_,_,e,ex,_⟩:=I.hok p _ hk;exact⟨o,e,ex⟩
    ·obtain⟨_,_,_,_,o,_,_,e,ex,_⟩:=I.hok p _ hk;exact⟨o,e,ex⟩
   obtain⟨o,e,ex⟩:=z;refine⟨⟨o,e,ex.1⟩,λa e2=>?_⟩;cases e2
   exact⟨o,e,ex.2.1⟩
  ·obtain⟨o,_,_,_,e,ex,_⟩:=I.hok p _ hk;refine⟨⟨o,e,ex.1⟩,λa e2=>?_⟩;cases e2
   exact⟨o,e,ex.2.1⟩
 |_=>exact False.elim ty
def tBM(K:Fg)(T:String)(r:V->List V->Hp->VK->Prop)(to:TE)(t:TA):TE:=λσ H Q=>to σ H λx H1=>tyV K T x H1/\t σ H1 λxs H2=>r x xs H2 Q
variable{o e:Expr}{es:List Expr}{to:TE}{t:TA}{name:Str}{apos cpos:Pos}{T id:String}{r:V->List V->Hp->VK->Prop}
theorem aq9(pa:PlainAttrs T)(slot:Slot T name id)(hty:typeOf (.builtin id)=pure (.type "method_descriptor"))(hm:MtR X id r)(ho:PE X o to)(ha:PA X (e::es) t)
  (hbase:attributeBase o name X.env (eval o X.env)=eval o X.env:=by rfl)
  (hfew:((backTo cpos (starEach (e::es) X.env)).all (λx => !x.1) && (backToKw cpos (keywordEach [] X.env)).all (λx=>x.1.isSome)
   && decide ((e::es).length+([]:List Keyword).length+(if ([]:List Keyword).isEmpty then 0 else 1)<30))=true:=by rfl)
  (hline:(apos.endLine == cpos.line)=true:=by rfl) (hs:starEach (e::es) X.env=(false,eval e X.env)::starEach es X.env:=by rfl) (hplain:(backTo cpos (starEach es X.env)).any (·.1)=false:=by rfl) :
  PE X (.Call (.Attribute o name apos) (e::es) [] cpos) (tBM X.K T r to t):=by
 intro aA s σ H Q I h
 refine wpAny_Call_method_late hbase hfew hline rfl (thn (ho aA s σ H _ I h) λv s1 ⟨x,H1,I1,r1,ty,q1⟩=>?_);obtain⟨h1,h2⟩:=aq8 I1 r1 ty;refine⟨T,id,pa,slot,hty,h1,h2,?_⟩;have hA:=ha cpos aA s1 σ H1 _ I1 q1;rw[hs]at hA ⊢;refine Calls.callWith_builtin (by show(false || (backTo cpos (starEach es X.env)).any (·.1))=false;rw[hplain]<;>rfl) (Calls.evalArgs_plain ?_)
 exact thn hA λus s2 ⟨vs,H2,I2,r2,q2⟩=>hm aA s2 σ H2 x vs v us Q I2 r1 r2 q2
end
def MtM(X:Cx)(id:String)(r:V->List V->Hp->VK->Prop):Prop :=
 ∀(aA:List (Addr×Obj)) (s:Shared) (σ:St) (H:Hp) (x:V) (xs:List V) (v:Value) (us:List Value) (Q:VK),Inv X aA σ H s->RelV x v->Vals xs us->r x xs H Q->
  wpAny (model X.prog X.w) X.A (call (.builtin id) (v::us)) (EP X aA σ Q) X.xe s
theorem Vals.one:∀{x:V} {us:List Value},Vals [x] us->∃u,us=[u]/\RelV x u
 |_,_,.cons r .nil=>⟨_,rfl,r⟩
theorem Vals.eraseIdx:∀{xs:List V} {us:List Value} (i:Nat),Vals xs us->Vals (xs.eraseIdx i) (us.eraseIdx i)
 |_,_,_,.nil=>.nil
 |_,_,0,.cons _ t=>t
 |_,_,i+1,.cons r t=>.cons r (Vals.eraseIdx i t)
theorem Vals.rep(h:Vals xs us):∀k:Nat,Vals (List.replicate k xs).flatten (List.replicate k us).flatten
 |0=>.nil
 |k+1=>by
  rw[cR,cR,dG,dG];exact Vals.append h (Vals.rep h k)
theorem a73{α:Type}:∀(l:List α) (i:Nat),(l.eraseIdx i).length<=l.length
 |[],_=>ah _
 |_::_,0=>Nat.le_succ _
 |_::r,i+1=>Nat.succ_le_succ (a73 r i)
theorem foldl_rep(its:List Value):∀(k:Nat) (acc:List Value),
  List.foldl (λx1 x2=>x1++x2) acc.toArray (List.replicate k its.toArray)=(acc++(List.replicate k its).flatten).toArray
 |0,acc=>by simp
 |k+1,acc=>by
  have e:acc.toArray++its.toArray=(acc++its).toArray:=by simp
  have e2:(acc++its)++(List.replicate k its).flatten=acc++(List.replicate (k+1) its).flatten:=by
   rw[cR,dG,d0]
  rw[<-e2,<-foldl_rep its k (acc++its),<-e,cR,bL]
section
variable{X:Cx}{aA:List (Addr×Obj)}{σ:St}{H:Hp}{s:Shared}{l b:Addr}{xs ys zs:List V}
theorem Inv.lset{its its':List Value}(I:Inv X aA σ H s)(hH:H l=some (.lst xs))
  (e:s.heap.get? l=some {cls:=.type "list",data:=.seq its.toArray n}) (hf:f its.toArray=its'.toArray) (hv:Vals ys its') (hz:ys.length<=sizeLine) :
  Inv X aA σ (upd H l (.lst ys)) {s with heap:=s.heap.update l (Obj.mapSeq f),toks:=t' }:=by
 have q:=PySem.IsL.update e f;rw[hf]at q;refine I.write (x:=l) (e:=l) (by rw[hH];exact trivial) (.inl rfl) (λb' u hb hu=>(eS s.heap (Obj.mapSeq f) (fI hb)).trans hu) ⟨_,q⟩ ?_
 exact⟨hz,its',_,hv,q⟩
theorem Inv.lnew(I:Inv X aA σ H s)(hv:Vals ys its)(hz:ys.length<=sizeLine) :
  Inv X aA σ (upd H s.heap.objs.size (.lst ys)) {s with heap:=s.heap.push {cls:=.type "list",data:=.seq its.toArray},toks:=t' } :=
 I.laid (λ_ _ q=>af _ q) (ah _) ⟨hz,its,0,hv,aT _ rfl⟩
theorem Inv.fresh(I:Inv X aA σ H s):H s.heap.objs.size=none:=I.hok.fresh (ah _)
theorem Inv.lstM(I:Inv X aA σ H s)(hH:H l=some (.lst xs)):xs.length<=sizeLine/\∃(its:List Value) (n:Nat),Vals xs its/\xs.length=its.length/\s.heap.get? l=some {cls:=.type "list",data:=.seq its.toArray n}:=by
 obtain⟨z,its,n,r,e⟩:=I.hok l _ hH;exact⟨z,its,n,r,r.length,e⟩
theorem a5i(h:n<=sizeLine):Builtin.List.listTooLong n=false:=by
 unfold Builtin.List.listTooLong;exact aR (by omega)
end
section
variable{X:Cx}
def aco:V->List V->Hp->VK->Prop:=λx vs H Q=>∃l xs y,x=.ref l/\vs=[y]/\H l=some (.lst xs)/\xs.length<sizeLine/\Q .non (upd H l (.lst (xs++[y])))
theorem acp:MtM X "list.append" aco:=by
 intro aA s σ H x vs v us Q I rx rv h
 obtain⟨l,xs,y,rfl,rfl,hH,hz,q⟩:=h;cases rx
 obtain⟨u,rfl,ru⟩:=rv.one;obtain⟨z,its,n,r,hl,e⟩:=I.lstM hH;refine eV F.slot_list_append ⟨_,e,rfl⟩ F.entry_list_append (F.args_list_append_2 _ _) (PySem.list_append l its.toArray n u (by rw[aJ];omega)) ⟨e,?_⟩
 refine⟨.non,_,I.lset (its':=its++[u]) hH e (by simp) (r.append (.cons ru .nil)) ?_,rfl,q⟩
 rw[ag,aM];omega
def ajm:V->List V->Hp->VK->Prop:=λx vs H Q=>∃l xs i k y,x=.ref l/\vs=[.int i]/\H l=some (.lst xs) /\ -(2^63)<=i/\i<2^63/\seqIndex? i xs.length=some k/\xs[k]? = some y/\Q y (upd H l (.lst (xs.eraseIdx k)))
theorem agx:MtM X "list.pop" ajm:=by
 intro aA s σ H x vs v us Q I rx rv h
 obtain⟨l,xs,i,k,y,rfl,rfl,hH,h1,h2,hk,hy,q⟩:=h;cases rx
 obtain⟨u,rfl,ru⟩:=rv.one;obtain⟨t,rfl⟩:=ru;obtain⟨z,its,n,r,hl,e⟩:=I.lstM hH;obtain⟨w,hw,rw'⟩:=r.get hy;refine eV F.slot_list_pop ⟨_,e,rfl⟩ F.entry_list_pop (F.args_list_pop_2 _ _)
  (MeetsSeq.list_pop_at l its.toArray n i t k w (fitsIndex_both h1 h2) (by rw[aJ,<-hl];exact hk) (by rw[<-dX];exact hw) (by rw[aJ];omega)) ⟨e,?_⟩
 refine⟨y,_,I.lset (its':=its.eraseIdx k) hH e ?_ (r.eraseIdx k) ?_,rw',q⟩
 ·show its.toArray.eraseIdxIfInBounds k=(its.eraseIdx k).toArray;rw[List.eraseIdxIfInBounds_toArray]
 ·have:=a73 xs k
  omega
theorem len_rep{α:Type}(xs:List α)(k:Nat):(List.replicate k xs).flatten.length=k*xs.length:=by
 induction k with
 |zero=>simp
 |succ k ih=>rw[cR,dG,ag,ih,Nat.succ_mul,gT]
end
end L2
namespace Att
open PySem.W PySem.Calls PyProof.Rows
theorem a3d:∀(ns:List Int) (vs:List Value),WellAll P h vs (ns.map WData.int)->IntsAre vs ns:=by
 intro ns
 induction ns with
 |nil =>
  intro vs w
  rw[bO]at w;cases w
  exact .nil
 |cons n ns ih =>
  intro vs w
  rw[aK]at w
  cases w with
  |cons a b =>
   cases a
   exact .cons _ _ (ih _ b)
theorem acq{l:OpenLaw}(hn:l.most=some n)
  (hpre:l.row.toRowW.claim.pre args=true) (hwl:WellAll P h vals args) :
  ∃a vs ns,vals=[Value.ref a]/\args=[WData.list (ns.map WData.int)]/\h.get? a=some {cls:=.type "list",data:=.seq vs.toArray}/\IntsAre vs ns/\ns.length<=n:=by
 have hsh:WShape.hasAll [] args [.list .int]=true:=(pre_splitW hpre).1;have hc:l.pre.holds [] {args:=args}=true:=(pre_splitW hpre).2;obtain⟨d,r,rfl,h1,h2⟩:=hasAllW_cons hsh;obtain rfl:=hasAllW_nil h2;obtain⟨xs,rfl,h3⟩:=hasW_list h1;obtain⟨ns,rfl⟩:=items_int h3;have aH:ns.length<=n:=by
  unfold OpenLaw.pre at hc;have h4:(WTm.not (.lt (.lit (.int (n:Int))) (.len (.arg 0)))).holds [] {args:=[.list (ns.map .int)]}=true:=by
   have h4:=(holds_andW hc).1;rw[hn]at h4;exact h4
  have h5:=condW_of h4 (w_not (w_lt w_lit (w_len_list (w_arg rfl))));rw[a9]at h5;refine Nat.le_of_not_lt λq=>?_;have q':(n:Int)<((ns.length:Nat):Int):=by omega
  first
   |(rw[aS q']at h5;exact absurd h5 (by decide))
   |(simp at h5;omega)
 cases hwl with
 |cons w1 w2 =>
  cases w2
  cases w1 with
  |list ho hall=>exact⟨_,_,ns,rfl,rfl,ho,a3d ns _ hall,aH⟩
theorem acr(l:OpenLaw)(args:List WData):l.row.toRowW.claim.post args (.bool true) args=true :=
 postW_of (r:=l.row.toRowW) (X:=(true == true))
  (show WShape.has [] (.bool true) .bool=true by first|rfl|decide|simp[WShape.has,WShape.arms,WShape.armsAll])
  (show(WTm.eq .res (.lit (.bool true))).value [] {args:=args,res:=some (.bool true),after:=args}=some (.bool (true == true)) from w_eq_bool (w_res rfl) w_lit) rfl
theorem a8g{l:OpenLaw}{d:DefRec}
  (hn:l.most=some n) (hdf:d.params.defaults=[])
  (call:∀(w:World) (s₀ s₁:Shared) (mg mb:Str->Option Value) (fa:Addr) (o:Obj) (pm cd doc:Value) (a:Addr) (vs:List Value) (ns:List Int),
   Ground q loose [] XP w s₀ mg mb s₁.heap->YP w s₁.heap->
   s₁.heap.get? fa=some o->o.data=.func (docDef d.name d.params d.body d.scope pm cd doc)->s₁.heap.CodeRec cd d.name->mg d.name=some (.ref fa)->
   s₁.heap.get? a=some {cls:=.type "list",data:=.seq vs.toArray}->IntsAre vs ns->ns.length<=n->s₁.gens = #[]->
   codeAny (model l.prog w) callerA (.call (.ref fa) ⟨[.ref a],[]⟩) (λr s'=>r=.ok (.ret (.bool true))/\OldK s₁.heap s'.heap/\s'.os=s₁.os/\AllBare s'.gens) s₁) :
  WalkO q loose XP YP l.row.toRowW d [] (λf vs=>PySem.call f vs):=by
 intro w s₀ s₁ mg mb G Y fa o pm cd doc dV kV ho hd hcd hD hmg hg args vals as hpre hlay hrd hwl hlo
 obtain rfl:dV=.none:=Dflts.none hD hdf
 obtain rfl:kV=.none:=Dflts.noKw hD
 obtain⟨a,vs,ns,rfl,rfl,hobj,hints,aH⟩:=acq hn hpre hwl;refine enter_call (codeAny_mono (call w s₀ s₁ mg mb fa o pm cd doc a vs ns G Y ho (fd_plain hd) hcd hmg hobj hints aH hg) λr s' hq=>?_);obtain⟨rfl,h2,h3,h4⟩:=hq;exact⟨.inl ⟨.bool true,.bool true,[],rfl,λ_=>rfl,.bool true,acr l _,λ_=>⟨List.Pairwise.nil,λ_ hm=>(nomatch hm)⟩⟩,h2,h3,h4⟩
end Att
namespace L2
open PyProof.Rows
theorem a74:∀{vs:List Value} {ns:List Int},IntsAre vs ns->Vals (ns.map V.int) vs
 |_,_,.nil=>.nil
 |_,_,.cons n t h=>.cons ⟨t,rfl⟩ (a74 h)
def Only(H:Hp):Prop:=∀b,H b=none\/∃o xs,H b=some (.frz o (.lst xs))
theorem agy{K:Fg}{s₁:Shared}{vs:List Value}
  (KX:K.In s₁.heap) (hns:s₁.heap.Ns mainGlobals mg) (hb:s₁.heap.Ns builtinsNs mb) (hbb:∀x:Str,x ≠ "__name__"->mb x=bootBuiltins x) (hlim:s₁.heap.NoLimit) (hg:s₁.gens = #[])
  (ha:s₁.heap.get? a=some {cls:=.type "list",data:=.seq vs.toArray}) (hi:IntsAre vs ns) (hl:ns.length<=sizeLine) (hr:Room k callerA)
  (F:∀base:Heap,K.In base->base.Ns mainGlobals mg->FnOk P w K mg base CX k fa fd [x] sp) (hbind:∀(s:Shared) (u:Value),BindsTo s fd ⟨[u],[]⟩ [(x,u)])
  (hsp:∀H:Hp,Only H->SqL K H a (ns.map V.int)->sp [.ref a] H (λv _=>v=.bl true) λ_ _ _=>False)
  (hCX:∀H e s',CX [] H s₁ (λ_ _ _=>False) e s'->False) :
  codeAny (model P w) callerA (.call (.ref fa) ⟨[.ref a],[]⟩) (λr s'=>r=.ok (.ret (.bool true))/\OldK s₁.heap s'.heap/\s'.os=s₁.os/\AllBare s'.gens) s₁:=by
 have rv:=a74 hi;have lenV:=hi.length;have core:∀H:Hp,Only H->SqL K H a (ns.map V.int)->HOk P w H s₁.heap->(∀b,H b≠none->b=a)->(H a≠none->K.lookup a=none)->
   codeAny (model P w) callerA (.call (.ref fa) ⟨[.ref a],[]⟩) (λr s'=>r=.ok (.ret (.bool true))/\OldK s₁.heap s'.heap/\s'.os=s₁.os/\AllBare s'.gens) s₁:=by
  intro H hO hS hok hA hK
  have base_of:∀{b:Addr} {o:Obj},s₁.heap.get? b=some o->H b=none->(agj s₁.heap H).get? b=some o:=λe n=>agk e n;have noA:∀{b:Addr} {o:Obj} {es:Array DictEntry} {ep:Nat},s₁.heap.get? b=some o->o.data=.dict es ep->H b=none:=λ{b o es ep} e d=>by
   cases q:H b with
   |none=>rfl
   |some u =>
    have e':b=a:=hA b (by rw[q];simp)
    subst e';rw[ha]at e;cases e
    have d':Data.seq vs.toArray _=Data.dict es ep:=d
    cases d'
  have nsK:∀{b:Addr} {m:Str->Option Value},s₁.heap.Ns b m->(agj s₁.heap H).Ns b m:=λ{b m} ⟨o,es,ep,e,d,r⟩=>⟨o,es,ep,base_of e (noA e d),d,r⟩;have hKb:K.In (agj s₁.heap H):=λb o e=>base_of (KX b o e) (by
   cases q:H b with
   |none=>rfl
   |some u =>
    have e':b=a:=hA b (by rw[q];simp)
    subst e';rw[hK (by rw[q];simp)]at e;cases e)
  have hM:Mod K mg (agj s₁.heap H):=⟨hKb,nsK hns,⟨mb,nsK hb,hbb⟩,let ⟨mc,h1,h2⟩:=hlim; ⟨mc,nsK h1,h2⟩⟩;have e0:Env0 P w K mg (agj s₁.heap H) callerA [] s₁ H:=⟨rfl,hM,λb o e=>al5 e,eZ (ac2 _ _),trivial,λb hb=>absurd (show b∈([]:List Addr) from hb) (by simp),hok,.of_eq hg⟩
  refine codeAny_mono ((F _ hKb (nsK hns)).run callerA [] s₁ H ⟨[.ref a],[]⟩ [.ref a] [.ref a] _ _ hr e0 (hbind s₁ (.ref a)) (.cons rfl .nil) (hsp H hO hS)) λr s' h=>?_
  cases r with
  |error e=>exact(hCX H e s' h).elim
  |ok fl =>
   cases fl with
   |next=>exact False.elim h
   |brk=>exact False.elim h
   |cont=>exact False.elim h
   |ret u =>
    obtain⟨v,H',os,bare,un,hok',r',q⟩:=h;have q':v=.bl true:=q;subst q';obtain rfl:u=Value.bool true:=r';refine⟨rfl,OldK.of_keep λb o e=>?_,os,bare⟩
    cases q:H b with
    |none=>exact un.keep b o e q (by intro z;exact absurd (show b∈([]:List Addr) from z) (by simp)) (by simp)
    |some u =>
     rcases hO b with z|⟨ob,xs,z⟩
     ·rw[q]at z;cases z
     ·have z2:=un.frzs b ob _ z;obtain⟨e1,_⟩:=hok b _ z;obtain⟨e2,_⟩:=hok' b _ z2;rw[e]at e1;cases e1
      exact e2
 cases hk:K.lookup a with
 |some o =>
  have e:=KX a o hk;rw[ha]at e;cases e
  refine core (λ_=>none) (λ_=>.inl rfl) (.inr ⟨_,vs.toArray,_,hk,rfl,rfl,rfl,by rw[aJ,lenV];exact hl,by simpa using rv⟩) (λb u z=>by have z':(none:Option HO)=some u:=z;cases z') (λb z=>absurd rfl z) λz=>absurd rfl z
 |none =>
  refine core (λb=>if b=a then some (.frz {cls:=.type "list",data:=.seq vs.toArray} (.lst (ns.map V.int))) else none) (λb=>?_) (.inl (.inr ⟨{cls:=.type "list",data:=.seq vs.toArray},aQ rfl⟩)) (λb u z=>?_) (λb z=>?_) λ_=>hk
  ·by_cases hb:b=a
   ·exact .inr ⟨_,_,aQ hb⟩
   ·exact .inl (bg hb)
  ·by_cases hb:b=a
   ·have z':=(aQ hb).symm.trans z
    cases z'
    subst hb;exact⟨ha,by rw[a9];exact hl,vs,_,rv,ha⟩
   ·have z':=(bg hb).symm.trans z
    cases z'
  ·by_cases hb:b=a
   ·exact hb
   ·exact absurd (bg hb) z
theorem als{l:PySem.W.OpenLaw}{n k:Nat}{q:Program}{loose:List Str}{XP:(Str->Option Value)->Heap->Prop}{YP:World->Heap->Prop}{d:DefRec}{K:Params->Fg}{CX:World->CXT}{sp:World->Sp}{x:Str}
  (hn:l.most=some n) (hn2:n<=sizeLine) (hdf:d.params.defaults=[]) (hr:Room k callerA)
  (hY:∀(w:World) (h:Heap),YP w h->(K w.params).In h)
  (F:∀(w:World) (mg:Str->Option Value) (fa:Addr) (h:Heap),(K w.params).In h->h.Ns mainGlobals mg->mg d.name=some (.ref fa)->
   ∃fd:FuncData,(∀(s:Shared) (u:Value),BindsTo s fd ⟨[u],[]⟩ [(x,u)]) /\
    ∀base:Heap,(K w.params).In base->base.Ns mainGlobals mg->FnOk l.prog w (K w.params) mg base (CX w) k fa fd [x] (sp w))
  (hsp:∀(w:World) (H:Hp) (a:Addr) (ns:List Int),ns.length<=n->Only H->SqL (K w.params) H a (ns.map V.int)->sp w [.ref a] H (λv _=>v=.bl true) λ_ _ _=>False)
  (hCX:∀(w:World) (H:Hp) (s:Shared) (e:Value) (s':Shared),CX w [] H s (λ_ _ _=>False) e s'->False) :
  PySem.W.WalkO q loose XP YP l.row.toRowW d [] (λf vs=>PySem.call f vs):=by
 refine Att.a8g hn hdf λw s₀ s₁ mg mb fa o pm cd doc a vs ns G Y ho hd hcd hmg hobj hints aH hg=>?_;have KX:=hY w _ Y;obtain⟨fd,hb,hF⟩:=F w mg fa _ KX G.T.g hmg;exact agy KX G.T.g G.T.b G.T.builtins G.T.nolimit hg hobj hints (c9 aH hn2) hr hF hb (λH hO hS=>hsp w H a ns aH hO hS) λH e s'=>hCX w H s₁ e s'
def a0x(s:Stmt):Arguments:=match s with
 |.FunctionDef _ a _ _ _ _ _ _ _ _=>a
 |_=>{posonlyargs:=[],args:=[],vararg:=none,kwonlyargs:=[],kw_defaults:=[],kwarg:=none,defaults:=[]}
def v5(s:Stmt):List Stmt:=match s with
 |.FunctionDef _ _ b _ _ _ _ _ _ _=>b
 |_=>[]
def dj(s:Stmt):Scope:=match s with
 |.FunctionDef _ _ _ _ _ _ sc _ _ _=>sc
 |_=>{kind:=.function,names:=[],isGenerator:=false,isCoroutine:=false}
abbrev CX0:CXT:=λ_ _ _ _ _ _=>False
abbrev E0:XK:=λ_ _ _=>False
theorem aqa:a9d CX0 X E0:=λ_ _ _ _ _ _ _ h=>h.elim
structure Fun (K:Fg) (x qual:Str) (st:Stmt) (f:Addr) (fd:FuncData):Prop where
 ex:∃(oc:Value) (od:Option Addr) (kV doc pm:Value) (an:Option Addr) (cdv ct:Value) (osl:Array (Option Value)),
  fd=PySem.W.fnOf x qual (a0x st) (v5 st) (dj st) .none kV doc pm an cdv ct/\K.lookup f=some ⟨oc,od,.func fd,osl⟩/\PySem.W.codeIn K cdv qual=true
 kp:PySem.W.keepIn K (.ref f)=true
section
variable{P:Program}{w:World}{K:Fg}{mg:Str->Option Value}{base:Heap}
theorem Fun.ok{x qual:Str}{st:Stmt}{f:Addr}{fd:FuncData}{N ps:List Str}{k:Nat}{sp:Sp}(F:Fun K x qual st f fd)(S:FnScope N ps (dj st))(len:∀vs H Q E,sp vs H Q E->vs.length=ps.length)
  (hbody:∀(cdv:Value) (A:Around) (outer:List Env) (s:Shared) (H:Hp) (vs:List V) (Q:VK) (E:XK),Room k (A.deeper (envOfC qual (dj st) s.heap.objs.size f cdv))->sp vs H Q E->
   ∃t,PSs (ag8 CX0 P w K mg base N qual (dj st) f cdv A outer s H E).nox (v5 st) t/\t {nx:=λ_ H'=>Q .non H',rt:=Q} (start N vs) H):FnOk P w K mg base CX0 (k+1) f fd ps sp:=by
 obtain⟨oc,od,kV,doc,pm,an,cdv,ct,osl,rfl,lk,hcd⟩:=F.ex;refine aw6 lk hcd S len λA outer s H vs Q E hr hsp=>?_;obtain⟨t,h,q⟩:=hbody cdv A outer s H vs Q E hr hsp;exact⟨t,h.nox,q⟩
theorem Fun.binds{x qual:Str}{st:Stmt}{f:Addr}{fd:FuncData}{ps:List Str}(F:Fun K x qual st f fd)
  (h:∀(kV doc pm:Value) (an:Option Addr) (cdv ct:Value) (us:List Value),us.length=ps.length->bindArgs (PySem.W.fnOf x qual (a0x st) (v5 st) (dj st) .none kV doc pm an cdv ct) ⟨us,[]⟩=pure (ps.zip us)):Binds K fd ps []:=by
 obtain⟨oc,od,kV,doc,pm,an,cdv,ct,osl,rfl,lk,hcd⟩:=F.ex;exact .all (h kV doc pm an cdv ct)
theorem aqb{x qual:Str}{st:Stmt}{f:Addr}{oc:Value}{od an:Option Addr}{osl:Array (Option Value)}{kV doc pm cdv ct:Value}(l:K.lookup f=some ⟨oc,od,.func (PySem.W.fnOf x qual (a0x st) (v5 st) (dj st) .none kV doc pm an cdv ct),osl⟩)
  (c:PySem.W.codeIn K cdv qual=true) (k:PySem.W.keepIn K (.ref f)=true):Fun K x qual st f (PySem.W.fnOf x qual (a0x st) (v5 st) (dj st) .none kV doc pm an cdv ct):=⟨⟨oc,od,kV,doc,pm,an,cdv,ct,osl,rfl,l,c⟩,k⟩
end
end L2
namespace L2
open PyProof.Rows
section
variable{prog:Program}{w:World}
abbrev iK(prog:Program)(w:World):=intKind prog w
def IsPK(prog:Program)(w:World)(h:Heap)(k:Int×List Int)(a:Addr):Prop :=
 ∃o n t b,h.get? a=some o/\o.cls=.type "tuple"/\o.data=.seq #[.int k.1 t,.ref b] n/\IsTupleKey (iK prog w) h k.2 b
def acs(prog:Program)(w:World)(k:Int×List Int):Int:=reduceHash (Builtin.Tuple.tupleHashOf [(iK prog w).hash k.1,tupleKeyHash (iK prog w) k.2])
variable{k:Int×List Int}{a b d:Addr}{h h':Heap}
theorem IsPK.ty{s:Shared}(x:IsPK prog w s.heap k a):s.TypeIs (.ref a) "tuple":=let ⟨o,_,_,_,e,c,_⟩:=x; ⟨o,e,c⟩
theorem IsPK.inj{x y:Int×List Int}(p:IsPK prog w h x a)(q:IsPK prog w h y a):x=y:=by
 obtain⟨o,n,t,b,e,c,dd,i⟩:=p;obtain⟨o',n',t',b',e',c',d',i'⟩:=q;rw[e]at e';cases e'
 rw[dd]at d'
 injection d' with z _
 have z:=aZ Array.toList z
 injection z with z1 z2
 injection z1 with z1 _
 injection z2 with z2 _
 injection z2 with z2
 subst z2;exact hW z1 (i.inj i')
theorem IsPK.keeps{o:Obj}{es ep}(x:IsPK prog w h k a)(ho:h.get? d=some o)(hd:o.data=.dict es ep)(hs:Heap.SameBut d h h'):IsPK prog w h' k a:=by
 obtain⟨o',n,t,b,e,c,dd,i⟩:=x;have ne:a≠d:=by
  rintro rfl
  rw[e]at ho;cases ho
  rw[dd]at hd;exact nomatch hd
 exact⟨o',n,t,b,(hs.2 a ne).trans e,c,dd,i.keeps ho hd hs⟩
variable{A:Around}{E:Value->Shared->Prop}{s:Shared}
theorem alu{Q:Int->Shared->Prop}(hu:A.units+1<cLine)(x:IsPK prog w s.heap k a)(q:Q (acs prog w k) {s with toks:=s.toks+(k.2.length+3)}):wpAny (model prog w) A (pyHash (.ref a)) Q E s:=by
 have hT:=x.ty;obtain⟨o,n,t,b,ho,_,hd,hi⟩:=x;unfold pyHash
 first|unfold pyHashByItsType|skip
 first|refine a8 (wpAny_cRoomFor_or (.inr (da hu)) ?_)|skip
 refine a8 (eG hT eW.lookup ?_);show wpAny _ _ (if (some (Value.builtin "tuple.__hash__") == some Value.none)=true then _ else _) Q E s
 rw[bg (by rw[beq_builtin_none];exact bo)]
 refine a8 (eG hT eW.lookup ?_);show wpAny _ _ (callSpecialIfBoundUnlessNone? (.ref a) "__hash__" _>>=_) Q E s;refine a8 (wpAny_callSpecialIfBoundUnlessNone?_slot hT eW (cV eW hT F.entry_tuple_hash ?_ (F.args_tuple_hash_1 _)));show wpAny _ _ (Builtin.Tuple.tupleItemsOf (.ref a)>>=_) _ _ s;refine a8 (fU ho hd ?_);refine a8 ?_;rw[<-eI];show wpAny _ _ (forIn [Value.int k.1 t,Value.ref b] _ _) _ _ s
 simp only[eJ,eh];refine a8 (a8 ((iK prog w).pyHash (k:=k.1) (by simp[iK,intKind,Value.isInt]) ?_))
 refine av ?_;refine a8 (a8 (wpAny_pyHash_tuple (knd:=iK prog w) (ks:=k.2) hu hi ?_));refine av (av ?_);have eq:((#[].push ((iK prog w).hash k.1)).push (tupleKeyHash (iK prog w) k.2)).toList=[(iK prog w).hash k.1,tupleKeyHash (iK prog w) k.2]:=rfl;rw[eq];unfold acs at q
 generalize Builtin.Tuple.tupleHashOf [(iK prog w).hash k.1,tupleKeyHash (iK prog w) k.2]=z at q
 refine gU ?_;show wpAny _ _ (if (decide (-(2:Int)^63<=z) && decide (z<2^63))=true then _ else _) Q E _
 unfold reduceHash at q
 by_cases hr:(decide (-(2:Int)^63<=z) && decide (z<2^63))=true
 ·rw[aQ hr];rw[aQ hr]at q;exact av (by simpa[fF,gT,Nat.add_left_comm] using q)
 ·rw[bg hr];rw[bg hr]at q;exact a8 (gE (av (by simpa[fF,gT,Nat.add_left_comm] using q)))
theorem aqc{x y:Int×List Int}{P:Fin->Shared->Prop}(hu:A.units<cLine)(hx:IsPK prog w s.heap x a)(hy:IsPK prog w s.heap y b)(h:P (.done (.ret (.bool (decide (x=y))))) s) :
  wpAny (model prog w) A (Builtin.«tuple.__eq__» ⟨[.ref a,.ref b],[]⟩) P E s:=by
 have hTb:=hy.ty;obtain⟨oa,na,ta,ba,hoa,_,hda,hia⟩:=hx;obtain⟨ob,nb,tb,bb,hob,_,hdb,hib⟩:=hy;show wpAny _ _ (isInstance (.ref b) (.type "tuple")>>=_) _ _ s;refine a8 (fw hTb fg ?_);simp only[cJ,bA,cM];refine a8 (fU hoa hda ?_);refine a8 (fU hob hdb ?_);show wpAny _ _ (forIn [(Value.int x.1 ta,Value.int y.1 tb),(Value.ref ba,Value.ref bb)] _ _>>=_) _ _ s;simp only[eJ,eh]
 refine a8 (a8 (a8 ((iK prog w).eqBool (a:=x.1) (b:=y.1) (by simp[iK,intKind,Value.isInt]) (by simp[iK,intKind,Value.isInt]) ?_)))
 by_cases e1:x.1=y.1
 ·rw[aS e1];simp only[cJ,bA,cM];refine av (a8 (a8 (wpAny_eqBool_tuple (knd:=iK prog w) hu hia hib ?_)))
  by_cases e2:x.2=y.2
  ·rw[aS e2];simp only[cJ,bA,cM];refine av (av (av ?_));rw[aS (hW e1 e2)]at h;exact h
  ·rw[aR e2];simp only[ei,cQ];rw[aR (λz=>e2 (aZ Prod.snd z))]at h;exact a8 (av (av (av (av h))))
 ·rw[aR e1];simp only[ei,cQ];rw[aR (λz=>e1 (aZ Prod.fst z))]at h;exact a8 (av (av (av (av h))))
theorem awb{x y:Int×List Int}{Q:Bool->Shared->Prop}(hu:A.units+1<cLine)(hx:IsPK prog w s.heap x a)(hy:IsPK prog w s.heap y b)(h:Q (decide (x=y)) s) :
  wpAny (model prog w) A (eqBool (.ref a) (.ref b)) Q E s:=by
 unfold eqBool
 try with_reducible refine cH ?_
 show wpAny _ _ (if (Value.ref a == Value.ref b)=true then _ else _) Q E s
 by_cases hab:(Value.ref a == Value.ref b)=true
 ·rw[aQ hab];have e:a=b:=by have:=eq_of_beq hab;injection this
  subst e;obtain rfl:=hx.inj hy;exact a8 (gE (av (by simpa using h)))
 ·rw[bg hab];exact a8 (wpAny_richCompare_same_room (op:=.Eq) hx.ty hy.ty fL
   (cV fL hx.ty F.entry_tuple_eq (aqc hu hx hy ⟨_,rfl,(λe=>nomatch e),cF h⟩) (F.args_tuple_eq_2 _ _)) (da hu))
theorem alv{ks:List Int}{Q:Bool->Shared->Prop}{n:Nat}(hk:IsTupleKey (iK prog w) s.heap ks a)(h:Q true s):wpAny (model prog w) A (eqIsQuiet (n+1) (.ref a)) Q E s:=by
 have hT:=hk.typeIs;obtain⟨o,aC,n,ho,_,hd,hi⟩:=hk;unfold eqIsQuiet;refine a8 (eG hT fL.lookup ?_);show wpAny _ _ (isInstance (.ref a) (.type "tuple")>>=_) _ _ s;refine a8 (fw hT fg ?_);simp only[cJ,bA,cM];refine a8 (dC ho hd ?_);refine a8 ?_;show wpAny _ _ (forIn aC _ _) _ _ s;rw[<-eI];refine wpAny_forIn_list _ (λaG r s'=>r.1=none/\s'=s/\∀v∈aG,carriedByValue v=true) _ ?_ ?_ _ _ ⟨rfl,rfl,hi.byValue⟩
 ·rintro v aG r s' ⟨hr,rfl,hall⟩
  rw[eqIsQuiet_byValue _ (hall v aP)];refine a8 (av ?_);simp only[cJ,bA,cM];exact av ⟨rfl,rfl,λu hu'=>hall u (ai _ hu')⟩
 ·rintro⟨r1,r2⟩ s' ⟨hr,rfl,_⟩
  simp only at hr;subst hr;exact av h
theorem agz{Q:Bool->Shared->Prop}(hk:IsPK prog w s.heap k a)(h:Q true s):wpAny (model prog w) A (eqIsQuiet 8 (.ref a)) Q E s:=by
 have hT:=hk.ty;obtain⟨o,n,t,b,ho,_,hd,hi⟩:=hk;unfold eqIsQuiet;refine a8 (eG hT fL.lookup ?_);show wpAny _ _ (isInstance (.ref a) (.type "tuple")>>=_) _ _ s;refine a8 (fw hT fg ?_);simp only[cJ,bA,cM];refine a8 (dC ho hd ?_);refine a8 ?_;rw[<-eI];show wpAny _ _ (forIn [Value.int k.1 t,Value.ref b] _ _) _ _ s;simp only[eJ,eh]
 rw[eqIsQuiet_byValue _ (show carriedByValue (Value.int k.1 t)=true from rfl)]
 refine a8 (a8 (av ?_));simp only[cJ,bA,cM];refine av (a8 (a8 (alv (n:=6) hi ?_)));simp only[cJ,bA,cM];exact av (av (av h))
def a75(prog:Program)(w:World):HeapKind prog w (Int×List Int) where
 is:=IsPK prog w
 hash:=acs prog w
 draws:=λk=>k.2.length+3
 room:=λA=>A.units+1<cLine
 inj:=λx y=>x.inj y
 keeps:=λx ho hd hs=>x.keeps ho hd hs
 pyHash:=λhu hk h=>alu hu hk h
 eqBool:=λhu hx hy h=>awb hu hx hy h
 quiet:=λhk h=>agz hk h
end
section
variable{κ:Type}[DecidableEq κ]
def a87(kvs:List (κ×V))(k:κ):Option V:=(kvs.find? λkv=>decide (kv.1=k)).map (·.2)
def putK(kvs:List (κ×V))(k:κ)(v:V):List (κ×V) :=
 if (kvs.any λkv=>decide (kv.1=k))=true then kvs.map (λkv=>if kv.1=k then (kv.1,v) else kv) else kvs++[(k,v)]
theorem a2n{p:κ×V}{r:List (κ×V)}{k:κ}(e:p.1=k):a87 (p::r) k=some p.2:=by simp[a87,cp,e]
theorem a2o{p:κ×V}{r:List (κ×V)}{k:κ}(e:¬ p.1=k):a87 (p::r) k=a87 r k:=by simp[a87,cp,e]
theorem a5j(k:κ):∀kvs:List (κ×V),(kvs.any λkv=>decide (kv.1=k))=(a87 kvs k).isSome
 |[]=>rfl
 |p::r=>by
  rw[dZ]
  by_cases e:p.1=k
  ·simp only[a2n e,aS e,Bool.true_or,Option.isSome_some]
  ·rw[a2o e,aR e,Bool.false_or];exact a5j k r
theorem ud(kvs:List (κ×V))(k:κ)(v:V):(putK kvs k v).length<=kvs.length+1:=by
 unfold putK
 split
 ·rw[a9];omega
 ·rw[ag,aW,bH];omega
theorem RelO.isSome_eq{o:Option V}{u:Option Value}(r:RelO o u):o.isSome=u.isSome:=by
 cases o with
 |none=>cases u with
  |none=>rfl
  |some _=>exact(show False from r).elim
 |some _=>cases u with
  |none=>exact(show False from r).elim
  |some _=>rfl
theorem KV.val{kvs:List (κ×V)}{vs:List (κ×Value)}(r:KV kvs vs)(k:κ):RelO (a87 kvs k) (valueAt vs k):=by
 unfold KV at r
 induction r with
 |nil=>exact True.intro
 |@cons p q ps qs h t ih =>
  obtain⟨h1,h2⟩:=h
  by_cases e:p.1=k
  ·have e':q.1=k:=h1.symm.trans e;have b:valueAt (q::qs) k=some q.2:=by simp[valueAt,cp,e']
   rw[a2n e,b];exact h2
  ·have e':¬ q.1=k:=λz=>e (h1.trans z);have b:valueAt (q::qs) k=valueAt qs k:=by simp[valueAt,cp,e']
   rw[a2o e,b];exact ih
theorem KV.any{kvs:List (κ×V)}{vs:List (κ×Value)}(r:KV kvs vs)(k:κ):(kvs.any λkv=>decide (kv.1=k))=vs.any λkv=>decide (kv.1=k):=by
 unfold KV at r
 induction r with
 |nil=>rfl
 |cons h t ih=>rw[dZ,dZ,ih,h.1]
theorem KV.repl{kvs:List (κ×V)}{vs:List (κ×Value)}(r:KV kvs vs)(k:κ){y:V}{u:Value}(ry:RelV y u) :
  KV (kvs.map λkv=>if kv.1=k then (kv.1,y) else kv) (vs.map λkv=>if kv.1=k then (kv.1,u) else kv):=by
 unfold KV at r ⊢
 induction r with
 |nil=>exact .nil
 |@cons p q ps qs h t ih =>
  rw[aK,aK];refine .cons ?_ ih;obtain⟨h1,h2⟩:=h
  by_cases e:p.1=k
  ·rw[aQ e,aQ (h1.symm.trans e)];exact⟨h1,ry⟩
  ·rw[bg e,bg (λz=>e (h1.trans z))];exact⟨h1,h2⟩
theorem KV.put{kvs:List (κ×V)}{vs:List (κ×Value)}(r:KV kvs vs)(k:κ){y:V}{u:Value}(ry:RelV y u):KV (putK kvs k y) (stored vs k u):=by
 unfold putK stored;rw[r.any k]
 by_cases e:(vs.any λkv=>decide (kv.1=k))=true
 ·rw[aQ e,aQ e];exact r.repl k ry
 ·rw[bg e,bg e];exact Paired.snoc r ⟨rfl,ry⟩
theorem KV.length{kvs:List (κ×V)}{vs:List (κ×Value)}(r:KV kvs vs):kvs.length=vs.length:=dB r
end
theorem a8h{P:Program}{w:World}{k:Key}{u:Value}(r:RelV (kV k) u):(ju P w).is k u=true:=by
 cases k with
 |inl i=>obtain⟨t,e⟩:=(show ∃t,u=Value.int i t from r);subst e;exact a89 P w i t
 |inr x=>obtain⟨t,e⟩:=(show ∃t,u=Value.str x t from r);subst e;exact a8a P w x t
theorem a76{P:Program}{w:World}:∀{ks:List Key} {us:List Value},Vals (ks.map kV) us->ItemsAre (ju P w) ks us
 |[],_,r=>by rw[bO]at r;cases r;exact .nil
 |k::ks,_,r=>by
  rw[aK]at r
  cases r with
  |cons h t=>exact .cons (a8h h) (a76 t)
abbrev KT(H:Hp):List (List Key×V)->List (List Key×Addr×Value)->Prop:=Paired λp q=>p.1=q.1/\H q.2.1=some (.tup (p.1.map kV))/\RelV p.2 q.2.2
theorem KT.val{H:Hp}{kvs:List (List Key×V)}{xs:List (List Key×Addr×Value)}(r:KT H kvs xs)(k:List Key):RelO (a87 kvs k) ((atKey xs k).map (·.2)):=by
 induction r with
 |nil=>exact True.intro
 |@cons p q ps qs h t ih =>
  obtain⟨h1,_,h2⟩:=h
  by_cases e:p.1=k
  ·have e':q.1=k:=h1.symm.trans e;have b:atKey (q::qs) k=some q.2:=by simp[atKey,cp,e']
   rw[a2n e,b];exact h2
  ·have e':¬ q.1=k:=λz=>e (h1.trans z);have b:atKey (q::qs) k=atKey qs k:=by simp[atKey,cp,e']
   rw[a2o e,b];exact ih
theorem KT.repl{H:Hp}{kvs:List (List Key×V)}{xs:List (List Key×Addr×Value)}(r:KT H kvs xs)(k:List Key){y:V}{u:Value}(ry:RelV y u) :
  KT H (kvs.map λkv=>if kv.1=k then (kv.1,y) else kv) (xs.map (putAt k u)):=by
 induction r with
 |nil=>exact .nil
 |@cons p q ps qs h t ih =>
  rw[aK,aK];refine .cons ?_ ih;obtain⟨h1,h2,h3⟩:=h;unfold putAt
  by_cases e:p.1=k
  ·rw[aQ e,aQ (h1.symm.trans e)];exact⟨h1,h2,ry⟩
  ·rw[bg e,bg (λz=>e (h1.trans z))];exact⟨h1,h2,h3⟩
theorem KT.put{H:Hp}{kvs:List (List Key×V)}{xs:List (List Key×Addr×Value)}(r:KT H kvs xs)(k:List Key){b:Addr}{y:V}{u:Value}(hb:H b=some (.tup (k.map kV)))(ry:RelV y u) :
  KT H (putK kvs k y) (storedH xs k b u):=by
 have e:(kvs.any λkv=>decide (kv.1=k))=(atKey xs k).isSome:=by
  rw[a5j,(r.val k).isSome_eq,eX]
 unfold putK storedH;rw[e]
 by_cases q:(atKey xs k).isSome=true
 ·rw[aQ q,aQ q];exact r.repl k ry
 ·rw[bg q,bg q];exact Paired.snoc r ⟨rfl,hb,ry⟩
theorem KT.keeps{H H':Hp}{kvs:List (List Key×V)}{xs:List (List Key×Addr×Value)}(r:KT H kvs xs)(ht:∀b ys,H b=some (.tup ys)->H' b=some (.tup ys)):KT H' kvs xs :=
 Paired.mapP r λ_ _ z=>⟨z.1,ht _ _ z.2.1,z.2.2⟩
section
variable{P:Program}{w:World}{H:Hp}{h:Heap}{a:Addr}
theorem aqd{u:HO}(ok:HOk P w H h)(e:Rd H a u):ObjOk P w H h a u:=e.ok ok
theorem acu{kvs:List (Key×V)}(ok:HOk P w H h)(e:Rd H a (.dK kvs)):kvs.length<=sizeLine/\(a == sysModules)=false/\∃vs,KV kvs vs/\h.DictOf (ju P w) a vs :=
 show ObjOk P w H h a (.dK kvs) from aqd ok e
theorem acv{kvs:List (Key×V)}(ok:HOk P w H h)(e:H a=some (.dK kvs)):kvs.length<=sizeLine/\(a == sysModules)=false/\∃vs,KV kvs vs/\h.DictOf (ju P w) a vs:=acu ok (.inl e)
theorem a77{ks:List Key}(ok:HOk P w H h)(e:H a=some (.tup (ks.map kV))):(tupleKind (ju P w)).is h ks a:=by
 obtain⟨_,its,r,o,h1,h2,n,h3⟩:=(show ObjOk P w H h a (.tup (ks.map kV)) from ok a _ e)
 exact⟨o,its.toArray,n,h1,h2.1,h3,by simpa using a76 r⟩
theorem acw{kvs:List (List Key×V)}(ok:HOk P w H h)(e:Rd H a (.dT kvs)):kvs.length<=sizeLine/\(a == sysModules)=false /\
  ∃xs,KT H kvs xs/\h.DictOfH (tupleKind (ju P w)) a xs:=by
 obtain⟨z,y,xs,r,o,es,ep,h1,h2,h3,h4,h5⟩:=(show ObjOk P w H h a (.dT kvs) from aqd ok e)
 refine⟨z,y,xs,r,o,es,ep,h1,h2,h3,h4,λx hx=>?_,h5⟩;have all:∀{l:List (List Key×V)} {m:List (List Key×Addr×Value)},KT H l m->∀x∈m,(tupleKind (ju P w)).is h x.1 x.2.1:=by
  intro l m q
  induction q with
  |nil=>intro x hx;exact nomatch hx
  |@cons p q ps qs hq t ih =>
   intro x hx
   rcases ay.mp hx with e|hx
   ·subst e;exact a77 ok (by rw[<-hq.1];exact hq.2.1)
   ·exact ih x hx
 exact all r x hx
theorem aqe{kvs:List (List Key×V)}(ok:HOk P w H h)(e:H a=some (.dT kvs)):kvs.length<=sizeLine/\(a == sysModules)=false /\
  ∃xs,KT H kvs xs/\h.DictOfH (tupleKind (ju P w)) a xs:=acw ok (.inl e)
end
def pkH(k:Int×List Int):Int:=reduceHash (Builtin.Tuple.tupleHashOf [hashInt k.1,reduceHash (Builtin.Tuple.tupleHashOf (k.2.map hashInt))])
abbrev NE:=(Int×List Int)×Addr×V
abbrev NX:=(Int×List Int)×Addr×Value
def aze(x:NX):DictEntry:=⟨pkH x.1,.ref x.2.1,x.2.2⟩
def NEX(e:NE)(x:NX):Prop:=e.1=x.1/\e.2.1=x.2.1/\RelV e.2.2 x.2.2
def dAt(a:Addr)(ent:List NE):Heap->Prop:=λh=>(a == sysModules)=false/\∃xs:List NX,Paired NEX ent xs/\∃o es ep,h.get? a=some o/\o.ExactDict/\o.data=.dict es ep/\es.toList=xs.map aze
def NKey(H:Hp)(b:Addr)(k:Int×List Int):Prop:=∃c,H b=some (.tup [.int k.1,.ref c])/\H c=some (.tup (k.2.map V.int))
structure NDict (H:Hp) (a:Addr) (ent:List NE):Prop where
 has:H a=some (.ext (dAt a ent))
 keys:∀e∈ent,NKey H e.2.1 e.1
 nd:(ent.map (·.1)).Nodup
 len:ent.length<=sizeLine
def NDE(H:Hp)(a:Addr)(ent:List NE):Prop:=(NDict H a ent/\ent≠[])\/(H a=some (.dK [])/\ent=[])
def a3e(ent:List NE):List ((Int×List Int)×V):=ent.map λe=>(e.1,e.2.2)
def wg(ent:List NE)(k:Int×List Int)(b:Addr)(v:V):List NE :=
 if (ent.any λe=>decide (e.1=k))=true then ent.map λe=>if e.1=k then (e.1,e.2.1,v) else e else ent++[(k,b,v)]
section
variable{P:Program}{w:World}{H:Hp}{h:Heap}{a:Addr}
theorem a9g:∀{ks:List Int} {us:List Value},Vals (ks.map V.int) us->ItemsAre (intKind P w) ks us
 |[],_,r=>by cases r;exact .nil
 |k::ks,_,r=>by
  cases r with
  |cons h t=>obtain⟨z,rfl⟩:=(show ∃t,_=Value.int k t from h);exact .cons (by simp[intKind,Value.isInt]) (a9g t)
theorem NKey.is{k:Int×List Int}(ok:HOk P w H h)(e:NKey H a k):IsPK P w h k a:=by
 obtain⟨c,e1,e2⟩:=e;obtain⟨_,its,r,o,h1,h2,n,h3⟩:=(show ObjOk P w H h a (.tup [.int k.1,.ref c]) from ok a _ e1)
 obtain⟨_,its2,r2,o2,g1,g2,n2,g3⟩:=(show ObjOk P w H h c (.tup (k.2.map V.int)) from ok c _ e2)
 cases r with
 |cons ra t =>
  cases t with
  |cons rb t =>
   cases t
   obtain⟨t,rfl⟩:=(show ∃t,_=Value.int k.1 t from ra)
   cases (show _=Value.ref c from rb)
   exact⟨o,n,t,c,h1,h2.1,h3,o2,its2.toArray,n2,g1,g2.1,g3,by simpa using a9g r2⟩
theorem NKey.keeps{H':Hp}{k:Int×List Int}(e:NKey H a k)(ht:∀b ys,H b=some (.tup ys)->H' b=some (.tup ys)):NKey H' a k:=let ⟨c,e1,e2⟩:=e; ⟨c,ht _ _ e1,ht _ _ e2⟩
theorem aav{ent:List NE}(ok:HOk P w H h)(e:NDE H a ent):ent.length<=sizeLine/\(a == sysModules)=false/\∃xs,Paired NEX ent xs/\h.DictOfH (a75 P w) a xs:=by
 rcases e with⟨e,_⟩|⟨e,rfl⟩
 ·obtain⟨⟨sy,xs,r,o,es,ep,h1,h2,h3,h4⟩,_⟩:=(show ObjOk P w H h a (.ext (dAt a ent)) from ok a _ e.has)
  refine⟨e.len,sy,xs,r,o,es,ep,h1,h2,h3,h4,λx hx=>?_,?_⟩
  ·have all:∀{l:List NE} {m:List NX},Paired NEX l m->(∀e∈l,NKey H e.2.1 e.1)->∀x∈m,IsPK P w h x.1 x.2.1:=by
    intro l m q
    induction q with
    |nil=>intro _ x hx;exact nomatch hx
    |@cons p q ps qs hq t ih =>
     intro hk x hx
     rcases ay.mp hx with e|hx
     ·subst e;have:=(hk p aP).is ok;rw[hq.1,hq.2.1]at this;exact this
     ·exact ih (λe he=>hk e (ai _ he)) x hx
   exact all r e.keys x hx
  ·have ke:∀{l:List NE} {m:List NX},Paired NEX l m->m.map (·.1)=l.map (·.1):=by
    intro l m q
    induction q with
    |nil=>rfl
    |cons hq t ih=>rw[aK,aK,ih,hq.1]
   rw[ke r];exact e.nd
 ·obtain⟨z,hd,vs,rel,o,es,ep,h1,h2,h3,_,h5,_⟩:=acv ok e;cases rel
  refine⟨bU _,hd,[],.nil,o,es,ep,h1,h2,h3,?_,λ_ hx=>by simp at hx,cG⟩
  cases q:es.toList with
  |nil=>rfl
  |cons x l=>rw[q]at h5;cases h5
theorem NDE.keeps{H':Hp}{ent:List NE}(e:NDE H a ent)(ea:H' a=H a)(ht:∀b ys,H b=some (.tup ys)->H' b=some (.tup ys)):NDE H' a ent:=by
 rcases e with⟨e,z⟩|⟨e,r⟩
 ·exact .inl ⟨⟨by rw[ea];exact e.has,λx hx=>(e.keys x hx).keeps ht,e.nd,e.len⟩,z⟩
 ·exact .inr ⟨by rw[ea];exact e,r⟩
theorem NDE.nd{ent:List NE}(e:NDE H a ent):(ent.map (·.1)).Nodup:=by
 rcases e with⟨e,_⟩|⟨_,rfl⟩
 ·exact e.nd
 ·exact cG
theorem NDE.keys{ent:List NE}(e:NDE H a ent):∀x∈ent,NKey H x.2.1 x.1:=by
 rcases e with⟨e,_⟩|⟨_,rfl⟩
 ·exact e.keys
 ·intro x hx;exact nomatch hx
theorem acx{ent:List NE}{xs:List NX}(r:Paired NEX ent xs)(k:Int×List Int):RelO (a87 (a3e ent) k) ((atKey xs k).map (·.2)):=by
 unfold a3e
 induction r with
 |nil=>exact True.intro
 |@cons p q ps qs h t ih =>
  obtain⟨h1,_,h2⟩:=h;rw[aK]
  by_cases e:p.1=k
  ·have e':q.1=k:=h1.symm.trans e;have b:atKey (q::qs) k=some q.2:=by simp[atKey,cp,e']
   rw[a2n (show((p.1,p.2.2):(Int×List Int)×V).1=k from e),b];exact h2
  ·have e':¬ q.1=k:=λz=>e (h1.trans z);have b:atKey (q::qs) k=atKey qs k:=by simp[atKey,cp,e']
   rw[a2o (show ¬ ((p.1,p.2.2):(Int×List Int)×V).1=k from e),b];exact ih
theorem aqf{ent:List NE}{xs:List NX}(r:Paired NEX ent xs)(k:Int×List Int):(ent.any λe=>decide (e.1=k))=(atKey xs k).isSome:=by
 have:=(acx r k).isSome_eq
 rw[eX]at this;rw[<-this,<-a5j];unfold a3e;rw[fV];rfl
theorem ajn{ent:List NE}{xs:List NX}(r:Paired NEX ent xs)(k:Int×List Int)(b:Addr){v:V}{u:Value}(rv:RelV v u):Paired NEX (wg ent k b v) (storedH xs k b u):=by
 unfold wg storedH;rw[aqf r k]
 by_cases q:(atKey xs k).isSome=true
 ·rw[aQ q,aQ q]
  clear q
  induction r with
  |nil=>exact .nil
  |@cons p q ps qs h t ih =>
   rw[aK,aK];refine .cons ?_ ih;obtain⟨h1,h2,h3⟩:=h;unfold putAt
   by_cases e:p.1=k
   ·rw[aQ e,aQ (h1.symm.trans e)];exact⟨h1,h2,rv⟩
   ·rw[bg e,bg (λz=>e (h1.trans z))];exact⟨h1,h2,h3⟩
 ·rw[bg q,bg q];exact Paired.snoc r ⟨rfl,rfl,rv⟩
theorem aaw(ent:List NE)(k:Int×List Int)(b:Addr)(v:V):(wg ent k b v).length<=ent.length+1:=by
 unfold wg;split
 ·rw[a9];omega
 ·rw[ag];exact ah _
theorem acy(ent:List NE)(k:Int×List Int)(b:Addr)(v:V):wg ent k b v≠[]:=by
 unfold wg;split
 ·rename_i q
  intro z
  rw[fM]at z;rw[z]at q;cases q
 ·simp
theorem aax{ent:List NE}{k:Int×List Int}{b:Addr}{v:V}{x:NE}(hx:x∈wg ent k b v):(∃y∈ent,x.1=y.1/\x.2.1=y.2.1)\/(x.1=k/\x.2.1=b):=by
 unfold wg at hx;split at hx
 ·obtain⟨y,hy,rfl⟩:=aE.mp hx;exact .inl ⟨y,hy,by split<;>exact⟨rfl,rfl⟩⟩
 ·rcases bB.mp hx with hx|hx
  ·exact .inl ⟨x,hx,rfl,rfl⟩
  ·rw[aI.mp hx];exact .inr ⟨rfl,rfl⟩
theorem acz(ent:List NE)(k:Int×List Int)(b:Addr)(v:V):a3e (wg ent k b v)=putK (a3e ent) k v:=by
 unfold wg putK a3e;have e:((ent.map λe:NE=>(e.1,e.2.2)).any λkv=>decide (kv.1=k))=ent.any λe=>decide (e.1=k):=by rw[fV];rfl
 rw[e]
 split
 ·rw[aV,aV];refine bV λx _=>?_;show((if x.1=k then (x.1,x.2.1,v) else x).1,(if x.1=k then (x.1,x.2.1,v) else x).2.2)=if x.1=k then (x.1,v) else (x.1,x.2.2)
  split<;>rfl
 ·rw[bC];rfl
theorem ad0{ent:List NE}(nd:(ent.map (·.1)).Nodup)(k:Int×List Int)(b:Addr)(v:V):((wg ent k b v).map (·.1)).Nodup:=by
 unfold wg;split
 ·rw[aV,show((λx:NE=>x.1) ∘ λe:NE=>if e.1=k then (e.1,e.2.1,v) else e)=λx=>x.1 from funext λe=>by show(if e.1=k then (e.1,e.2.1,v) else e).1=e.1;split<;>rfl]
  exact nd
 ·rename_i q;rw[bC,bD];refine⟨nd,by simp,λx hx y hy z=>q ?_⟩
  obtain⟨e,he,rfl⟩:=aE.mp hx;rw[aK,bO,aI]at hy;exact dQ.mpr ⟨e,he,aS (z.trans hy)⟩
end
def alw(H:Hp)(a:Addr)(y:V)(r:Option V):Prop :=
 (∃kvs k,Rd H a (.dK kvs)/\y=kV k/\r=a87 kvs k)\/(∃kvs k b,Rd H a (.dT kvs)/\y=.ref b/\H b=some (.tup (k.map kV))/\r=a87 kvs k)\/∃ent k b,NDE H a ent/\y=.ref b/\NKey H b k/\r=a87 (a3e ent) k
def aqg(H:Hp)(a:Addr)(y v:V)(H':Hp):Prop :=
 (∃kvs k,H a=some (.dK kvs)/\y=kV k/\kvs.length<sizeLine/\H'=upd H a (.dK (putK kvs k v))) \/
 (∃kvs k b,H a=some (.dT kvs)/\y=.ref b/\H b=some (.tup (k.map kV))/\kvs.length<sizeLine/\H'=upd H a (.dT (putK kvs k v))) \/
 ∃ent k b,NDE H a ent/\y=.ref b/\NKey H b k/\ent.length<sizeLine/\H'=upd H a (.ext (dAt a (wg ent k b v)))
section
variable{X:Cx}{aA:List (Addr×Obj)}{σ:St}{H:Hp}{s:Shared}{a:Addr}{y v:V}{u r:Value}{o:Option V}{A:Around}{E:Value->Shared->Prop}
theorem Inv.big(I:Inv X aA σ H s):sysModules<s.heap.objs.size:=by
 have h:mainGlobals<s.heap.objs.size:=(I.mod.glob.keeps I.bk).lt;exact Nat.lt_trans (by decide) h
theorem ad1{Q:Value->Shared->Prop}(hu:A.units+2<cLine)(I:Inv X aA σ H s)(g:alw H a y (some v))(ry:RelV y u)(h:∀w' s',Inv X aA σ H s'->RelV v w'->Q w' s') :
  wpAny (model X.prog X.w) A (getItem (.ref a) u) Q E s:=by
 rcases g with⟨kvs,k,e,ey,l⟩|⟨kvs,k,b,e,ey,eb,l⟩|⟨ent,k,b,e,ey,eb,l⟩
 ·subst ey;obtain⟨z,hd,vs,rel,dd⟩:=acu I.hok e;obtain⟨w',hw,rw'⟩:=RelO.some_of (v:=v) (o:=valueAt vs k) (by rw[l];exact rel.val k)
  exact wpAny_getItem_of (a8h ry) dd.mapOf hw (h w' _ (I.tok _) rw')
 ·subst ey
  cases (show u=Value.ref b from ry)
  obtain⟨z,hd,xs,rel,dd⟩:=acw I.hok e;obtain⟨w',hw,rw'⟩:=RelO.some_of (v:=v) (o:=(atKey xs k).map (·.2)) (by rw[l];exact rel.val k)
  obtain⟨p,hp,hp2⟩:=aL.mp hw;refine wpAny_getItem_heap (fW (da hu)) (a77 I.hok eb) dd hp ?_;rw[hp2];exact h w' _ (I.tok _) rw'
 ·subst ey
  cases (show u=Value.ref b from ry)
  obtain⟨z,hd,xs,rel,dd⟩:=aav I.hok e;obtain⟨w',hw,rw'⟩:=RelO.some_of (v:=v) (o:=(atKey xs k).map (·.2)) (by rw[l];exact acx rel k)
  obtain⟨p,hp,hp2⟩:=aL.mp hw;refine wpAny_getItem_heap (knd:=a75 X.prog X.w) hu (eb.is I.hok) dd hp ?_;rw[hp2];exact h w' _ (I.tok _) rw'
theorem alx{Q:Value->Shared->Prop}(hu:A.units+2<cLine)(I:Inv X aA σ H s)(g:alw H a y o)(ry:RelV y u)(h:∀s',Inv X aA σ H s'->Q (.bool (!o.isSome)) s') :
  wpAny (model X.prog X.w) A (compareOp .NotIn u (.ref a)) Q E s:=by
 rcases g with⟨kvs,k,e,ey,l⟩|⟨kvs,k,b,e,ey,eb,l⟩|⟨ent,k,b,e,ey,eb,l⟩
 ·subst ey;obtain⟨z,hd,vs,rel,dd⟩:=acu I.hok e;refine wpAny_notIn_of (a8h ry) hd dd.mapOf ?_;rw[<-(rel.val k).isSome_eq,<-l];exact h _ (I.tok _)
 ·subst ey
  cases (show u=Value.ref b from ry)
  obtain⟨z,hd,xs,rel,dd⟩:=acw I.hok e;refine wpAny_notIn_heap (fW (da hu)) (a77 I.hok eb) hd dd ?_;have q:=(rel.val k).isSome_eq;rw[eX]at q;rw[<-q,<-l];exact h _ (I.tok _)
 ·subst ey
  cases (show u=Value.ref b from ry)
  obtain⟨z,hd,xs,rel,dd⟩:=aav I.hok e;refine wpAny_notIn_heap (knd:=a75 X.prog X.w) hu (eb.is I.hok) hd dd ?_;have q:=(acx rel k).isSome_eq;rw[eX]at q;rw[<-q,<-l];exact h _ (I.tok _)
theorem a07{h':Heap}{t':Nat}{ob:HO}(I:Inv X aA σ H s)(mu:Mut (H a))(hs:Heap.SameBut a s.heap h')(he:∃q,h'.get? a=some q)(new:ObjOk X.prog X.w (upd H a ob) h' a ob) :
  Inv X aA σ (upd H a ob) {s with heap:=h',toks:=t' } :=
 I.write (x:=a) (e:=a) mu (.inl rfl) (λb q hb z=>(hs.2 b hb).trans z) he new
theorem a9h{P:Program}{w:World}{H':Hp}{h':Heap}{kvs:List (Key×V)}{vs:List (Key×Value)}(z:kvs.length<=sizeLine)(hd:(a == sysModules)=false)(rel:KV kvs vs)(dd:h'.DictOf (ju P w) a vs) :
  ObjOk P w H' h' a (.dK kvs):=⟨z,hd,vs,rel,dd⟩
theorem ad2{H':Hp}{Q:Unit->Shared->Prop}(hu:A.units+2<cLine)(I:Inv X aA σ H s)(g:aqg H a y v H')(ry:RelV y u)(rv:RelV v r)(h:∀s',Inv X aA σ H' s'->Q () s') :
  wpAny (model X.prog X.w) A (setItem (.ref a) u r) Q E s:=by
 rcases g with⟨kvs,k,e,ey,l,eH⟩|⟨kvs,k,b,e,ey,eb,l,eH⟩|⟨ent,k,b,e,ey,eb,l,eH⟩
 ·subst ey eH;obtain⟨z,hd,vs,rel,dd⟩:=acv I.hok e;have hz:vs.length<=sizeLine:=by rw[<-rel.length];exact z
  have hl:(putK kvs k v).length<=sizeLine:=by have:=ud kvs k v;omega
  refine wpAny_setItem_pairs (hsz:=hz) (a8h ry) dd λh' dd' hs=>h _ ?_;have he:∃q,h'.get? a=some q:=let ⟨q,_,_,hq,_⟩:=dd'; ⟨q,hq⟩;exact a07 I (by rw[e];exact True.intro) hs he (a9h hl hd (rel.put k rv) dd')
 ·subst ey eH
  cases (show u=Value.ref b from ry)
  obtain⟨z,hd,xs,rel,dd⟩:=aqe I.hok e;have hz:xs.length<=sizeLine:=by rw[<-dB rel];exact z
  have hl:(putK kvs k v).length<=sizeLine:=by have:=ud kvs k v;omega
  refine wpAny_setItem_heap (hsz:=hz) (fW (da hu)) (a77 I.hok eb) dd λh' dd' hs=>h _ ?_;obtain⟨q,es,ep,hq,h2,h3,h4,_,h5⟩:=dd';refine a07 I (by rw[e];exact True.intro) hs ⟨q,hq⟩ ⟨hl,hd,_,(rel.put k eb rv).keeps λc ys ec=>?_,q,es,ep,hq,h2,h3,h4,h5⟩
  rw[bu (ap9 ec e (λz=>nomatch z))];exact ec
 ·subst ey eH
  cases (show u=Value.ref b from ry)
  obtain⟨z,hd,xs,rel,dd⟩:=aav I.hok e;have hz:xs.length<=sizeLine:=by rw[<-dB rel];exact z
  refine wpAny_setItem_heap (knd:=a75 X.prog X.w) (hsz:=hz) hu (eb.is I.hok) dd λh' dd' hs=>h _ ?_;obtain⟨q,es,ep,hq,h2,h3,h4,_,h5⟩:=dd';have mu:Mut (H a):=by
   rcases e with⟨e,_⟩|⟨e,_⟩
   ·rw[e.has];exact True.intro
   ·rw[e];exact True.intro
  exact a07 I mu hs ⟨q,hq⟩ ⟨⟨hd,_,ajn rel k b rv,q,es,ep,hq,h2,h3,h4⟩,⟨q,hq⟩,λh1 h2 ⟨sy,xs,r,o,es,ep,e1,e2,e3,e4⟩ kk=>⟨sy,xs,r,o,es,ep,kk o e1,e2,e3,e4⟩⟩
end
section
variable{X:Cx}{aA:List (Addr×Obj)}{σ:St}{H:Hp}{s:Shared}{a:Addr}{kvs:List (Key×V)}{k:Key}{u:Value}{A:Around}{E:Value->Shared->Prop}
theorem aqh{Q:Value->Shared->Prop}(I:Inv X aA σ H s)(e:Rd H a (.dK kvs))(h:∀t s',Inv X aA σ H s'->Q (.int kvs.length t) s'):wpAny (model X.prog X.w) A (call (.builtin "len") [.ref a]) Q E s:=by
 obtain⟨z,hd,vs,rel,dd⟩:=acu I.hok e;refine call_len_dict hd dd (by rw[<-rel.length];rw[eC]at z;omega) ?_
 rw[<-rel.length];exact h _ _ (I.tok _)
end
def awc(i:Expr):Prop:=∀ov iv,subscripted i false ov iv=operate [ov,iv] (getItem ov iv)
theorem aly{prog:Program}{w:World}{A:Around}{E:Value->Shared->Prop}{s:Shared}{env:Env}{value slice:Expr}{pos:Pos}{T id:String}{Q:Value->Shared->Prop}
  (hl:typeLookup (.type T) "__getitem__" = pure (some (.builtin id))) (hs:awc slice)
  (h:wpAny (model prog w) A (eval value env) (λo s₁=>wpAny (model prog w) A (eval slice env) (λi s₂=>s₂.TypeIs o T/\wpAny (model prog w) A (getItem o i) Q E s₂) E s₁) E s) :
  wpAny (model prog w) A (eval (.Subscript value slice pos) env) Q E s:=by
 refine Subscript_ (cT h (λo s₁ h₁=>cT h₁ (λi s₂ h₂=>?_) λ_ _ x=>x) λ_ _ x=>x);obtain⟨hT,h₂⟩:=h₂;unfold subscriptTail;refine a8 ?_;rw[getitemInPython_of_ne hT.not_modules];refine a8 (eG hT hl ?_);have fin:wpAny (model prog w) A (subscripted slice false o i) (λr s₃=>wpAny (model prog w) A (letTemporaryGo value o r>>=λ_=>pure r) Q E s₃) E s₂:=by
  rw[hs o i];exact wpAny_operating (cT h₂ (λr s₃ h₃=>a8 (wpAny_letTemporaryGo (av h₃))) λ_ _ x=>x)
 first
  |exact av (a8 fin)
  |exact a8 (av (a8 fin))
  |exact a8 fin
theorem a8i{X:Cx}{aA:List (Addr×Obj)}{σ:St}{H:Hp}{s:Shared}{a:Addr}{y:V}{o:Option V}(I:Inv X aA σ H s)(g:alw H a y o):s.TypeIs (.ref a) "dict":=by
 rcases g with⟨kvs,k,e,_,_⟩|⟨kvs,k,b,e,_,_,_⟩|⟨ent,k,b,e,_,_,_⟩
 ·obtain⟨_,_,vs,_,dd⟩:=acu I.hok e;exact dd.typeIs
 ·obtain⟨_,_,xs,_,dd⟩:=acw I.hok e;exact dd.typeIs
 ·obtain⟨_,_,xs,_,dd⟩:=aav I.hok e;exact dd.typeIs
def awd(td ty:TE):TE:=λσ H Q=>td σ H λx H1=>ty σ H1 λy H2=>∃a v,x=.ref a/\alw H2 a y (some v)/\Q v H2
def awe(td ty tv:TE):TS:=λD σ H=>tv σ H λv H1=>td σ H1 λx H2=>ty σ H2 λy H3=>∃a H4,x=.ref a/\aqg H3 a y v H4/\D.nx σ H4
section
variable{X:Cx}{o i e value:Expr}{pos pos' tpos:Pos}{td ty tv:TE}
theorem alz(hu:X.A.units+2<cLine)(ho:PE X o td)(hi:PE X i ty)(hs:awc i):PE X (.Subscript o i pos) (awd td ty):=by
 intro aA s σ H Q I h
 refine aly PySem.F.slot_dict_getitem.lookup hs (thn (ho aA s σ H _ I h) λu s1 ⟨x,H1,I1,rx,q1⟩=>thn (hi aA s1 σ H1 _ I1 q1) λiv s2 ⟨y,H2,I2,ry,a,v,ex,g,q2⟩=>?_);subst ex;obtain rfl:u=Value.ref a:=rx;exact⟨a8i I2 g,ad1 hu I2 g ry λw' s3 I3 rw'=>⟨v,H2,I3,rw',q2⟩⟩
theorem am0(hu:X.A.units+2<cLine)(ho:PE X o td)(hi:PE X i ty)(hv:PE X value tv)(hs:swapsWith value (some (.Subscript o i pos')) pos.line X.env=pure false) :
  PS X (.Assign [.Subscript o i pos'] value pos) (awe td ty tv):=by
 intro aA s σ H D I h
 refine wpAny_Assign_Subscript (thn (hv aA s σ H _ I h) λr s1 ⟨v,H1,I1,rv,q1⟩=>thn (ho aA s1 σ H1 _ I1 q1) λu s2 ⟨x,H2,I2,rx,q2⟩=>thn (hi aA s2 σ H2 _ I2 q2) λiv s3 ⟨y,H3,I3,ry,a,H4,ex,g,q3⟩=>?_) hs;subst ex;obtain rfl:u=Value.ref a:=rx;exact ad2 hu I3 g ry rv λs4 I4=>⟨σ,H4,I4,q3⟩
end
theorem a5k{P:Program}{w:World}{H:Hp}(h:Heap)(hb:sysModules<h.objs.size):ObjOk P w H (h.push {cls:=.type "dict",data:=.dict #[]}) h.objs.size (.dK []) :=
 ⟨bU _,bT.mpr (fI (bM hb)),[],.nil,Heap.DictOf.new h⟩
theorem a9i{P:Program}{w:World}{H:Hp}(h:Heap)(hb:sysModules<h.objs.size):ObjOk P w H (h.push {cls:=.type "dict",data:=.dict #[]}) h.objs.size (.dT []) :=
 ⟨bU _,bT.mpr (fI (bM hb)),[],.nil,_, #[],0,aT _ rfl,⟨rfl,rfl,rfl⟩,rfl,rfl,cG⟩
def aqi:TE:=λ_ H Q=>∀p,H p=none->Q (.ref p) (upd H p (.dK []))
def aqj:TE:=λ_ H Q=>∀p,H p=none->Q (.ref p) (upd H p (.dT []))
section
variable{X:Cx}{pos:Pos}
theorem ah0:PE X (.Dict [] [] pos) aqi:=λaA s σ H Q I h =>
 wpAny_Dict_empty ⟨.ref s.heap.objs.size,_,I.laid (a:=s.heap.objs.size) (o:=.dK []) (t':=s.toks) (λ_ _ q=>af _ q) (ah _) (a5k s.heap I.big),rfl,h _ (I.hok.fresh (ah _))⟩
theorem ah1:PE X (.Dict [] [] pos) aqj:=λaA s σ H Q I h =>
 wpAny_Dict_empty ⟨.ref s.heap.objs.size,_,I.laid (a:=s.heap.objs.size) (o:=.dT []) (t':=s.toks) (λ_ _ q=>af _ q) (ah _) (a9i s.heap I.big),rfl,h _ (I.hok.fresh (ah _))⟩
end
def ad3:List (TE×TE)->St->Hp->(List (V×V)->Hp->Prop)->Prop
 |[],_,H,Q=>Q [] H
 |(tk,tv)::r,σ,H,Q=>tk σ H λx H1=>tv σ H1 λy H2=>ad3 r σ H2 λps H3=>Q ((x,y)::ps) H3
abbrev VV:List (V×V)->List (Value×Value)->Prop:=Paired λp q=>RelV p.1 q.1/\RelV p.2 q.2
def PPs(X:Cx)(pos:Pos)(keys:List (Option Expr))(values:List Expr)(trs:List (TE×TE)):Prop :=
 ∀(aA:List (Addr×Obj)) (s:Shared) (σ:St) (H:Hp) (Q:List (V×V)->Hp->Prop),Inv X aA σ H s->ad3 trs σ H Q->
  wpAny (model X.prog X.w) X.A (evalPairs (pairTrees keys values X.env pos)) (λvs s'=>∃ps H',Inv X aA σ H' s'/\VV ps vs/\Q ps H') X.xe s
theorem am1{X:Cx}{pos:Pos}:PPs X pos [] [] []:=λaA s σ H Q I h=>pairTrees_nil_walk ⟨[],H,I,.nil,h⟩
theorem ah2{X:Cx}{pos:Pos}{k v:Expr}{ks:List (Option Expr)}{vs:List Expr}{tk tv:TE}{trs:List (TE×TE)}(hk:PE X k tk)(hv:PE X v tv)(hr:PPs X pos ks vs trs) :
  PPs X pos (some k::ks) (v::vs) ((tk,tv)::trs):=λaA s σ H Q I h =>
 pairTrees_cons_walk (thn (hk aA s σ H _ I h) λu s1 ⟨x,H1,I1,rx,q1⟩=>thn (hv aA s1 σ H1 _ I1 q1) λw2 s2 ⟨y,H2,I2,ry,q2⟩ =>
  thn (hr aA s2 σ H2 _ I2 q2) λws s3 ⟨ps,H3,I3,rel,q3⟩=>⟨(x,y)::ps,H3,I3,.cons ⟨rx,ry⟩ rel,q3⟩)
def a78(kvs more:List (Key×V)):List (Key×V):=more.foldl (λacc kv=>putK acc kv.1 kv.2) kvs
theorem KV.merge:∀{more:List (Key×V)} {rs:List (Key×Value)} {kvs:List (Key×V)} {vs:List (Key×Value)},KV more rs->KV kvs vs->KV (a78 kvs more) (merged vs rs):=by
 intro more rs kvs vs r
 unfold KV at r
 induction r generalizing kvs vs with
 |nil=>intro q;exact q
 |@cons p q ps qs h t ih =>
  intro r0
  have e:KV (putK kvs p.1 p.2) (stored vs q.1 q.2):=by
   have:=r0.put p.1 h.2
   rw[<-h.1];exact this
  exact ih e
theorem a1j:∀(more kvs:List (Key×V)),(a78 kvs more).length<=kvs.length+more.length
 |[],kvs=>by show kvs.length<=kvs.length+0;omega
 |p::r,kvs=>by
  have h1:=a1j r (putK kvs p.1 p.2);have h2:=ud kvs p.1 p.2;show(a78 (putK kvs p.1 p.2) r).length<=_;rw[aW];omega
theorem a4m{P:Program}{w:World}:∀{kvs:List (Key×V)} {ws:List (Value×Value)},VV (kvs.map λkv=>(kV kv.1,kv.2)) ws->∃rs,Carries (ju P w) ws rs/\KV kvs rs
 |[],_,r=>by rw[bO]at r;cases r;exact⟨[],True.intro,.nil⟩
 |p::kvs,_,r=>by
  rw[aK]at r
  cases r with
  |@cons a b as bs h t =>
   obtain⟨rs,c,q⟩:=a4m (P:=P) (w:=w) t;obtain⟨b1,b2⟩:=b;exact⟨(p.1,b2)::rs,⟨a8h h.1,rfl,c⟩,.cons ⟨rfl,h.2⟩ q⟩
def awf(trs:List (TE×TE)):TE:=λσ H Q=>∀p,H p=none->ad3 trs σ (upd H p (.dK [])) λps H2=>H2 p=some (.dK [])/\∃kvs:List (Key×V),ps=kvs.map (λkv=>(kV kv.1,kv.2))/\kvs.length<=15/\Q (.ref p) (upd H2 p (.dK (a78 [] kvs)))
theorem am2{X:Cx}{pos:Pos}{keys:List (Option Expr)}{values:List Expr}{trs:List (TE×TE)}(h:PPs X pos keys values trs)(hall:keys.all (·.isSome)=true)(hl:keys.length=values.length)(h0:keys≠[])
  (h15:keys.length<=15):PE X (.Dict keys values pos) (awf trs):=by
 intro aA s σ H Q I q
 have hn:=I.hok.fresh (ah s.heap.objs.size);have I1:=I.laid (a:=s.heap.objs.size) (o:=.dK []) (h':=s.heap.push {cls:=.type "dict",data:=.dict #[]}) (t':=s.toks) (λ_ _ q=>af _ q) (ah _) (a5k s.heap I.big);refine wpAny_Dict_walk (knd:=ju X.prog X.w) hall hl h0 h15 (thn (h aA _ σ _ _ I1 (q _ hn)) λws s2 ⟨ps,H2,I2,rel,e,kvs,ep,lk,q2⟩=>?_);subst ep;obtain⟨rs,c,rk⟩:=a4m (P:=X.prog) (w:=X.w) rel;obtain⟨z,hd,vs0,r0,dd⟩:=acv I2.hok e;cases r0
 refine⟨rs,c,dd,λh' dd' hs=>⟨.ref s.heap.objs.size,_,?_,rfl,q2⟩⟩;have hz:(a78 [] kvs).length<=sizeLine:=by
  have h1:=a1j kvs [];rw[bH]at h1;rw[eC];omega
 have he:∃q,h'.get? s.heap.objs.size=some q:=let ⟨q,_,_,hq,_⟩:=dd'; ⟨q,hq⟩;exact a07 I2 (by rw[e];exact True.intro) hs he (a9h hz hd (rk.merge .nil) dd')
section
variable{X:Cx}
theorem yr:OpR X (compareOp .LtE) (λx y H Q=>∃i j,x=.str i/\y=.str j/\Q (.bl (!decide (j.cps.toList<i.cps.toList))) H):=by
 intro aA s σ H x y v u Q I rx ry h
 obtain⟨i,j,rfl,rfl,q⟩:=h;obtain⟨t,rfl⟩:=rx;obtain⟨t',rfl⟩:=ry;exact PySem.P.le_str (ace I q rfl)
def a5l{α:Type}(xs:List α)(lo hi:Option Int):List α:=(xs.drop (HT.sIx xs.length 0 lo)).take (HT.sIx xs.length xs.length hi-HT.sIx xs.length 0 lo)
def awg:V->Option Int->Option Int->Hp->VK->Prop:=λx lo hi H Q=>∃z,x=.str z/\z.length<=sizeLine/\Q (.str ⟨(a5l z.cps.toList lo hi).toArray⟩) H
theorem aqk(lo hi:Option Int)(n:Nat):Builtin.Str.strSliceIndices lo hi 1 n=(List.range (HT.sIx n n hi-HT.sIx n 0 lo)).map λk=>HT.sIx n 0 lo+k:=by
 have e1:Builtin.Str.strSliceIndices lo hi 1 n=sliceRange ((HT.sIx n 0 lo:Nat):Int) ((HT.sIx n n hi:Nat):Int) 1:=by
  unfold Builtin.Str.strSliceIndices;dsimp only
  congr 1
  ·cases lo with
   |none=>simp[HT.sIx]
   |some i=>simp only[HT.sIx,show(1:Int) > 0 by decide,cQ];split<;>omega
  ·cases hi with
   |none=>simp[HT.sIx]
   |some i=>simp only[HT.sIx,show(1:Int) > 0 by decide,cQ];split<;>omega
 rw[e1];exact sliceRange_one _ _
theorem aql{α:Type}(xs:List α)(a:Nat):∀k,a+k<=xs.length->((List.range k).map λj=>a+j).filterMap (xs[·]?)=(xs.drop a).take k
 |0,_=>by simp
 |k+1,h=>by
  rw[fN,bC,List.filterMap_append,aql xs a k (by omega)]
  have hk:a+k<xs.length:=by omega
  rw[gu]
  congr 1
  simp[List.getElem?_drop,hk]
theorem aqm:SlR X awg:=by
 intro aA s σ H x v vl vu lo hi sl Q I rx hs pl pu h
 obtain⟨z,rfl,hz,q⟩:=h;obtain⟨t,rfl⟩:=rx;refine⟨"str",_,PyProof.Rows.slot_str_getitem.lookup,typeIs_str s z t,?_⟩;have hl:z.cps.toList.length=z.length:=by simp[Str.length]
 have fin:∀(l u:Option (Int×Tok)),vl=partValue l->vu=partValue u->l.map (·.1)=lo->u.map (·.1)=hi->wpAny (model X.prog X.w) X.A (getItem (.str z t) (.ref sl)) (EP X aA σ Q) X.xe s:=by
  intro l u e1 e2 e3 e4
  subst e1 e2;refine wpAny_getItem_str_slice (l:=l) (u:=u) (st:=none) hs rfl ?_;have hp:slicePicked z l u none=(List.range (HT.sIx z.length z.length hi-HT.sIx z.length 0 lo)).map λk=>HT.sIx z.length 0 lo+k:=by
   unfold slicePicked;rw[e3,e4];exact aqk lo hi z.length
  have hb1:HT.sIx z.length z.length hi<=z.length:=HT.ack _ _ (ah _) _;have hb2:HT.sIx z.length 0 lo<=z.length:=HT.ack _ _ (bU _) _;unfold sliceMade
  split
  ·rename_i c;simp only[cv,gZ]at c;obtain⟨_,c⟩:=c;rw[hp,a9,aO]at c;have e:(⟨(a5l z.cps.toList lo hi).toArray⟩:Str)=z:=by
    unfold a5l;rw[hl];have z1:HT.sIx z.length 0 lo=0:=by omega
    have z2:HT.sIx z.length z.length hi=z.length:=by omega
    rw[z1,z2,List.drop_zero,Nat.sub_zero,bZ (by omega)]
   rw[e]at q;exact⟨.str z,H,I,⟨_,rfl⟩,q⟩
  ·have e:(⟨(a5l z.cps.toList lo hi).toArray⟩:Str)=⟨((slicePicked z l u none).filterMap (z.cps[·]?)).toArray⟩:=by
    rw[hp];unfold a5l;rw[hl]
    by_cases hc:HT.sIx z.length 0 lo<=HT.sIx z.length z.length hi
    ·rw[<-aql z.cps.toList _ _ (by omega)]
     simp only[dX]
    ·rw[show HT.sIx z.length z.length hi-HT.sIx z.length 0 lo=0 by omega]
     simp
   rw[e]at q;refine⟨?_,.str _,H,I.tok _,⟨_,rfl⟩,q⟩;rw[<-e];show(a5l z.cps.toList lo hi).toArray.size<=sizeLine;rw[aJ];unfold a5l;rw[cU,eA,hl];omega
 cases pl with
 |none=>cases pu with
  |none=>exact fin none none rfl rfl rfl rfl
  |int j t'=>exact fin none (some (j,t')) rfl rfl rfl rfl
 |int i t'=>cases pu with
  |none=>exact fin (some (i,t')) none rfl rfl rfl rfl
  |int j t''=>exact fin (some (i,t')) (some (j,t'')) rfl rfl rfl rfl
theorem a8j:CallR X (.builtin "isinstance") (λxs H Q=>∃x T t b,xs=[x,.ty T]/\TyOf X.K H x t/\PySem.W.kitOne X.K t (.type T)=some b/\Q (.bl b) H):=by
 intro aA s σ H xs us Q I r h
 obtain⟨x,T,t,b,rfl,ty,e,q⟩:=h;obtain⟨u,w',rfl,rx,rt⟩:=vals2 r;cases rt
 exact ach I rx ty e λtk=>⟨.bl b,H,I.tok tk,rfl,q⟩
theorem a79(bs:List Bool):((List.range bs.length).all λi=>(bs[i]?).getD true)=bs.all id:=by
 have e:(List.range bs.length).map (λi=>(bs[i]?).getD true)=bs:=by
  apply List.ext_getElem (by simp)
  intro i h1 h2
  simp[h2]
 have f:((List.range bs.length).map λi=>(bs[i]?).getD true).all id=bs.all id:=by rw[e]
 rw[<-f,List.all_map];rfl
theorem a8k(hc:X.calm=true):CallR X (.builtin "all") (λxs H Q=>∃(p:Addr) (bs:List Bool),xs=[.ref p]/\SqL X.K H p (bs.map V.bl)/\Q (.bl (bs.all id)) H):=by
 intro aA s σ H xs us Q I r h
 obtain⟨p,bs,rfl,hq,q⟩:=h;obtain⟨u,rfl,rx⟩:=vals1 r;cases rx
 obtain⟨its,r',pl,hz⟩:=I.list hq;have hl:=r'.length;rw[a9]at hl;have hlt:p<s.heap.objs.size:=by obtain⟨_,e,_⟩:=pl.isList;exact aU e
 refine call_all_walk (gA pl.isList ?_);refine⟨s.heap.objs.size,[s.heap.objs.size,p],[s.heap.objs.size],its.toArray.size,_,_,λi=>(bs[i]?).getD true,rfl,Walks.list (A:=X.A.in1) (I.ok.hd hc) _ p (bM hlt) its.toArray,
  ⟨⟨_,aT _ rfl,rfl,rfl⟩,pl.isList.push _⟩,λi v s' Q' E' hP hQ=>?_,λh' tk hk=>?_⟩
 ·have hP':its[i]? = some v:=by simpa using hP
  have hi:i<bs.length:=by
   have:=(a7.mp hP').1
   omega
  obtain⟨u,e,ru⟩:=r'.get (i:=i) (x:=.bl bs[i]) (by simp[hi])
  rw[hP']at e;cases e
  cases ru
  simp only[a6 hi,fz]at hQ;exact cF hQ
 ·have e:((List.range its.toArray.size).all λi=>(bs[i]?).getD true)=bs.all id:=by
   rw[aJ,<-hl];exact a79 bs
  rw[e];exact⟨.bl _,H,I.kept λb x e=>hk b x (λhm=>by rw[aI.mp hm]at e;exact cC _ (aU e)) (af _ e),rfl,q⟩
def vh(x:Str):List V:=x.cps.toList.map λc=>V.str ⟨#[c]⟩
theorem a4n(h:ItemsOf (SignAt x) acc x.cps.size):Vals (vh x) acc.toList:=by
 obtain⟨hs,ha⟩:=h;have key:∀(cs:List Nat) (us:List Value),us.length=cs.length->(∀(j:Nat) (v:Value),us[j]? = some v->∃c u,cs[j]? = some c/\v=.str ⟨#[c]⟩ u)->Vals (cs.map λc=>V.str ⟨#[c]⟩) us:=by
  intro cs
  induction cs with
  |nil=>intro us hl _;cases us with|nil=>exact .nil|cons _ _=>simp at hl
  |cons c cs ih =>
   intro us hl hp
   cases us with
   |nil=>simp at hl
   |cons u us =>
    refine .cons ?_ (ih us (by simpa using hl) λj v e=>hp (j+1) v (by simpa using e))
    obtain⟨c',t,e1,e2⟩:=hp 0 u rfl;simp at e1;subst e1;exact⟨t,e2⟩
 refine key _ _ (by simp[hs]) λj v e=>?_
 obtain⟨c,u,e1,e2⟩:=ha j v (by simpa using e)
 exact⟨c,u,by simpa using e1,e2⟩
theorem a8l(hc:X.calm=true):CallR X (.type "list") (λxs H Q=>∃z,xs=[.str z]/\z.length<=sizeLine/\∀l,H l=none->Q (.ref l) (upd H l (.lst (vh z)))):=by
 intro aA s σ H xs us Q I r h
 obtain⟨z,rfl,hz,q⟩:=h;obtain⟨u,rfl,t,rfl⟩:=vals1 r;refine PySem.call_list_str (I.ok.hd hc) z t (λh' tk acc c kp e hi=>?_) (by simpa[Str.length] using hz)
 refine⟨.ref s.heap.objs.size,_,I.laid (t':=tk) kp (ah _) (show ObjOk X.prog X.w _ h' _ (.lst (vh z)) from ⟨by simpa[vh,Str.length] using hz,acc.toList,c,a4n hi,by simpa using e⟩),rfl,q _ (I.hok.fresh (ah _))⟩
theorem a7a(hc:X.calm=true):CallR X (.type "tuple") (λxs H Q=>∃z,xs=[.str z]/\z.length<=sizeLine/\∀l,H l=none->Q (.ref l) (upd H l (.tup (vh z)))):=by
 intro aA s σ H xs us Q I r h
 obtain⟨z,rfl,hz,q⟩:=h;obtain⟨u,rfl,t,rfl⟩:=vals1 r;refine PySem.call_tuple_str (I.ok.hd hc) z t (λh' tk acc kp hi=>?_) (by simpa[Str.length] using hz)
 have I1:Inv X aA σ H {s with heap:=h',toks:=tk}:=I.kept kp
 have I2:Inv X aA σ (upd H h'.objs.size (.tup (vh z))) {s with heap:=h'.push {cls:=.type "tuple",data:=.seq acc},toks:=tk} :=
  I1.laid (t':=tk) (λb o e=>af _ e) (ah _) (show ObjOk X.prog X.w _ _ _ (.tup (vh z)) from ⟨by simpa[vh,Str.length] using hz,acc.toList,a4n hi,by simpa using TupD.new h' acc⟩)
 exact⟨.ref h'.objs.size,_,I2,rfl,q _ (I1.hok.fresh (ah _))⟩
end
def Its(x:Str):It:=⟨λi _=>i<x.cps.size,λi H v H'=>H'=H/\∃c,x.cps.toList[i]? = some c/\v=.str ⟨#[c]⟩,λi _=>i=x.cps.size⟩
theorem a9j{P:Program}{w:World}{K:Fg}{tg:Expr}(it:Addr)(x:Str)(t:Tok)(ty:String)
  (hty:["enumerate","zip","dict_itemiterator","dict_reverseitemiterator","odict_iterator","itertools.zip_longest","itertools.pairwise"].contains ty=false)
  (W:∀A':Around,A'.handled=none->Walks P w A' it [it] [it] x.cps.size (SignAt x) (λi h=>h.IsStrIter it ty x t i))
  (slf:∀(A:Around) (i:Nat) (s:Shared) (Q:Value->Shared->Prop) (E:Value->Shared->Prop),s.heap.IsStrIter it ty x t i->Q (.ref it) s->wpAny (model P w) A (pyIter (.ref it)) Q E s) :
  Turn P w K tg (Its x) [it] it (λi h=>h.IsStrIter it ty x t i) where
 mem:=by simp
 obj:=λi h st b hb=>by
  have e:b=it:=by simpa using hb
  subst e;obtain⟨o,e,c,d⟩:=st;exact⟨o,e,λv z=>by rw[d]at z;cases z⟩
 keep:=λi h h' st k=>by
  obtain⟨o,e,c,d⟩:=st;exact⟨o,k it (by simp) o e,c,d⟩
 item:=by
  intro X hP hw hK hc i aA s σ H E I hf st hg
  subst hP hw hK;obtain⟨f0,f1,f2,f3,f4,f5⟩:=hf it (by simp)
  refine(W X.A (I.ok.hd hc)).item i s _ _ hg st λv h' tk hv st' kk=>?_;obtain⟨c,u,hx,rfl⟩:=hv;have I1:Inv X aA σ H {s with heap:=h',toks:=tk}:=I.turned (λb o hb e=>kk b o (by simpa using hb) e) f0 f1 f3 f4 f5
  obtain⟨o,e,oc,d⟩:=id st';exact⟨_,rfl,ago (s:={s with heap:=h',toks:=tk}) e oc d hty ⟨.str ⟨#[c]⟩,H,I1,⟨_,rfl⟩,⟨rfl,c,by simpa using hx,rfl⟩,st',λb hb=>(hf b hb).1⟩⟩
 done:=by
  intro X hP hw hK hc i aA s σ H E I hf st hg
  subst hP hw hK;obtain⟨f0,f1,f2,f3,f4,f5⟩:=hf it (by simp)
  have hg':i=x.cps.size:=hg;subst hg';exact(W X.A (I.ok.hd hc)).done s _ _ st λh' tk eb=>⟨rfl,I.turned (λb o hb e=>eb b o (by simpa using hb) e) f0 f1 f3 f4 f5⟩
 self:=slf
section
variable{X:Cx}{tg:Expr}
def azf(tl:TE):TI:=λσ H R=>tl σ H λx H1=>∃z,x=.str z/\R (Its z) H1
theorem ajo{l:Expr}{tl:TE}(hl:PE X l tl):PI X tg l (azf tl):=by
 intro aA s σ H R I h
 refine thn (hl aA s σ H _ I h) ?_
 rintro v s1 ⟨x,H1,I1,r1,q1⟩
 obtain⟨z,e,q⟩:=q1;subst e;obtain⟨t,rfl⟩:=r1;have fp:∀b∈[s1.heap.objs.size],a1y X aA H1 b:=λb hb=>by
  have e:b=s1.heap.objs.size:=by simpa using hb
  subst e;exact I1.fpOk (ah _) (I1.hok.fresh (ah _))
 cases ha:z.cps.all (· < 128)
 ·exact wpAny_pyIter_wide ha ⟨s1.heap.objs.size,[s1.heap.objs.size],_,_,H1,rfl,I1.kept (t':=s1.toks) λb o e=>af _ e,
   a9j _ z t "str_iterator" (by decide) (λA' hA=>Walks.strWide hA _ z t) (λ_ _ _ _ _ st h=>wpAny_pyIter_striter_wide st h),⟨_,aT _ rfl,rfl,rfl⟩,fp,q⟩
 ·exact wpAny_pyIter_ascii ha ⟨s1.heap.objs.size,[s1.heap.objs.size],_,_,H1,rfl,I1.kept (t':=s1.toks) λb o e=>af _ e,
   a9j _ z t "str_ascii_iterator" (by decide) (λA' hA=>Walks.strAscii hA _ z t) (λ_ _ _ _ _ st h=>wpAny_pyIter_striter_ascii st h),⟨_,aT _ rfl,rfl,rfl⟩,fp,q⟩
end
def ajp(tt:Option Str)(a:Addr)(cl:List (Str×Addr)):List (Str×Addr):=match tt with
 |none=>cl
 |some t=>(t,a)::cl
def ay8(tt:Option Str)(h:Heap):Heap:=match tt with
 |none=>h
 |some _=>h.push {cls:=.type "cell",data:=.cell none}
def cxG(X:Cx)(N:List Str)(aB:Scope)(cl:List (Str×Addr))(tt:Option Str)(C:Addr)(fp:List Addr)(s:Shared)(H:Hp):Cx where
 prog:=X.prog
 w:=X.w
 K:=X.K
 mg:=X.mg
 base:=X.base
 A:=X.A
 N:=N
 s₀:=s
 H₀:=H
 env:=compEnvC aB (ajp tt (C+1) cl) C X.env
 outer:=X.stack
 stack:=X.stack
 ex:=fp
 fn:=λx=>tt == some x
 calm:=X.calm
 pn:=[]
 xe:=λ_ _=>False
abbrev cxC(X:Cx)(N:List Str)(aB:Scope)(cl:List (Str×Addr))(C:Addr)(fp:List Addr)(s:Shared)(H:Hp):Cx:=cxG X N aB cl none C fp s H
structure CSg (X:Cx) (aB:Scope) (cl:List (Str×Addr)) (tt:Option Str) (ts fr:List Str) (ix:List Nat):Prop where
 clos:closureFor aB X.env=pure cl
 kind:aB.kind=.function
 own:∀a,cellsFrom a aB.names cl=ajp tt a cl
 push:∀h,pushCells h aB.names=ay8 tt h
 names:∀y∈aB.names,y.2=.local->aB.names.lookup y.1=some .local
 sub:∀y c,cl.lookup y=some c->X.env.cells.lookup y=some c
 has:∀y,((relabel aB X.env).names.lookup y=some .cell\/(relabel aB X.env).names.lookup y=some .free)->tt=some y\/∃c,cl.lookup y=some c
 len:ix.length=fr.length
 vis:∀(j:Nat) (y:Str),fr[j]? = some y->tt≠some y/\∃i:Nat,ix[j]? = some i/\X.N[i]? = some y/\(X.env.kindOf y=some .cell\/X.env.kindOf y=some .free)/\((relabel aB X.env).names.lookup y=some .cell\/(relabel aB X.env).names.lookup y=some .free)
abbrev CSc(X:Cx)(aB:Scope)(cl:List (Str×Addr))(ts fr:List Str)(ix:List Nat):Prop:=CSg X aB cl none ts fr ix
theorem a5m:∀{names:List (Str×NameKind)} {a:Nat} {cl:List (Str×Addr)},(∀y∈names,y.2≠.cell)->cellsFrom a names cl=cl
 |[],_,_,_=>rfl
 |(x,k)::r,a,cl,h=>by
  unfold cellsFrom;rw[bg (by have:=h _ aP;simpa using this)]
  exact a5m λy hy=>h y (ai _ hy)
theorem a8m:∀{names:List (Str×NameKind)} {h:Heap},(∀y∈names,y.2≠.cell)->pushCells h names=h
 |[],_,_=>rfl
 |(x,k)::r,a,h=>by
  unfold pushCells;rw[bg (by have:=h _ aP;simpa using this)]
  exact a8m λy hy=>h y (ai _ hy)
theorem look{tt:Option Str}{cl:List (Str×Addr)}(e:(ajp tt a cl).lookup y=some c):(tt=some y/\c=a)\/(tt≠some y/\cl.lookup y=some c):=by
 cases tt with
 |none=>exact .inr ⟨nofun,e⟩
 |some t =>
  have e:((t,a)::cl).lookup y=some c:=e;rw[gO]at e
  cases hb:y == t with
  |true=>rw[hb]at e;cases e;exact .inl ⟨aZ some (gZ.mp hb).symm,rfl⟩
  |false=>rw[hb]at e;exact .inr ⟨λz=>by cases z;simp at hb,e⟩
theorem ad4{tt:Option Str}{cl:List (Str×Addr)}(ne:tt≠some y)(e:cl.lookup y=some c):(ajp tt a cl).lookup y=some c:=by
 cases tt with
 |none=>exact e
 |some t =>
  show((t,a)::cl).lookup y=some c;rw[gO];have hb:(y == t)=false:=by rw[bT];exact λz=>ne (aZ some z.symm)
  rw[hb];exact e
theorem aqn{t:Str}{a:Addr}{cl:List (Str×Addr)}:(ajp (some t) a cl).lookup t=some a:=by
 show((t,a)::cl).lookup t=_;rw[gO];simp
theorem no1(h:C+1<n)(h':n<=C):False:=by omega
theorem no2(h:b<n)(h':n<=C):C+1≠b:=by omega
theorem no3(h:C+1=n)(h':n<=C):False:=by omega
theorem am3{M:Model}{A:Around}{E:Value->Shared->Prop}{s:Shared}{aB:Scope}{globals:Addr}{cl:List (Str×Addr)}{tt:Option Str}{qual:Str}{func:Option Addr}{code:Value}{outer:Env}{builtins:Addr}{Q:Env->Shared->Prop}
  (own:∀a,cellsFrom a aB.names cl=ajp tt a cl) (push:∀h,pushCells h aB.names=ay8 tt h) (hk:aB.kind=.function)
  (hQ:∀h':Heap,h'.Ns s.heap.objs.size (λ_=>none)->(∀t,tt=some t->h'.IsCell (s.heap.objs.size+1) none)->(∀b o,s.heap.get? b=some o->h'.get? b=some o)->Q (newEnv aB s.heap.objs.size globals (ajp tt (s.heap.objs.size+1) cl) qual func code (some outer) builtins) {s with heap:=h' }) :
  wpAny M A (newFunctionEnv aB globals cl [] qual func code (some outer) builtins) Q E s:=by
 simp only[newFunctionEnv,Option.isSome_some,cQ];refine a8 (wpAny_alloc ?_);refine a8 (wpAny_layCells _ (λname kind cells=>by cases hkc:kind == NameKind.cell<;>simp[hkc]) _ _ _ _ ?_)
 rw[own,push];simp only[eh];refine a8 (av (av ?_));have sz:({s with heap:=s.heap.push {cls:=.type "dict",data:=.dict #[]} }:Shared).heap.objs.size=s.heap.objs.size+1:=cA ..
 rw[sz]
 cases tt with
 |none=>exact hQ _ (Heap.Ns.new s.heap (.type "dict")) (λ_ z=>nomatch z) λb o e=>af _ e
 |some t =>
  refine hQ _ ((Heap.Ns.new s.heap (.type "dict")).keeps λb o e=>af _ e) (λ_ _=>⟨{cls:=.type "cell",data:=.cell none},?_,rfl⟩) λb o e=>af _ (af _ e);rw[<-sz];exact aT _ rfl
def Ext(a b:St):Prop:=b.length=a.length/\∀(i:Nat) v,a[i]? = some (some v)->b[i]? = some (some v)
def xr(nt:Nat)(ix:List Nat)(σ:St):St:=List.replicate nt none++ix.map λi=>(σ[i]?).join
def am4(J:It)(s0:St)(g:TG)(te:TE)(Q:VK)(H1:Hp):Prop:=∃W:Nat->Nat->List V->Hp->Prop,(∃m,W 0 m [] H1)/\∀i m ys H,W i m ys H->
 (J.stop i H/\∀p,H p=none->Q (.ref p) (upd H p (.lst ys))) \/
 (J.go i H/\ys.length<sizeLine/\∀x H',J.yld i H x H'->g x s0 H' λσ2 H2=>Ext s0 σ2/\te σ2 H2 λy H3=>∃m',m'<m/\W (i+1) m' (ys++[y]) H3)
def ad5(wi:TI)(s0:St->St)(g:TG)(te:TE):TE:=λσ H Q=>wi σ H λJ H1=>am4 J (s0 σ) g te Q H1
def a8n(J:It)(s0:St)(g:TG)(tc:TT)(te:TE)(Q:VK)(H1:Hp):Prop:=∃W:Nat->Nat->List V->Hp->Prop,(∃m,W 0 m [] H1)/\∀i m ys H,W i m ys H->
 (J.stop i H/\∀p,H p=none->Q (.ref p) (upd H p (.lst ys))) \/
 (J.go i H/\ys.length<sizeLine/\∀x H',J.yld i H x H'->g x s0 H' λσ2 H2=>Ext s0 σ2/\tc σ2 H2 λok H2'=>if ok=true then te σ2 H2' (λy H3=>∃m',m'<m/\W (i+1) m' (ys++[y]) H3) else ∃m',m'<m/\W (i+1) m' ys H2')
def a3f(wi:TI)(s0:St->St)(g:TG)(tc:TT)(te:TE):TE:=λσ H Q=>wi σ H λJ H1=>a8n J (s0 σ) g tc te Q H1
theorem a3g(aD target aF cnd:Expr)(aB:Scope)(pos:Pos)(it acc:Value)(env:Env) :
  compTurn (.ListComp aD [⟨target,aF,[cnd],0⟩] aB pos) 0 it acc env=(standAt aF.pos>>=λ_=>pyNext it>>=λr=>match r with
   |none=>pure (.done .next)
   |some v=>letOwnedTupleGo target it v>>=λ_=>assign target env v>>=λ_=>isTrue cnd env (eval cnd env)>>=λok =>
    (if ok=true then (eval aD env>>=λx=>call (.builtin "list.append") [acc,x]>>=λ_=>pure ()) else pure ())>>=λ_ =>
     again (.compLoop (.ListComp aD [⟨target,aF,[cnd],0⟩] aB pos) 0 it acc env)):=by
 first
  |rfl
  |(unfold compTurn;simp only[bE];rfl)
  | (show(standAt aF.pos>>=λ_=>pyNext it>>=λr=>_)=_
     congr 1;funext _;congr 1;funext r
     cases r with
     |none=>rfl
     |some v =>
      show(letOwnedTupleGo target it v>>=λ_=>assign target env v>>=λ_=>_)=(letOwnedTupleGo target it v>>=λ_=>assign target env v>>=λ_=>_)
      congr 1;funext _;congr 1;funext _
      simp
      congr 1;funext ok
      cases ok with
      |false=>rw[bg bo,bg bo,pure_bind]
      |true =>
       rw[aQ rfl,aQ rfl,bind_assoc]
       congr 1;funext x
       rw[map_eq_pure_bind,bind_assoc]
       congr 1)
def runC(cnd:Option Expr)(env:Env):Sem Bool:=match cnd with
 |none=>pure true
 |some c=>isTrue c env (eval c env)
def PTO(X:Cx)(cnd:Option Expr)(t:TT):Prop :=
 ∀(aA:List (Addr×Obj)) (s:Shared) (σ:St) (H:Hp) (Q:Bool->Hp->Prop),Inv X aA σ H s->t σ H Q->wpAny (model X.prog X.w) X.A (runC cnd X.env) (TP X aA σ Q) X.xe s
theorem a4e(aD target aF:Expr)(cnd:Option Expr)(aB:Scope)(pos:Pos)(it acc:Value)(env:Env) :
  compTurn (.ListComp aD [⟨target,aF,cnd.toList,0⟩] aB pos) 0 it acc env=(standAt aF.pos>>=λ_=>pyNext it>>=λr=>match r with
   |none=>pure (.done .next)
   |some v=>letOwnedTupleGo target it v>>=λ_=>assign target env v>>=λ_=>runC cnd env>>=λok =>
    (if ok=true then (eval aD env>>=λx=>call (.builtin "list.append") [acc,x]>>=λ_=>pure ()) else pure ())>>=λ_ =>
     again (.compLoop (.ListComp aD [⟨target,aF,cnd.toList,0⟩] aB pos) 0 it acc env)):=by
 cases cnd with
 |some c=>exact a3g ..
 |none =>
  rw[show(none:Option Expr).toList=[] from rfl,compTurn_list1]
  congr 1
theorem ad6{cnd:Option Expr}{E:Value->Shared->Prop}(no:∀v s,E v s->False)(J:Nat->Shared->Prop)
  (step:∀m z,J m z->wpAny (model prog w) A (pyNext it) (λgot z1=>match got with
   |none=>R (.ok .next) z1
   |some v=>wpAny (model prog w) A (letOwnedTupleGo target it v) (λ_ z2=>wpAny (model prog w) A (assign target env v) (λ_ z3=>wpAny (model prog w) A (runC cnd env) (λok z3'=>if ok=true then wpAny (model prog w) A (eval aD env) (λx z4 =>
     wpAny (model prog w) A (call (.builtin "list.append") [acc,x]) (λ_ z5=>∃m',m'<m/\J m' z5) E z4)
     E z3' else ∃m',m'<m/\J m' z3') E z3) E z2) E z1) E z)
  (m:Nat) (j0:J m s):codeAny (model prog w) A (.compLoop (.ListComp aD [⟨target,aF,cnd.toList,0⟩] aB pos) 0 it acc env) R s:=by
 refine codeAny_loop rfl J (λm z hj=>(wpAny_noted ?_:wpAny _ _ ((compTurn (.ListComp aD [⟨target,aF,cnd.toList,0⟩] aB pos) 0 it acc env).onRaise _) _ _ z)) m j0;rw[a4e];refine a8 (fD (a8 (cT (step m z hj) (λgot z1 h1=>?_) λ_ _ e=>(no _ _ e).elim)))
 match got,h1 with
 |none,h1=>exact av h1
 |some v,h1 =>
  refine a8 (cT h1 (λ_ z2 h2=>a8 (cT h2 (λ_ z3 h3=>a8 (cT h3 (λok z3' h3'=>?_) λ_ _ e=>(no _ _ e).elim)) λ_ _ e=>(no _ _ e).elim)) λ_ _ e=>(no _ _ e).elim)
  match ok,h3' with
  |true,h3' =>
   rw[aQ rfl]at h3';refine a8 (a8 (cT h3' (λx z4 h4=>?_) λ_ _ e=>(no _ _ e).elim));exact a8 (cT h4 (λ_ z5 h5=>av (av ⟨rfl,h5⟩)) λ_ _ e=>(no _ _ e).elim)
  |false,h3' =>
   rw[bg bo]at h3';exact a8 (av (av ⟨rfl,h3'⟩))
section
variable{X:Cx}
theorem ad7{aA:List (Addr×Obj)}{σ:St}{H:Hp}{s:Shared}{aB:Scope}{cl:List (Str×Addr)}{tt:Option Str}{ts fr:List Str}{ix:List Nat}{C:Addr}{fp:List Addr}(S:CSg X aB cl tt ts fr ix)(I:Inv X aA σ H s)
  (hf:∀b∈fp,a1y X aA H b) (hb:∀b∈fp,b<s.heap.objs.size) (hC:s.heap.objs.size<=C):(cxG X (ts++fr) aB cl tt C fp s H).Ok where
 mod:=I.ok.mod
 kind:=S.kind
 glob:=I.ok.glob
 blt:=I.ok.blt
 above:=hC
 inj:=λx y c h1 h2=>by
  have small:∀z c,cl.lookup z=some c->c<s.heap.objs.size:=λz c e=>let ⟨_,q⟩:=I.cell z c (S.sub z c e);q.lt
  rcases look h1 with⟨e1,rfl⟩|⟨_,e1⟩<;>rcases look h2 with⟨e2,e3⟩|⟨_,e2⟩
  ·exact bp (e1.symm.trans e2)
  ·exact(no1 (small y _ e2) hC).elim
  ·rw[e3]at e1;exact(no1 (small x _ e1) hC).elim
  ·exact I.ok.inj x y c (S.sub x c e1) (S.sub y c e2)
 has:=λy z=>by
  by_cases h:tt=some y
  ·subst h;exact⟨_,aqn⟩
  ·exact(S.has y z).elim (λz=>absurd z h) λ⟨c,e⟩=>⟨c,ad4 h e⟩
 cab:=λx c h e=>by
  rcases look e with⟨_,rfl⟩|⟨ne,_⟩
  ·show s.heap.objs.size<=C+1;omega
  ·exact absurd (gZ.mp h) ne
 hd:=I.ok.hd
 frames:=I.ok.frames
 stk:=.inl rfl
 exf:=λb hb'=>⟨bM (aY (hb b hb') hC),λx c e=>by
  rcases look e with⟨_,rfl⟩|⟨_,e⟩
  ·exact no2 (hb b hb') hC
  ·exact(hf b hb').2.2.2.2.1 x c (S.sub x c e)⟩
 bs:=λb o e=>I.bs b o e
 bsz:=c9 I.ok.bsz I.sz
 noex:=λb o e hb'=>by
  rcases(hf b hb').2.2.2.1 with z|z
  ·exact I.ok.noex b o e z
  ·exact absurd (aY (aU e) (c9 I.ok.bsz z)) (cC _)
 exfs:=λb hb' z=>by
  rcases ay.mp (I.stkSub b z) with e|e
  ·exact(hf b hb').2.1 e
  ·exact(hf b hb').2.2.1 e
 funs:=I.stack
 frf:=λb hb'=>I.stkFree b hb'
theorem aay:(xr nt ix σ).length=nt+ix.length:=by
 unfold xr;rw[ag,dU,a9]
theorem am5{s s4:Shared}{ts:List Str}(S:CSg X aB cl tt ts fr ix)(I:Inv X aA σ H s)
  (hf:∀b∈fp,a1y X aA H b) (hb:∀b∈fp,b<s.heap.objs.size) (hC:s.heap.objs.size<=C)
  (k:∀b o,s.heap.get? b=some o->s4.heap.get? b=some o) (hn:s4.heap.Ns C m) (hcl:∀t,tt=some t->s4.heap.IsCell (C+1) none) (ho:s4.os=s.os) (hg:s4.gens=s.gens) :
  Inv (cxG X (ts++fr) aB cl tt C fp s H) [] (xr ts.length ix σ) H s4 where
 ok:=ad7 S I hf hb hC
 os:=ho
 bare:=by rw[hg];exact I.bare
 base:=Un.kept k
 loc:=by
  refine⟨m,hn,λi x v e1 e2 e3=>?_⟩;have e1:(ts++fr)[i]? = some x:=e1
  by_cases hi:i<ts.length
  ·unfold xr at e2;rw[ax (by simpa using hi),dO,aQ hi]at e2
   cases e2
  ·rw[aw (by omega)]at e1
   unfold xr at e2;rw[aw (by simpa using hi),dU,ar]at e2
   obtain⟨nt,j,h1,h2,h3,h4⟩:=S.vis _ x e1;rw[h1]at e2;have e2':(σ[j]?).join=some v:=bp e2;have e5:σ[j]? = some (some v):=by
    cases q:σ[j]? with
    |none=>rw[q]at e2';cases e2'
    |some o=>rw[q]at e2';simp at e2';rw[e2']
   obtain⟨m0,_,hl⟩:=I.loc;have vis:Vis X.env.scope x:=h3.elim (λz=>.inr (.inl z)) λz=>.inr (.inr z);obtain⟨u,ru,l⟩:=hl j x v h2 e5 vis;refine⟨u,ru,?_⟩
   rcases l with⟨z,_⟩|⟨_,c,hc,hcell⟩
   ·rcases h3 with h3|h3<;>rw[h3]at z<;>cases z
   ·rcases S.has x h4 with z|⟨c',hc'⟩
    ·exact absurd z nt
    ·have e6:c'=c:=bp ((S.sub x c' hc').symm.trans hc);subst e6;obtain⟨o,ho,hd⟩:=hcell;exact .inr ⟨h4,c',ad4 nt hc',o,k _ _ ho,hd⟩
 cell:=λx c e=>by
  rcases look e with⟨z,rfl⟩|⟨_,e⟩
  ·exact⟨_,hcl _ z⟩
  ·obtain⟨v,o,ho,hd⟩:=I.cell x c (S.sub x c e);exact⟨v,o,k _ _ ho,hd⟩
 free:=I.hok.fresh hC
 freeC:=λx c e=>by
  rcases look e with⟨_,rfl⟩|⟨_,e⟩
  ·exact I.hok.fresh (by omega)
  ·exact I.freeC x c (S.sub x c e)
 pin:=λp hp=>absurd (show p∈([]:List (Addr×Obj)) from hp) (by simp)
 hok:=I.hok.kept k
 len:=by
  rw[aay];show _=(ts++fr).length;rw[ag,S.len]
theorem Inv.unpinned'(I:Inv X aA σ H s):Inv X [] σ H s:=I.pins_of λ_ hp=>nomatch hp
theorem aaz{Y:Cx}(I:Inv X aA σ H s)
  (hf:∀b∈fp,a1y X aA H b) (hC:s.heap.objs.size<=C) (hacc:s.heap.objs.size<=acc)
  (q:Y.prog=X.prog/\Y.w=X.w/\Y.fs=frs X.stack/\Y.ex=fp/\Y.env.locals=C/\Y.s₀=s/\Y.H₀=H) (J:Inv Y [] σ' H' s') (hn:H' acc=none) (hob:ObjOk X.prog X.w (upd H' acc ho) h' acc ho) (sb:Heap.SameBut C s'.heap h') :
  Inv X aA σ (upd H' acc ho) {s' with heap:=h' }:=by
 have k:∀b o,b≠C->s'.heap.get? b=some o->h'.get? b=some o:=λb o hb e=>sb.extBut b o hb e;have old:∀b o,s.heap.get? b=some o->b≠C/\b≠acc:=λb o e=>⟨bM (aY (aU e) hC),bM (aY (aU e) hacc)⟩;obtain⟨q1,q2,q3,q4,q5,q6,q7⟩:=q;have u0:=J.base;rw[q3,q4,q6,q7]at u0;have fC:=J.free;rw[q5]at fC;have jh:=J.hok;rw[q1,q2]at jh;have u:Un (frs X.stack) fp H (upd H' acc ho) s.heap h':=by
  refine⟨λb o e n' hb hx=>k b o (old b o e).1 (u0.keep b o e n' hb hx),λb o e n' hb hx=>?_,λb o e n' hx=>?_,λb o e hx=>?_,λb xs e=>?_,λb o v e=>?_,λb ps e=>?_⟩
  ·obtain⟨sl,e1⟩:=u0.slot b o e n' hb hx;exact⟨sl,k b _ (old b o e).1 e1⟩
  ·rw[bu (old b o e).2];exact u0.free b o e n' hx
  ·obtain⟨o',e1⟩:=u0.there b o e hx;exact⟨o',k b _ (old b o e).1 e1⟩
  ·rw[bu (cj (u0.tups b xs e) hn)];exact u0.tups b xs e
  ·rw[bu (cj (u0.frzs b o v e) hn)];exact u0.frzs b o v e
  ·obtain⟨more,e1⟩:=u0.tbls b ps e;exact⟨more,by rw[bu (cj e1 hn)];exact e1⟩
 have hok:HOk X.prog X.w (upd H' acc ho) h':=λb o e=>by
  by_cases hb:b=acc
  ·subst hb;rw[dh]at e;cases e
   exact hob
  ·rw[bu hb]at e;refine(jh b o e).stay (λc v hc q=>k c v ?_ q) (λc q=>by rw[bu (cj q hn)];exact q) λc xs q=>by rw[bu (cj q hn)];exact q
   rcases hc with z|z
   ·rw[z];exact cj e fC
   ·exact cj z fC
 have J':=I.call (g':=s'.gens) (t':=s'.toks) (d':=s'.drawn) (ch:=fp) u hok J.bare λb hb=>⟨(hf b hb).2.2.2.1,(hf b hb).2.1,(hf b hb).2.2.2.2.1,(hf b hb).2.2.2.2.2⟩;have eo:=J.os;rw[q6]at eo;obtain⟨hp,g,d,t,o⟩:=s';have eo':o=s.os:=eo;subst eo';exact J'
theorem awh{Y:Cx}(ok:Y.Ok)(hp:Y.pn=[])(hn:H' b=none)(hb:b∈Y.ex):a1y Y [] H' b :=
 ⟨hn,(ok.exf b hb).1,ok.exfs b hb,.inl hb,(ok.exf b hb).2,λp h=>by rw[hp]at h;exact absurd h (by simp)⟩
theorem aqo{Y:Cx}(ok:Y.Ok)(hp:Y.pn=[])(hn:H' b=none)(hb:b=Y.s₀.heap.objs.size)(hl:b≠Y.env.locals)(hc:∀x c,Y.env.cells.lookup x=some c->c≠b):a1y Y [] H' b :=
 ⟨hn,hl,λz=>by
  obtain⟨_,o,ho,_⟩:=ok.funs.mem z;exact cC _ (aY (aU ho) (eZ hb.symm)),.inr (eZ hb.symm),hc,λp h=>by rw[hp]at h;exact absurd h (by simp)⟩
theorem am6(I:Inv X aA σ H s)(e:X.env.cells.lookup x=some c):c≠s.heap.objs.size:=λz=>by
 obtain⟨v,o,ho,_⟩:=I.cell x c e;rw[z]at ho;exact cC _ (aU ho)
def a3h(X:Cx)(aA:List (Addr×Obj))(σ:St)(use:Option (Value->Sem Unit))(Q:VK)(Qf:Value->Shared->Prop):Prop :=
 ∀(acc C:Addr) (s6:Shared) (H6:Hp) (m6:Str->Option Value),s6.heap.Ns C m6->a1y X aA H6 C->(∀h',Heap.SameBut C s6.heap h'->Inv X aA σ H6 {s6 with heap:=h' })->Q (.ref acc) H6->
  compPost (model X.prog X.w) X.A X.xe use Qf (.ref acc) C (.ok .next) s6
theorem ah3:a3h X aA σ none Q (EP X aA σ Q):=λacc C s6 H6 m6 hn _ k q=>⟨m6,hn,λh' sb=>⟨.ref acc,H6,k h' sb,rfl,q⟩⟩
theorem a9k{D:Ends}(hN:X.N.Nodup)(hi:X.N[i]? = some x)(hx:Loc X.env.scope x)(hf:X.fn x=true\/X.env.scope.names.lookup x=some .local) :
  a3h X aA σ (some (assign (.Name x pos') X.env)) (λv H1=>a4d i v σ H1 D.nx) (λ_ s'=>SP X aA D .next s'):=by
 intro acc C s6 H6 m6 hn fp k q
 obtain⟨f1,f2,f3,f4,f5,f6⟩:=fp;have I6:Inv X aA σ H6 s6:=k s6.heap (Heap.SameBut.refl _ _);refine wpAny_assign_Name (a6q (v:=.ref acc) I6 hN hi hx rfl (λs' I' ⟨a,sb,ha⟩=>⟨m6,hn.sameBut sb ?_,λh' sb'=>⟨_,H6,I'.turned (t':=s'.toks) (it:=C) (λb o hb e=>sb'.extBut b o hb e) f1 f2 f4 f5 f6,q⟩⟩) hf)
 rcases ha with ha|ha
 ·rw[ha];exact f2
 ·exact λz=>f5 x a ha z.symm
theorem ad8{Y:Cx}{cnd:Option Expr}{N it:Addr}{fp:List Addr}{tn:Nat->Heap->Prop}{J:It}{σ0:St}{H2:Hp}{s4:Shared}{W:Nat->Nat->List V->Hp->Prop}{Q:VK}(hc:Y.calm=true)(no:∀v s,Y.xe v s->False)(hp0:Y.pn=[])(T:Turn Y.prog Y.w Y.K tg J fp it tn)
  (stat:∀{H':Hp},(∀b∈fp,H' b=none)->∀b∈fp,a1y Y [] H' b) (statA:∀{H':Hp},H' N=none->a1y Y [] H' N) (accF:N∉fp) (hg:PG Y tg g) (he:PE Y aD te) (ht:PTO Y cnd tc)
  (turn:∀i m ys H,W i m ys H->(J.stop i H/\∀p,H p=none->Q (.ref p) (upd H p (.lst ys)))\/(J.go i H/\ys.length<sizeLine/\∀x H',J.yld i H x H'->g x σ0 H' λσ2 H2=>Ext σ0 σ2/\tc σ2 H2 λok H2'=>if ok=true then te σ2 H2' (λy H3=>∃m',m'<m/\W (i+1) m' (ys++[y]) H3) else ∃m',m'<m/\W (i+1) m' ys H2'))
  (w0:W 0 m0 [] H2) (K0:Inv Y [] σ0 H2 s4) (st4:tn 0 s4.heap) (f0:∀b∈fp,H2 b=none) (fa:H2 N=none) (hacc:s4.heap.get? N=some {cls:=.type "list",data:=.seq ([]:List Value).toArray 0})
  (fin:∀s6 H6 ys its k,Inv Y [(N,{cls:=.type "list",data:=.seq its.toArray k})] σ0 H6 s6->H6 N=none->Vals ys its->ys.length<=sizeLine->(∀p,H6 p=none->Q (.ref p) (upd H6 p (.lst ys)))->R (.ok .next) s6) :
  codeAny (model Y.prog Y.w) Y.A (.compLoop (.ListComp aD [⟨tg,aF,cnd.toList,0⟩] aB pos) 0 (.ref it) (.ref N) Y.env) R s4:=by
 refine ad6 no (λn s'=>∃i σ' H' ys its k,Inv Y [] σ' H' s'/\Ext σ0 σ'/\tn i s'.heap/\(∀b∈fp,H' b=none)/\H' N=none /\
  s'.heap.get? N=some {cls:=.type "list",data:=.seq its.toArray k}/\Vals ys its/\ys.length<=sizeLine/\W i n ys H') ?_ m0
  ⟨0,_,H2,[],[],0,K0,⟨rfl,λ_ _ z=>z⟩,st4,f0,fa,hacc,.nil,bU _,w0⟩
 rintro n s5 ⟨i,σ5,H5,ys,its,k5,I5,x5,st5,fr5,fa5,ac5,rv5,hz5,w5⟩
 have I5':Inv Y [] σ0 H5 s5:=I5.weak x5.1.symm x5.2;obtain⟨ob,hob⟩:∃ob:Obj,ob={cls:=.type "list",data:=.seq its.toArray k5}:=⟨_,rfl⟩;rw[<-hob]at ac5;have IP:Inv Y [(N,ob)] σ0 H5 s5:=I5'.pins_of λp hp=>by
  rw[aI.mp hp];obtain⟨a0,a1,a2,_⟩:=statA fa5;exact⟨ac5,a0,a1,a2,λv z=>by rw[hob]at z;cases z⟩
 have FB:∀b∈fp,a1y Y [(N,ob)] H5 b:=λb hb=>by
  obtain⟨b0,b1,b2,b3,b4,b5⟩:=stat fr5 b hb;refine⟨b0,b1,b2,b3,b4,λp hp=>?_⟩;rw[hp0]at hp;rw[aI.mp hp];exact λz=>accF (by have z':N=b:=z;rw[z'];exact hb)
 rcases turn i n ys H5 w5 with⟨stop,qn⟩|⟨go,hlt,step⟩
 ·refine thn (T.done Y rfl rfl rfl hc i [(N,ob)] s5 _ H5 _ IP FB st5 stop) ?_
  rintro r s6 ⟨hr,I6⟩
  subst hr;rw[hob]at I6;exact fin s6 H5 ys its k5 I6 fa5 rv5 hz5 qn
 ·refine thn (T.item Y rfl rfl rfl hc i [(N,ob)] s5 _ H5 _ IP FB st5 go) ?_
  rintro r s6 ⟨u,hr,h6⟩
  subst hr;refine thn h6 ?_
  rintro _ s7 ⟨x,H7,I7,r7,y7,st7,fr7⟩
  obtain⟨ac7,fa7,_⟩:=I7.pin (N,ob) (by simp)
  have I7':Inv Y (a2y (N::fp) s7.heap) σ0 H7 s7:=by
   show Inv Y ([]++a2y (N::fp) s7.heap) _ _ _;refine Inv.pinned I7.unpinned' (λb hb=>?_) λb hb=>?_
   ·rcases ay.mp hb with e|e
    ·subst e;exact statA fa7
    ·exact stat fr7 b e
   ·rcases ay.mp hb with e|e
    ·subst e;exact⟨_,ac7,λv z=>by rw[hob]at z;cases z⟩
    ·exact T.obj _ _ st7 b e
  have keep:∀{σ':St} {H9:Hp} {s9:Shared} {ps:List (Addr×Obj)},Inv Y (a2y (N::fp) s7.heap) σ' H9 s9->(s9.heap.get? N=some ob/\H9 N=none)/\∀b∈fp,(∀o,s7.heap.get? b=some o->s9.heap.get? b=some o)/\H9 b=none:=λI9=>by
   refine⟨?_,λb hb=>?_⟩
   ·obtain⟨z1,z2,_⟩:=I9.pin (N,ob) (bS _ (a0f aP ac7));exact⟨z1,z2⟩
   ·obtain⟨o,e,_⟩:=T.obj _ _ st7 b hb;obtain⟨z1,z2,_⟩:=I9.pin (b,o) (bS _ (a0f (ai _ hb) e));exact⟨λo' e'=>by rw[e]at e';cases e';exact z1,z2⟩
  refine thn (hg _ s7 _ H7 x u _ I7' r7 (step x H7 y7)) ?_
  rintro _ s8 ⟨σ8,H8,I8,x8,q8⟩
  refine thn (ht _ s8 _ H8 _ I8 q8) ?_
  rintro ok s8' ⟨H8',I8',q8'⟩
  cases ok with
  |false =>
   rw[bg bo]at q8' ⊢;obtain⟨m',hm',w9⟩:=q8';obtain⟨⟨ac9,fa9⟩,k9⟩:=keep (ps:=[]) I8';exact⟨m',hm',i+1,σ8,H8',ys,its,k5,I8'.unpinned',x8,T.keep _ _ _ st7 λb hb o e=>(k9 b hb).1 o e,λb hb=>(k9 b hb).2,fa9,by rw[ac9,hob],rv5,hz5,w9⟩
  |true =>
   rw[aQ rfl]at q8' ⊢;refine thn (he _ s8' _ H8' _ I8' q8') ?_
   rintro yv s9 ⟨y,H9,I9,r9,m',hm',w9⟩
   obtain⟨⟨ac9,fa9⟩,k9⟩:=keep (ps:=[]) I9;rw[hob]at ac9;have hl:=rv5.length;refine eV F.slot_list_append ⟨_,ac9,rfl⟩ F.entry_list_append (F.args_list_append_2 _ _) (PySem.list_append N its.toArray k5 yv (by rw[aJ];omega)) ⟨ac9,?_⟩
   have q:=PySem.IsL.update ac9 (λa=>a.push yv);have qo:∀b o,b≠N->s9.heap.get? b=some o->(s9.heap.update N (Obj.mapSeq (λa=>a.push yv))).get? b=some o:=λb o hb e=>(eS s9.heap _ (fI hb)).trans e;have q':∃k,(s9.heap.update N (Obj.mapSeq (λa=>a.push yv))).get? N=some {cls:=.type "list",data:=.seq (its++[yv]).toArray k}:=⟨_,by rw[q];simp;rfl⟩
   obtain⟨k9',q9⟩:=q';obtain⟨a0,a1,a2,a3,a4,a5⟩:=statA fa9;refine⟨m',hm',i+1,σ8,H9,ys++[y],its++[yv],k9',(I9.unpinned').turned qo a0 a1 a3 a4 a5,x8,T.keep _ _ _ st7 λb hb o e=>qo b o (λz=>accF (z ▸ hb)) ((k9 b hb).1 o e),λb hb=>(k9 b hb).2,fa9,q9,rv5.append (.cons r9 .nil),?_,w9⟩;rw[ag,aM];omega
theorem a4o{aD tg aF:Expr}{cnd:Option Expr}{aB:Scope}{pos ppos:Pos}{cl:List (Str×Addr)}{tt:Option Str}{ts fr:List Str}{ix:List Nat}{wi:TI}{g:TG}{tc:TT}{te:TE}(hc:X.calm=true)(S:CSg X aB cl tt ts fr ix)(hi:PI X tg aF wi)
  (hg:∀C fp s H,PG (cxG X (ts++fr) aB cl tt C fp s H) tg g) (he:∀C fp s H,PE (cxG X (ts++fr) aB cl tt C fp s H) aD te) (ht:∀C fp s H,PTO (cxG X (ts++fr) aB cl tt C fp s H) cnd tc) (hs:∀x,foldedSetIterable aF X.env x=pure x)
  (use:Option (Value->Sem Unit)) {aA:List (Addr×Obj)} {s:Shared} {σ:St} {H:Hp} {Q:VK} {Qf:Value->Shared->Prop} (I:Inv X aA σ H s) (h:a3f wi (xr ts.length ix) g tc te σ H Q) (fin:a3h X aA σ use Q Qf) :
  wpAny (model X.prog X.w) X.A (comprehension (.ListComp aD [⟨tg,aF,cnd.toList,0⟩] aB pos) aB X.env ppos (newList []) false (eval aF X.env) use) Qf X.xe s:=by
 refine wpAny_comprehension_free (use:=use) rfl hs S.clos S.kind S.names (thn (hi aA s σ H _ I h) λv s1 h1=>thn h1 λitv s2 h2=>?_);obtain⟨it,fp,tn,J,H2,e,I2,T,st2,f2,W,⟨m0,w0⟩,turn⟩:=h2;subst e;have hob:∀b∈fp,b<s2.heap.objs.size:=λb hb=>let ⟨o,e,_⟩:=T.obj _ _ st2 b hb;aU e;refine cZ (am3 S.own S.push S.kind λh4 hns4 hc4 hsb4=>?_);dsimp only at hns4 hc4 hsb4 ⊢
 generalize hH2:s2.heap.push {cls:=.type "list",dict:=none,data:=.seq ([]:List Value).toArray}=G at hns4 hc4 hsb4 ⊢
 have hCs:G.objs.size=s2.heap.objs.size+1:=by rw[<-hH2,cA]
 have hCle:s2.heap.objs.size<=G.objs.size:=by omega
 have hne:G.objs.size≠s2.heap.objs.size:=by omega
 have old:∀b o,s2.heap.get? b=some o->h4.get? b=some o:=λb o e=>by
  have hlt:=aU e;exact hsb4 b o (hH2 ▸ af _ e)
 have hacc:h4.get? s2.heap.objs.size=some {cls:=.type "list",data:=.seq ([]:List Value).toArray 0} :=
  hsb4 _ _ (hH2 ▸ aT _ rfl)
 have K0:Inv (cxG X (ts++fr) aB cl tt G.objs.size fp s2 H2) [] (xr ts.length ix σ) H2 {s2 with heap:=h4} :=
  am5 S I2 f2 hob hCle old hns4 hc4 rfl rfl
 have st4:tn 0 h4:=T.keep _ _ _ st2 λb _ o e=>old b o e;have accF:s2.heap.objs.size∉fp:=λz=>cC _ (hob _ z);have stat:∀{H':Hp},(∀b∈fp,H' b=none)->∀b∈fp,a1y (cxG X (ts++fr) aB cl tt G.objs.size fp s2 H2) [] H' b:=λhn b hb =>
  awh (ad7 S I2 f2 hob hCle) rfl (hn b hb) hb
 have statA:∀{H':Hp},H' s2.heap.objs.size=none->a1y (cxG X (ts++fr) aB cl tt G.objs.size fp s2 H2) [] H' s2.heap.objs.size:=λhn =>
  aqo (ad7 S I2 f2 hob hCle) rfl hn rfl (fI hne) λx c e=>by
   rcases look e with⟨_,rfl⟩|⟨_,e⟩
   ·exact λz=>no3 z hCle
   ·exact am6 I2 (S.sub x c e)
 have loop:codeAny (model X.prog X.w) X.A (.compLoop (.ListComp aD [⟨tg,aF,cnd.toList,0⟩] aB pos) 0 (.ref it) (.ref s2.heap.objs.size) (compEnvC aB (ajp tt (G.objs.size+1) cl) G.objs.size X.env))
   (compPost (model X.prog X.w) X.A X.xe use Qf (.ref s2.heap.objs.size) G.objs.size) {s2 with heap:=h4} :=
  ad8 (Y:=cxG X (ts++fr) aB cl tt G.objs.size fp s2 H2) hc (λ_ _ h=>h) rfl T stat statA accF (hg _ _ _ _) (he _ _ _ _) (ht _ _ _ _) turn w0 K0 st4 (λb hb=>(f2 b hb).1) (I2.hok.fresh (ah _)) hacc λs6 H6 ys its k I6 fa rv hz qn=>by
   have e6:=(I6.pin (s2.heap.objs.size,{cls:=.type "list",data:=.seq its.toArray k}) (by show _∈[]++[_];simp)).1
   obtain⟨m6,hn6,_⟩:=I6.loc;exact fin _ _ s6 _ m6 hn6 (I2.fpOk hCle (by rw[bu hne];exact I6.free)) (λh' sb=>aaz (Y:=cxG X (ts++fr) aB cl tt G.objs.size fp s2 H2) (ho:=.lst ys) I2 f2 hCle (ah _) ⟨rfl,rfl,rfl,rfl,rfl,rfl,rfl⟩ I6.unpinned' fa ⟨hz,its,k,rv,sb.extBut _ _ (fI hne) e6⟩ sb) (qn _ fa)
 exact codeAny_compStart_list loop (T.self _ 0 _ _ _ st4 loop)
theorem a7b(hc:X.calm=true)(S:CSc X aB cl ts fr ix)(hi:PI X tg aF wi)
  (hg:∀C fp s H,PG (cxC X (ts++fr) aB cl C fp s H) tg g) (he:∀C fp s H,PE (cxC X (ts++fr) aB cl C fp s H) aD te) (hs:∀x,foldedSetIterable aF X.env x=pure x)
  (use:Option (Value->Sem Unit)) (I:Inv X aA σ H s) (h:ad5 wi (xr ts.length ix) g te σ H Q) (fin:a3h X aA σ use Q Qf) :
  wpAny (model X.prog X.w) X.A (comprehension (.ListComp aD [⟨tg,aF,[],0⟩] aB pos) aB X.env ppos (newList []) false (eval aF X.env) use) Qf X.xe s:=by
 refine a4o (cnd:=none) (tc:=λσ H Q=>Q true H) hc S hi hg he (λ_ _ _ _ aA s σ H Q I h=>av ⟨H,I,h⟩) hs use I ?_ fin;unfold a3f a8n;unfold ad5 am4 at h;simpa only[cQ] using h
theorem ah4(hc:X.calm=true)(S:CSc X aB cl ts fr ix)(hi:PI X tg aF wi)
  (hg:∀C fp s H,PG (cxC X (ts++fr) aB cl C fp s H) tg g) (he:∀C fp s H,PE (cxC X (ts++fr) aB cl C fp s H) aD te)
  (hs:∀x,foldedSetIterable aF X.env x=pure x:=by intro _;rfl) :
  PE X (.ListComp aD [⟨tg,aF,[],0⟩] aB pos) (ad5 wi (xr ts.length ix) g te):=by
 intro aA s σ H Q I h
 rw[eval_ListComp];exact a7b hc S hi hg he hs none I h ah3
theorem a9l{spos:Pos}(hN:X.N.Nodup)(hi':X.N[i]? = some x)(hx:Loc X.env.scope x)(hc:X.calm=true)(S:CSc X aB cl ts fr ix)(hi:PI X tg aF wi)
  (hg:∀C fp s H,PG (cxC X (ts++fr) aB cl C fp s H) tg g) (he:∀C fp s H,PE (cxC X (ts++fr) aB cl C fp s H) aD te)
  (hs:∀x,foldedSetIterable aF X.env x=pure x:=by intro _;rfl) (hsw:swapsWith (.ListComp aD [⟨tg,aF,[],0⟩] aB pos) (some (.Name x pos')) spos.line X.env=pure true:=by rfl) (hf:Hf X x:=by first|exact .inl rfl|exact .inr rfl|assumption) :
  PS X (.Assign [.Name x pos'] (.ListComp aD [⟨tg,aF,[],0⟩] aB pos) spos) (av2 (ad5 wi (xr ts.length ix) g te) (a4d i)):=by
 intro aA s σ H D I h
 rw[exec_Assign_Name_used _ _ _ _ hsw];refine a8 (fD (a8 ?_));refine a8 (cT (a7b hc S hi hg he hs (some (assign (.Name x pos') X.env)) I h (a9k hN hi' hx hf)) (λ_ s' hq=>av (av hq)) λ_ _ e=>e)
end
section
variable{K:Type}[DecidableEq K]
def stepK(l:List K)(v:K):List K:=if v∈l then l else l++[v]
def bw(l:List K):List K:=l.foldl stepK []
theorem a7c(l:List K)(v k:K):k∈stepK l v↔k∈l\/k=v:=by
 unfold stepK;split
 ·rename_i h
  constructor
  ·exact .inl
  ·rintro(z|rfl)
   ·exact z
   ·exact h
 ·simp
theorem ue:∀(l acc:List K),acc.Nodup->(l.foldl stepK acc).Nodup/\(l.foldl stepK acc).length<=acc.length+l.length/\((l.foldl stepK acc).length=acc.length+l.length↔(acc++l).Nodup)
 |[],acc,h=>by simp[h]
 |v::l,acc,h=>by
  rw[bL];unfold stepK
  split
  ·rename_i hv;obtain⟨h1,h2,h3⟩:=ue l acc h;unfold stepK at h1 h2 h3;refine⟨h1,by rw[aW];omega,?_⟩
   constructor
   ·intro e;rw[aW]at e;omega
   ·intro e
    have:=(bD.mp e).2.2 v hv v aP
    exact absurd rfl this
  ·rename_i hv;obtain⟨h1,h2,h3⟩:=ue l (acc++[v]) (by
    rw[bD];exact⟨h,by simp,λa ha b hb=>by rw[aI]at hb;subst hb;rintro rfl;exact hv ha⟩)
   unfold stepK at h1 h2 h3;rw[ag,aM]at h2 h3;rw[d0,fh]at h3;refine⟨h1,by rw[aW];omega,?_⟩
   rw[<-h3,aW];omega
theorem a3i(l:List K):((bw l).length=l.length)↔l.Nodup:=by
 have h:=(ue l [] cG).2.2;rw[bH,gV,cq]at h;exact h
end
end L2
namespace L2
theorem ad9:bootBuiltins "len" = some (.builtin "len"):=PySem.boot_len
theorem a5n:bootBuiltins "isinstance" = some (.builtin "isinstance"):=by first|exact PySem.boot_isinstance|exact PyProof.Rows.boot_isinstance
theorem aqp:bootBuiltins "str" = some (.type "str"):=by first|exact PySem.boot_str|exact PyProof.Rows.boot_str
theorem aqq:bootBuiltins "all" = some (.builtin "all"):=by first|exact PySem.boot_all|exact PyProof.Rows.boot_all
theorem aqr:bootBuiltins "abs" = some (.builtin "abs"):=by first|exact PySem.boot_abs|exact PyProof.Rows.boot_abs
theorem aqs:bootBuiltins "int" = some (.type "int"):=by first|exact PySem.boot_int|exact PyProof.Rows.boot_int
theorem a8o:bootBuiltins "list" = some (.type "list"):=by first|exact PySem.boot_list|exact PyProof.Rows.boot_list
theorem a9m:bootBuiltins "tuple" = some (.type "tuple"):=by first|exact PySem.boot_tuple|exact PyProof.Rows.boot_tuple
structure Dn (P:Program) (w:World) (K:Fg) (mg:Str->Option Value) (base:Heap) (k:Nat) (x:Str) (ps:List Str) (sp:Sp) (f:Addr) (fd:FuncData):Prop where
 ok:FnOk P w K mg base CX0 k f fd ps sp
 m:mg x=some (.ref f)
 kp:PySem.W.keepIn K (.ref f)=true
 b:Binds K fd ps []
theorem ada:sizeLine=16777216:=eC
theorem am7(h:n<=16777216):n<=sizeLine:=by rw[eC];exact h
theorem CSc.noFree{aB:Scope}(kind:aB.kind=.function)(h:∀y∈aB.names,y.2≠.cell/\y.2≠.free)(names:∀y∈aB.names,y.2=.local->aB.names.lookup y.1=some .local)
  (ht:∀y∈ts,aB.names.lookup y=some .local):CSc X aB [] ts [] []:=by
 have e:(relabel aB X.env).names=aB.names:=by
  show aB.names.map _=_;refine map_eq_self λy hy=>?_;obtain⟨n,k⟩:=y;have:(k == NameKind.free)=false:=by simpa using (h _ hy).2
  simp[this]
 refine⟨closureFor_none λy hy=>(h y hy).2,kind,λ_=>a5m λy hy=>(h y hy).1,λ_=>a8m λy hy=>(h y hy).1,names,(λ_ _ z=>nomatch z),λy z=>?_,rfl,(λ_ _ z=>by simp at z)⟩
 rw[e]at z
 rcases z with z|z
 ·exact absurd rfl (h _ (cf z)).1
 ·exact absurd rfl (h _ (cf z)).2
theorem awi(x y:Str):(x++y).cps.toList=x.cps.toList++y.cps.toList:=by
 show(x.cps++y.cps).toList=_;simp
theorem adb{α:Type}(xs:List α)(k:Nat):a5l xs none (some (k:Int))=xs.take k:=by
 unfold a5l;rw[HT.a9f,HT.acj,List.drop_zero,Nat.sub_zero]
 by_cases h:k<=xs.length
 ·rw[Nat.min_eq_left h]
 ·rw[Nat.min_eq_right (by omega),bZ (ah _),bZ (by omega)]
theorem adc{α:Type}(xs:List α)(k:Nat):a5l xs (some (k:Int)) none=xs.drop k:=by
 unfold a5l;rw[HT.a9f,HT.acj]
 by_cases h:k<=xs.length
 ·rw[Nat.min_eq_left h,bZ (by rw[eA];omega)]
 ·rw[Nat.min_eq_right (by omega),cN (ah _),cN (by omega),List.take_nil]
end L2
namespace L2
open PyProof.Rows
section
variable{X:Cx}
theorem a8p(hc:X.calm=true)(S:CSc X aB cl ts fr ix)(hi:PI X tg aF wi)
  (hg:∀C fp s H,PG (cxC X (ts++fr) aB cl C fp s H) tg g) (he:∀C fp s H,PE (cxC X (ts++fr) aB cl C fp s H) aD te) (ht:∀C fp s H,PT (cxC X (ts++fr) aB cl C fp s H) cnd tc) (hs:∀x,foldedSetIterable aF X.env x=pure x)
  (use:Option (Value->Sem Unit)) (I:Inv X aA σ H s) (h:a3f wi (xr ts.length ix) g tc te σ H Q) (fin:a3h X aA σ use Q Qf) :
  wpAny (model X.prog X.w) X.A (comprehension (.ListComp aD [⟨tg,aF,[cnd],0⟩] aB pos) aB X.env ppos (newList []) false (eval aF X.env) use) Qf X.xe s :=
 a4o (cnd:=some cnd) hc S hi hg he ht hs use I h fin
theorem ab0{spos:Pos}(hN:X.N.Nodup)(hi':X.N[i]? = some x)(hx:Loc X.env.scope x)(hc:X.calm=true)(S:CSc X aB cl ts fr ix)(hi:PI X tg aF wi)
  (hg:∀C fp s H,PG (cxC X (ts++fr) aB cl C fp s H) tg g) (he:∀C fp s H,PE (cxC X (ts++fr) aB cl C fp s H) aD te) (ht:∀C fp s H,PT (cxC X (ts++fr) aB cl C fp s H) cnd tc)
  (hs:∀x,foldedSetIterable aF X.env x=pure x:=by intro _;rfl) (hsw:swapsWith (.ListComp aD [⟨tg,aF,[cnd],0⟩] aB pos) (some (.Name x pos')) spos.line X.env=pure true:=by rfl) (hf:Hf X x:=by first|exact .inl rfl|exact .inr rfl|assumption) :
  PS X (.Assign [.Name x pos'] (.ListComp aD [⟨tg,aF,[cnd],0⟩] aB pos) spos) (av2 (a3f wi (xr ts.length ix) g tc te) (a4d i)):=by
 intro aA s σ H D I h
 rw[exec_Assign_Name_used _ _ _ _ hsw];refine a8 (fD (a8 ?_));refine a8 (cT (a8p hc S hi hg he ht hs (some (assign (.Name x pos') X.env)) I h (a9k hN hi' hx hf)) (λ_ s' hq=>av (av hq)) λ_ _ e=>e)
end
section
variable{X:Cx}
theorem ab1:OpR X (compareOp .NotIn) (λx y H Q=>∃c T,x=.str ⟨#[c]⟩/\y=.str T/\Q (.bl (!decide (c∈T.cps.toList))) H):=by
 intro aA s σ H x y v u Q I rx ry h
 obtain⟨c,T,rfl,rfl,q⟩:=h;exact a6t aA s σ H _ _ v u Q I rx ry ⟨_,_,rfl,rfl,by rw[StrLaws.found_one];exact q⟩
end
theorem CSc.of{X:Cx}{ts fr:List Str}{ix:List Nat}(clos:closureFor aB X.env=pure cl)(kind:aB.kind=.function)
  (nocell:(aB.names.all λp=>p.2 != .cell)=true) (names:(aB.names.all λp=>p.2 != .local || aB.names.lookup p.1 == some .local)=true) (sub:∀p∈cl,X.env.cells.lookup p.1=some p.2)
  (has:((relabel aB X.env).names.all λp => !(p.2 == .cell || p.2 == .free) || (cl.lookup p.1).isSome)=true) (nofn:(ts.all λy=>(relabel aB X.env).names.lookup y == some .local)=true)
  (len:ix.length=fr.length) (vis:((fr.zip ix).all λp=>X.N[p.2]? == some p.1 && (X.env.kindOf p.1 == some .cell || X.env.kindOf p.1 == some .free) && ((relabel aB X.env).names.lookup p.1 == some .cell || (relabel aB X.env).names.lookup p.1 == some .free))=true) :
  CSc X aB cl ts fr ix:=by
 have nc:∀y∈aB.names,y.2≠.cell:=λy hy=>by
  have:=bQ.mp nocell y hy
  simpa using this
 refine⟨clos,kind,λ_=>a5m nc,λ_=>a8m nc,λy hy e=>?_,λy c e=>sub _ (cf e),λy z=>.inr ?_,len,λj y e=>⟨nofun,?_⟩⟩
 ·have:=bQ.mp names y hy
  rw[e]at this;simpa using this
 ·have key:∀k,(relabel aB X.env).names.lookup y=some k->(k == .cell || k == .free)=true->∃c,cl.lookup y=some c:=λk e hk=>by
   have:=bQ.mp has _ (cf e)
   rw[hk]at this;exact gC.mp (by simpa using this)
  rcases z with z|z
  ·exact key _ z rfl
  ·exact key _ z rfl
 ·obtain⟨hj,_⟩:=a7.mp e;have hj2:j<ix.length:=by omega
  have hm:(y,ix[j])∈fr.zip ix:=by
   rw[List.mem_iff_getElem?];exact⟨j,by rw[bY];exact⟨e,a6 hj2⟩⟩
  have:=bQ.mp vis _ hm
  simp only[cv,Bool.or_eq_true,gZ]at this;exact⟨ix[j],a6 hj2,this.1.1,this.1.2,this.2⟩
open PySem.AutoSeq1 in
theorem a3j(l b:Addr)(xs ys:Array Value)(n m:Nat)(dd:Option Addr)(sl:Array (Option Value))(long:¬(!xs.isEmpty && Builtin.List.listTooLong (xs.size+ys.size))=true)(fit1:xs.size<=sizeLine)(fit2:xs.size+ys.size<=sizeLine+1) :
  Meets (Builtin.«list.extend» ⟨[.ref l,.ref b],[]⟩) (λ_ R s=>(s.heap.get? l=some {cls:=.type "list",dict:=none,data:=.seq xs n,slots := #[]}/\s.heap.get? b=some {cls:=.type "tuple",dict:=dd,data:=.seq ys m,slots:=sl})/\R (.ok (.ret Value.none)) {s with heap:=s.heap.update l (Obj.mapSeq (·++ys))}) :=
 .of_wp λprog w A R ⟨hp,gn,dr,tk,os⟩ ⟨⟨hl,hb⟩,q⟩=>by
  have a1:=idx_int;have a2:=AutoSeq1.sub_tuple_tuple;have a3:=AutoSeq1.sub_list_list;have a4:=AutoSeq1.sub_tuple_list;have a5:=AutoSeq1.sub_list_tuple;have both:(xs++ys).size<=sizeLine+1:=by simpa using fit2
  wp_walk using wpAny_updateSeq hl rfl (hz:=fit1) (_hz':=both),wpAny_loadPart' hl,wpAny_loadPart' hb
  exact⟨_,rfl,q⟩
section
variable{X:Cx}
def a9n(K:Fg):V->List V->Hp->VK->Prop:=λx vs H Q=>∃l b xs zs,x=.ref l/\vs=[.ref b]/\H l=some (.lst xs)/\SqT K H b zs/\xs.length+zs.length<=sizeLine/\Q .non (upd H l (.lst (xs++zs)))
theorem ab2:MtM X "list.extend" (a9n X.K):=by
 intro aA s σ H x vs v us Q I rx rv h
 obtain⟨l,b,xs,zs,rfl,rfl,hH,hB,hz,q⟩:=h;cases rx
 obtain⟨u,rfl,ru⟩:=rv.one;cases ru
 obtain⟨z,its,n,r,hl,e⟩:=I.lstM hH;obtain⟨its2,r2,p2,_⟩:=I.tuple hB;have hl2:=r2.length;obtain⟨⟨cls,dd,data,sl⟩,e2,hc,hrest⟩:=id p2;have hsz:its.toArray.size+its2.toArray.size<=sizeLine:=by rw[aJ,aJ];omega
 have hlong:¬ (!its.toArray.isEmpty && Builtin.List.listTooLong (its.toArray.size+its2.toArray.size))=true:=by
  rw[a5i hsz,hE];exact bo
 obtain⟨n2,hd⟩:=(show ∃n2,data=.seq its2.toArray n2 from by first|exact hrest|exact⟨_,hrest.2⟩|(obtain⟨_,n,hd⟩:=hrest;exact⟨n,hd⟩))
 have hc':cls=.type "tuple":=hc;subst hc' hd;refine eV F.slot_list_extend ⟨_,e,rfl⟩ F.entry_list_extend (F.args_list_extend_2 _ _)
  (a3j l b its.toArray its2.toArray n n2 dd sl hlong (by rw[aJ];omega) (by omega)) ⟨⟨e,e2⟩,?_⟩
 refine⟨.non,_,I.lset (its':=its++its2) hH e (by simp) (r.append r2) ?_,rfl,q⟩
 rw[ag];omega
end
end L2
namespace MI
open L2
inductive D where
 |non|bl (b:Bool)|int (i:Int)|str (x:Str)|ty (n:String)|tup (xs:List D)|rol (xs:List D)|ref (i:Nat)|scr (xs:List D)|rod (ks:List Key) (xs:List D)|rdT (ks:List (List Key)) (xs:List D)|exc (c:Str)|ins (c:Str) (ks:List Str) (xs:List D)
inductive O where
 |lst (xs:List D)|dK (kvs:List (Key×D))|dT (kvs:List (List Key×D))|ins (c:Str) (fs:List (Str×D))|dN (kvs:List ((Int×List Int)×D))
abbrev Hd:=List O
abbrev Sd:=List (Option D)
inductive R (α:Type) where
 |ok (a:α) (h:Hd)|ex (c:Str) (h:Hd)|no
def R.bind{α β:Type}:R α->(α->Hd->R β)->R β
 |.ok a h,k=>k a h
 |.ex c h,_=>.ex c h
 |.no,_=>.no
inductive Fl where
 |nx (σ:Sd) (h:Hd)|rt (d:D) (h:Hd)|bk (σ:Sd) (h:Hd)|ct (σ:Sd) (h:Hd)|ex (c:Str) (h:Hd)|no
def R.fl{α:Type}:R α->(α->Hd->Fl)->Fl
 |.ok a h,k=>k a h
 |.ex c h,_=>.ex c h
 |.no,_=>.no
abbrev SE:=Sd->Hd->R D
abbrev ST:=Sd->Hd->R Bool
abbrev SA:=Sd->Hd->R (List D)
abbrev SS:=Sd->Hd->Fl
def SqF(K:Fg)(H:Hp)(a:Addr)(vs:List V):Prop:=(∃o,H a=some (.frz o (.lst vs)))\/SqL K (λ_=>none) a vs
theorem SqF.l(h:SqF K H a vs):SqL K H a vs:=by
 rcases h with⟨o,h⟩|h
 ·exact .inl (.inr ⟨o,h⟩)
 ·rcases h with(h|⟨o,h⟩)|h
  ·cases h
  ·cases h
  ·exact .inr h
def SqZ(H:Hp)(a:Addr)(vs:List V):Prop:=∃o,H a=some (.frz o (.lst vs))
theorem SqZ.l(h:SqZ H a vs):SqL K H a vs:=let ⟨o,e⟩:=h; .inl (.inr ⟨o,e⟩)
def exO(a:Addr):HO:=.ext λh=>∃o,h.get? a=some o
mutual
inductive Rep (K:Fg) (ι:List Addr) (H:Hp):V->D->Prop
 |non:Rep K ι H .non .non
 |bl (b:Bool):Rep K ι H (.bl b) (.bl b)
 |int (i:Int):Rep K ι H (.int i) (.int i)
 |str (x:Str):Rep K ι H (.str x) (.str x)
 |ty (n:String):Rep K ι H (.ty n) (.ty n)
 |tup {a:Addr} {vs:List V} {xs:List D} (h:H a=some (.tup vs)) (r:Reps K ι H vs xs):Rep K ι H (.ref a) (.tup xs)
 |rol {a:Addr} {vs:List V} {xs:List D} (h:SqZ H a vs) (r:Reps K ι H vs xs):Rep K ι H (.ref a) (.rol xs)
 |scr {a:Addr} {vs:List V} {xs:List D} (h:SqF K H a vs) (r:Reps K ι H vs xs):Rep K ι H (.ref a) (.scr xs)
 |ref {a:Addr} {i:Nat} (h:ι[i]? = some a):Rep K ι H (.ref a) (.ref i)
 |rod {a:Addr} {o:Obj} {us:List (Key×V)} {ks:List Key} {xs:List D} (h:H a=some (.frz o (.dK us))) (e:us.map (·.1)=ks) (r:Reps K ι H (us.map (·.2)) xs):Rep K ι H (.ref a) (.rod ks xs)
 |rdT {a:Addr} {o:Obj} {us:List (List Key×V)} {ks:List (List Key)} {xs:List D} (h:H a=some (.frz o (.dT us))) (e:us.map (·.1)=ks) (r:Reps K ι H (us.map (·.2)) xs):Rep K ι H (.ref a) (.rdT ks xs)
 |exc {a C:Addr} {o:Obj} {c:Str} (h:H a=some (.frz o (exO a))) (hc:o.cls=.ref C) (hn:PySem.W.nsIn K mainGlobals c=some (some (.ref C))):Rep K ι H (.ref a) (.exc c)
 |ins {a C dx:Addr} {o:Obj} {c:Str} {us:List (Str×V)} {ks:List Str} {xs:List D} (h:H a=some (.frz o (.ins C dx us))) (hn:PySem.W.nsIn K mainGlobals c=some (some (.ref C))) (e:us.map (·.1)=ks) (r:Reps K ι H (us.map (·.2)) xs):Rep K ι H (.ref a) (.ins c ks xs)
inductive Reps (K:Fg) (ι:List Addr) (H:Hp):List V->List D->Prop
 |nil:Reps K ι H [] []
 |cons {v:V} {d:D} {vs:List V} {ds:List D} (r:Rep K ι H v d) (rs:Reps K ι H vs ds):Reps K ι H (v::vs) (d::ds)
end
structure Gw (ι:List Addr) (H:Hp) (ι':List Addr) (H':Hp):Prop where
 pre:∃m,ι'=ι++m
 tup:∀a vs,H a=some (.tup vs)->H' a=some (.tup vs)
 frz:∀a o u,H a=some (.frz o u)->H' a=some (.frz o u)
structure Gr (ι:List Addr) (H:Hp) (ι':List Addr) (H':Hp):Prop where
 pre:∃m,ι'=ι++m/\∀a∈m,H a=none
 tup:∀a vs,H a=some (.tup vs)->H' a=some (.tup vs)
 frz:∀a o u,H a=some (.frz o u)->H' a=some (.frz o u)
 oth:∀a u,H a=some u->a∉ι->H' a=some u
 kp:∀a u,H a=some u->∃u',H' a=some u'
theorem Gr.w(g:Gr ι H ι' H'):Gw ι H ι' H':=⟨let ⟨m,e,_⟩:=g.pre; ⟨m,e⟩,g.tup,g.frz⟩
theorem Gr.refl(ι:List Addr)(H:Hp):Gr ι H ι H:=⟨⟨[],by simp,by simp⟩,λ_ _ h=>h,λ_ _ _ h=>h,λ_ _ h _=>h,λ_ u h=>⟨u,h⟩⟩
theorem Gr.trans(a:Gr ι H ι1 H1)(b:Gr ι1 H1 ι2 H2):Gr ι H ι2 H2:=by
 obtain⟨m,rfl,hm⟩:=a.pre;obtain⟨n,rfl,hn⟩:=b.pre;refine⟨⟨m++n,by simp,λx hx=>?_⟩,λx vs h=>b.tup x vs (a.tup x vs h),λx o u h=>b.frz x o u (a.frz x o u h),λx u h hx=>?_,λx u h=>?_⟩
 ·rcases bB.mp hx with hx|hx
  ·exact hm x hx
  ·cases e:H x with
   |none=>rfl
   |some u =>
    obtain⟨u',e'⟩:=a.kp x u e;rw[hn x hx]at e';cases e'
 ·refine b.oth x u (a.oth x u h hx) λz=>?_
  rcases bB.mp z with z|z
  ·exact hx z
  ·rw[hm x z]at h;cases h
 ·obtain⟨u',e⟩:=a.kp x u h;exact b.kp x u' e
theorem Gw.at(g:Gw ι H ι' H'){i:Nat}(h:ι[i]? = some a):ι'[i]? = some a:=by
 obtain⟨m,rfl⟩:=g.pre;rw[ax (a7.mp h).1];exact h
theorem Gr.at(g:Gr ι H ι' H'){i:Nat}(h:ι[i]? = some a):ι'[i]? = some a:=g.w.at h
theorem SqF.monoW(g:Gw ι H ι' H')(h:SqF K H a vs):SqF K H' a vs:=by
 rcases h with⟨o,h⟩|h
 ·exact .inl ⟨o,g.frz _ _ _ h⟩
 ·exact .inr h
theorem SqZ.monoW(g:Gw ι H ι' H')(h:SqZ H a vs):SqZ H' a vs:=let ⟨o,e⟩:=h; ⟨o,g.frz _ _ _ e⟩
theorem SqZ.mono(g:Gr ι H ι' H')(h:SqZ H a vs):SqZ H' a vs:=h.monoW g.w
mutual
theorem Rep.monoW(g:Gw ι H ι' H'):∀{v:V} {d:D},Rep K ι H v d->Rep K ι' H' v d
 |_,_,.non=>.non
 |_,_,.bl b=>.bl b
 |_,_,.int i=>.int i
 |_,_,.str x=>.str x
 |_,_,.ty n=>.ty n
 |_,_,.tup h r=>.tup (g.tup _ _ h) (Reps.monoW g r)
 |_,_,.rol h r=>.rol (h.monoW g) (Reps.monoW g r)
 |_,_,.scr h r=>.scr (h.monoW g) (Reps.monoW g r)
 |_,_,.ref h=>.ref (g.at h)
 |_,_,.rod h e r=>.rod (g.frz _ _ _ h) e (Reps.monoW g r)
 |_,_,.rdT h e r=>.rdT (g.frz _ _ _ h) e (Reps.monoW g r)
 |_,_,.exc h hc hn=>.exc (g.frz _ _ _ h) hc hn
 |_,_,.ins h hn e r=>.ins (g.frz _ _ _ h) hn e (Reps.monoW g r)
theorem Reps.monoW(g:Gw ι H ι' H'):∀{vs:List V} {ds:List D},Reps K ι H vs ds->Reps K ι' H' vs ds
 |_,_,.nil=>.nil
 |_,_,.cons r rs=>.cons (Rep.monoW g r) (Reps.monoW g rs)
end
theorem Rep.mono(g:Gr ι H ι' H')(r:Rep K ι H v d):Rep K ι' H' v d:=r.monoW g.w
theorem Reps.mono(g:Gr ι H ι' H')(r:Reps K ι H vs ds):Reps K ι' H' vs ds:=r.monoW g.w
section
variable{K:Fg}{ι:List Addr}{H:Hp}
theorem Reps.len:Reps K ι H vs ds->vs.length=ds.length
 |.nil=>rfl
 |.cons _ rs=>by rw[aW,aW,rs.len]
theorem Reps.get:∀{vs:List V} {ds:List D} {i:Nat} {d:D},Reps K ι H vs ds->ds[i]? = some d->∃v,vs[i]? = some v/\Rep K ι H v d
 |_,_,_,_,.nil,e=>by simp at e
 |_,_,0,_,.cons r _,e=>by simp at e;subst e;exact⟨_,rfl,r⟩
 |_,_,i+1,d,.cons _ rs,e=>by
  obtain⟨u,h1,h2⟩:=Reps.get (i:=i) (d:=d) rs (by simpa using e)
  exact⟨u,by simpa using h1,h2⟩
theorem Reps.app:∀{vs us:List V} {ds es:List D},Reps K ι H vs ds->Reps K ι H us es->Reps K ι H (vs++us) (ds++es)
 |_,_,_,_,.nil,s=>s
 |_,_,_,_,.cons r rs,s=>.cons r (Reps.app rs s)
theorem Reps.set(q:Rep K ι H v d):∀{vs:List V} {ds:List D} (i:Nat),Reps K ι H vs ds->Reps K ι H (vs.set i v) (ds.set i d)
 |_,_,_,.nil=>.nil
 |_,_,0,.cons _ rs=>.cons q rs
 |_,_,i+1,.cons r rs=>.cons r (Reps.set q i rs)
theorem Reps.take:∀{vs:List V} {ds:List D} (n:Nat),Reps K ι H vs ds->Reps K ι H (vs.take n) (ds.take n)
 |_,_,0,_=>.nil
 |_,_,_+1,.nil=>.nil
 |_,_,n+1,.cons r rs=>.cons r (Reps.take n rs)
theorem Reps.drop:∀{vs:List V} {ds:List D} (n:Nat),Reps K ι H vs ds->Reps K ι H (vs.drop n) (ds.drop n)
 |_,_,0,r=>r
 |_,_,_+1,.nil=>.nil
 |_,_,n+1,.cons _ rs=>Reps.drop n rs
theorem Reps.erase:∀{vs:List V} {ds:List D} (n:Nat),Reps K ι H vs ds->Reps K ι H (vs.eraseIdx n) (ds.eraseIdx n)
 |_,_,_,.nil=>.nil
 |_,_,0,.cons _ rs=>rs
 |_,_,n+1,.cons r rs=>.cons r (Reps.erase n rs)
theorem Reps.snoc(r:Reps K ι H vs ds)(q:Rep K ι H v d):Reps K ι H (vs++[v]) (ds++[d]):=r.app (.cons q .nil)
theorem Reps.flat:∀{vs:List V} {ds:List D} (k:Nat),Reps K ι H vs ds->Reps K ι H (List.replicate k vs).flatten (List.replicate k ds).flatten
 |_,_,0,_=>.nil
 |vs,ds,k+1,r=>by
  rw[cR,cR,dG,dG];exact r.app (Reps.flat k r)
end
def KRep{κ:Type}(K:Fg)(ι:List Addr)(H:Hp)(us:List (κ×V))(kvs:List (κ×D)):Prop:=us.map (·.1)=kvs.map (·.1)/\Reps K ι H (us.map (·.2)) (kvs.map (·.2))
def ORep(K:Fg)(ι:List Addr)(H:Hp)(a:Addr):O->Prop
 |.lst xs=>∃vs,H a=some (.lst vs)/\Reps K ι H vs xs
 |.dK kvs=>∃us,H a=some (.dK us)/\KRep K ι H us kvs
 |.dT kvs=>∃us,H a=some (.dT us)/\KRep K ι H us kvs
 |.ins c fs=>∃C dx us,H a=some (.ins C dx us)/\PySem.W.nsIn K mainGlobals c=some (some (.ref C))/\KRep K ι H us fs
 |.dN kvs=>∃ent,NDE H a ent/\KRep K ι H (a3e ent) kvs
structure HRep (K:Fg) (ι:List Addr) (H:Hp) (h:Hd):Prop where
 nd:ι.Nodup
 len:ι.length=h.length
 obj:∀(i:Nat) (a:Addr) (o:O),ι[i]? = some a->h[i]? = some o->ORep K ι H a o
section
variable{K:Fg}{ι:List Addr}{H:Hp}{h:Hd}
theorem ORep.some(r:ORep K ι H a o):∃u,H a=some u/\(∀vs,u≠.tup vs)/\(∀o' u',u≠.frz o' u'):=by
 cases o with
 |lst xs=>obtain⟨vs,e,_⟩:=r;exact⟨_,e,λ_ z=>(by cases z),λ_ _ z=>(by cases z)⟩
 |dK kvs=>obtain⟨us,e,_⟩:=r;exact⟨_,e,λ_ z=>(by cases z),λ_ _ z=>(by cases z)⟩
 |dT kvs=>obtain⟨us,e,_⟩:=r;exact⟨_,e,λ_ z=>(by cases z),λ_ _ z=>(by cases z)⟩
 |ins c fs=>obtain⟨C,dx,us,e,_⟩:=r;exact⟨_,e,λ_ z=>(by cases z),λ_ _ z=>(by cases z)⟩
 |dN kvs =>
  obtain⟨ent,e,_⟩:=r
  rcases e with⟨e,_⟩|⟨e,_⟩
  ·exact⟨_,e.has,λ_ z=>(by cases z),λ_ _ z=>(by cases z)⟩
  ·exact⟨_,e,λ_ z=>(by cases z),λ_ _ z=>(by cases z)⟩
theorem HRep.at(r:HRep K ι H h){i:Nat}(e:ι[i]? = some a):∃o,h[i]? = some o/\ORep K ι H a o:=by
 have hi:i<h.length:=by rw[<-r.len];exact(a7.mp e).1
 exact⟨h[i],a6 hi,r.obj i a _ e (a6 hi)⟩
theorem HRep.addr(r:HRep K ι H h){i:Nat}(e:h[i]? = some o):∃a,ι[i]? = some a/\ORep K ι H a o:=by
 have hi:i<ι.length:=by rw[r.len];exact(a7.mp e).1
 exact⟨ι[i],a6 hi,r.obj i _ o (a6 hi) e⟩
theorem HRep.notin(r:HRep K ι H h)(e:H p=none):p∉ι:=λz=>by
 obtain⟨i,hi⟩:=cy z;obtain⟨o,_,q⟩:=r.at hi;obtain⟨u,q,_⟩:=q.some;rw[e]at q;cases q
theorem ORep.monoW(g:Gw ι H ι' H')(e:H' a=H a)(r:ORep K ι H a o):ORep K ι' H' a o:=by
 cases o with
 |lst xs=>obtain⟨vs,h1,h2⟩:=r;exact⟨vs,by rw[e];exact h1,h2.monoW g⟩
 |dK kvs=>obtain⟨us,h1,h2,h3⟩:=r;exact⟨us,by rw[e];exact h1,h2,h3.monoW g⟩
 |dT kvs=>obtain⟨us,h1,h2,h3⟩:=r;exact⟨us,by rw[e];exact h1,h2,h3.monoW g⟩
 |ins c fs=>obtain⟨C,dx,us,h1,hn,h2,h3⟩:=r;exact⟨C,dx,us,by rw[e];exact h1,hn,h2,h3.monoW g⟩
 |dN kvs=>obtain⟨ent,h1,h2,h3⟩:=r;exact⟨ent,h1.keeps e g.tup,h2,h3.monoW g⟩
theorem ORep.mono(g:Gr ι H ι' H')(e:H' a=H a)(r:ORep K ι H a o):ORep K ι' H' a o:=r.monoW g.w e
theorem wj(e:H p=none)(o:HO):Gr ι H ι (upd H p o) :=
 ⟨⟨[],by simp,by simp⟩,λa vs h=>by rw[bu (cj h e)];exact h,λa o u h=>by rw[bu (cj h e)];exact h,λa u h _=>by rw[bu (cj h e)];exact h,λa u h=>⟨u,by rw[bu (cj h e)];exact h⟩⟩
theorem HRep.aside(r:HRep K ι H h)(e:H p=none)(o:HO):HRep K ι (upd H p o) h:=by
 refine⟨r.nd,r.len,λi a o' e1 e2=>?_⟩;have q:=r.obj i a o' e1 e2;obtain⟨u,hu,_⟩:=q.some;exact q.mono (wj e o) (bu (cj hu e))
theorem a4p(e:H p=none)(o:HO):Gr ι H (ι++[p]) (upd H p o) :=
 ⟨⟨[p],rfl,by simpa using e⟩,(wj (ι:=ι) e o).tup,(wj (ι:=ι) e o).frz,(wj (ι:=ι) e o).oth,(wj (ι:=ι) e o).kp⟩
theorem HRep.add(r:HRep K ι H h)(e:H p=none)(q:ORep K (ι++[p]) (upd H p o) p ob):HRep K (ι++[p]) (upd H p o) (h++[ob]):=by
 refine⟨?_,by simp[r.len],λi a o' e1 e2=>?_⟩
 ·rw[bD];exact⟨r.nd,by simp,λa ha b hb z=>r.notin e (by rw[aI.mp hb]at z;rw[<-z];exact ha)⟩
 ·by_cases hi:i<ι.length
  ·rw[ax hi]at e1;rw[ax (by rw[<-r.len];exact hi)]at e2
   have q:=r.obj i a o' e1 e2;obtain⟨u,hu,_⟩:=q.some;exact q.mono (a4p e o) (bu (cj hu e))
  ·have hi2:i<(ι++[p]).length:=(a7.mp e1).1;have:i=ι.length:=by simp at hi2;omega
   subst this;rw[aw (ah _)]at e1;rw[r.len,aw (ah _)]at e2;simp at e1 e2;subst e1 e2;exact q
theorem xu{i:Nat}(r:HRep K ι H h)(e:ι[i]? = some a)(o:HO):Gr ι H ι (upd H a o):=by
 obtain⟨_,_,q⟩:=r.at e;obtain⟨u,hu,n1,n2⟩:=q.some;refine⟨⟨[],by simp,by simp⟩,λb vs hb=>?_,λb o' u' hb=>?_,λb u' hb hn=>?_,λb u' hb=>?_⟩
 ·rw[bu (λz=>by subst z;rw[hu]at hb;exact n1 _ (bp hb))];exact hb
 ·rw[bu (λz=>by subst z;rw[hu]at hb;exact n2 _ _ (bp hb))];exact hb
 ·rw[bu (λz=>hn (by subst z;exact aN e))];exact hb
 ·by_cases z:b=a
  ·subst z;exact⟨o,dh⟩
  ·exact⟨u',by rw[bu z];exact hb⟩
theorem HRep.put(r:HRep K ι H h){i:Nat}(e:ι[i]? = some a)(q:ORep K ι (upd H a o) a ob):HRep K ι (upd H a o) (h.set i ob):=by
 refine⟨r.nd,by rw[fK];exact r.len,λj b o' e1 e2=>?_⟩
 by_cases hj:i=j
 ·subst hj;rw[e]at e1;cases e1
  have hi:i<h.length:=by rw[<-r.len];exact(a7.mp e).1
  rw[bF hi]at e2;cases e2
  exact q
 ·rw[bP hj]at e2;have hne:b≠a:=λz=>by
   subst z;obtain⟨h1,g1⟩:=a7.mp e;obtain⟨h2,g2⟩:=a7.mp e1;have np:=dD.mp r.nd
   rcases Nat.lt_or_gt_of_ne hj with l|l
   ·exact np i j h1 h2 l (g1.trans g2.symm)
   ·exact np j i h2 h1 l (g2.trans g1.symm)
  exact(r.obj j b o' e1 e2).mono (xu r e o) (bu hne)
end
structure SRep (K:Fg) (ι:List Addr) (H:Hp) (σ:St) (τ:Sd):Prop where
 len:σ.length=τ.length
 val:∀(i:Nat) (d:D),τ[i]? = some (some d)->∃v,σ[i]? = some (some v)/\Rep K ι H v d
theorem SRep.mono(g:Gr ι H ι' H')(s:SRep K ι H σ τ):SRep K ι' H' σ τ :=
 ⟨s.len,λi d e=>let ⟨v,h1,h2⟩:=s.val i d e; ⟨v,h1,h2.mono g⟩⟩
theorem SRep.set(s:SRep K ι H σ τ)(r:Rep K ι H v d)(i:Nat):SRep K ι H (σ.set i (some v)) (τ.set i (some d)):=by
 refine⟨by simp[s.len],λj d' e=>?_⟩
 by_cases hj:i=j
 ·subst hj;have hi:i<τ.length:=by
   have:=(a7.mp e).1
   simpa using this
  rw[bF hi]at e;cases e
  exact⟨v,by rw[bF (by rw[s.len];exact hi)],r⟩
 ·rw[bP hj]at e ⊢;exact s.val j d' e
abbrev XD:=Str->List Addr->Hp->Hd->Prop
def out{α β:Type}(K:Fg)(E:XD)(Rp:List Addr->Hp->β->α->Prop)(ι:List Addr)(H:Hp)(r:R α)(Q:β->Hp->Prop):Prop :=
 match r with
 |.ok a h=>∀ι' H' b,Gr ι H ι' H'->Rp ι' H' b a->HRep K ι' H' h->Q b H'
 |.ex c h=>∀ι' H',Gr ι H ι' H'->HRep K ι' H' h->E c ι' H' h
 |.no=>False
theorem xx{α β:Type}{K:Fg}{E:XD}{Rp:List Addr->Hp->β->α->Prop}{ι ι1:List Addr}{H H1:Hp}{r:R α}{Q:β->Hp->Prop}(o:out K E Rp ι H r Q)(g:Gr ι H ι1 H1):out K E Rp ι1 H1 r Q:=by
 cases r with
 |ok a h=>exact λι' H' b g'=>o ι' H' b (g.trans g')
 |ex c h=>exact λι' H' g'=>o ι' H' (g.trans g')
 |no=>exact o
theorem bh{α β γ δ:Type}{K:Fg}{E:XD}{Rp:List Addr->Hp->β->α->Prop}{Sp:List Addr->Hp->δ->γ->Prop}{ι:List Addr}{H:Hp}{r:R α}{k:α->Hd->R γ}{Q:δ->Hp->Prop}{P:β->Hp->Prop}
  (o:out K E Sp ι H (r.bind k) Q) (hP:∀a h ι1 H1 b,Gr ι H ι1 H1->Rp ι1 H1 b a->HRep K ι1 H1 h->out K E Sp ι1 H1 (k a h) Q->P b H1):out K E Rp ι H r P:=by
 cases r with
 |ok a h=>exact λι' H' b g r' hr=>hP a h ι' H' b g r' hr (xx o g)
 |ex c h=>exact o
 |no=>exact o
abbrev xn(K:Fg):List Addr->Hp->V->D->Prop:=λι H v d=>Rep K ι H v d
abbrev azg(K:Fg):List Addr->Hp->List V->List D->Prop:=λι H v d=>Reps K ι H v d
abbrev am8:List Addr->Hp->Bool->Bool->Prop:=λ_ _ a b=>a=b
abbrev azh:List Addr->Hp->Option Int->Option Int->Prop:=λ_ _ a b=>a=b
def ag9(K:Fg)(E:XD)(ι:List Addr)(H:Hp)(r:Fl)(N:Ends):Prop :=
 match r with
 |.nx τ h=>∀ι' H' σ,Gr ι H ι' H'->SRep K ι' H' σ τ->HRep K ι' H' h->N.nx σ H'
 |.bk τ h=>∀ι' H' σ,Gr ι H ι' H'->SRep K ι' H' σ τ->HRep K ι' H' h->N.bk σ H'
 |.ct τ h=>∀ι' H' σ,Gr ι H ι' H'->SRep K ι' H' σ τ->HRep K ι' H' h->N.ct σ H'
 |.rt d h=>∀ι' H' v,Gr ι H ι' H'->Rep K ι' H' v d->HRep K ι' H' h->N.rt v H'
 |.ex c h=>∀ι' H',Gr ι H ι' H'->HRep K ι' H' h->E c ι' H' h
 |.no=>False
theorem qy(o:ag9 K E ι H r N)(g:Gr ι H ι1 H1):ag9 K E ι1 H1 r N:=by
 cases r with
 |nx τ h=>exact λι' H' b g'=>o ι' H' b (g.trans g')
 |bk τ h=>exact λι' H' b g'=>o ι' H' b (g.trans g')
 |ct τ h=>exact λι' H' b g'=>o ι' H' b (g.trans g')
 |rt d h=>exact λι' H' b g'=>o ι' H' b (g.trans g')
 |ex c h=>exact λι' H' g'=>o ι' H' (g.trans g')
 |no=>exact o
theorem oh{α β:Type}{K:Fg}{E:XD}{Rp:List Addr->Hp->β->α->Prop}{ι:List Addr}{H:Hp}{r:R α}{k:α->Hd->Fl}{N:Ends}{P:β->Hp->Prop}
  (o:ag9 K E ι H (r.fl k) N) (hP:∀a h ι1 H1 b,Gr ι H ι1 H1->Rp ι1 H1 b a->HRep K ι1 H1 h->ag9 K E ι1 H1 (k a h) N->P b H1):out K E Rp ι H r P:=by
 cases r with
 |ok a h=>exact λι' H' b g r' hr=>hP a h ι' H' b g r' hr (qy o g)
 |ex c h=>exact o
 |no=>exact o
def lift{α β:Type}(K:Fg)(E:XD)(Rp:List Addr->Hp->β->α->Prop)(f:Sd->Hd->R α):St->Hp->(β->Hp->Prop)->Prop:=λσ H Q =>
 ∃ι τ h,SRep K ι H σ τ/\HRep K ι H h/\out K E Rp ι H (f τ h) Q
def a5o(K:Fg)(E:XD)(f:SS):TS:=λN σ H=>∃ι τ h,SRep K ι H σ τ/\HRep K ι H h/\ag9 K E ι H (f τ h) N
abbrev ME(X:Cx)(E:XD)(e:Expr)(f:SE):Prop:=PE X e (lift X.K E (xn X.K) f)
abbrev MT(X:Cx)(E:XD)(e:Expr)(f:ST):Prop:=PT X e (lift X.K E am8 f)
abbrev MW(X:Cx)(E:XD)(e:Expr)(f:ST):Prop:=PW X e (lift X.K E am8 f)
abbrev MA(X:Cx)(E:XD)(es:List Expr)(f:SA):Prop:=PA X es (lift X.K E (azg X.K) f)
abbrev MS(X:Cx)(E:XD)(st:Stmt)(f:SS):Prop:=PS X st (a5o X.K E f)
abbrev MSs(X:Cx)(E:XD)(st:List Stmt)(f:SS):Prop:=PSs X st (a5o X.K E f)
theorem PE.weak(h:PE X e t)(i:∀σ H Q,t' σ H Q->t σ H Q):PE X e t':=λaA s σ H Q I q=>h aA s σ H Q I (i _ _ _ q)
theorem PT.weak(h:PT X e t)(i:∀σ H Q,t' σ H Q->t σ H Q):PT X e t':=λaA s σ H Q I q=>h aA s σ H Q I (i _ _ _ q)
theorem PW.weak(h:PW X e t)(i:∀σ H Q,t' σ H Q->t σ H Q):PW X e t':=λwh aA s σ H Q I q=>h wh aA s σ H Q I (i _ _ _ q)
theorem PA.weak(h:PA X e t)(i:∀σ H Q,t' σ H Q->t σ H Q):PA X e t':=λpos aA s σ H Q I q=>h pos aA s σ H Q I (i _ _ _ q)
theorem PS.weak(h:PS X e t)(i:∀N σ H,t' N σ H->t N σ H):PS X e t':=λaA s σ H N I q=>h aA s σ H N I (i _ _ _ q)
theorem PSs.weak(h:PSs X e t)(i:∀N σ H,t' N σ H->t N σ H):PSs X e t':=λaA s σ H N I q=>h aA s σ H N I (i _ _ _ q)
abbrev LINE:Nat:=16777216
theorem ll{n:Nat}(h:n<=LINE):n<=sizeLine:=am7 h
def sV(i:Nat):SE:=λτ h=>match τ[i]? with|some (some d)=>.ok d h|_=>.no
def sC(d:D):SE:=λ_ h=>.ok d h
abbrev sI(i:Int):SE:=sC (.int i)
section
variable{X:Cx}{E:XD}{a b c e:Expr}{fa fb fc:SE}{pos:Pos}
theorem azi(i:Nat)(hN:X.N[i]? = some x:=by rfl)(hv:Vis X.env.scope x:=by with_unfolding_all first|exact Or.inl rfl|exact Or.inr (Or.inl rfl)|exact Or.inr (Or.inr rfl))(hd:(x == ("__debug__" : Str))=false:=by decide)
  (hcd:(x == ("__classdict__" : Str))=false:=by decide):ME X E (.Name x pos) (sV i):=by
 refine PE.weak (apa hN hv hd hcd) ?_
 rintro σ H Q ⟨ι,τ,h,S,Rh,o⟩
 unfold sV at o
 split at o
 ·rename_i d e;obtain⟨v,h1,h2⟩:=S.val i d e;exact⟨v,h1,o ι H v (.refl _ _) h2 Rh⟩
 ·exact o.elim
theorem aqt(h:PE X e (tC v))(r:∀ι H,Rep X.K ι H v d):ME X E e (sC d) :=
 PE.weak h λσ H Q ⟨ι,τ,h,S,Rh,o⟩=>o ι H v (.refl _ _) (r ι H) Rh
theorem aqu{i j pos}:ME X E (.Constant (.int i) j pos) (sC (.int i)):=aqt apb λ_ _=>.int i
theorem awj{i j pos}:ME X E (.Constant (.bool i) j pos) (sC (.bl i)):=aqt avm λ_ _=>.bl i
theorem aqv{i j pos}:ME X E (.Constant (.str i) j pos) (sC (.str i)):=aqt apc λ_ _=>.str i
theorem ah5(hg:Gl X x)(hm:X.mg x=none)(hv:bootBuiltins x=some (.type n))(hn:x ≠ "__name__":=by decide)(hd:(x == ("__debug__" : Str))=false:=by decide):ME X E (.Name x pos) (sC (.ty n)) :=
 aqt (al8 (v:=.ty n) hg hm hv rfl hn hd) λ_ _=>.ty n
theorem am9(hg:Gl X x)(hm:X.mg x=some (.int i t))(hd:(x == ("__debug__" : Str))=false:=by decide):ME X E (.Name x pos) (sC (.int i)) :=
 aqt (al7 (v:=.int i) hg hm ⟨t,rfl⟩ hd) λ_ _=>.int i
def s2(g:D->D->Hd->R D)(fa fb:SE):SE:=λτ h=>(fa τ h).bind λx h1=>(fb τ h1).bind λy h2=>g x y h2
def s1(g:D->Hd->R D)(fa:SE):SE:=λτ h=>(fa τ h).bind g
def a0m(K:Fg)(g:D->D->Hd->R D)(r:R2):Prop:=∀(E:XD) ι H h x y dx dy Q,Rep K ι H x dx->Rep K ι H y dy->HRep K ι H h->out K E (xn K) ι H (g dx dy h) Q->r x y H Q
def azj(K:Fg)(g:D->Hd->R D)(r:V->Hp->VK->Prop):Prop:=∀(E:XD) ι H h x dx Q,Rep K ι H x dx->HRep K ι H h->out K E (xn K) ι H (g dx h) Q->r x H Q
def ab3(K:Fg)(g:List D->Hd->R D)(r:List V->Hp->VK->Prop):Prop:=∀(E:XD) ι H h xs ds Q,Reps K ι H xs ds->HRep K ι H h->out K E (xn K) ι H (g ds h) Q->r xs H Q
theorem av5(hs:a0m K g r)(q:lift K E (xn K) (s2 g fa fb) σ H Q):tOp r (lift K E (xn K) fa) (lift K E (xn K) fb) σ H Q:=by
 obtain⟨ι,τ,h,S,Rh,o⟩:=q;refine⟨ι,τ,h,S,Rh,bh o λd h1 ι1 H1 v g1 r1 hr1 o1=>?_⟩;refine⟨ι1,τ,h1,S.mono g1,hr1,bh o1 λd2 h2 ι2 H2 u g2 r2 hr2 o2=>?_⟩;exact hs E ι2 H2 h2 v u d d2 Q (r1.mono g2) r2 hr2 o2
theorem ab4(ho:OpR X (binaryOp op) r)(hs:a0m X.K g r)(ha:ME X E a fa)(hb:ME X E b fb):ME X E (.BinOp a op b pos) (s2 g fa fb) :=
 PE.weak (avz ho ha hb) λσ H Q q=>av5 hs q
theorem ade(ho:OpR X (compareOp op) r)(hs:a0m X.K g r)(ha:ME X E a fa)(hb:ME X E b fb)(hm:behindInMarks op b=false):ME X E (.Compare a [op] [b] pos) (s2 g fa fb) :=
 PE.weak (alf ho ha hb hm) λσ H Q q=>av5 hs q
theorem awk(ho:UnR X (unaryOp op) r)(hs:azj X.K g r)(ha:ME X E a fa):ME X E (.UnaryOp op a pos) (s1 g fa):=by
 refine PE.weak (aw0 ho ha) ?_
 rintro σ H Q ⟨ι,τ,h,S,Rh,o⟩
 exact⟨ι,τ,h,S,Rh,bh o λd h1 ι1 H1 v g1 r1 hr1 o1=>hs E ι1 H1 h1 v d Q r1 hr1 o1⟩
theorem awl(ho:IxR X r)(hs:a0m X.K g r)(ha:ME X E a fa)(hb:ME X E b fb)(hp:a5e b):ME X E (.Subscript a b pos) (s2 g fa fb) :=
 PE.weak (aw9 ho ha hb hp) λσ H Q q=>av5 hs q
def asB(d:D)(h:Hd):R Bool:=match d with|.bl b=>.ok b h|_=>.no
def sT(f:SE):ST:=λτ h=>(f τ h).bind asB
theorem adf(hi:∀σ H Q,lift K E (xn K) f σ H Q->t σ H Q)(q:lift K E am8 (sT f) σ H Q):alg t σ H Q:=by
 refine hi σ H _ ?_;obtain⟨ι,τ,h,S,Rh,o⟩:=q;refine⟨ι,τ,h,S,Rh,bh o λd h1 ι1 H1 v g1 r1 hr1 o1=>?_⟩
 cases r1 with
 |bl b=>exact⟨b,rfl,o1 ι1 H1 b (.refl _ _) rfl hr1⟩
 |_=>exact o1.elim
theorem a5p(ho:OpR X (compareOp op) r)(hs:a0m X.K g r)(ha:ME X E a fa)(hb:ME X E b fb)(hm:behindInMarks op b=false):MT X E (.Compare a [op] [b] pos) (sT (s2 g fa fb)) :=
 PT.weak (alh ho ha hb hm) λσ H Q q=>adf (λ_ _ _=>av5 hs) q
def sCh(g g':D->D->Hd->R D)(fa fb fc:SE):SE:=λτ h=>(fa τ h).bind λx h1=>(fb τ h1).bind λy h2=>(g x y h2).bind λz h3=>match z with
 |.bl true=>(fc τ h3).bind λw h4=>g' y w h4
 |.bl false=>.ok (.bl false) h3
 |_=>.no
theorem ajq(hs:a0m K g r)(hs':a0m K g' r')(q:lift K E (xn K) (sCh g g' fa fb fc) σ H Q) :
  acf r r' (lift K E (xn K) fa) (lift K E (xn K) fb) (lift K E (xn K) fc) σ H Q:=by
 obtain⟨ι,τ,h,S,Rh,o⟩:=q;refine⟨ι,τ,h,S,Rh,bh o λd h1 ι1 H1 v g1 r1 hr1 o1=>?_⟩;refine⟨ι1,τ,h1,S.mono g1,hr1,bh o1 λd2 h2 ι2 H2 u g2 r2 hr2 o2=>?_⟩;refine hs E ι2 H2 h2 v u d d2 _ (r1.mono g2) r2 hr2 (bh o2 λd3 h3 ι3 H3 z g3 r3 hr3 o3=>?_)
 cases r3 with
 |bl k =>
  refine⟨k,rfl,?_⟩
  cases k with
  |true =>
   rw[aQ rfl];refine⟨ι3,τ,h3,((S.mono g1).mono g2).mono g3,hr3,bh o3 λd4 h4 ι4 H4 w g4 r4 hr4 o4=>?_⟩;exact hs' E ι4 H4 h4 u w d2 d4 Q ((r2.mono g3).mono g4) r4 hr4 o4
  |false =>
   rw[bg bo];exact o3 ι3 H3 (.bl false) (.refl _ _) (.bl false) hr3
 |_=>exact o3.elim
theorem ah6(ho:OpR X (compareOp op) r)(ho':OpR X (compareOp op') r')(hs:a0m X.K g r)(hs':a0m X.K g' r')(ha:ME X E a fa)(hb:ME X E b fb)(hc:ME X E c fc)
  (hm:lastMarks [op,op'] [b,c]=false:=by with_unfolding_all rfl):ME X E (.Compare a [op,op'] [b,c] pos) (sCh g g' fa fb fc) :=
 PE.weak (agp ho ho' ha hb hc hm) λσ H Q q=>ajq hs hs' q
theorem a9o(ho:OpR X (compareOp op) r)(ho':OpR X (compareOp op') r')(hs:a0m X.K g r)(hs':a0m X.K g' r')(ha:ME X E a fa)(hb:ME X E b fb)(hc:ME X E c fc)
  (hm:lastMarks [op,op'] [b,c]=false:=by with_unfolding_all rfl):MT X E (.Compare a [op,op'] [b,c] pos) (sT (sCh g g' fa fb fc)) :=
 PT.weak (agq ho ho' ha hb hc hm) λσ H Q q=>adf (λ_ _ _=>ajq hs hs') q
def tru(d:D)(h:Hd):R Bool:=match d with
 |.non=>.ok false h
 |.bl b=>.ok b h
 |.int i=>.ok (i != 0) h
 |.str x=>if x.length<=LINE then .ok ((x.length:Int) != 0) h else .no
 |.tup xs=>.ok (!xs.isEmpty) h
 |.rol xs=>.ok (!xs.isEmpty) h
 |.ref i=>match h[i]? with
  |some (.lst xs)=>.ok (!xs.isEmpty) h
  |some (.dK kvs)=>.ok (!kvs.isEmpty) h
  |_=>.no
 |_=>.no
theorem Reps.emp{K:Fg}{ι:List Addr}{H:Hp}{vs:List V}{ds:List D}(r:Reps K ι H vs ds):vs.isEmpty=ds.isEmpty:=by cases r<;>rfl
theorem KRep.emp{κ:Type}{K:Fg}{ι:List Addr}{H:Hp}{us:List (κ×V)}{kvs:List (κ×D)}(r:KRep K ι H us kvs):us.isEmpty=kvs.isEmpty:=by
 have:=aZ List.length r.1
 cases us<;>cases kvs<;>simp at this ⊢
theorem ama{K:Fg}{ι:List Addr}{H:Hp}{h:Hd}{x:V}{d:D}{Q:Bool->Hp->Prop}(r:Rep K ι H x d)(hr:HRep K ι H h)(o:out K E am8 ι H (tru d h) Q):∃k,aw4 K x H k/\Q k H:=by
 cases r with
 |non=>exact⟨false,rfl,o ι H _ (.refl _ _) rfl hr⟩
 |bl b=>exact⟨b,rfl,o ι H _ (.refl _ _) rfl hr⟩
 |int i=>exact⟨_,rfl,o ι H _ (.refl _ _) rfl hr⟩
 |str x =>
  by_cases hl:x.length<=LINE
  ·simp only[tru,aQ hl]at o;exact⟨_,⟨ll hl,rfl⟩,o ι H _ (.refl _ _) rfl hr⟩
  ·simp only[tru,bg hl]at o;exact o.elim
 |ty n=>exact o.elim
 |rod _ _ _=>exact o.elim
 |scr _ _=>exact o.elim
 |rdT _ _ _=>exact o.elim
 |exc _ _ _=>exact o.elim
 |ins _ _ _ _=>exact o.elim
 |tup e rs=>exact⟨_,.inr (.inl ⟨_,SqT.of e,rfl⟩),by rw[rs.emp];exact o ι H _ (.refl _ _) rfl hr⟩
 |rol e rs=>exact⟨_,.inl ⟨_,e.l,rfl⟩,by rw[rs.emp];exact o ι H _ (.refl _ _) rfl hr⟩
 |@ref a i e =>
  obtain⟨ob,h1,h2⟩:=hr.at e;simp only[tru,h1]at o
  cases ob with
  |lst xs =>
   obtain⟨vs,h3,h4⟩:=h2;exact⟨_,.inl ⟨_,SqL.of h3,rfl⟩,by rw[h4.emp];exact o ι H _ (.refl _ _) rfl hr⟩
  |dK kvs =>
   obtain⟨us,h3,h4⟩:=h2;exact⟨_,.inr (.inr ⟨_,h3,rfl⟩),by rw[h4.emp];exact o ι H _ (.refl _ _) rfl hr⟩
  |dT kvs=>exact o.elim
  |ins _ _=>exact o.elim
  |dN _=>exact o.elim
def a6n(f:SE):ST:=λτ h=>(f τ h).bind tru
theorem aqw(ha:ME X E a fa)(he:∀whole,isTrue a X.env whole=(do let v <-whole;standAt a.pos;holding [v] (truthy v)):=by intro _;rfl):MT X E a (a6n fa):=by
 refine PT.weak (agr ha he) ?_
 rintro σ H Q ⟨ι,τ,h,S,Rh,o⟩
 exact⟨ι,τ,h,S,Rh,bh o λd h1 ι1 H1 v g1 r1 hr1 o1=>ama r1 hr1 o1⟩
def abx(f g:ST):ST:=λτ h=>(f τ h).bind λb h1=>if b=true then g τ h1 else .ok false h1
def sOr(f g:ST):ST:=λτ h=>(f τ h).bind λb h1=>if b=true then .ok true h1 else g τ h1
def a6o(f:ST):ST:=λτ h=>(f τ h).bind λb h1=>.ok (!b) h1
variable{ga gb:ST}
theorem amb(ha:MT X E a ga):MW X E (.BoolOp .And [a] pos) ga:=al9 ha
theorem aqx(ha:MT X E a ga):MW X E (.BoolOp .Or [a] pos) ga:=apd ha
theorem aqy{aG:List Expr}(ha:MT X E a ga)(hb:MW X E (.BoolOp .And (b::aG) pos) gb):MW X E (.BoolOp .And (a::b::aG) pos) (abx ga gb):=by
 refine PW.weak (ape ha hb) ?_
 rintro σ H Q ⟨ι,τ,h,S,Rh,o⟩
 refine⟨ι,τ,h,S,Rh,bh o λd h1 ι1 H1 v g1 r1 hr1 o1=>?_⟩;cases r1
 cases d with
 |true=>exact⟨ι1,τ,h1,S.mono g1,hr1,o1⟩
 |false=>exact o1 ι1 H1 false (.refl _ _) rfl hr1
theorem awm{aG:List Expr}(ha:MT X E a ga)(hb:MW X E (.BoolOp .Or (b::aG) pos) gb):MW X E (.BoolOp .Or (a::b::aG) pos) (sOr ga gb):=by
 refine PW.weak (avn ha hb) ?_
 rintro σ H Q ⟨ι,τ,h,S,Rh,o⟩
 refine⟨ι,τ,h,S,Rh,bh o λd h1 ι1 H1 v g1 r1 hr1 o1=>?_⟩;cases r1
 cases d with
 |true=>exact o1 ι1 H1 true (.refl _ _) rfl hr1
 |false=>exact⟨ι1,τ,h1,S.mono g1,hr1,o1⟩
theorem aqz(ha:MT X E a ga):MT X E (.UnaryOp .Not a pos) (a6o ga):=by
 refine PT.weak (apf ha) ?_
 rintro σ H Q ⟨ι,τ,h,S,Rh,o⟩
 refine⟨ι,τ,h,S,Rh,bh o λd h1 ι1 H1 v g1 r1 hr1 o1=>?_⟩;cases r1
 exact o1 ι1 H1 _ (.refl _ _) rfl hr1
def a3k(f g:SE):SE:=λτ h=>(f τ h).bind λd h1=>match d with|.bl true=>g τ h1|.bl false=>.ok (.bl false) h1|_=>.no
def av6(f g:SE):SE:=λτ h=>(f τ h).bind λd h1=>match d with|.bl true=>.ok (.bl true) h1|.bl false=>g τ h1|_=>.no
def a5q(f:SE):SE:=λτ h=>(f τ h).bind λd h1=>match d with|.bl b=>.ok (.bl (!b)) h1|_=>.no
theorem ar0{op}(ha:ME X E a fa):ME X E (.BoolOp op [a] pos) fa:=apg ha
theorem ar3{aG:List Expr}(ha:ME X E a fa)(hb:ME X E (.BoolOp .And (b::aG) pos) fb):ME X E (.BoolOp .And (a::b::aG) pos) (a3k fa fb):=by
 refine PE.weak (aph ha hb) ?_
 rintro σ H Q ⟨ι,τ,h,S,Rh,o⟩
 refine⟨ι,τ,h,S,Rh,bh o λd h1 ι1 H1 v g1 r1 hr1 o1=>?_⟩
 cases r1 with
 |bl k =>
  refine⟨k,rfl,?_⟩
  cases k with
  |true=>exact⟨ι1,τ,h1,S.mono g1,hr1,o1⟩
  |false=>exact o1 ι1 H1 _ (.refl _ _) (.bl _) hr1
 |_=>exact o1.elim
theorem ar4(ha:ME X E a fa):ME X E (.UnaryOp .Not a pos) (a5q fa):=by
 refine PE.weak (api ha) ?_
 rintro σ H Q ⟨ι,τ,h,S,Rh,o⟩
 refine⟨ι,τ,h,S,Rh,bh o λd h1 ι1 H1 v g1 r1 hr1 o1=>?_⟩
 cases r1 with
 |bl k=>exact⟨k,rfl,o1 ι1 H1 _ (.refl _ _) (.bl _) hr1⟩
 |_=>exact o1.elim
def av7(c:ST)(f g:SE):SE:=λτ h=>(c τ h).bind λb h1=>if b=true then f τ h1 else g τ h1
def bj:SA:=λ_ h=>.ok [] h
def aj(f:SE)(g:SA):SA:=λτ h=>(f τ h).bind λd h1=>(g τ h1).bind λds h2=>.ok (d::ds) h2
variable{es:List Expr}{ka:SA}
theorem ar5:MA X E [] bj:=PA.weak a4k λσ H Q ⟨ι,τ,h,S,Rh,o⟩=>o ι H [] (.refl _ _) .nil Rh
theorem a08(ha:ME X E e fa)(hr:MA X E es ka)(hs:starEach (e::es) X.env=(false,eval e X.env)::starEach es X.env:=by rfl):MA X E (e::es) (aj fa ka):=by
 refine PA.weak (a06 ha hr hs) ?_
 rintro σ H Q ⟨ι,τ,h,S,Rh,o⟩
 refine⟨ι,τ,h,S,Rh,bh o λd h1 ι1 H1 v g1 r1 hr1 o1=>?_⟩;refine⟨ι1,τ,h1,S.mono g1,hr1,bh o1 λd2 h2 ι2 H2 u g2 r2 hr2 o2=>?_⟩;exact o2 ι2 H2 _ (.refl _ _) (.cons (r1.mono g2) r2) hr2
def a2i(ds:List D)(h:Hd):R D:=if ds.length<=LINE then .ok (.tup ds) h else .no
def a1h(ds:List D)(h:Hd):R D:=if ds.length<=LINE then .ok (.ref h.length) (h++[.lst ds]) else .no
def sA(g:List D->Hd->R D)(k:SA):SE:=λτ h=>(k τ h).bind g
theorem a0y(r:Reps K ι H vs ds)(hr:HRep K ι H h)(o:out K E (xn K) ι H (.ok (.tup ds) h) Q):∀p,H p=none->Q (.ref p) (upd H p (.tup vs)):=λp hp =>
 o ι _ _ (wj hp _) (.tup dh (r.mono (wj hp _))) (hr.aside hp _)
theorem uf(r:Reps K ι H vs ds)(hr:HRep K ι H h)(o:out K E (xn K) ι H (.ok (.ref h.length) (h++[.lst ds])) Q):∀p,H p=none->Q (.ref p) (upd H p (.lst vs)):=λp hp =>
 o (ι++[p]) _ _ (a4p hp _) (.ref (by rw[aw (by rw[hr.len];exact ah _),hr.len];simp)) (hr.add hp ⟨_,dh,r.mono (a4p hp _)⟩)
theorem a5r{K:Fg}{ι:List Addr}{H:Hp}{h:Hd}{i:Nat}{a:Addr}{vs:List V}{ds:List D}{d:D}{v:V}{Q:VK}(r:Reps K ι H vs ds)(hr:HRep K ι H h)(hi:ι[i]? = some a)(rd:Rep K ι H v d)(o:out K E (xn K) ι H (.ok d (h.set i (.lst ds))) Q):Q v (upd H a (.lst vs)) :=
 o ι _ _ (xu hr hi _) (rd.mono (xu hr hi _)) (hr.put hi ⟨_,dh,r.mono (xu hr hi _)⟩)
theorem ar6{x1}(h:MA X E es ka):ME X E (.Tuple es x1 pos) (sA a2i ka):=by
 refine PE.weak (aq0 h) ?_
 rintro σ H Q ⟨ι,τ,h,S,Rh,o⟩
 refine⟨ι,τ,h,S,Rh,bh o λd h1 ι1 H1 v g1 r1 hr1 o1=>?_⟩;unfold a2i at o1
 split at o1
 ·rename_i hl;exact⟨ll (by rw[r1.len];exact hl),a0y r1 hr1 o1⟩
 ·exact o1.elim
theorem ar7(h:MA X E es ka):ME X E (.List es pos) (sA a1h ka):=by
 refine PE.weak (aq1 h) ?_
 rintro σ H Q ⟨ι,τ,h,S,Rh,o⟩
 refine⟨ι,τ,h,S,Rh,bh o λd h1 ι1 H1 v g1 r1 hr1 o1=>?_⟩;unfold a1h at o1
 split at o1
 ·rename_i hl;exact⟨ll (by rw[r1.len];exact hl),uf r1 hr1 o1⟩
 ·exact o1.elim
theorem a7d{x:Str}{p:Pos}{id:String}{r:List V->Hp->VK->Prop}{g:List D->Hd->R D}(hc:CallR X (.builtin id) r)(hs:ab3 X.K g r)(hg:Gl X x)(hm:X.mg x=none)(hv:bootBuiltins x=some (.builtin id))(ha:MA X E (e::es) ka)(hn:x ≠ "__name__":=by decide)(hdb:(x == ("__debug__" : Str))=false:=by decide)
  (he:starEach (e::es) X.env=(false,eval e X.env)::starEach es X.env:=by rfl) (hpl:(backTo pos (starEach es X.env)).any (·.1)=false:=by rfl):ME X E (.Call (.Name x p) (e::es) [] pos) (sA g ka):=by
 refine PE.weak (agu hc hg hm hv ha hn hdb he hpl) ?_
 rintro σ H Q ⟨ι,τ,h,S,Rh,o⟩
 exact⟨ι,τ,h,S,Rh,bh o λd h1 ι1 H1 v g1 r1 hr1 o1=>hs E ι1 H1 h1 v d Q r1 hr1 o1⟩
theorem adg{x:Str}{p:Pos}{id:String}{r:List V->Hp->VK->Prop}{g:List D->Hd->R D}(hc:CallR X (.type id) r)(hs:ab3 X.K g r)(hg:Gl X x)(hm:X.mg x=none)(hv:bootBuiltins x=some (.type id))(ha:MA X E (e::es) ka)(hn:x ≠ "__name__":=by decide)(hdb:(x == ("__debug__" : Str))=false:=by decide)
  (he:starEach (e::es) X.env=(false,eval e X.env)::starEach es X.env:=by rfl) (hpl:(backTo pos (starEach es X.env)).any (·.1)=false:=by rfl):ME X E (.Call (.Name x p) (e::es) [] pos) (sA g ka):=by
 refine PE.weak (a3a hc hg hm hv ha hn hdb he hpl) ?_
 rintro σ H Q ⟨ι,τ,h,S,Rh,o⟩
 exact⟨ι,τ,h,S,Rh,bh o λd h1 ι1 H1 v g1 r1 hr1 o1=>hs E ι1 H1 h1 v d Q r1 hr1 o1⟩
end
def di(f g:SS):SS:=λτ h=>match f τ h with|.nx τ1 h1=>g τ1 h1|r=>r
def sNx:SS:=λτ h=>.nx τ h
def a04(f:SE):SS:=λτ h=>(f τ h).fl λd h1=>.rt d h1
def vm(f:SE):SS:=λτ h=>(f τ h).fl λ_ h1=>.nx τ h1
def sIf(c:ST)(f g:SS):SS:=λτ h=>(c τ h).fl λb h1=>if b=true then f τ h1 else g τ h1
def j4(i:Nat)(f:SE):SS:=λτ h=>(f τ h).fl λd h1=>.nx (τ.set i (some d)) h1
def adh(i:Nat)(g:D->D->Hd->R D)(f:SE):SS:=λτ h=>match τ[i]? with
 |some (some x)=>(f τ h).fl λy h1=>(g x y h1).fl λz h2=>.nx (τ.set i (some z)) h2
 |_=>.no
section
variable{X:Cx}{E:XD}{e o:Expr}{es:List Expr}{fa fb fc:SE}{ga:ST}{st:Stmt}{sts a b:List Stmt}{f g:SS}{pos:Pos}
theorem amc:MSs X E [] sNx:=PSs.weak ala λN σ H ⟨ι,τ,h,S,Rh,o⟩=>o ι H σ (.refl _ _) S Rh
theorem ar8(q:a5o K E (di f g) N σ H):a5o K E f {N with nx:=a5o K E g N} σ H:=by
 obtain⟨ι,τ,h,S,Rh,o⟩:=q;refine⟨ι,τ,h,S,Rh,?_⟩;unfold di at o
 cases hf:f τ h with
 |nx τ1 h1 =>
  rw[hf]at o;exact λι1 H1 σ1 g1 S1 R1=>⟨ι1,τ1,h1,S1,R1,qy o g1⟩
 |_=>rw[hf]at o;exact o
theorem a9p(h1:MS X E st f)(h2:MSs X E sts g):MSs X E (st::sts) (di f g):=PSs.weak (agl h1 h2) λN σ H q=>ar8 q
theorem adi(h1:MS X E st f):MSs X E [st] f:=alb h1
theorem ar9(he:ME X E e fa):MS X E (.Return (some e) pos) (a04 fa):=by
 refine PS.weak (apj he) ?_
 rintro N σ H ⟨ι,τ,h,S,Rh,o⟩
 exact⟨ι,τ,h,S,Rh,oh o λd h1 ι1 H1 v g1 r1 hr1 o1=>o1 ι1 H1 v (.refl _ _) r1 hr1⟩
theorem amd(he:ME X E e fa)(hs:swapsWith e none pos.line X.env=pure false:=by rfl):MS X E (.Expr e pos) (vm fa):=by
 refine PS.weak (alc he hs) ?_
 rintro N σ H ⟨ι,τ,h,S,Rh,o⟩
 exact⟨ι,τ,h,S,Rh,oh o λd h1 ι1 H1 v g1 r1 hr1 o1=>o1 ι1 H1 σ (.refl _ _) (S.mono g1) hr1⟩
theorem awn(hc:MT X E c ga)(ha:MSs X E a f)(hb:MSs X E b g):MS X E (.If c a b pos) (sIf ga f g):=by
 refine PS.weak (avs hc ha hb) ?_
 rintro N σ H ⟨ι,τ,h,S,Rh,o⟩
 refine⟨ι,τ,h,S,Rh,oh o λd h1 ι1 H1 v g1 r1 hr1 o1=>?_⟩;cases r1
 cases d with
 |true=>exact⟨ι1,τ,h1,S.mono g1,hr1,o1⟩
 |false=>exact⟨ι1,τ,h1,S.mono g1,hr1,o1⟩
theorem ara(hN:X.N.Nodup)(hi:X.N[i]? = some x)(hx:Loc X.env.scope x)(he:ME X E e fa)(hs:swapsWith e (some (.Name x pos')) pos.line X.env=pure false:=by rfl)(hf:Hf X x:=by with_unfolding_all first|exact .inl rfl|exact .inr rfl|assumption) :
  MS X E (.Assign [.Name x pos'] e pos) (j4 i fa):=by
 refine PS.weak (apm hN hi hx he hs hf) ?_
 rintro N σ H ⟨ι,τ,h,S,Rh,o⟩
 exact⟨ι,τ,h,S,Rh,oh o λd h1 ι1 H1 v g1 r1 hr1 o1=>o1 ι1 H1 _ (.refl _ _) ((S.mono g1).set r1 i) hr1⟩
theorem arb(hN:X.N.Nodup)(hi:X.N[i]? = some x)(hx:Loc X.env.scope x)(ho:OpR X (inplaceOp op) r)(hs:a0m X.K gg r)(he:ME X E e fa)(hf:Hf X x:=by with_unfolding_all first|exact .inl rfl|exact .inr rfl|assumption) :
  MS X E (.AugAssign (.Name x pos') op e pos) (adh i gg fa):=by
 refine PS.weak (apn hN hi hx he ho hf) ?_
 rintro N σ H ⟨ι,τ,h,S,Rh,o⟩
 unfold adh at o
 split at o
 ·rename_i d ed;obtain⟨v,h1,h2⟩:=S.val i d ed;refine⟨v,h1,ι,τ,h,S,Rh,oh o λd2 h3 ι1 H1 u g1 r1 hr1 o1=>?_⟩;refine hs E ι1 H1 h3 v u d d2 _ (h2.mono g1) r1 hr1 (oh o1 λd3 h4 ι2 H2 z g2 r2 hr2 o2=>?_);exact o2 ι2 H2 _ (.refl _ _) (((S.mono g1).mono g2).set r2 i) hr2
 ·exact o.elim
def put(o k v:D)(h:Hd):Option Hd:=match o,k with
 |.ref i,.int j=>match h[i]? with
  |some (.lst xs)=>match ixN xs.length j with
   |some m=>some (h.set i (.lst (xs.set m v)))
   |none=>none
  |_=>none
 |_,_=>none
theorem adk{K:Fg}{ι:List Addr}{H:Hp}{h h':Hd}{o k v:V}{od kd vd:D}{Q:Hp->Prop}(r1:Rep K ι H o od)(r2:Rep K ι H k kd)(r3:Rep K ι H v vd)(hr:HRep K ι H h)(e:put od kd vd h=some h')
  (q:∀H',Gr ι H ι H'->HRep K ι H' h'->Q H'):aq7 o k v H Q:=by
 cases r1 with
 |@ref a i ha =>
  cases r2 with
  |int j =>
   obtain⟨ob,h1,h2⟩:=hr.at ha
   cases ob with
   |lst xs =>
    obtain⟨vs,h3,h4⟩:=h2;simp only[put,h1]at e
    cases hm:ixN xs.length j with
    |none=>rw[hm]at e;cases e
    |some m =>
     rw[hm]at e;cases e
     exact⟨a,vs,j,m,rfl,rfl,h3,by rw[h4.len];exact hm,q _ (xu hr ha _) (hr.put ha ⟨_,dh,(h4.set r3 m).mono (xu hr ha _)⟩)⟩
   |dK _=>simp only[put,h1]at e;cases e
   |dT _=>simp only[put,h1]at e;cases e
   |ins _ _=>simp only[put,h1]at e;cases e
   |dN _=>simp only[put,h1]at e;cases e
  |_=>cases e
 |_=>cases e
def a7e(fe fo fi:SE):SS:=λτ h=>(fe τ h).fl λv h1=>(fo τ h1).fl λo h2=>(fi τ h2).fl λk h3=>match put o k v h3 with|some h4=>.nx τ h4|none=>.no
theorem arc(he:ME X E e fa)(ho:ME X E o fb)(hi:ME X E i fc)
  (hs:swapsWithSole [.Subscript o i pos'] e pos.line X.env=pure false:=by rfl) (hw:swappedStores [.Subscript o i pos'] e X.env=pure none:=by rfl)
  (h1:(assignEach [.Subscript o i pos'] X.env).map (·.2)=[assign (.Subscript o i pos') X.env]:=by rfl)
  (ha:∀v,assign (.Subscript o i pos') X.env v=(do
   let ov <-holding [v] (eval o X.env)
   let iv <-holding [v,ov] (eval i X.env)
   standAt pos'
   holding [v,ov,iv] (setItem ov iv v)
   release [v,ov,iv] []):=by intro _;rfl):MS X E (.Assign [.Subscript o i pos'] e pos) (a7e fa fb fc):=by
 refine PS.weak (aji he (apl ho hi set_list ha) hs hw h1) ?_
 rintro N σ H ⟨ι,τ,h,S,Rh,oo⟩
 refine⟨ι,τ,h,S,Rh,oh oo λd h1 ι1 H1 v g1 r1 hr1 o1=>?_⟩;refine⟨ι1,τ,h1,S.mono g1,hr1,oh o1 λd2 h2 ι2 H2 u g2 r2 hr2 o2=>?_⟩;refine⟨ι2,τ,h2,(S.mono g1).mono g2,hr2,oh o2 λd3 h3 ι3 H3 w g3 r3 hr3 o3=>?_⟩
 cases hp:put d2 d3 d h3 with
 |none=>rw[hp]at o3;exact o3.elim
 |some h4 =>
  rw[hp]at o3;exact adk (r2.mono g3) r3 ((r1.mono g2).mono g3) hr3 hp λH' g4 hr4=>o3 ι3 H' σ g4 ((((S.mono g1).mono g2).mono g3).mono g4) hr4
def sWh(c:ST)(f:SS):Nat->SS
 |0,_,_=>.no
 |n+1,τ,h=>(c τ h).fl λb h1=>if b=true then (match f τ h1 with|.nx τ2 h2=>sWh c f n τ2 h2|.ct τ2 h2=>sWh c f n τ2 h2|.bk τ2 h2=>.nx τ2 h2|r=>r) else .nx τ h1
theorem ah7(n:Nat)(hp:PassesOwn (model X.prog X.w) X.A X.env X.xe)(hc:MT X E c ga)(hb:MSs X E a f):MS X E (.While c a [] pos) (sWh ga f n):=by
 refine PS.weak (agn hp hc hb) λN σ H q=>?_;refine⟨λm σ H=>a5o X.K E (sWh ga f m) N σ H,⟨n,q⟩,?_⟩
 rintro m σ1 H1 ⟨ι,τ,h,S,Rh,o⟩
 cases m with
 |zero=>exact o.elim
 |succ m =>
  refine⟨ι,τ,h,S,Rh,oh o λd h1 ι1 H1 v g1 r1 hr1 o1=>?_⟩;cases r1
  cases d with
  |false=>exact o1 ι1 H1 _ (.refl _ _) (S.mono g1) hr1
  |true =>
   refine⟨λσ' H'=>a5o X.K E (sWh ga f m) N σ' H',λσ' H' q=>⟨m,fA m,q⟩,ι1,τ,h1,S.mono g1,hr1,?_⟩;rw[aQ rfl]at o1
   cases hf:f τ h1 with
   |nx τ2 h2=>rw[hf]at o1;exact λι2 H2 σ2 g2 S2 R2=>⟨ι2,τ2,h2,S2,R2,qy o1 g2⟩
   |ct τ2 h2=>rw[hf]at o1;exact λι2 H2 σ2 g2 S2 R2=>⟨ι2,τ2,h2,S2,R2,qy o1 g2⟩
   |bk τ2 h2=>rw[hf]at o1;exact o1
   |rt d h2=>rw[hf]at o1;exact o1
   |ex c h2=>rw[hf]at o1;exact o1
   |no=>rw[hf]at o1;exact o1.elim
end
abbrev SG:=D->Sd->Hd->Fl
def ame(K:Fg)(E:XD)(g:SG):TG:=λv σ H Q=>∃ι τ h d,Rep K ι H v d/\SRep K ι H σ τ/\HRep K ι H h/\ag9 K E ι H (g d τ h) {nx:=Q,rt:=λ_ _=>False}
abbrev MG(X:Cx)(E:XD)(tg:Expr)(g:SG):Prop:=PG X tg (ame X.K E g)
abbrev SGs:=List D->Sd->Hd->Fl
def adl(K:Fg)(E:XD)(g:SGs):TGs:=λvs σ H Q=>∃ι τ h ds,Reps K ι H vs ds/\SRep K ι H σ τ/\HRep K ι H h/\ag9 K E ι H (g ds τ h) {nx:=Q,rt:=λ_ _=>False}
abbrev MGs(X:Cx)(E:XD)(tg:List Expr)(g:SGs):Prop:=PGs X tg (adl X.K E g)
theorem PG.weak(h:PG X e t)(i:∀v σ H Q,t' v σ H Q->t v σ H Q):PG X e t':=λaA s σ H v u Q I r q=>h aA s σ H v u Q I r (i _ _ _ _ q)
theorem PGs.weak(h:PGs X e t)(i:∀v σ H Q,t' v σ H Q->t v σ H Q):PGs X e t':=λaA s σ H v u Q I r q=>h aA s σ H v u Q I r (i _ _ _ _ q)
def kN(i:Nat):SG:=λd τ h=>.nx (τ.set i (some d)) h
def a5s:SGs:=λds τ h=>match ds with|[]=>.nx τ h|_=>.no
def jw(g:SG)(k:SGs):SGs:=λds τ h=>match ds with|d::r=>(match g d τ h with|.nx τ1 h1=>k r τ1 h1|_=>.no)|[]=>.no
def a4q(n:Nat)(k:SGs):SG:=λd τ h=>match d with|.tup ds=>if ds.length=n then k ds τ h else .no|_=>.no
section
variable{X:Cx}{E:XD}{e:Expr}{es:List Expr}{fa:SE}{pos:Pos}{g:SG}{ks:SGs}
theorem adm(hN:X.N.Nodup)(hi:X.N[i]? = some x)(hx:Loc X.env.scope x)(hf:Hf X x:=by with_unfolding_all first|exact .inl rfl|exact .inr rfl|assumption):MG X E (.Name x pos) (kN i) :=
 PG.weak (a8c hN hi hx hf) λv σ H Q ⟨ι,τ,h,d,r,S,Rh,o⟩=>o ι H _ (.refl _ _) (S.set r i) Rh
theorem amf:MGs X E [] a5s:=by
 refine PGs.weak a8d ?_
 rintro vs σ H Q ⟨ι,τ,h,ds,r,S,Rh,o⟩
 cases r with
 |nil=>exact⟨rfl,o ι H σ (.refl _ _) S Rh⟩
 |cons _ _=>exact o.elim
theorem ah8(q:adl K E (jw g ks) vs σ H Q):agm (ame K E g) (adl K E ks) vs σ H Q:=by
 obtain⟨ι,τ,h,ds,r,S,Rh,o⟩:=q
 cases r with
 |nil=>exact o.elim
 |@cons v d vs ds r rs =>
  refine⟨v,vs,rfl,ι,τ,h,d,r,S,Rh,?_⟩;simp only[jw]at o
  cases hg:g d τ h with
  |nx τ1 h1 =>
   rw[hg]at o;exact λι1 H1 σ1 g1 S1 R1=>⟨ι1,τ1,h1,ds,rs.mono g1,S1,R1,qy o g1⟩
  |_=>rw[hg]at o;exact o.elim
theorem ard(hc:X.calm=true)(h:MGs X E es ks)(hn:(assignEach es X.env).length=n:=by rfl)(hst:(assignEach es X.env).findIdx? (·.1)=none:=by rfl):MG X E (.Tuple es k pos) (a4q n ks):=by
 refine PG.weak (ac3 hc h hn hst) ?_
 rintro v σ H Q ⟨ι,τ,h,d,r,S,Rh,o⟩
 cases r with
 |@tup a vs xs e rs =>
  simp only[a4q]at o
  by_cases hl:xs.length=n
  ·rw[aQ hl]at o;exact⟨a,vs,rfl,SqT.of e,by rw[rs.len];exact hl,ι,τ,h,xs,rs,S,Rh,o⟩
  ·rw[bg hl]at o;exact o.elim
 |_=>exact o.elim
def a8q(f:SE)(g:SG):SS:=λτ h=>(f τ h).fl λd h1=>match g d τ h1 with|.nx τ2 h2=>.nx τ2 h2|_=>.no
theorem arf(he:ME X E e fa)(hg:MG X E tg g)(hs:swapsWithSole [tg] e pos.line X.env=pure false:=by rfl)(hw:swappedStores [tg] e X.env=pure none:=by rfl)
  (h1:(assignEach [tg] X.env).map (·.2)=[assign tg X.env]:=by rfl):MS X E (.Assign [tg] e pos) (a8q fa g):=by
 refine PS.weak (aji he hg hs hw h1) ?_
 rintro N σ H ⟨ι,τ,h,S,Rh,o⟩
 refine⟨ι,τ,h,S,Rh,oh o λd h1 ι1 H1 v g1 r1 hr1 o1=>⟨ι1,τ,h1,d,r1,S.mono g1,hr1,?_⟩⟩
 cases hg:g d τ h1 with
 |nx τ1 h1=>rw[hg]at o1;exact o1
 |_=>rw[hg]at o1;exact o1.elim
end
structure Itm where
 xs:List D
 ck:Hd->Prop
def amg(K:Fg)(ι0:List Addr)(H0:Hp)(J:It)(it:Itm):Prop:=∀ι H h,Gr ι0 H0 ι H->HRep K ι H h->it.ck h->
 (∀(i:Nat) (d:D),it.xs[i]? = some d->J.go i H/\∀x H',J.yld i H x H'->Gr ι H ι H'/\Rep K ι H' x d/\HRep K ι H' h)/\J.stop it.xs.length H
abbrev awo(K:Fg):List Addr->Hp->It->Itm->Prop:=λι H J it=>amg K ι H J it
abbrev SI:=Sd->Hd->R Itm
abbrev MI(X:Cx)(E:XD)(tg aF:Expr)(f:SI):Prop:=PI X tg aF (lift X.K E (awo X.K) f)
def a1k(x:Str):List D:=x.cps.toList.map λc=>D.str ⟨#[c]⟩
def ah9(d:D)(h:Hd):R Itm:=match d with
 |.tup xs=>.ok ⟨xs,λ_=>True⟩ h
 |.rol xs=>.ok ⟨xs,λ_=>True⟩ h
 |.str x=>.ok ⟨a1k x,λ_=>True⟩ h
 |.ref i=>match h[i]? with
  |some (.lst xs)=>.ok ⟨xs,λh=>h[i]? = some (.lst xs)⟩ h
  |_=>.no
 |_=>.no
def sIt(f:SE):SI:=λτ h=>(f τ h).bind ah9
theorem ajr(hl:∀ι H h,Gr ι0 H0 ι H->HRep K ι H h->ck h->∃vs,SqL K H a vs/\Reps K ι H vs xs):amg K ι0 H0 (Itl K a) ⟨xs,ck⟩:=by
 intro ι H h g hr c
 obtain⟨vs,h1,h2⟩:=hl ι H h g hr c;refine⟨λi d e=>?_,⟨vs,h1,by rw[h2.len];exact ah _⟩⟩
 obtain⟨v,e1,r⟩:=h2.get e;refine⟨⟨vs,v,h1,e1⟩,λx H' y=>?_⟩;obtain⟨rfl,y⟩:=y;have:=y vs h1;rw[e1]at this;cases this
 exact⟨.refl _ _,r,hr⟩
theorem arh(hl:ME X E l f):MI X E tg l (sIt f):=by
 rintro aA s σ H Rr I ⟨ι,τ,h,S,Rh,o⟩
 unfold sIt at o
 cases hf:f τ h with
 |no=>rw[hf]at o;exact o.elim
 |ex c h1 =>
  rw[hf]at o;exact ajo hl aA s σ H Rr I ⟨ι,τ,h,S,Rh,by rw[hf];exact o⟩
 |ok d h1 =>
  rw[hf]at o
  cases d with
  |tup xs =>
   refine apq hl aA s σ H Rr I ⟨ι,τ,h,S,Rh,?_⟩;rw[hf]
   intro ι1 H1 v g1 r1 hr1
   cases r1 with
   |@tup a vs _ e rs =>
    refine⟨a,rfl,⟨vs,SqT.of e⟩,o ι1 H1 _ g1 ?_ hr1⟩
    intro ι2 H2 h2 g2 hr2 _
    have e2:=g2.tup _ _ e;have rs2:=rs.mono g2;refine⟨λi d ed=>?_,⟨vs,SqT.of e2,by rw[rs2.len];exact ah _⟩⟩
    obtain⟨v,e1,r⟩:=rs2.get ed;refine⟨⟨vs,v,SqT.of e2,e1⟩,λx H' y=>?_⟩;obtain⟨rfl,y⟩:=y;have:=y vs (SqT.of e2);rw[e1]at this;cases this
    exact⟨.refl _ _,r,hr2⟩
  |rol xs =>
   refine ac6 hl aA s σ H Rr I ⟨ι,τ,h,S,Rh,?_⟩;rw[hf]
   intro ι1 H1 v g1 r1 hr1
   cases r1 with
   |@rol a vs _ e rs =>
    refine⟨a,rfl,⟨vs,e.l⟩,o ι1 H1 _ g1 ?_ hr1⟩;exact ajr (λι2 H2 h2 g2 hr2 _=>⟨vs,(e.mono g2).l,rs.mono g2⟩)
  |str x =>
   refine ajo hl aA s σ H Rr I ⟨ι,τ,h,S,Rh,?_⟩;rw[hf]
   intro ι1 H1 v g1 r1 hr1
   cases r1
   refine⟨x,rfl,o ι1 H1 _ g1 ?_ hr1⟩
   intro ι2 H2 h2 g2 hr2 _
   refine⟨λi d ed=>?_,by show(a1k x).length=_;simp[a1k]⟩
   simp only[a1k,ar,aL]at ed;obtain⟨c,ec,rfl⟩:=ed;refine⟨by show i<x.cps.size;have:=(a7.mp ec).1;simpa using this,λy H' q=>?_⟩
   obtain⟨rfl,c',ec',rfl⟩:=q;rw[ec]at ec';cases ec'
   exact⟨.refl _ _,.str _,hr2⟩
  |ref i =>
   simp only[R.bind,ah9]at o
   cases ho:h1[i]? with
   |none=>rw[ho]at o;exact o.elim
   |some ob =>
    rw[ho]at o
    cases ob with
    |dK _=>exact o.elim
    |dT _=>exact o.elim
    |ins _ _=>exact o.elim
    |dN _=>exact o.elim
    |lst xs =>
     refine ac6 hl aA s σ H Rr I ⟨ι,τ,h,S,Rh,?_⟩;rw[hf]
     intro ι1 H1 v g1 r1 hr1
     cases r1 with
     |@ref a _ e =>
      obtain⟨vs,e1,rs⟩:=hr1.obj i a _ e ho;refine⟨a,rfl,⟨vs,SqL.of e1⟩,o ι1 H1 _ g1 ?_ hr1⟩;refine ajr (λι2 H2 h2 g2 hr2 c=>?_);obtain⟨us,e3,rs3⟩:=hr2.obj i a _ (g2.at e) c;exact⟨us,SqL.of e3,rs3⟩
  |_=>exact o.elim
def rng(lo:Int)(n:Nat):List D:=(List.range n).map λi=>D.int (lo+(i:Nat))
def B62(j:Int):Prop := -(2^62)<=j/\j<2^62
instance (j:Int):Decidable (B62 j):=by unfold B62;exact inferInstance
def a09(ds:List D)(h:Hd):R Itm:=match ds with
 |[.int j]=>if B62 j then .ok ⟨rng 0 j.toNat,λ_=>True⟩ h else .no
 |_=>.no
def a3l(ds:List D)(h:Hd):R Itm:=match ds with
 |[.int i,.int j]=>if B62 i/\B62 j then .ok ⟨rng i (j-i).toNat,λ_=>True⟩ h else .no
 |_=>.no
def sRg(g:List D->Hd->R Itm)(k:SA):SI:=λτ h=>(k τ h).bind g
theorem ajs(lo:Int)(n:Nat):amg K ι0 H0 (Itr lo n) ⟨rng lo n,λ_=>True⟩:=by
 intro ι H h g hr _
 refine⟨λi d ed=>?_,by show n<=(rng lo n).length;simp[rng]⟩
 simp only[rng,ar,aL]at ed;obtain⟨j,ej,rfl⟩:=ed;obtain⟨hj,e⟩:=a7.mp ej;simp at e hj;subst e;refine⟨hj,λy H' q=>?_⟩;obtain⟨rfl,rfl⟩:=q;exact⟨.refl _ _,.int _,hr⟩
theorem amh(hg:Gl X "range")(hm:X.mg "range" = none)(ha:MA X E [a] k)(hs:starEach [a] X.env=[(false,eval a X.env)]:=by rfl):MI X E tg (.Call (.Name "range" p) [a] [] pos) (sRg a09 k):=by
 rintro aA s σ H Rr I ⟨ι,τ,h,S,Rh,o⟩
 refine ac8 hg hm ha hs aA s σ H Rr I ⟨ι,τ,h,S,Rh,bh o λds h1 ι1 H1 vs g1 r1 hr1 o1=>?_⟩;unfold a09 at o1
 split at o1
 ·rename_i j
  cases r1 with
  |cons r rs =>
   cases r;cases rs
   by_cases hb:B62 j
   ·rw[aQ hb]at o1;exact⟨j,rfl,hb.1,hb.2,o1 ι1 H1 _ (.refl _ _) (ajs 0 j.toNat) hr1⟩
   ·rw[bg hb]at o1;exact o1.elim
 ·exact o1.elim
theorem ami(hg:Gl X "range")(hm:X.mg "range" = none)(ha:MA X E [a,b] k)(hs:starEach [a,b] X.env=[(false,eval a X.env),(false,eval b X.env)]:=by rfl)(hs2:starEach [b] X.env=[(false,eval b X.env)]:=by rfl):MI X E tg (.Call (.Name "range" p) [a,b] [] pos) (sRg a3l k):=by
 rintro aA s σ H Rr I ⟨ι,τ,h,S,Rh,o⟩
 refine aca hg hm ha hs hs2 aA s σ H Rr I ⟨ι,τ,h,S,Rh,bh o λds h1 ι1 H1 vs g1 r1 hr1 o1=>?_⟩;unfold a3l at o1
 split at o1
 ·rename_i i j
  cases r1 with
  |cons r rs =>
   cases r
   cases rs with
   |cons r rs =>
   cases r;cases rs
   by_cases hb:B62 i/\B62 j
   ·rw[aQ hb]at o1;exact⟨i,j,rfl,⟨hb.1.1,hb.1.2,hb.2.1,hb.2.2⟩,o1 ι1 H1 _ (.refl _ _) (ajs i _) hr1⟩
   ·rw[bg hb]at o1;exact o1.elim
 ·exact o1.elim
open Classical in
noncomputable def forL(ck:Hd->Prop)(g:SG)(b:SS):List D->Sd->Hd->Fl
 |[],τ,h=>if ck h then .nx τ h else .no
 | x::xs,τ,h=>if ck h then (match g x τ h with
   |.nx τ1 h1=>(match b τ1 h1 with
    |.nx τ2 h2=>forL ck g b xs τ2 h2
    |.ct τ2 h2=>forL ck g b xs τ2 h2
    |.bk τ2 h2=>.nx τ2 h2
    |r=>r)
   |_=>.no) else .no
noncomputable def a6p(f:SI)(g:SG)(b:SS):SS:=λτ h=>(f τ h).fl λit h1=>forL it.ck g b it.xs τ h1
theorem amj(ir:amg K ι0 H0 J it)(S:SRep K ι0 H0 σ0 τ0)(Rh:HRep K ι0 H0 h0)(o:ag9 K E ι0 H0 (forL it.ck g b it.xs τ0 h0) N) :
  ∃W:Nat->Nat->St->Hp->Prop,(∃m,W 0 m σ0 H0)/\∀i m σ H,W i m σ H->
   (J.stop i H/\N.nx σ H)\/(J.go i H/\∃M:St->Hp->Prop,(∀σ' H',M σ' H'->∃m',m'<m/\W (i+1) m' σ' H')/\∀x H',J.yld i H x H'->ame K E g x σ H' λσ2 H2=>a5o K E b {N with nx:=M,ct:=M,bk:=N.nx} σ2 H2):=by
 refine⟨λi m σ H=>m=it.xs.length-i/\i<=it.xs.length/\∃ι τ h,Gr ι0 H0 ι H/\SRep K ι H σ τ/\HRep K ι H h/\ag9 K E ι H (forL it.ck g b (it.xs.drop i) τ h) N,⟨_,rfl,bU _,ι0,τ0,h0,.refl _ _,S,Rh,o⟩,?_⟩
 rintro i m σ H ⟨rfl,hi,ι,τ,h,g0,S,Rh,o⟩
 by_cases hlt:i<it.xs.length
 ·rw[et hlt,forL]at o
  by_cases hc:it.ck h
  ·rw[aQ hc]at o;obtain⟨go,yl⟩:=(ir ι H h g0 Rh hc).1 i _ (a6 hlt);refine .inr ⟨go,λσ' H'=>it.xs.length-(i+1)<it.xs.length-i/\∃ι τ h,Gr ι0 H0 ι H'/\SRep K ι H' σ' τ/\HRep K ι H' h/\ag9 K E ι H' (forL it.ck g b (it.xs.drop (i+1)) τ h) N,λσ' H' q=>⟨_,q.1,rfl,hlt,q.2⟩,λx H' y=>?_⟩;obtain⟨g1,r1,hr1⟩:=yl x H' y;refine⟨ι,τ,h,_,r1,S.mono g1,hr1,?_⟩;have o':=qy o g1
   cases hg:g it.xs[i] τ h with
   |nx τ1 h1 =>
    rw[hg]at o';dsimp only at o'
    intro ι2 H2 σ2 g2 S2 R2
    refine⟨ι2,τ1,h1,S2,R2,?_⟩;have o2:=qy o' g2;have gg:=(g0.trans g1).trans g2
    cases hb:b τ1 h1 with
    |nx τ2 h2=>rw[hb]at o2;exact λι3 H3 σ3 g3 S3 R3=>⟨by omega,ι3,τ2,h2,gg.trans g3,S3,R3,qy o2 g3⟩
    |ct τ2 h2=>rw[hb]at o2;exact λι3 H3 σ3 g3 S3 R3=>⟨by omega,ι3,τ2,h2,gg.trans g3,S3,R3,qy o2 g3⟩
    |bk τ2 h2=>rw[hb]at o2;exact o2
    |rt d h2=>rw[hb]at o2;exact o2
    |ex c h2=>rw[hb]at o2;exact o2
    |no=>rw[hb]at o2;exact o2.elim
   |_=>rw[hg]at o';exact o'.elim
  ·rw[bg hc]at o;exact o.elim
 ·have e:i=it.xs.length:=by omega
  subst e;rw[cN (ah _),forL]at o
  by_cases hc:it.ck h
  ·rw[aQ hc]at o;exact .inl ⟨(ir ι H h g0 Rh hc).2,o ι H σ (.refl _ _) S Rh⟩
  ·rw[bg hc]at o;exact o.elim
theorem ari{X:Cx}(hp:PassesOwn (model X.prog X.w) X.A X.env X.xe)(hc:X.calm=true)(hi:MI X E tg aF f)(hg:MG X E tg g)(hb:MSs X E body b)(hs:∀x,foldedSetIterable aF X.env x=pure x:=by intro _;rfl):MS X E (.For tg aF body [] pos) (a6p f g b):=by
 refine PS.weak (apr hp hc hi hg hb hs) ?_
 rintro N σ H ⟨ι,τ,h,S,Rh,o⟩
 exact⟨ι,τ,h,S,Rh,oh o λit h1 ι1 H1 J g1 r1 hr1 o1=>amj r1 (S.mono g1) hr1 o1⟩
end MI
namespace MI
open L2
theorem R.bind_assoc{α β γ:Type}(r:R α)(f:α->Hd->R β)(g:β->Hd->R γ):(r.bind f).bind g=r.bind λa h=>(f a h).bind g:=by cases r<;>rfl
open Classical in
noncomputable def mapR(ck:Hd->Prop)(f:D->Hd->R D):List D->Hd->R (List D)
 |[],h=>if ck h then .ok [] h else .no
 |x::xs,h=>if ck h then (f x h).bind λy h1=>(mapR ck f xs h1).bind λys h2=>.ok (y::ys) h2 else .no
open Classical in
noncomputable def aga(ck:Hd->Prop)(f:D->Hd->R (Option D)):List D->Hd->R (List D)
 |[],h=>if ck h then .ok [] h else .no
 |x::xs,h=>if ck h then (f x h).bind λy h1=>(aga ck f xs h1).bind λys h2=>.ok (y.toList++ys) h2 else .no
def frs'(ix:List Nat)(τ:Sd):Sd:=ix.map λi=>(τ[i]?).join
def t1(d:D):Option Sd:=some [some d]
def tN(n:Nat)(d:D):Option Sd:=match d with|.tup ds=>if ds.length=n then some (ds.map some) else none|_=>none
def a5t(t:D->Option Sd)(fe:SE)(aG:Sd)(x:D)(h:Hd):R D:=match t x with|some ts=>fe (ts++aG) h|none=>.no
def a8r(t:D->Option Sd)(c:ST)(fe:SE)(aG:Sd)(x:D)(h:Hd):R (Option D):=match t x with
 |some ts=>(c (ts++aG) h).bind λb h1=>if b=true then (fe (ts++aG) h1).bind λy h2=>.ok (some y) h2 else .ok none h1
 |none=>.no
def a9q(yd zs:List D)(h:Hd):R D:=.ok (.ref h.length) (h++[.lst (yd++zs)])
theorem arj(r:R D)(m:Hd->R (List D))(yd:List D):(r.bind λy h1=>(m h1).bind λys h2=>.ok (y::ys) h2).bind (a9q yd)=r.bind λy h1=>(m h1).bind (a9q (yd++[y])):=by
 cases r with
 |ok y h1 =>
  show((m h1).bind _).bind _=(m h1).bind _
  cases m h1 with
  |ok ys h2=>simp[R.bind,a9q]
  |_=>rfl
 |_=>rfl
theorem awp(r:R (Option D))(m:Hd->R (List D))(yd:List D):(r.bind λy h1=>(m h1).bind λys h2=>.ok (y.toList++ys) h2).bind (a9q yd)=r.bind λy h1=>(m h1).bind (a9q (yd++y.toList)):=by
 cases r with
 |ok y h1 =>
  show((m h1).bind _).bind _=(m h1).bind _
  cases m h1 with
  |ok ys h2=>simp[R.bind,a9q]
  |_=>rfl
 |_=>rfl
noncomputable def jo(fi:SI)(t:D->Option Sd)(fe:SE)(ix:List Nat):SE:=λτ h=>(fi τ h).bind λit h1=>if it.xs.length<=LINE then (mapR it.ck (a5t t fe (frs' ix τ)) it.xs h1).bind (a9q []) else .no
noncomputable def a4r(fi:SI)(t:D->Option Sd)(c:ST)(fe:SE)(ix:List Nat):SE:=λτ h=>(fi τ h).bind λit h1=>if it.xs.length<=LINE then (aga it.ck (a8r t c fe (frs' ix τ)) it.xs h1).bind (a9q []) else .no
def adn(K:Fg)(n:Nat)(g:TG)(t:D->Option Sd):Prop:=∀ι H v d ts (r:St) (Q:St->Hp->Prop),Rep K ι H v d->t d=some ts->(∀us:St,us.length=n->SRep K ι H us ts->Q (us++r) H)->g v (List.replicate n none++r) H Q
theorem a5u:SRep K ι H [] []:=⟨rfl,λi d e=>by simp at e⟩
theorem a1l(r:Rep K ι H v d)(s:SRep K ι H σ τ):SRep K ι H (some v::σ) (some d::τ):=by
 refine⟨by simp[s.len],λi d' e=>?_⟩
 cases i with
 |zero=>simp at e;subst e;exact⟨v,rfl,r⟩
 |succ i=>simpa using s.val i d' (by simpa using e)
theorem a2p(s:SRep K ι H σ τ)(s':SRep K ι H σ' τ'):SRep K ι H (σ++σ') (τ++τ'):=by
 refine⟨by simp[s.len,s'.len],λi d e=>?_⟩
 by_cases hi:i<τ.length
 ·rw[ax hi]at e;rw[ax (by rw[s.len];exact hi)]
  exact s.val i d e
 ·rw[aw (by omega)]at e
  rw[aw (by rw[s.len];omega),s.len]
  exact s'.val _ d e
theorem a5v(s:SRep K ι H σ τ)(ix:List Nat):SRep K ι H (ix.map λi=>(σ[i]?).join) (frs' ix τ):=by
 refine⟨by simp[frs'],λj d e=>?_⟩
 simp only[frs',ar,aL]at e;obtain⟨i,hi,e⟩:=e;have:τ[i]? = some (some d):=by
  cases q:τ[i]? with
  |none=>rw[q]at e;cases e
  |some o=>rw[q]at e;simp at e;rw[e]
 obtain⟨v,h1,h2⟩:=s.val i d this;exact⟨v,by simp[hi,h1],h2⟩
theorem wk:adn K 1 (a4d 0) t1:=λι H v d ts r Q hr e q=>by
 cases e
 exact q [some v] rfl (a1l hr a5u)
theorem ark{α:Type}{xs:List α}(h:xs.length=n+1):∃x ys,xs=x::ys:=by cases xs with|nil=>cases h|cons x ys=>exact⟨x,ys,rfl⟩
theorem ajt{vs:List V}{d:D}{ds:List D}(r:Reps K ι H vs (d::ds)):∃v us,vs=v::us/\Rep K ι H v d/\Reps K ι H us ds:=by cases r with|cons r rs=>exact⟨_,_,rfl,r,rs⟩
theorem aju:adn K 2 (L2.a2i K 2 (agm (a4d 0) (agm (a4d 1) ay1))) (tN 2):=λι H v d ts r Q hr e q=>by
 unfold tN at e
 cases hr with
 |@tup a vs xs h rs =>
  simp only at e
  split at e
  ·rename_i hl;cases e
   obtain⟨x1,xs,rfl⟩:=ark hl;obtain⟨x2,xs,rfl⟩:=ark (gW hl);obtain rfl:=eK.mp (gW (gW hl));obtain⟨v1,vs,rfl,r1,rs⟩:=ajt rs;obtain⟨v2,vs,rfl,r2,rs⟩:=ajt rs;cases rs
   exact⟨a,_,rfl,SqT.of h,rfl,_,_,rfl,_,_,rfl,rfl,q [some _,some _] rfl (a1l r1 (a1l r2 a5u))⟩
  ·cases e
 |_=>cases e
theorem ado{us:St}(h:us.length=n):L2.Ext (List.replicate n none++r) (us++r):=by
 refine⟨by simp[h],λi v e=>?_⟩
 by_cases hi:i<n
 ·rw[ax (by simpa using hi),dO,aQ hi]at e
  cases e
 ·rw[aw (by simpa using hi),dU]at e
  rw[aw (by omega),h]
  exact e
theorem a9r(ir:amg K ι0 H0 J it)(tg:adn K n g t)(S:SRep K ι0 H0 r rd)(Rh:HRep K ι0 H0 h0)(hl:it.xs.length<=LINE)
  (o:out K E (xn K) ι0 H0 ((mapR it.ck (a5t t fe rd) it.xs h0).bind (a9q [])) Q):am4 J (List.replicate n none++r) g (lift K E (xn K) fe) Q H0:=by
 refine⟨λi m ys H=>m=it.xs.length-i/\i<=it.xs.length/\ys.length<=i/\∃ι h yd,Gr ι0 H0 ι H/\HRep K ι H h/\Reps K ι H ys yd/\out K E (xn K) ι H ((mapR it.ck (a5t t fe rd) (it.xs.drop i) h).bind (a9q yd)) Q,
  ⟨_,rfl,bU _,bU _,ι0,h0,[],.refl _ _,Rh,.nil,o⟩,?_⟩
 rintro i m ys H ⟨rfl,hi,hy,ι,h,yd,g0,Rh,ry,o⟩
 by_cases hlt:i<it.xs.length
 ·rw[et hlt,mapR]at o
  by_cases hc:it.ck h
  ·rw[aQ hc,arj]at o;obtain⟨go,yl⟩:=(ir ι H h g0 Rh hc).1 i _ (a6 hlt);refine .inr ⟨go,fX hy (aY hlt (ll hl)),λx H' y=>?_⟩;obtain⟨g1,r1,hr1⟩:=yl x H' y;have o':=xx o g1
   cases ht:t it.xs[i] with
   |none=>simp only[a5t,ht]at o';exact o'.elim
   |some ts =>
    simp only[a5t,ht]at o';refine tg ι H' x _ ts r _ r1 ht λus hus su=>⟨ado hus,ι,ts++rd,h,a2p su (S.mono (g0.trans g1)),hr1,bh o' λd2 h2 ι2 H2 u g2 r2 hr2 o2=>?_⟩;refine⟨it.xs.length-(i+1),by omega,rfl,hlt,by simp;omega,ι2,h2,yd++[d2],(g0.trans g1).trans g2,hr2,((ry.mono g1).mono g2).snoc r2,o2⟩
  ·rw[bg hc]at o;exact o.elim
 ·have e:i=it.xs.length:=by omega
  subst e;rw[cN (ah _),mapR]at o
  by_cases hc:it.ck h
  ·rw[aQ hc]at o;refine .inl ⟨(ir ι H h g0 Rh hc).2,uf (E:=E) ry Rh ?_⟩;simpa[R.bind,a9q] using o
  ·rw[bg hc]at o;exact o.elim
theorem adp(ir:amg K ι0 H0 J it)(tg:adn K n g t)(S:SRep K ι0 H0 r rd)(Rh:HRep K ι0 H0 h0)(hl:it.xs.length<=LINE)
  (o:out K E (xn K) ι0 H0 ((aga it.ck (a8r t c fe rd) it.xs h0).bind (a9q [])) Q):a8n J (List.replicate n none++r) g (lift K E am8 c) (lift K E (xn K) fe) Q H0:=by
 refine⟨λi m ys H=>m=it.xs.length-i/\i<=it.xs.length/\ys.length<=i/\∃ι h yd,Gr ι0 H0 ι H/\HRep K ι H h/\Reps K ι H ys yd/\out K E (xn K) ι H ((aga it.ck (a8r t c fe rd) (it.xs.drop i) h).bind (a9q yd)) Q,
  ⟨_,rfl,bU _,bU _,ι0,h0,[],.refl _ _,Rh,.nil,o⟩,?_⟩
 rintro i m ys H ⟨rfl,hi,hy,ι,h,yd,g0,Rh,ry,o⟩
 by_cases hlt:i<it.xs.length
 ·rw[et hlt,aga]at o
  by_cases hc:it.ck h
  ·rw[aQ hc,awp]at o;obtain⟨go,yl⟩:=(ir ι H h g0 Rh hc).1 i _ (a6 hlt);refine .inr ⟨go,fX hy (aY hlt (ll hl)),λx H' y=>?_⟩;obtain⟨g1,r1,hr1⟩:=yl x H' y;have o':=xx o g1
   cases ht:t it.xs[i] with
   |none=>simp only[a8r,ht]at o';exact o'.elim
   |some ts =>
    simp only[a8r,ht]at o';rw[R.bind_assoc]at o';refine tg ι H' x _ ts r _ r1 ht λus hus su=>⟨ado hus,ι,ts++rd,h,a2p su (S.mono (g0.trans g1)),hr1,bh o' λb h1 ι1 H1 b' g2 rb hrb ob=>?_⟩;have su1:SRep K ι1 H1 (us++r) (ts++rd):=(a2p su (S.mono (g0.trans g1))).mono g2;cases rb
    cases b with
    |true =>
     rw[aQ rfl]at ob ⊢;rw[R.bind_assoc]at ob;refine⟨ι1,ts++rd,h1,su1,hrb,bh ob λd2 h2 ι2 H2 u g3 r2 hr2 o2=>?_⟩;refine⟨it.xs.length-(i+1),by omega,rfl,hlt,by simp;omega,ι2,h2,yd++[d2],((g0.trans g1).trans g2).trans g3,hr2,(((ry.mono g1).mono g2).mono g3).snoc r2,?_⟩
     simpa[R.bind] using o2
    |false =>
     rw[bg bo]at ob ⊢;refine⟨it.xs.length-(i+1),by omega,rfl,hlt,by omega,ι1,h1,yd,(g0.trans g1).trans g2,hrb,(ry.mono g1).mono g2,?_⟩
     simpa[R.bind] using ob
  ·rw[bg hc]at o;exact o.elim
 ·have e:i=it.xs.length:=by omega
  subst e;rw[cN (ah _),aga]at o
  by_cases hc:it.ck h
  ·rw[aQ hc]at o;refine .inl ⟨(ir ι H h g0 Rh hc).2,uf (E:=E) ry Rh ?_⟩;simpa[R.bind,a9q] using o
  ·rw[bg hc]at o;exact o.elim
section
variable{X:Cx}{E:XD}{aD tg aF cnd:Expr}{aB:Scope}{pos:Pos}{cl:List (Str×Addr)}{ts fr:List Str}{ix:List Nat}{fi:SI}{g:TG}{t:D->Option Sd}{fe:SE}{fc:ST}
theorem v9(hc:X.calm=true)(S:CSc X aB cl ts fr ix)(hi:MI X E tg aF fi)(hg:∀C fp s H,PG (cxC X (ts++fr) aB cl C fp s H) tg g)(ht:adn X.K ts.length g t)(he:∀C fp s H,ME (cxC X (ts++fr) aB cl C fp s H) E aD fe)
  (hs:∀x,foldedSetIterable aF X.env x=pure x:=by intro _;rfl):ME X E (.ListComp aD [⟨tg,aF,[],0⟩] aB pos) (jo fi t fe ix):=by
 refine PE.weak (ah4 (te:=lift X.K E (xn X.K) fe) hc S hi hg he hs) ?_
 rintro σ H Q ⟨ι,τ,h,Sr,Rh,o⟩
 refine⟨ι,τ,h,Sr,Rh,bh o λit h1 ι1 H1 J g1 r1 hr1 o1=>?_⟩
 by_cases hl:it.xs.length<=LINE
 ·rw[aQ hl]at o1;exact a9r r1 ht (a5v (Sr.mono g1) ix) hr1 hl o1
 ·rw[bg hl]at o1;exact o1.elim
end
mutual
def clo(n:Nat):D->Prop
 |.tup xs=>clos n xs
 |.rol xs=>clos n xs
 |.rod _ xs=>clos n xs
 |.scr xs=>clos n xs
 |.rdT _ xs=>clos n xs
 |.ins _ _ xs=>clos n xs
 |.ref i=>i<n
 |_=>True
def clos(n:Nat):List D->Prop
 |[]=>True
 |x::xs=>clo n x/\clos n xs
end
mutual
theorem Rep.clo:∀{v:V} {d:D},Rep K ι H v d->clo ι.length d
 |_,_,.non=>by simp[MI.clo]
 |_,_,.bl b=>by simp[MI.clo]
 |_,_,.int i=>by simp[MI.clo]
 |_,_,.str x=>by simp[MI.clo]
 |_,_,.ty n=>by simp[MI.clo]
 |_,_,.tup h r=>by simp only[MI.clo];exact Reps.clo r
 |_,_,.rol h r=>by simp only[MI.clo];exact Reps.clo r
 |_,_,.ref h=>by simp only[MI.clo];exact(a7.mp h).1
 |_,_,.rod h e r=>by simp only[MI.clo];exact Reps.clo r
 |_,_,.scr h r=>by simp only[MI.clo];exact Reps.clo r
 |_,_,.rdT h e r=>by simp only[MI.clo];exact Reps.clo r
 |_,_,.exc h hc hn=>by simp[MI.clo]
 |_,_,.ins h hn e r=>by simp only[MI.clo];exact Reps.clo r
theorem Reps.clo:∀{vs:List V} {ds:List D},Reps K ι H vs ds->clos ι.length ds
 |_,_,.nil=>by simp[MI.clos]
 |_,_,.cons r rs=>by simp only[MI.clos];exact⟨Rep.clo r,Reps.clo rs⟩
end
mutual
theorem Rep.cut:∀{v:V} {d:D},Rep K ι H v d->clo n d->Rep K (ι.take n) H v d
 |_,_,.non,_=>.non
 |_,_,.bl b,_=>.bl b
 |_,_,.int i,_=>.int i
 |_,_,.str x,_=>.str x
 |_,_,.ty n,_=>.ty n
 |_,_,.tup h r,c=>.tup h (Reps.cut r (by simpa only[MI.clo] using c))
 |_,_,.rol h r,c=>.rol h (Reps.cut r (by simpa only[MI.clo] using c))
 |_,_,.ref h,c=>.ref (by simp only[MI.clo]at c;rw[eM,aQ c];exact h)
 |_,_,.rod h e r,c=>.rod h e (Reps.cut r (by simpa only[MI.clo] using c))
 |_,_,.scr h r,c=>.scr h (Reps.cut r (by simpa only[MI.clo] using c))
 |_,_,.rdT h e r,c=>.rdT h e (Reps.cut r (by simpa only[MI.clo] using c))
 |_,_,.exc h hc hn,_=>.exc h hc hn
 |_,_,.ins h hn e r,c=>.ins h hn e (Reps.cut r (by simpa only[MI.clo] using c))
theorem Reps.cut:∀{vs:List V} {ds:List D},Reps K ι H vs ds->clos n ds->Reps K (ι.take n) H vs ds
 |_,_,.nil,_=>.nil
 |_,_,.cons r rs,c=>by simp only[MI.clos]at c;exact .cons (Rep.cut r c.1) (Reps.cut rs c.2)
end
def a0g(n:Nat):O->Prop
 |.lst xs=>clos n xs
 |.dK kvs=>clos n (kvs.map (·.2))
 |.dT kvs=>clos n (kvs.map (·.2))
 |.ins _ fs=>clos n (fs.map (·.2))
 |.dN kvs=>clos n (kvs.map (·.2))
def arl(n:Nat)(h:Hd):Prop:=∀o∈h,a0g n o
theorem ORep.clo(r:ORep K ι H a o):a0g ι.length o:=by
 cases o with
 |lst xs=>obtain⟨vs,_,r⟩:=r;exact r.clo
 |dK kvs=>obtain⟨us,_,_,r⟩:=r;exact r.clo
 |dT kvs=>obtain⟨us,_,_,r⟩:=r;exact r.clo
 |ins _ _=>obtain⟨_,_,us,_,_,_,r⟩:=r;exact r.clo
 |dN kvs=>obtain⟨us,_,_,r⟩:=r;exact r.clo
theorem ORep.cut(r:ORep K ι H a o)(c:a0g n o):ORep K (ι.take n) H a o:=by
 cases o with
 |lst xs=>obtain⟨vs,h,r⟩:=r;exact⟨vs,h,r.cut c⟩
 |dK kvs=>obtain⟨us,h,e,r⟩:=r;exact⟨us,h,e,r.cut c⟩
 |dT kvs=>obtain⟨us,h,e,r⟩:=r;exact⟨us,h,e,r.cut c⟩
 |ins _ _=>obtain⟨C,dx,us,h,hn,e,r⟩:=r;exact⟨C,dx,us,h,hn,e,r.cut c⟩
 |dN kvs=>obtain⟨us,h,e,r⟩:=r;exact⟨us,h,e,r.cut c⟩
theorem HRep.clo(r:HRep K ι H h):arl h.length h:=λo ho=>by
 obtain⟨i,hi⟩:=cy ho;obtain⟨a,_,q⟩:=r.addr hi;rw[<-r.len];exact q.clo
theorem HRep.cut(r:HRep K ι H (h++g))(c:arl h.length h):HRep K (ι.take h.length) H h:=by
 refine⟨r.nd.sublist (List.take_sublist _ _),?_,λi a o e1 e2=>?_⟩
 ·have:=r.len
  rw[ag]at this;rw[cU];omega
 ·have hi:i<h.length:=(a7.mp e2).1;rw[eM,aQ hi]at e1;exact(r.obj i a o e1 (by rw[ax hi];exact e2)).cut (c o (aN e2))
def X0:XD:=λ_ _ _ _=>False
abbrev SF:=List D->Hd->R D
def a9s(K:Fg)(n:Nat)(F:SF):Sp:=λvs H Q _=>vs.length=n/\∃ι ds h,Reps K ι H vs ds/\HRep K ι H h/\out K X0 (xn K) ι H (F ds h) Q
def a0t(n:Nat)(ds:List D):Sd:=ds.map some++List.replicate (n-ds.length) none
def qt(b:SS)(n:Nat)(ds:List D)(h:Hd):R D:=match b (a0t n ds) h with
 |.rt d h1=>.ok d h1
 |.nx _ h1=>.ok .non h1
 |.ex c h1=>.ex c h1
 |_=>.no
def Rf(n:Nat)(r' r:R D):Prop:=match r with
 |.no=>True
 |.ok d h1=>∃g,r'=.ok d (h1++g)/\(g=[]\/(n<=h1.length/\clo h1.length d/\arl h1.length h1))
 |.ex c h1=>∃g,r'=.ex c (h1++g)/\(g=[]\/(n<=h1.length/\arl h1.length h1))
theorem Rf.same(h:r'=r):Rf n r' r:=by
 subst h
 cases r' with
 |ok d h1=>exact⟨[],by simp,.inl rfl⟩
 |ex c h1=>exact⟨[],by simp,.inl rfl⟩
 |no=>exact True.intro
theorem ab5(r:Reps K ι H vs ds):SRep K ι H (start N vs) (a0t N.length ds):=by
 refine a2p ?_ ?_
 ·clear N
  induction r using Reps.rec (motive_1:=λ_ _ _=>True) with
  |nil=>exact a5u
  |cons r rs _ ih=>exact a1l r ih
  |_=>trivial
 ·rw[r.len];exact⟨by simp,λi d e=>by rw[dO]at e;split at e<;>cases e⟩
theorem ajv(g:Gr ι H ι' H')(hn:ι.length<=n):Gr ι H (ι'.take n) H':=by
 obtain⟨m,rfl,hm⟩:=g.pre;exact⟨⟨m.take (n-ι.length),by rw[List.take_append,bZ hn],λa ha=>hm a (List.mem_of_mem_take ha)⟩,g.tup,g.frz,g.oth,g.kp⟩
section
variable{P:Program}{w:World}{K:Fg}{mg:Str->Option Value}{base:Heap}
theorem arn(Fu:Fun K x qual st f fd)(S:FnScope N ps (dj st))
  (hb:∀(cdv:Value) (A:Around) (outer:List Env) (s:Shared) (H:Hp) (E:XK),Room k (A.deeper (PyProof.Rows.envOfC qual (dj st) s.heap.objs.size f cdv))->MSs (ag8 CX0 P w K mg base N qual (dj st) f cdv A outer s H E).nox X0 (v5 st) b)
  (hF:∀ds h,ds.length=ps.length->clos h.length ds->arl h.length h->Rf h.length (qt b N.length ds h) (F ds h)):FnOk P w K mg base CX0 (k+1) f fd ps (a9s K ps.length F):=by
 refine Fu.ok S (λvs H Q E h=>h.1) λcdv A outer s H vs Q E hr h=>⟨_,hb cdv A outer s H E hr,?_⟩;obtain⟨hl,ι,ds,h,r,hr',o⟩:=h;refine⟨ι,a0t N.length ds,h,ab5 r,hr',?_⟩;have q:=hF ds h (by rw[<-r.len];exact hl) (by rw[<-hr'.len];exact r.clo) hr'.clo
 unfold qt at q
 cases hFd:F ds h with
 |no=>rw[hFd]at o;exact o.elim
 |ex c h1 =>
  rw[hFd]at q o;obtain⟨g,e,cl⟩:=q;have fin:∀ι' H',Gr ι H ι' H'->HRep K ι' H' (h1++g)->X0 c ι' H' (h1++g):=λι' H' g1 hr1=>by
   rcases cl with rfl|⟨hn,c2⟩
   ·rw[cc]at hr1;exact o ι' H' g1 hr1
   ·exact o (ι'.take h1.length) H' (ajv g1 (by rw[hr'.len];exact hn)) (hr1.cut c2)
  cases hbd:b (a0t N.length ds) h with
  |ex c' h' =>
   rw[hbd]at e
   injection e with e1 e2
   subst e1 e2;exact fin
  |_=>rw[hbd]at e;cases e
 |ok d h1 =>
  rw[hFd]at q o;obtain⟨g,e,cl⟩:=q;have fin:∀ι' H' v,Gr ι H ι' H'->Rep K ι' H' v d->HRep K ι' H' (h1++g)->Q v H':=λι' H' v g1 r1 hr1=>by
   rcases cl with rfl|⟨hn,c1,c2⟩
   ·rw[cc]at hr1;exact o ι' H' v g1 r1 hr1
   ·exact o (ι'.take h1.length) H' v (ajv g1 (by rw[hr'.len];exact hn)) (r1.cut c1) (hr1.cut c2)
  cases hbd:b (a0t N.length ds) h with
  |rt d' h' =>
   rw[hbd]at e
   injection e with e1 e2
   subst e1 e2;exact fin
  |nx τ' h' =>
   rw[hbd]at e
   injection e with e1 e2
   subst e1 e2;exact λι' H' σ' g1 S1 hr1=>fin ι' H' .non g1 .non hr1
  |_=>rw[hbd]at e;cases e
end
section
variable{K:Fg}{E:XD}{ι:List Addr}{H:Hp}{h:Hd}{Q:VK}
theorem ans(o:out K E (xn K) ι H (.ok d h) Q)(r:Rep K ι H v d)(hr:HRep K ι H h):Q v H:=o ι H v (.refl _ _) r hr
theorem HRep.lst(hr:HRep K ι H h){i:Nat}{a:Addr}{xs:List D}(e:ι[i]? = some a)(hi:h[i]? = some (.lst xs)):∃vs,H a=some (.lst vs)/\Reps K ι H vs xs:=hr.obj i a _ e hi
end
def a6r:D->D->Hd->R D
 |.int i,.int j,h=>.ok (.int (i-j)) h
 |_,_,_=>.no
def aby:D->D->Hd->R D
 |.int i,.int j,h=>if 0<j then .ok (.int (i%j)) h else .no
 |_,_,_=>.no
def ab6:D->D->Hd->R D
 |.int i,.int j,h=>if 0<j/\j<1073741824 then .ok (.int (i / j)) h else .no
 |_,_,_=>.no
def adq:D->D->Hd->R D
 |.int i,.int j,h=>if 0<=j/\j<=1000000/\i.natAbs<2^64 then .ok (.int (i^j.toNat)) h else .no
 |_,_,_=>.no
section
variable{X:Cx}{K:Fg}
theorem amk:a0m K a6r (rI0 λi j=>.int (i-j)):=by
 intro E ι H h x y dx dy Q rx ry hr o
 cases rx with
 |int i =>
  cases ry with
  |int j=>exact⟨i,j,rfl,rfl,ans o (.int _) hr⟩
  |_=>exact o.elim
 |_=>exact o.elim
theorem aml:a0m K aby (rI (λ_ j=>0<j) λi j=>.int (i%j)):=by
 intro E ι H h x y dx dy Q rx ry hr o
 cases rx with
 |int i =>
  cases ry with
  |int j =>
   by_cases hc:0<j
   ·simp only[aby,aQ hc]at o;exact⟨i,j,rfl,rfl,hc,ans o (.int _) hr⟩
   ·simp only[aby,bg hc]at o;exact o.elim
  |_=>exact o.elim
 |_=>exact o.elim
theorem amm:a0m K ab6 (rI ay3 λi j=>.int (i / j)):=by
 intro E ι H h x y dx dy Q rx ry hr o
 cases rx with
 |int i =>
  cases ry with
  |int j =>
   by_cases hc:0<j/\j<1073741824
   ·simp only[ab6,aQ hc]at o;exact⟨i,j,rfl,rfl,hc,ans o (.int _) hr⟩
   ·simp only[ab6,bg hc]at o;exact o.elim
  |_=>exact o.elim
 |_=>exact o.elim
theorem amn:a0m K adq (rI ay4 λi j=>.int (i^j.toNat)):=by
 intro E ι H h x y dx dy Q rx ry hr o
 cases rx with
 |int i =>
  cases ry with
  |int j =>
   by_cases hc:0<=j/\j<=1000000/\i.natAbs<2^64
   ·simp only[adq,aQ hc]at o;exact⟨i,j,rfl,rfl,hc,ans o (.int _) hr⟩
   ·simp only[adq,bg hc]at o;exact o.elim
  |_=>exact o.elim
 |_=>exact o.elim
variable{E:XD}{a b e:Expr}{es:List Expr}{fa fb:SE}{ka:SA}{pos:Pos}
theorem aro(ha:ME X E a fa)(hb:ME X E b fb):ME X E (.BinOp a .Sub b pos) (s2 a6r fa fb):=ab4 apt amk ha hb
theorem arp(ha:ME X E a fa)(hb:ME X E b fb):ME X E (.BinOp a .Mod b pos) (s2 aby fa fb):=ab4 apv aml ha hb
theorem arq(ha:ME X E a fa)(hb:ME X E b fb):ME X E (.BinOp a .FloorDiv b pos) (s2 ab6 fa fb):=ab4 ale amm ha hb
theorem ars(ha:ME X E a fa)(hb:ME X E b fb):ME X E (.BinOp a .Pow b pos) (s2 adq fa fb):=ab4 apw amn ha hb
def adt:D->Hd->R D
 |.int i,h=>.ok (.int (-i)) h
 |_,_=>.no
theorem art(ha:ME X E a fa):ME X E (.UnaryOp .USub a pos) (s1 adt fa):=awk apx (λE ι H h x dx Q rx hr o=>by
 cases rx with
 |int i=>exact⟨i,rfl,ans o (.int _) hr⟩
 |_=>exact o.elim) ha
def gLt:D->D->Hd->R D
 |.int i,.int j,h=>.ok (.bl (decide (i<j))) h
 |.str i,.str j,h=>.ok (.bl (decide (i.cps.toList<j.cps.toList))) h
 |_,_,_=>.no
def gLe:D->D->Hd->R D
 |.int i,.int j,h=>.ok (.bl (decide (i<=j))) h
 |.str i,.str j,h=>.ok (.bl (!decide (j.cps.toList<i.cps.toList))) h
 |_,_,_=>.no
def gGt:D->D->Hd->R D
 |.int i,.int j,h=>.ok (.bl (decide (j<i))) h
 |_,_,_=>.no
def gGe:D->D->Hd->R D
 |.int i,.int j,h=>.ok (.bl (decide (j<=i))) h
 |_,_,_=>.no
theorem ajw:a0m K gLt (λx y H Q=>rI0 (λi j=>.bl (decide (i<j))) x y H Q\/∃i j,x=.str i/\y=.str j/\Q (.bl (decide (i.cps.toList<j.cps.toList))) H):=by
 intro E ι H h x y dx dy Q rx ry hr o
 cases rx with
 |int i =>
  cases ry with
  |int j=>exact .inl ⟨i,j,rfl,rfl,ans o (.bl _) hr⟩
  |_=>exact o.elim
 |str i =>
  cases ry with
  |str j=>exact .inr ⟨i,j,rfl,rfl,ans o (.bl _) hr⟩
  |_=>exact o.elim
 |_=>exact o.elim
theorem a4s:a0m K gLe (λx y H Q=>rI0 (λi j=>.bl (decide (i<=j))) x y H Q\/∃i j,x=.str i/\y=.str j/\Q (.bl (!decide (j.cps.toList<i.cps.toList))) H):=by
 intro E ι H h x y dx dy Q rx ry hr o
 cases rx with
 |int i =>
  cases ry with
  |int j=>exact .inl ⟨i,j,rfl,rfl,ans o (.bl _) hr⟩
  |_=>exact o.elim
 |str i =>
  cases ry with
  |str j=>exact .inr ⟨i,j,rfl,rfl,ans o (.bl _) hr⟩
  |_=>exact o.elim
 |_=>exact o.elim
theorem aru:a0m K gGt (rI0 λi j=>.bl (decide (j<i))):=by
 intro E ι H h x y dx dy Q rx ry hr o
 cases rx with
 |int i =>
  cases ry with
  |int j=>exact⟨i,j,rfl,rfl,ans o (.bl _) hr⟩
  |_=>exact o.elim
 |_=>exact o.elim
theorem arv:a0m K gGe (rI0 λi j=>.bl (decide (j<=i))):=by
 intro E ι H h x y dx dy Q rx ry hr o
 cases rx with
 |int i =>
  cases ry with
  |int j=>exact⟨i,j,rfl,rfl,ans o (.bl _) hr⟩
  |_=>exact o.elim
 |_=>exact o.elim
def a7f:D->Bool
 |.non=>true
 |_=>false
theorem adu{i:Int}(r:Rep K ι H x (.int i)):x=.int i:=by cases r;rfl
def gIs(x y:D)(h:Hd):R D:=match y with
 |.non=>.ok (.bl (a7f x)) h
 |.bl j=>(match x with|.bl i=>.ok (.bl (i == j)) h|_=>.no)
 |_=>.no
def ajx(x y:D)(h:Hd):R D:=match y with
 |.non=>.ok (.bl (!a7f x)) h
 |.bl j=>(match x with|.bl i=>.ok (.bl (i != j)) h|_=>.no)
 |_=>.no
def yt:D->Bool
 |.non=>true|.bl _=>true|.int _=>true|.str _=>true
 |_=>false
def fvD:D->Option V
 |.non=>some .non|.bl b=>some (.bl b)|.int i=>some (.int i)|.str x=>some (.str x)
 |_=>none
theorem aha{d:D}(r:Rep K ι H x d)(f:yt d=true):fvD d=some x:=by
 cases r<;>first|rfl|(cases f;done)
theorem fvs{d e:D}{P:D->V->D->V->Prop}(h:∀d x e y,fvD d=some x->fvD e=some y->P d x e y)(r:Rep K ι H x d)(q:Rep K ι H y e)(f:yt d=true)(g:yt e=true):P d x e y:=h d x e y (aha r f) (aha q g)
def eqF:D->D->Bool
 |.non,.non=>true
 |.bl i,.bl j=>i == j
 |.int i,.int j=>i == j
 |.str i,.str j=>i == j
 |.int i,.bl j=>i == (if j then 1 else 0)
 |.bl i,.int j=>(if i then 1 else 0) == j
 |_,_=>false
end
section
variable{X:Cx}{K:Fg}{E:XD}{a b e o:Expr}{es:List Expr}{fa fb:SE}{ka:SA}{pos:Pos}
def uz(d:D)(h:Hd):Option (List D):=match d with
 |.tup xs=>some xs
 |.rol xs=>some xs
 |.ref i=>match h[i]? with|some (.lst xs)=>some xs|_=>none
 |_=>none
def gIx(x y:D)(h:Hd):R D:=match y with
 |.int i=>(match x with
  |.str z=>if z.length<=LINE then (match atI z.cps.toList i with|some c=>.ok (.str ⟨#[c]⟩) h|none=>.no) else .no
  |x=>match uz x h with
   |some xs=>(match atI xs i with|some d=>.ok d h|none=>.no)
   |none=>.no)
 |_=>.no
theorem a9t(r:Reps K ι H vs xs)(e:atI xs i=some d):∃v,atI vs i=some v/\Rep K ι H v d:=by
 unfold atI at e ⊢;rw[r.len]
 cases hx:ixN xs.length i with
 |none=>rw[hx]at e;cases e
 |some j=>rw[hx]at e;exact r.get e
theorem arw:a0m K gIx (rIx K):=by
 intro E ι H h x y dx dy Q rx ry hr o
 cases ry with
 |int i =>
  have go:∀{p:Addr} {vs:List V} {xs:List D},Reps K ι H vs xs->out K E (xn K) ι H (match atI xs i with|some d=>.ok d h|none=>.no) Q->∃v,atI vs i=some v/\Q v H:=λ{p vs xs} r o=>by
   cases he:atI xs i with
   |none=>rw[he]at o;exact o.elim
   |some d =>
    rw[he]at o;obtain⟨v,h1,h2⟩:=a9t r he;exact⟨v,h1,ans o h2 hr⟩
  cases rx with
  |str z =>
   by_cases hc:z.length<=LINE
   ·simp only[gIx,aQ hc]at o
    cases he:atI z.cps.toList i with
    |none=>rw[he]at o;exact o.elim
    |some c=>rw[he]at o;exact .inr (.inr ⟨z,i,c,rfl,rfl,ll hc,he,ans o (.str _) hr⟩)
   ·simp only[gIx,bg hc]at o;exact o.elim
  |@tup p vs xs hp r =>
   simp only[gIx,uz]at o;obtain⟨v,h1,h2⟩:=go (p:=p) r o;exact .inr (.inl ⟨p,vs,i,v,rfl,rfl,SqT.of hp,h1,h2⟩)
  |@rol p vs xs hp r =>
   simp only[gIx,uz]at o;obtain⟨v,h1,h2⟩:=go (p:=p) r o;exact .inl ⟨p,vs,i,v,rfl,rfl,hp.l,h1,h2⟩
  |@ref p j hp =>
   obtain⟨ob,e1,e2⟩:=hr.at hp
   cases ob with
   |lst xs =>
    simp only[gIx,uz,e1]at o;obtain⟨vs,h3,h4⟩:=e2;obtain⟨v,h1,h2⟩:=go (p:=p) h4 o;exact .inl ⟨p,vs,i,v,rfl,rfl,SqL.of h3,h1,h2⟩
   |dK _=>simp only[gIx,uz,e1]at o;exact o.elim
   |dT _=>simp only[gIx,uz,e1]at o;exact o.elim
   |ins _ _=>simp only[gIx,uz,e1]at o;exact o.elim
   |dN _=>simp only[gIx,uz,e1]at o;exact o.elim
  |_=>exact o.elim
 |_=>exact o.elim
theorem amo(ha:ME X E a fa)(hb:ME X E b fb)(hp:a5e b):ME X E (.Subscript a b pos) (s2 gIx fa fb):=awl aq6 arw ha hb hp
abbrev SO:=Sd->Hd->R (Option Int)
abbrev MO(X:Cx)(E:XD)(e:Option Expr)(f:SO):Prop:=PO X e (lift X.K E azh f)
def oN:SO:=λ_ h=>.ok none h
def oS(f:SE):SO:=λτ h=>(f τ h).bind λd h1=>match d with|.int i=>.ok (some i) h1|_=>.no
theorem PO.weak{e:Option Expr}{t t':St->Hp->(Option Int->Hp->Prop)->Prop}(h:PO X e t)(i:∀σ H Q,t' σ H Q->t σ H Q):PO X e t':=λaA s σ H Q I q=>h aA s σ H Q I (i _ _ _ q)
theorem amq:MO X E none oN:=PO.weak aln λσ H Q ⟨ι,τ,h,S,Rh,o⟩=>o ι H none (.refl _ _) rfl Rh
theorem amr(he:ME X E e fa):MO X E (some e) (oS fa):=by
 refine PO.weak (alo he) ?_
 rintro σ H Q ⟨ι,τ,h,S,Rh,o⟩
 refine⟨ι,τ,h,S,Rh,bh o λd h1 ι1 H1 v g1 r1 hr1 o1=>?_⟩
 cases r1 with
 |int i=>exact⟨i,rfl,o1 ι1 H1 _ (.refl _ _) rfl hr1⟩
 |_=>exact o1.elim
def whole(n:Nat)(lo hi:Option Int):Prop:=HT.sIx n 0 lo=0/\HT.sIx n n hi=n
instance (n:Nat) (lo hi:Option Int):Decidable (whole n lo hi):=by unfold whole;exact inferInstance
def gSl(d:D)(lo hi:Option Int)(h:Hd):R D:=match d with
 |.str z=>if z.length<=LINE then .ok (.str ⟨(a5l z.cps.toList lo hi).toArray⟩) h else .no
 |.tup xs=>if ¬ whole xs.length lo hi then .ok (.tup (a5l xs lo hi)) h else .no
 |.rol xs=>.ok (.ref h.length) (h++[.lst (a5l xs lo hi)])
 |.scr xs=>.ok (.ref h.length) (h++[.lst (a5l xs lo hi)])
 |.ref i=>match h[i]? with|some (.lst xs)=>.ok (.ref h.length) (h++[.lst (a5l xs lo hi)])|_=>.no
 |_=>.no
theorem a1m(r:Reps K ι H vs xs)(lo hi:Option Int):Reps K ι H (ajk vs lo hi) (a5l xs lo hi):=by
 unfold ajk a5l;rw[r.len];exact(r.drop _).take _
theorem a9u(rx:Rep K ι H x d)(hr:HRep K ι H h)(o:out K E (xn K) ι H (gSl d lo hi h) Q):awg x lo hi H Q\/aw8 K x lo hi H Q\/awa K x lo hi H Q:=by
 cases rx with
 |str z =>
  by_cases hc:z.length<=LINE
  ·simp only[gSl,aQ hc]at o;exact .inl ⟨z,rfl,ll hc,ans o (.str _) hr⟩
  ·simp only[gSl,bg hc]at o;exact o.elim
 |@tup p vs xs hp r =>
  by_cases hc:¬ whole xs.length lo hi
  ·simp only[gSl,aQ hc]at o;exact .inr (.inl ⟨p,vs,rfl,SqT.of hp,by rw[r.len];exact hc,a0y (a1m r lo hi) hr o⟩)
  ·simp only[gSl,bg hc]at o;exact o.elim
 |@rol p vs xs hp r=>exact .inr (.inr ⟨p,vs,rfl,hp.l,uf (a1m r lo hi) hr o⟩)
 |@scr p vs xs hp r=>exact .inr (.inr ⟨p,vs,rfl,hp.l,uf (a1m r lo hi) hr o⟩)
 |@ref p j hp =>
  obtain⟨ob,e1,e2⟩:=hr.at hp
  cases ob with
  |lst xs =>
   simp only[gSl,e1]at o;obtain⟨vs,h3,h4⟩:=e2;exact .inr (.inr ⟨p,vs,rfl,SqL.of h3,uf (a1m h4 lo hi) hr o⟩)
  |dK _=>simp only[gSl,e1]at o;exact o.elim
  |dT _=>simp only[gSl,e1]at o;exact o.elim
  |ins _ _=>simp only[gSl,e1]at o;exact o.elim
  |dN _=>simp only[gSl,e1]at o;exact o.elim
 |_=>exact o.elim
theorem adv(r:Rep K ι H x d)(f:yt d=true):a0w x=true:=by cases r<;>first|rfl|cases f
theorem arx(r:Rep K ι H x d)(q:Rep K ι H y c):yt d=true->yt c=true->eqV x y=eqF d c:=λf g=>by
 refine fvs (P:=λd x c y=>eqV x y=eqF d c) (λd x e y h h'=>?_) r q f g
 cases d<;>first|(cases h;done)|(cases h;cases e<;>first|(cases h';done)|(cases h';rfl))
def inD(x:D)(xs:List D):Bool:=xs.any λy=>eqF y x
theorem ahb(r:Reps K ι H vs xs)(f:xs.all yt=true):vs.all a0w=true:=by
 induction r using Reps.rec (motive_1:=λ_ _ _=>True) with
 |nil=>rfl
 |cons r rs _ ih =>
  rw[fE,cv]at f ⊢;exact⟨adv r f.1,ih f.2⟩
 |_=>trivial
theorem arz(rx:Rep K ι H x d)(fx:yt d=true)(r:Reps K ι H vs xs)(f:xs.all yt=true):inV x vs=inD d xs:=by
 unfold inV inD
 induction r using Reps.rec (motive_1:=λ_ _ _=>True) with
 |nil=>rfl
 |cons r rs _ ih =>
  rw[fE,cv]at f;rw[dZ,dZ,ih f.2,arx r rx f.1 fx]
 |_=>trivial
def gIn(neg:Bool)(x y:D)(h:Hd):R D:=match y with
 |.str T=>(match x with
  |.str z=>(match z.cps.toList with|[c]=>.ok (.bl (if neg then !decide (c∈T.cps.toList) else decide (c∈T.cps.toList))) h|_=>.no)
  |_=>.no)
 |y=>match uz y h with
  |some xs=>if yt x=true/\xs.all yt=true then .ok (.bl (if neg then !inD x xs else inD x xs)) h else .no
  |none=>.no
theorem one_sign{z:Str}(h:z.cps.toList=[c]):z=⟨#[c]⟩:=by
 obtain⟨cps⟩:=z
 congr
 exact Array.ext' (by simpa using h)
theorem as3(neg:Bool){r1:R2}(h1:∀c T H (Q:VK),Q (.bl (if neg then !decide (c∈T.cps.toList) else decide (c∈T.cps.toList))) H->r1 (.str ⟨#[c]⟩) (.str T) H Q):a0m K (gIn neg) (λx y H Q=>r1 x y H Q\/rIn K neg x y H Q):=by
 intro E ι H h x y dx dy Q rx ry hr o
 have go:∀{p:Addr} {vs:List V} {xs:List D},(SqL K H p vs\/SqT K H p vs)->Reps K ι H vs xs->out K E (xn K) ι H (if yt dx=true/\xs.all yt=true then .ok (.bl (if neg then !inD dx xs else inD dx xs)) h else .no) Q->rIn K neg x (.ref p) H Q:=λ{p vs xs} sq r o=>by
  split at o
  ·rename_i hc;exact⟨p,vs,rfl,sq,adv rx hc.1,ahb r hc.2,by rw[arz rx hc.1 r hc.2];exact ans o (.bl _) hr⟩
  ·exact o.elim
 cases ry with
 |str T =>
  cases rx with
  |str z =>
   simp only[gIn]at o
   split at o
   ·rename_i c hz;rw[one_sign hz];exact .inl (h1 c T H Q (ans o (.bl _) hr))
   ·exact o.elim
  |_=>exact o.elim
 |@tup p vs xs hp r=>simp only[gIn,uz]at o;exact .inr (go (.inr (SqT.of hp)) r o)
 |@rol p vs xs hp r=>simp only[gIn,uz]at o;exact .inr (go (.inl hp.l) r o)
 |@ref p j hp =>
  obtain⟨ob,e1,e2⟩:=hr.at hp
  cases ob with
  |lst xs =>
   simp only[gIn,uz,e1]at o;obtain⟨vs,h3,h4⟩:=e2;exact .inr (go (.inl (SqL.of h3)) h4 o)
  |dK _=>simp only[gIn,uz,e1]at o;exact o.elim
  |dT _=>simp only[gIn,uz,e1]at o;exact o.elim
  |ins _ _=>simp only[gIn,uz,e1]at o;exact o.elim
  |dN _=>simp only[gIn,uz,e1]at o;exact o.elim
 |_=>exact o.elim
theorem ams:a0m K (gIn true) (λx y H Q=>(∃c T,x=.str ⟨#[c]⟩/\y=.str T/\Q (.bl (!decide (c∈T.cps.toList))) H)\/rIn K true x y H Q):=as3 true λc T H Q q=>⟨c,T,rfl,rfl,q⟩
def jx:List D->Hd->R D
 |[.str z],h=>if z.length<=LINE then .ok (.int z.length) h else .no
 |[x],h=>(match uz x h with|some xs=>.ok (.int xs.length) h|none=>.no)
 |_,_=>.no
theorem amt:ab3 K jx (λxs H Q=>(∃p ys,xs=[.ref p]/\(SqL K H p ys\/SqT K H p ys)/\Q (.int ys.length) H)\/∃z,xs=[.str z]/\z.length<=sizeLine/\Q (.int z.length) H):=by
 intro E ι H h xs ds Q r hr o
 cases r with
 |nil=>exact o.elim
 |cons r rs =>
  cases rs with
  |cons _ _=>exact(show False by cases r<;>exact o).elim
  |nil =>
   cases r with
   |str z =>
    by_cases hc:z.length<=LINE
    ·simp only[jx,aQ hc]at o;exact .inr ⟨z,rfl,ll hc,ans o (.int _) hr⟩
    ·simp only[jx,bg hc]at o;exact o.elim
   |@tup p vs xs hp r=>simp only[jx,uz]at o;exact .inl ⟨p,vs,rfl,.inr (SqT.of hp),by rw[r.len];exact ans o (.int _) hr⟩
   |@rol p vs xs hp r=>simp only[jx,uz]at o;exact .inl ⟨p,vs,rfl,.inl hp.l,by rw[r.len];exact ans o (.int _) hr⟩
   |@ref p j hp =>
    obtain⟨ob,e1,e2⟩:=hr.at hp
    cases ob with
    |lst xs =>
     simp only[jx,uz,e1]at o;obtain⟨vs,h3,h4⟩:=e2;exact .inl ⟨p,vs,rfl,.inl (SqL.of h3),by rw[h4.len];exact ans o (.int _) hr⟩
    |dK _=>simp only[jx,uz,e1]at o;exact o.elim
    |dT _=>simp only[jx,uz,e1]at o;exact o.elim
    |ins _ _=>simp only[jx,uz,e1]at o;exact o.elim
    |dN _=>simp only[jx,uz,e1]at o;exact o.elim
   |_=>exact o.elim
def as4:List D->Hd->R D
 |[.int i],h=>.ok (.int (if i<0 then -i else i)) h
 |_,_=>.no
theorem amu:ab3 K as4 (λxs H Q=>∃i,xs=[.int i]/\Q (.int (if i<0 then -i else i)) H):=by
 intro E ι H h xs ds Q r hr o
 unfold as4 at o
 split at o
 ·cases r with|cons r rs=>cases r;cases rs;exact⟨_,rfl,ans o (.int _) hr⟩
 ·exact o.elim
def ahc:List D->Hd->R D
 |[.int i,.int j],h=>.ok (.int (if j > i then j else i)) h
 |_,_=>.no
def ahd:List D->Hd->R D
 |[.int i,.int j],h=>.ok (.int (if j<i then j else i)) h
 |_,_=>.no
def av8:List D->Hd->R D
 |[.int i],h=>.ok (.int i) h
 |[.bl k],h=>.ok (.int (if k then 1 else 0)) h
 |_,_=>.no
def tyD(d:D)(h:Hd):Option String:=match d with
 |.non=>some "NoneType" |.bl _=>some "bool" |.int _=>some "int" |.str _=>some "str" |.tup _=>some "tuple" |.rol _=>some "list"
 |.ref i=>(match h[i]? with|some (.lst _)=>some "list" |some (.dK _)=>some "dict" |_=>none)
 |_=>none
def agb(t T:String):Option Bool :=
 if t∈["NoneType","bool","int","str","tuple","list","dict"]/\T∈["bool","int","str","tuple","list","dict"] then some (t == T || (t == "bool" && T == "int")) else none
theorem adw{t T:String}{b:Bool}(e:agb t T=some b):PySem.W.kitOne K (.type t) (.type T)=some b:=by
 unfold agb at e
 split at e
 ·rename_i h;obtain⟨h1,h2⟩:=h;simp only[ay,bq,cK]at h1 h2
  rcases h1 with rfl|rfl|rfl|rfl|rfl|rfl|rfl<;>rcases h2 with rfl|rfl|rfl|rfl|rfl|rfl<;>(cases e;rfl)
 ·cases e
def ajy:List D->Hd->R D
 |[x,.ty T],h=>(match tyD x h with|some t=>(match agb t T with|some b=>.ok (.bl b) h|none=>.no)|none=>.no)
 |_,_=>.no
theorem as5(r:Rep K ι H x d)(hr:HRep K ι H h)(e:tyD d h=some t):TyOf K H x (.type t):=by
 cases r with
 |non=>cases e;exact .non
 |bl b=>cases e;exact .bl b
 |int b=>cases e;exact .int b
 |str b=>cases e;exact .str b
 |ty _=>cases e
 |tup hp r=>cases e;exact .tup hp
 |rol hp r=>cases e;obtain⟨o,hp⟩:=hp;exact .frz hp
 |scr _ _=>cases e
 |rod _ _ _=>cases e
 |rdT _ _ _=>cases e
 |exc _ _ _=>cases e
 |ins _ _ _ _=>cases e
 |ref hp =>
  obtain⟨ob,e1,e2⟩:=hr.at hp
  cases ob with
  |lst xs=>simp only[tyD,e1]at e;cases e;obtain⟨vs,h3,h4⟩:=e2;exact .lst h3
  |dK _=>simp only[tyD,e1]at e;cases e;obtain⟨vs,h3,h4⟩:=e2;exact .dK h3
  |dT _=>simp only[tyD,e1]at e;cases e
  |ins _ _=>simp only[tyD,e1]at e;cases e
  |dN _=>simp only[tyD,e1]at e;cases e
theorem amv:ab3 K ajy (λxs H Q=>∃x T t b,xs=[x,.ty T]/\TyOf K H x t/\PySem.W.kitOne K t (.type T)=some b/\Q (.bl b) H):=by
 intro E ι H h xs ds Q r hr o
 unfold ajy at o
 split at o
 ·rename_i d T
  cases r with
  |cons r rs =>
   cases rs with
   |cons q rs =>
    cases q;cases rs
    cases ht:tyD d h with
    |none=>rw[ht]at o;exact o.elim
    |some t =>
     rw[ht]at o
     cases hb:agb t T with
     |none=>simp only[hb]at o;exact o.elim
     |some b =>
      simp only[hb]at o;exact⟨_,T,.type t,b,rfl,as5 r hr ht,adw hb,ans o (.bl _) hr⟩
 ·exact o.elim
end
section
variable{X:Cx}{K:Fg}{E:XD}{a b e o:Expr}{es:List Expr}{fa fb fo:SE}{ka:SA}{pos apos cpos:Pos}{name:Str}{idn:String}
def aoy(K:Fg)(g:D->List D->Hd->R D)(r:V->List V->Hp->VK->Prop):Prop:=∀(E:XD) ι H h x dx xs ds Q,Rep K ι H x dx->Reps K ι H xs ds->HRep K ι H h->out K E (xn K) ι H (g dx ds h) Q->r x xs H Q
def isL(d:D)(h:Hd):Bool:=match d with|.ref i=>(match h[i]? with|some (.lst _)=>true|_=>false)|.rol _=>true|_=>false
def sML(g:D->List D->Hd->R D)(f:SE)(k:SA):SE:=λτ h=>(f τ h).bind λd h1=>if isL d h1=true then (k τ h1).bind λds h2=>g d ds h2 else .no
theorem as6(r:Rep K ι H x d)(hr:HRep K ι H h)(e:isL d h=true):tyV K "list" x H:=by
 cases r with
 |rol hp _=>exact .inl ⟨rfl,_,hp.l⟩
 |ref hp =>
  obtain⟨ob,e1,e2⟩:=hr.at hp
  cases ob with
  |lst xs=>obtain⟨vs,h3,_⟩:=e2;exact .inl ⟨rfl,_,SqL.of h3⟩
  |dK _=>simp[isL,e1]at e
  |dT _=>simp[isL,e1]at e
  |ins _ _=>simp[isL,e1]at e
  |dN _=>simp[isL,e1]at e
 |_=>cases e
theorem amw(slot:Slot "list" name idn)(hty:typeOf (.builtin idn)=pure (.type "method_descriptor"))(hm:MtR X idn r)(hs:aoy X.K g r)(ho:ME X E o fo)(ha:MA X E (e::es) ka)
  (hbase:attributeBase o name X.env (eval o X.env)=eval o X.env:=by rfl)
  (hfew:((backTo cpos (starEach (e::es) X.env)).all (λx => !x.1) && (backToKw cpos (keywordEach [] X.env)).all (λx=>x.1.isSome)
   && decide ((e::es).length+([]:List Keyword).length+(if ([]:List Keyword).isEmpty then 0 else 1)<30))=true:=by rfl)
  (hline:(apos.endLine == cpos.line)=true:=by rfl) (hst:starEach (e::es) X.env=(false,eval e X.env)::starEach es X.env:=by rfl) (hplain:(backTo cpos (starEach es X.env)).any (·.1)=false:=by rfl) :
  ME X E (.Call (.Attribute o name apos) (e::es) [] cpos) (sML g fo ka):=by
 refine PE.weak (aq9 PySem.F.plainAttrs_list slot hty hm ho ha hbase hfew hline hst hplain) ?_
 rintro σ H Q ⟨ι,τ,h,S,Rh,o⟩
 refine⟨ι,τ,h,S,Rh,bh o λd h1 ι1 H1 v g1 r1 hr1 o1=>?_⟩
 by_cases hc:isL d h1=true
 ·rw[aQ hc]at o1;refine⟨as6 r1 hr1 hc,ι1,τ,h1,S.mono g1,hr1,bh o1 λds h2 ι2 H2 vs g2 r2 hr2 o2=>?_⟩;exact hs E ι2 H2 h2 v d vs ds Q (r1.mono g2) r2 hr2 o2
 ·rw[bg hc]at o1;exact o1.elim
def a2a:D->List D->Hd->R D
 |.ref i,[y],h=>(match h[i]? with|some (.lst xs)=>if xs.length<LINE then .ok .non (h.set i (.lst (xs++[y]))) else .no|_=>.no)
 |_,_,_=>.no
theorem amx:aoy K a2a aco:=by
 intro E ι H h x dx xs ds Q rx r hr o
 unfold a2a at o
 split at o
 ·rename_i i y
  cases rx with
  |@ref p _ hp =>
   cases r with
   |cons r1 rs =>
    cases rs
    split at o
    ·rename_i xs hx;obtain⟨vs,h3,h4⟩:=hr.lst hp hx
     split at o
     ·rename_i hc;exact⟨p,vs,_,rfl,rfl,h3,by rw[h4.len,ada];exact hc,a5r (h4.snoc r1) hr hp .non o⟩
     ·exact o.elim
    ·exact o.elim
 ·exact o.elim
def a1n:D->List D->Hd->R D
 |.ref i,[.int j],h=>(match h[i]? with|some (.lst xs)=>(match ixN xs.length j with|some k=>(match xs[k]? with|some y=>if xs.length<=LINE then .ok y (h.set i (.lst (xs.eraseIdx k))) else .no|none=>.no)|none=>.no)|_=>.no)
 |_,_,_=>.no
theorem adx:aoy K a1n ajm:=by
 intro E ι H h x dx xs ds Q rx r hr o
 unfold a1n at o
 split at o
 ·rename_i i j
  cases rx with
  |@ref p _ hp =>
   cases r with
   |cons r1 rs =>
    cases r1;cases rs
    split at o
    ·rename_i xs hx;obtain⟨vs,h3,h4⟩:=hr.lst hp hx
     split at o
     ·rename_i k hk
      split at o
      ·rename_i y hy
       split at o
       ·rename_i hl;obtain⟨v,h5,h6⟩:=h4.get hy;obtain⟨q1,q2,q3,q4⟩:=a8e hk;have hl':xs.length<=16777216:=hl;exact⟨p,vs,j,k,v,rfl,rfl,h3,by omega,by omega,by rw[h4.len];exact q1,h5,a5r (h4.erase k) hr hp h6 o⟩
       ·exact o.elim
      ·exact o.elim
     ·exact o.elim
    ·exact o.elim
 ·exact o.elim
def a1o:List D->Hd->R D
 |[.str z],h=>if z.length<=LINE then .ok (.ref h.length) (h++[.lst (a1k z)]) else .no
 |[x],h=>(match uz x h with|some xs=>.ok (.ref h.length) (h++[.lst xs])|none=>.no)
 |_,_=>.no
theorem a2b(z:Str):Reps K ι H (vh z) (a1k z):=by
 unfold vh a1k
 induction z.cps.toList with
 |nil=>exact .nil
 |cons c cs ih=>exact .cons (.str _) ih
theorem ahe:ab3 K a1o (λxs H Q=>(∃p ys,xs=[.ref p]/\(SqL K H p ys\/SqT K H p ys)/\∀l,H l=none->Q (.ref l) (upd H l (.lst ys)))\/∃z,xs=[.str z]/\z.length<=sizeLine/\∀l,H l=none->Q (.ref l) (upd H l (.lst (vh z)))):=by
 intro E ι H h xs ds Q r hr o
 cases r with
 |nil=>exact o.elim
 |cons r rs =>
  cases rs with
  |cons _ _=>exact(show False by cases r<;>exact o).elim
  |nil =>
   cases r with
   |str z =>
    by_cases hc:z.length<=LINE
    ·simp only[a1o,aQ hc]at o;exact .inr ⟨z,rfl,ll hc,uf (a2b z) hr o⟩
    ·simp only[a1o,bg hc]at o;exact o.elim
   |@tup p vs xs hp r=>simp only[a1o,uz]at o;exact .inl ⟨p,vs,rfl,.inr (SqT.of hp),uf r hr o⟩
   |@rol p vs xs hp r=>simp only[a1o,uz]at o;exact .inl ⟨p,vs,rfl,.inl hp.l,uf r hr o⟩
   |@ref p j hp =>
    obtain⟨ob,e1,e2⟩:=hr.at hp
    cases ob with
    |lst xs =>
     simp only[a1o,uz,e1]at o;obtain⟨vs,h3,h4⟩:=e2;exact .inl ⟨p,vs,rfl,.inl (SqL.of h3),uf h4 hr o⟩
    |dK _=>simp only[a1o,uz,e1]at o;exact o.elim
    |dT _=>simp only[a1o,uz,e1]at o;exact o.elim
    |ins _ _=>simp only[a1o,uz,e1]at o;exact o.elim
    |dN _=>simp only[a1o,uz,e1]at o;exact o.elim
   |_=>exact o.elim
def jf:List D->Hd->R D
 |[.str z],h=>if z.length<=LINE then .ok (.tup (a1k z)) h else .no
 |[x],h=>(match uz x h with|some xs=>.ok (.tup xs) h|none=>.no)
 |_,_=>.no
theorem ady:ab3 K jf (λxs H Q=>(∃p ys,xs=[.ref p]/\((SqL K H p ys/\∀l,H l=none->Q (.ref l) (upd H l (.tup ys)))\/(SqT K H p ys/\Q (.ref p) H)))\/∃z,xs=[.str z]/\z.length<=sizeLine/\∀l,H l=none->Q (.ref l) (upd H l (.tup (vh z)))):=by
 intro E ι H h xs ds Q r hr o
 cases r with
 |nil=>exact o.elim
 |cons r rs =>
  cases rs with
  |cons _ _=>exact(show False by cases r<;>exact o).elim
  |nil =>
   cases r with
   |str z =>
    by_cases hc:z.length<=LINE
    ·simp only[jf,aQ hc]at o;exact .inr ⟨z,rfl,ll hc,a0y (a2b z) hr o⟩
    ·simp only[jf,bg hc]at o;exact o.elim
   |@tup p vs xs hp r=>simp only[jf,uz]at o;exact .inl ⟨p,vs,rfl,.inr ⟨SqT.of hp,ans o (.tup hp r) hr⟩⟩
   |@rol p vs xs hp r=>simp only[jf,uz]at o;exact .inl ⟨p,vs,rfl,.inl ⟨hp.l,a0y r hr o⟩⟩
   |@ref p j hp =>
    obtain⟨ob,e1,e2⟩:=hr.at hp
    cases ob with
    |lst xs =>
     simp only[jf,uz,e1]at o;obtain⟨vs,h3,h4⟩:=e2;exact .inl ⟨p,vs,rfl,.inl ⟨SqL.of h3,a0y h4 hr o⟩⟩
    |dK _=>simp only[jf,uz,e1]at o;exact o.elim
    |dT _=>simp only[jf,uz,e1]at o;exact o.elim
    |ins _ _=>simp only[jf,uz,e1]at o;exact o.elim
    |dN _=>simp only[jf,uz,e1]at o;exact o.elim
   |_=>exact o.elim
def amy:List D->Option (List Bool)
 |[]=>some []
 |.bl z::r=>(amy r).map (z::·)
 |_::_=>none
def a0n:List D->Option (List Int)
 |[]=>some []
 |.int z::r=>(a0n r).map (z::·)
 |_::_=>none
theorem a8s:∀{vs:List V} {xs:List D} {zs:List Bool},Reps K ι H vs xs->amy xs=some zs->vs=zs.map V.bl
 |_,_,_,.nil,e=>by cases e;rfl
 |_,_,zs,.cons (d:=d) r rs,e=>by
  cases r with
  |bl z =>
   simp only[amy,aL]at e;obtain⟨ws,h1,rfl⟩:=e;rw[a8s rs h1];rfl
  |_=>cases e
theorem a0h:∀{vs:List V} {xs:List D} {zs:List Int},Reps K ι H vs xs->a0n xs=some zs->vs=zs.map V.int
 |_,_,_,.nil,e=>by cases e;rfl
 |_,_,zs,.cons (d:=d) r rs,e=>by
  cases r with
  |int z =>
   simp only[a0n,aL]at e;obtain⟨ws,h1,rfl⟩:=e;rw[a0h rs h1];rfl
  |_=>cases e
theorem ahf(bs:List Bool):amy (bs.map D.bl)=some bs:=by
 induction bs with
 |nil=>rfl
 |cons b bs ih=>simp[amy,ih]
def amz:List D->Hd->R D
 |[.ref i],h=>(match h[i]? with|some (.lst xs)=>(match amy xs with|some bs=>.ok (.bl (bs.all id)) h|none=>.no)|_=>.no)
 |[.rol xs],h=>(match amy xs with|some bs=>.ok (.bl (bs.all id)) h|none=>.no)
 |_,_=>.no
theorem an0:ab3 K amz (λxs H Q=>∃(p:Addr) (bs:List Bool),xs=[.ref p]/\SqL K H p (bs.map V.bl)/\Q (.bl (bs.all id)) H):=by
 intro E ι H h xs ds Q r hr o
 unfold amz at o
 split at o
 ·cases r with
  |cons r rs =>
   cases rs
   cases r with
   |@ref p _ hp =>
    split at o
    ·rename_i xs hx;obtain⟨vs,h3,h4⟩:=hr.lst hp hx
     split at o
     ·rename_i bs hb;exact⟨p,bs,rfl,SqL.of (by rw[h3,a8s h4 hb]),ans o (.bl _) hr⟩
     ·exact o.elim
    ·exact o.elim
 ·cases r with
  |cons r rs =>
   cases rs
   cases r with
   |@rol p vs xs hp r =>
    split at o
    ·rename_i bs hb;exact⟨p,bs,rfl,by rw[<-a8s r hb];exact hp.l,ans o (.bl _) hr⟩
    ·exact o.elim
 ·exact o.elim
end
end MI
theorem L2.Room.u(r:L2.Room k A):A.units+64<PySem.cLine:=r.units
namespace MI
open L2
mutual
def eqD:D->D->Bool
 |.non,.non=>true
 |.bl a,.bl b=>a == b
 |.bl a,.int b=>(if a then 1 else 0) == b
 |.int a,.bl b=>a == (if b then 1 else 0)
 |.int a,.int b=>a == b
 |.str a,.str b=>a == b
 |.tup xs,.tup ys=>a4f xs ys
 |_,_=>false
def a4f:List D->List D->Bool
 |[],[]=>true
 |x::xs,y::ys=>eqD x y && a4f xs ys
 |_,_=>false
end
def pur:Nat->D->Bool
 |_,.non=>true
 |_,.bl _=>true
 |_,.int _=>true
 |_,.str _=>true
 |n+1,.tup xs=>xs.all (pur n)
 |_,_=>false
def pairE(xs ys:List D)(j:Nat):Bool:=match xs[j]?,ys[j]? with|some x,some y=>eqD x y|_,_=>false
theorem a1p:∀xs ys:List D,((List.range (min xs.length ys.length)).all (pairE xs ys) && xs.length == ys.length)=a4f xs ys
 |[],[]=>by simp[a4f]
 |[],_::_=>by simp[a4f]
 |_::_,[]=>by simp[a4f]
 |x::xs,y::ys=>by
  have ih:=a1p xs ys;rw[show min (x::xs).length (y::ys).length=min xs.length ys.length+1 by simp only[aW];omega,eT]
  rw[fE,List.all_map];have e:(pairE (x::xs) (y::ys) ∘ Nat.succ)=pairE xs ys:=by funext j;simp[pairE]
  rw[e];simp only[a4f];rw[<-ih];have e2:((x::xs).length == (y::ys).length)=(xs.length == ys.length):=by simp
  rw[e2,Bool.and_assoc];rfl
section
variable{K:Fg}{ι:List Addr}{H:Hp}
theorem a5w{xs:List D}(r:Rep K ι H v (.tup xs)):∃a vs,v=.ref a/\H a=some (.tup vs)/\Reps K ι H vs xs:=by cases r with|@tup a vs _ h rs=>exact⟨a,vs,rfl,h,rs⟩
theorem ajz(r:Rep K ι H v d)(q:Rep K ι H v e)(f:yt d=true)(g:yt e=true):eqD d e=true:=by
 have h:=aha r f;have h':=aha q g
 cases d<;>first|(cases h;done)|(cases h;cases e<;>first|(cases h';done)|(cases h';simp[eqD]))
theorem yu(r:Rep K ι H v d)(p:pur n d=true):(∃xs,d=.tup xs)\/(a0w v=true/\yt d=true):=by
 cases r<;>first|exact .inr ⟨rfl,rfl⟩|exact .inl ⟨_,rfl⟩|(cases n<;>cases p)
theorem a5x(r:Rep K ι H x d)(q:Rep K ι H y e)(f:yt d=true)(g:yt e=true):eqV x y=eqD d e:=by
 refine fvs (P:=λd x c y=>eqV x y=eqD d c) (λd x e y h h'=>?_) r q f g
 cases d<;>first|(cases h;done)|(cases h;cases e<;>first|(cases h';done)|(cases h';first|rfl|(simp[eqV,eqD];done)))
theorem ahg:∀(n:Nat) {v:V} {d e:D},Rep K ι H v d->Rep K ι H v e->pur n d=true->pur n e=true->eqD d e=true:=by
 intro n
 induction n with
 |zero =>
  intro v d e r q p1 p2
  rcases yu r p1 with⟨xs,rfl⟩|⟨f1,g1⟩
  ·cases p1
  rcases yu q p2 with⟨xs,rfl⟩|⟨f2,g2⟩
  ·cases p2
  exact ajz r q g1 g2
 |succ n ih =>
  intro v d e r q p1 p2
  rcases yu r p1 with⟨xs,rfl⟩|⟨f1,g1⟩
  ·rcases yu q p2 with⟨ys,rfl⟩|⟨f2,g2⟩
   ·obtain⟨a,vs,rfl,h,rs⟩:=a5w r;obtain⟨b,us,z,h',qs⟩:=a5w q;cases z
    rw[h]at h';cases h'
    simp only[eqD];simp only[pur,bQ]at p1 p2
    clear h r q
    induction rs using Reps.rec (motive_1:=λ_ _ _=>True) generalizing ys with
    |nil=>cases qs;rfl
    |cons r rs _ ih2 =>
     cases qs with
     |cons q qs =>
      simp only[a4f,cv];exact⟨ih r q (p1 _ (aP ..)) (p2 _ (aP ..)),ih2 _ qs (λx hx=>p1 x (ai _ hx)) (λx hx=>p2 x (ai _ hx))⟩
    |_=>trivial
   ·obtain⟨a,vs,rfl,h,rs⟩:=a5w r;cases f2
  ·rcases yu q p2 with⟨ys,rfl⟩|⟨f2,g2⟩
   ·obtain⟨a,vs,rfl,h,rs⟩:=a5w q;cases f1
   ·exact ajz r q g1 g2
open SeqAt in
theorem ak0{s:Shared}(hok:HOk P w H s.heap):∀(n:Nat) (A:Around) {x y:V} {u v:Value} {d e:D},Rep K ι H x d->Rep K ι H y e->RelV x u->RelV y v->pur n d=true->pur n e=true->A.units+n<cLine->EqAt A s u v (eqD d e):=by
 intro n
 induction n with
 |zero =>
  intro A x y u v d e r q rx ry p1 p2 hu
  rcases yu r p1 with⟨xs,rfl⟩|⟨f1,f2⟩
  ·cases p1
  ·rcases yu q p2 with⟨xs,rfl⟩|⟨g1,g2⟩
   ·cases p2
   ·rw[<-a5x r q f2 g2];exact acn rx ry f1 g1
 |succ n ih =>
  intro A x y u v d e r q rx ry p1 p2 hu
  rcases yu r p1 with⟨xs,rfl⟩|⟨f1,f2⟩
  ·cases r with
   |@tup a vs _ ha rs =>
    cases rx
    obtain⟨_,its,r1,t1⟩:=(Rd.of ha).ok hok;have t1:=t1.r
    rcases yu q p2 with⟨ys,rfl⟩|⟨g1,g2⟩
    ·cases q with
     |@tup b us _ hb qs =>
      cases ry
      obtain⟨_,its2,r2,t2⟩:=(Rd.of hb).ok hok;have t2:=t2.r
      by_cases hab:a=b
      ·subst hab;rw[ahg (n+1) (.tup ha rs) (.tup hb qs) p1 p2];exact EqAt.same _
      ·have l1:its.toArray.size=xs.length:=by rw[aJ,<-r1.length,rs.len]
       have l2:its2.toArray.size=ys.length:=by rw[aJ,<-r2.length,qs.len]
       have:=RcAt.tuples (A:=A) (s:=s) (e:=pairE xs ys) t1 t2 (by omega) (λj h1 h2=>by
        have j1:j<xs.length:=by omega
        have j2:j<ys.length:=by omega
        obtain⟨v1,e1,q1⟩:=rs.get (a6 j1);obtain⟨v2,e2,q2⟩:=qs.get (a6 j2);obtain⟨u1,e3,q3⟩:=r1.get e1;obtain⟨u2,e4,q4⟩:=r2.get e2;have f1:its.toArray[j]=u1:=by simpa using (a7.mp e3).2
        have f2:its2.toArray[j]=u2:=by simpa using (a7.mp e4).2
        have pe:pairE xs ys j=eqD xs[j] ys[j]:=by simp[pairE,a6 j1,a6 j2]
        rw[f1,f2,pe];simp only[pur,bQ]at p1 p2;exact ih A.in1 q1 q2 q3 q4 (p1 _ (br j1)) (p2 _ (br j2)) (by rw[gP];omega))
       rw[l1,l2,a1p]at this;exact EqAt.of_refs hab this
    ·have e0:eqD (.tup xs) e=false:=by cases e<;>first|rfl|(cases g2;done)
     rw[e0]
     cases y with
     |non=>cases ry;exact EqAt.tuple_none t1 (by omega)
     |bl b=>cases ry;exact EqAt.tuple_bool b t1 (by omega)
     |int b=>obtain⟨t,rfl⟩:=ry;exact EqAt.tuple_int b t t1 (by omega)
     |str b=>obtain⟨t,rfl⟩:=ry;exact EqAt.tuple_str b t t1 (by omega)
     |_=>cases g1
  ·rcases yu q p2 with⟨ys,rfl⟩|⟨g1,g2⟩
   ·cases q with
    |@tup b us _ hb qs =>
     cases ry
     obtain⟨_,its2,r2,t2⟩:=(Rd.of hb).ok hok;have t2:=t2.r;have e0:eqD d (.tup ys)=false:=by cases d<;>first|rfl|(cases f2;done)
     rw[e0]
     cases x with
     |non=>cases rx;exact EqAt.none_tuple t2 (by omega)
     |bl b=>cases rx;exact EqAt.bool_tuple b t2 (by omega)
     |int b=>obtain⟨t,rfl⟩:=rx;exact EqAt.int_tuple b t t2 (by omega)
     |str b=>obtain⟨t,rfl⟩:=rx;exact EqAt.str_tuple b t t2 (by omega)
     |_=>cases f1
   ·rw[<-a5x r q f2 g2];exact acn rx ry f1 g1
open SeqAt in
theorem as7(ry:RelV y u)(rx:RelV x v)(fy:a0w y=true)(fx:a0w x=true):RcAt A s u v (eqV y x):=by
 cases y with
 |non =>
  cases ry
  cases x with
  |non=>cases rx;exact RcAt.none_none
  |bl b=>cases rx;exact RcAt.none_bool b
  |int b=>obtain⟨t,rfl⟩:=rx;exact RcAt.none_int b t
  |str b=>obtain⟨t,rfl⟩:=rx;exact RcAt.none_str b t
  |_=>cases fx
 |bl a =>
  cases ry
  cases x with
  |non=>cases rx;exact RcAt.bool_none a
  |bl b=>cases rx;exact RcAt.bool_bool a b
  |int b=>obtain⟨t,rfl⟩:=rx;exact RcAt.bool_int a b t
  |str b=>obtain⟨t,rfl⟩:=rx;exact RcAt.bool_str a b t
  |_=>cases fx
 |int a =>
  obtain⟨t',rfl⟩:=ry
  cases x with
  |non=>cases rx;exact RcAt.int_none a t'
  |bl b=>cases rx;exact RcAt.int_bool a t' b
  |int b=>obtain⟨t,rfl⟩:=rx;exact RcAt.int_int a t' b t
  |str b=>obtain⟨t,rfl⟩:=rx;exact RcAt.int_str a t' b t
  |_=>cases fx
 |str a =>
  obtain⟨t',rfl⟩:=ry
  cases x with
  |non=>cases rx;exact RcAt.str_none a t'
  |bl b=>cases rx;exact RcAt.str_bool a t' b
  |int b=>obtain⟨t,rfl⟩:=rx;exact RcAt.str_int a t' b t
  |str b=>obtain⟨t,rfl⟩:=rx;exact RcAt.str_str a t' b t
  |_=>cases fx
 |_=>cases fy
open SeqAt in
theorem ahh(ry:RelV y u)(rx:RelV x v)(fy:a0w y=true)(fx:a0w x=true):RcNeAt A s u v (!eqV y x):=by
 cases y with
 |non =>
  cases ry
  cases x with
  |non=>cases rx;exact RcNeAt.none_none
  |bl b=>cases rx;exact RcNeAt.none_bool b
  |int b=>obtain⟨t,rfl⟩:=rx;exact RcNeAt.none_int b t
  |str b=>obtain⟨t,rfl⟩:=rx;exact RcNeAt.none_str b t
  |_=>cases fx
 |bl a =>
  cases ry
  cases x with
  |non=>cases rx;exact RcNeAt.bool_none a
  |bl b=>cases rx;exact RcNeAt.bool_bool a b
  |int b=>obtain⟨t,rfl⟩:=rx;exact RcNeAt.bool_int a b t
  |str b=>obtain⟨t,rfl⟩:=rx;exact RcNeAt.bool_str a b t
  |_=>cases fx
 |int a =>
  obtain⟨t',rfl⟩:=ry
  cases x with
  |non=>cases rx;exact RcNeAt.int_none a t'
  |bl b=>cases rx;exact RcNeAt.int_bool a t' b
  |int b=>obtain⟨t,rfl⟩:=rx;exact RcNeAt.int_int a t' b t
  |str b=>obtain⟨t,rfl⟩:=rx;exact RcNeAt.int_str a t' b t
  |_=>cases fx
 |str a =>
  obtain⟨t',rfl⟩:=ry
  cases x with
  |non=>cases rx;exact RcNeAt.str_none a t'
  |bl b=>cases rx;exact RcNeAt.str_bool a t' b
  |int b=>obtain⟨t,rfl⟩:=rx;exact RcNeAt.str_int a t' b t
  |str b=>obtain⟨t,rfl⟩:=rx;exact RcNeAt.str_str a t' b t
  |_=>cases fx
 |_=>cases fy
open SeqAt in
theorem tops{s:Shared}{A:Around}(hok:HOk P w H s.heap)(r:Rep K ι H x d)(q:Rep K ι H y e)(rx:RelV x u)(ry:RelV y v)(p1:pur 60 d=true)(p2:pur 60 e=true)(hu:A.units+64<cLine) :
  RcAt A s u v (eqD d e)/\RcNeAt A s u v (!eqD d e):=by
 rcases yu r p1 with⟨xs,rfl⟩|⟨f1,f2⟩
 ·cases r with
  |@tup a vs _ ha rs =>
   cases rx
   obtain⟨_,its,r1,t1⟩:=(Rd.of ha).ok hok;have t1:=t1.r
   rcases yu q p2 with⟨ys,rfl⟩|⟨g1,g2⟩
   ·cases q with
    |@tup b us _ hb qs =>
     cases ry
     obtain⟨_,its2,r2,t2⟩:=(Rd.of hb).ok hok;have t2:=t2.r;have l1:its.toArray.size=xs.length:=by rw[aJ,<-r1.length,rs.len]
     have l2:its2.toArray.size=ys.length:=by rw[aJ,<-r2.length,qs.len]
     have step:∀j (h1:j<its.toArray.size) (h2:j<its2.toArray.size),EqAt A.in1 s its.toArray[j] its2.toArray[j] (pairE xs ys j):=λj h1 h2=>by
      have j1:j<xs.length:=by omega
      have j2:j<ys.length:=by omega
      obtain⟨v1,e1,q1⟩:=rs.get (a6 j1);obtain⟨v2,e2,q2⟩:=qs.get (a6 j2);obtain⟨u1,e3,q3⟩:=r1.get e1;obtain⟨u2,e4,q4⟩:=r2.get e2;have f1:its.toArray[j]=u1:=by simpa using (a7.mp e3).2
      have f2:its2.toArray[j]=u2:=by simpa using (a7.mp e4).2
      have pe:pairE xs ys j=eqD xs[j] ys[j]:=by simp[pairE,a6 j1,a6 j2]
      rw[f1,f2,pe];simp only[pur,bQ]at p1 p2;exact ak0 hok 59 A.in1 q1 q2 q3 q4 (p1 _ (br j1)) (p2 _ (br j2)) (by rw[gP];omega)
     have c1:=RcAt.tuples (A:=A) (s:=s) (e:=pairE xs ys) t1 t2 (by omega) step
     have c2:=RcNeAt.tuples (A:=A) (s:=s) (e:=pairE xs ys) t1 t2 (by omega) step
     rw[l1,l2,a1p]at c1 c2;exact⟨c1,c2⟩
   ·have e0:eqD (.tup xs) e=false:=by cases e<;>first|rfl|(cases g2;done)
    rw[e0]
    cases y with
    |non=>cases ry;exact⟨RcAt.tuple_none t1 (by omega),RcNeAt.tuple_none t1 (by omega)⟩
    |bl b=>cases ry;exact⟨RcAt.tuple_bool b t1 (by omega),RcNeAt.tuple_bool b t1 (by omega)⟩
    |int b=>obtain⟨t,rfl⟩:=ry;exact⟨RcAt.tuple_int b t t1 (by omega),RcNeAt.tuple_int b t t1 (by omega)⟩
    |str b=>obtain⟨t,rfl⟩:=ry;exact⟨RcAt.tuple_str b t t1 (by omega),RcNeAt.tuple_str b t t1 (by omega)⟩
    |_=>cases g1
 ·rcases yu q p2 with⟨ys,rfl⟩|⟨g1,g2⟩
  ·cases q with
   |@tup b us _ hb qs =>
    cases ry
    obtain⟨_,its2,r2,t2⟩:=(Rd.of hb).ok hok;have t2:=t2.r;have e0:eqD d (.tup ys)=false:=by cases d<;>first|rfl|(cases f2;done)
    rw[e0]
    cases x with
    |non=>cases rx;exact⟨RcAt.none_tuple t2 (by omega),RcNeAt.none_tuple t2 (by omega)⟩
    |bl b=>cases rx;exact⟨RcAt.bool_tuple b t2 (by omega),RcNeAt.bool_tuple b t2 (by omega)⟩
    |int b=>obtain⟨t,rfl⟩:=rx;exact⟨RcAt.int_tuple b t t2 (by omega),RcNeAt.int_tuple b t t2 (by omega)⟩
    |str b=>obtain⟨t,rfl⟩:=rx;exact⟨RcAt.str_tuple b t t2 (by omega),RcNeAt.str_tuple b t t2 (by omega)⟩
    |_=>cases f1
  ·rw[<-a5x r q f2 g2];exact⟨as7 rx ry f1 g1,ahh rx ry f1 g1⟩
def ay9(K:Fg):R2:=λx y H Q=>∃ι d e,Rep K ι H x d/\Rep K ι H y e/\pur 60 d=true/\pur 60 e=true/\Q (.bl (eqD d e)) H
def aya(K:Fg):R2:=λx y H Q=>∃ι d e,Rep K ι H x d/\Rep K ι H y e/\pur 60 d=true/\pur 60 e=true/\Q (.bl (!eqD d e)) H
theorem ak1{X:Cx}(hu:X.A.units+64<cLine):OpR X (compareOp .Eq) (ay9 X.K):=by
 intro aA s σ H x y v u Q I rx ry h
 obtain⟨ι,d,e,r,q,p1,p2,hq⟩:=h;exact(tops (A:=X.A) I.hok r q rx ry p1 p2 hu).1 X.prog X.w X.xe _ ⟨.bl _,H,I,rfl,hq⟩
theorem as8{X:Cx}(hu:X.A.units+64<cLine):OpR X (compareOp .NotEq) (aya X.K):=by
 intro aA s σ H x y v u Q I rx ry h
 obtain⟨ι,d,e,r,q,p1,p2,hq⟩:=h;exact(tops (A:=X.A) I.hok r q rx ry p1 p2 hu).2 X.prog X.w X.xe _ ⟨.bl _,H,I,rfl,hq⟩
def hEq(x y:D)(h:Hd):R D:=if pur 60 x=true/\pur 60 y=true then .ok (.bl (eqD x y)) h else .no
def hNe(x y:D)(h:Hd):R D:=if pur 60 x=true/\pur 60 y=true then .ok (.bl (!eqD x y)) h else .no
theorem adz:a0m K hEq (ay9 K):=by
 intro E ι H h x y dx dy Q rx ry hr o
 unfold hEq at o
 split at o
 ·rename_i hc;exact⟨ι,dx,dy,rx,ry,hc.1,hc.2,ans o (.bl _) hr⟩
 ·exact o.elim
theorem an1:a0m K hNe (aya K):=by
 intro E ι H h x y dx dy Q rx ry hr o
 unfold hNe at o
 split at o
 ·rename_i hc;exact⟨ι,dx,dy,rx,ry,hc.1,hc.2,ans o (.bl _) hr⟩
 ·exact o.elim
end
section
variable{X:Cx}{E:XD}{K:Fg}
def a2j:D->D->Hd->R D
 |.int i,.int j,h=>.ok (.int (i+j)) h
 |.str x,.str y,h=>if x.length+y.length<=LINE then .ok (.str (x++y)) h else .no
 |_,_,_=>.no
theorem a9v:a0m K a2j (λx y H Q=>rI0 (λi j=>.int (i+j)) x y H Q\/∃i j,x=.str i/\y=.str j/\i.length+j.length<=sizeLine/\Q (.str (i++j)) H):=by
 intro E ι H h x y dx dy Q rx ry hr o
 cases rx with
 |int i =>
  cases ry with
  |int j=>exact .inl ⟨i,j,rfl,rfl,ans o (.int _) hr⟩
  |_=>exact o.elim
 |str i =>
  cases ry with
  |str j =>
   by_cases hc:i.length+j.length<=LINE
   ·simp only[a2j,aQ hc]at o;exact .inr ⟨i,j,rfl,rfl,ll hc,ans o (.str _) hr⟩
   ·simp only[a2j,bg hc]at o;exact o.elim
  |_=>exact o.elim
 |_=>exact o.elim
theorem ak2:bootBuiltins "max" = some (.builtin "max"):=by first|exact PySem.boot_max|exact PyProof.Rows.boot_max
theorem an2:bootBuiltins "bool" = some (.type "bool"):=by first|exact PySem.boot_bool|exact PyProof.Rows.boot_bool
theorem ahi(h1:MG X E e g)(h2:MGs X E es ks)(hs:(assignEach (e::es) X.env).map (·.2)=assign e X.env::(assignEach es X.env).map (·.2):=by rfl):MGs X E (e::es) (jw g ks) :=
 PGs.weak (a1i h1 h2 hs) λvs σ H Q q=>ah8 q
end
end MI
namespace ZP
open PySem.Builtin PySem.Builtin.SmallTypes
section
variable{prog:Program}{w:World}{A:Around}{E:Value->Shared->Prop}{s:Shared}
theorem an3{α:Type}{Q:α->Shared->Prop}(hh:A.handled=none)(q:∀h' e,(∀b o,s.heap.get? b=some o->h'.get? b=some o)->(∃o,h'.get? e=some o/\o.cls=.type "StopIteration")->E (.ref e) {s with heap:=h' }) :
  wpAny (model prog w) A (stopIteration:Sem α) Q E s:=by
 have none_first:firstArgMember (.type "StopIteration") []=pure Value.none:=by first|rfl|(simp only[firstArgMember];rfl)
 rw[stopIteration]
 apply a8
 rw[newExc,newTuple]
 apply a8
 apply cZ _ (by size_fits)
 rw[none_first,pure_bind]
 apply cZ _ (by size_fits)
 apply wpAny_raiseNew_none hh
 exact q _ _ (λb o z=>af _ (af _ z)) ⟨_,aT _ rfl,rfl⟩
theorem ahj(hi:s.heap.IsTupleIter it t i)(ht:s.heap.IsTuple t aC)(hx:aC[i]? = some x)
  (q:∀h',h'.IsTupleIter it t (i+1)->Heap.SameBut it s.heap h'->Q x {s with heap:=h' }):wpAny (model prog w) A (nextOf (.ref it)) Q E s:=by
 have ty:=hi.typeIs;obtain⟨o,e1,e2,e3⟩:=id hi;obtain⟨p,f1,f2,n,f3⟩:=ht;rw[nextOf]
 apply a8
 apply cY (name:=Str.ofString "__next__") ty dn
 apply cV dn ty fO _ (fG _)
 change wpAny (model prog w) A.in1 (field (.ref it) 0>>=_) _ _ _
 apply a8;apply cE e1 e3 (x:=.ref t) rfl
 change wpAny (model prog w) A.in1 (field (.ref it) 1>>=_) _ _ _
 apply a8;apply cE e1 e3 (x:=.int i 0) rfl
 change wpAny (model prog w) A.in1 (seqItems? (.ref t)>>=_) _ _ _
 apply a8;apply dC f1 f3
 dsimp only;rw[cP,hx]
 apply a8
 obtain⟨c,dd,dt,sl⟩:=o;simp only at e2 e3;subst e2 e3
 apply wpAny_setField e1 rfl (fA 1)
 apply av
 exact⟨x,rfl,av (q _ ⟨_,dW _ e1 rfl,rfl,rfl⟩ (eD ..))⟩
theorem an4{it t:Addr}{i:Nat}{aC:Array Value}{Q:Value->Shared->Prop}(hh:A.handled=none)(hi:s.heap.IsTupleIter it t i)(ht:s.heap.IsTuple t aC)(hx:aC[i]? = none)
  (q:∀h' e,Heap.ExtBut it s.heap h'->(∃o,h'.get? e=some o/\o.cls=.type "StopIteration")->E (.ref e) {s with heap:=h' }):wpAny (model prog w) A (nextOf (.ref it)) Q E s:=by
 have ty:=hi.typeIs;obtain⟨o,e1,e2,e3⟩:=id hi;obtain⟨p,f1,f2,n,f3⟩:=ht;rw[nextOf]
 apply a8
 apply cY (name:=Str.ofString "__next__") ty dn
 apply cV dn ty fO _ (fG _)
 change wpAny (model prog w) A.in1 (field (.ref it) 0>>=_) _ _ _
 apply a8;apply cE e1 e3 (x:=.ref t) rfl
 change wpAny (model prog w) A.in1 (field (.ref it) 1>>=_) _ _ _
 apply a8;apply cE e1 e3 (x:=.int i 0) rfl
 change wpAny (model prog w) A.in1 (seqItems? (.ref t)>>=_) _ _ _
 apply a8;apply dC f1 f3
 dsimp only;rw[cP,hx];dsimp only;obtain⟨c,dd,dt,sl⟩:=o;simp only at e2 e3;subst e2 e3
 apply a8;apply gE
 apply a8;apply wpAny_setField e1 rfl (fY 1)
 apply an3 (show A.in1.handled=none from hh)
 exact λh' e k z=>q h' e (λb o nb eb=>k b o ((eD ..).extBut b o nb eb)) z
theorem ae0{A:Around}(hh:A.handled=none)(it t:Addr)(ne:t≠it)(aC:Array Value):Draws prog w A it [it,t] aC.size (λi v=>aC[i]? = some v) (λi h=>h.IsTupleIter it t i/\h.IsTuple t aC) where
 live:=λ_ _ st=>let ⟨o,e,_⟩:=st.1; ⟨o,e⟩
 frame:=λ_ _ _ st k=>⟨let ⟨o,e,r⟩:=st.1; ⟨o,k it (by simp) o e,r⟩,let ⟨o,e,r⟩:=st.2; ⟨o,k t (by simp) o e,r⟩⟩
 item:=λi s Q E hi st q=>ahj st.1 st.2 (cS hi) λh' a b=>q _ h' s.toks (cS hi) ⟨a,st.2.extBut b.extBut ne⟩ b
 done:=λs Q E st q=>an4 hh st.1 st.2 (by simp) q
end
end ZP
namespace ZP
open PySem.Builtin PySem.Builtin.SmallTypes L2
inductive Srk where
 |tup (a:Addr)|lst (a:Addr)|str (x:Str)
def Srk.v:Srk->V
 |.tup a=>.ref a
 |.lst a=>.ref a
 |.str x=>.str x
def its(H:Hp):Srk->Option (List V)
 |.tup a=>match H a with|some (.tup vs)=>some vs|_=>none
 |.lst a=>match H a with|some (.lst vs)=>some vs|some (.frz _ (.lst vs))=>some vs|_=>none
 |.str x=>some (vh x)
def own(it:Addr)(t:Tok):Srk->Nat->Heap->Prop
 |.tup a,i,h=>h.IsTupleIter it a i
 |.lst a,i,h=>h.IsListIter it a i
 |.str x,i,h=>h.IsStrIter it (strIterType x) x t i
def iob(t:Tok):Srk->Obj
 |.tup a=>{cls:=.type "tuple_iterator",data:=.fields #[.ref a,.int 0 0]}
 |.lst a=>{cls:=.type "list_iterator",data:=.fields #[.ref a,.int 0 0]}
 |.str x=>{cls:=.type (strIterType x),data:=.fields #[.str x t,.int 0 0]}
def val(t:Tok):Srk->Value
 |.tup a=>.ref a
 |.lst a=>.ref a
 |.str x=>.str x t
def cont(h:Heap):Srk->List Value->Prop
 |.tup a,us=>h.IsTuple a us.toArray
 |.lst a,us=>h.IsList a us.toArray
 |.str x,us=>True
theorem ayb{h:Heap}(e:h.get? it=some (iob t k)):own it t k 0 h:=by
 cases k with
 |tup a=>exact⟨_,e,rfl,rfl⟩
 |lst a=>exact⟨_,e,rfl,rfl⟩
 |str x=>exact⟨_,e,rfl,rfl⟩
theorem a3m(o:own it t k i h):∃ob,h.get? it=some ob/\∀v,ob.data≠.cell v:=by
 cases k with
 |tup a=>obtain⟨ob,e,_,d⟩:=o;exact⟨ob,e,λv z=>by rw[d]at z;cases z⟩
 |lst a=>obtain⟨ob,e,_,d⟩:=o;exact⟨ob,e,λv z=>by rw[d]at z;cases z⟩
 |str x=>obtain⟨ob,e,_,d⟩:=o;exact⟨ob,e,λv z=>by rw[d]at z;cases z⟩
theorem yc{h':Heap}(o:own it t k i h)(kk:∀ob,h.get? it=some ob->h'.get? it=some ob):own it t k i h':=by
 cases k with
 |tup a=>obtain⟨ob,e,r⟩:=o;exact⟨ob,kk _ e,r⟩
 |lst a=>obtain⟨ob,e,r⟩:=o;exact⟨ob,kk _ e,r⟩
 |str x=>obtain⟨ob,e,r⟩:=o;exact⟨ob,kk _ e,r⟩
section
variable{P:Program}{w:World}{H:Hp}{s:Shared}
theorem a5y(I:Inv X aA σ H s)(e:its H k=some xs):∃us,cont s.heap k us/\((∀x,k≠.str x)->Vals xs us):=by
 cases k with
 |tup a =>
  cases q:H a with
  |none=>simp[its,q]at e
  |some o =>
   cases o with
   |tup vs =>
    simp[its,q]at e;subst e
    obtain⟨us,r,t,_⟩:=I.tuple (SqT.of q);exact⟨us,t,λ_=>r⟩
   |_=>simp[its,q]at e
 |lst a =>
  cases q:H a with
  |none=>simp[its,q]at e
  |some o =>
   cases o with
   |lst vs =>
    simp[its,q]at e;subst e
    obtain⟨us,r,t,_⟩:=I.list (SqL.of q);exact⟨us,t.isList,λ_=>r⟩
   |frz ob u =>
    cases u with
    |lst vs =>
     simp[its,q]at e;subst e
     obtain⟨us,r,t,_⟩:=I.list (.inl (.inr ⟨_,q⟩));exact⟨us,t.isList,λ_=>r⟩
    |_=>simp[its,q]at e
   |_=>simp[its,q]at e
 |str x=>exact⟨[],True.intro,λn=>absurd rfl (n x)⟩
theorem a8t(I:Inv X aA σ H s)(e:its H k=some xs)(hn:H it=none) :
  ∃(cs:List Addr) (P1:Nat->Value->Prop) (S1:Nat->Heap->Prop),(∀A:Around,A.handled=none->Draws X.prog X.w A it (it::cs) xs.length P1 S1)/\(∀i,own it t k i s.heap->S1 i s.heap)/\(∀i h,S1 i h->own it t k i h)/\(∀c∈cs,H c≠none) /\
   ∀i v,P1 i v->∃x,xs[i]? = some x/\RelV x v:=by
 cases k with
 |tup a =>
  obtain⟨us,c,r⟩:=a5y I e;have r:=r (by intro x z;cases z)
  have ha:H a≠none:=λz=>by simp[its,z]at e
  have l:us.toArray.size=xs.length:=by rw[aJ,r.length]
  refine⟨[a],λi v=>us.toArray[i]? = some v,λi h=>h.IsTupleIter it a i/\h.IsTuple a us.toArray,λA hA=>?_,λi o=>⟨o,c⟩,λi h z=>z.1,λc hc=>by rw[aI.mp hc];exact ha,λi v z=>?_⟩
  ·have:=ae0 (prog:=X.prog) (w:=X.w) hA it a (λy=>ha (y ▸ hn)) us.toArray
   rw[l]at this;exact this
  ·have z':us[i]? = some v:=by simpa using z
   have hi:i<xs.length:=by rw[r.length];exact(a7.mp z').1
   obtain⟨u,e1,e2⟩:=r.get (a6 hi);rw[z']at e1;cases e1
   exact⟨_,a6 hi,e2⟩
 |lst a =>
  obtain⟨us,c,r⟩:=a5y I e;have r:=r (by intro x z;cases z)
  have ha:H a≠none:=λz=>by simp[its,z]at e
  have l:us.toArray.size=xs.length:=by rw[aJ,r.length]
  refine⟨[a],λi v=>us.toArray[i]? = some v,λi h=>h.IsListIter it a i/\h.IsList a us.toArray,λA hA=>?_,λi o=>⟨o,c⟩,λi h z=>z.1,λc hc=>by rw[aI.mp hc];exact ha,λi v z=>?_⟩
  ·have:=Draws.list (prog:=X.prog) (w:=X.w) hA it a (λy=>ha (y ▸ hn)) us.toArray
   rw[l]at this;exact this
  ·have z':us[i]? = some v:=by simpa using z
   have hi:i<xs.length:=by rw[r.length];exact(a7.mp z').1
   obtain⟨u,e1,e2⟩:=r.get (a6 hi);rw[z']at e1;cases e1
   exact⟨_,a6 hi,e2⟩
 |str x =>
  cases e
  have l:(vh x).length=x.cps.size:=by simp[vh]
  refine⟨[],λi v=>∃c u,x.cps[i]? = some c/\v=.str ⟨#[c]⟩ u,λi h=>h.IsStrIter it (strIterType x) x t i,λA hA=>?_,λi o=>o,λi h z=>z,λc hc=>(by cases hc),λi v z=>?_⟩
  ·rw[l]
   cases ha:x.cps.all (· < 128)
   ·have:=Draws.strWide (prog:=X.prog) (w:=X.w) hA it x t
    simpa[strIterType,ha] using this
   ·have:=Draws.strAscii (prog:=X.prog) (w:=X.w) hA it x t
    simpa[strIterType,ha] using this
  ·obtain⟨c,u,e1,rfl⟩:=z;exact⟨.str ⟨#[c]⟩,by simp[vh,e1],⟨_,rfl⟩⟩
end
theorem a2c{X:Cx}{aA:List (Addr×Obj)}{σ:St}{H:Hp}{s:Shared}{h':Heap}{t':Nat}{ch:List Addr}(I:Inv X aA σ H s)(hf:∀b∈ch,a1y X aA H b)(k:∀b o,b∉ch->s.heap.get? b=some o->h'.get? b=some o) :
  Inv X aA σ H {s with heap:=h',toks:=t' }:=by
 have nit:∀b u,H b=some u->b∉ch:=λb u e z=>by rw[(hf b z).1]at e;cases e
 refine I.step (g':=s.gens) (d':=s.drawn) (ch:=ch) (λb hb=>?_) (λb o _ _ hc e _=>k b o hc e) (λb o _ _ hc e _=>⟨o.slots,k b o hc e⟩) (λ_ _ _ _ n=>n) (λb o hc e=>⟨o,k b o hc e⟩) (λ_ _ e=>e) (λ_ _ _ e=>e)
  (λb ps e=>⟨#[],by rw[e];simp⟩) (λm hm=>?_) (λb u e=>?_) I.bare
 ·obtain⟨_,f1,_,f3,f4,f5⟩:=hf b hb;exact⟨f3,f1,f4,f5⟩
 ·obtain⟨o,es,ep,ho,r⟩:=hm;exact⟨o,es,ep,k _ o (λz=>(hf _ z).2.1 rfl) ho,r⟩
 ·refine(I.hok b u e).stay (λc v hc q=>k c v ?_ q) (λ_ q=>q) λ_ _ q=>q
  rcases hc with z|z
  ·rw[z];exact nit b u e
  ·exact nit c _ z
theorem a2q{s:Shared}(c:cont s.heap k us)(q:Q (.ref s.heap.objs.size) {s with heap:=s.heap.push (iob t k)}) :
  wpAny (model prog w) A (pyIter (val t k)) Q E s:=by
 cases k with
 |tup a=>exact fS c q
 |lst a=>exact gA c q
 |str x=>exact wpAny_pyIter_strU q
section
variable{X:Cx}{elts:List Expr}{x1:Nat}{tpos:Pos}
theorem ak3{k:Srk}(r:RelV k.v u):∃t,u=val t k:=by
 cases k with
 |tup a=>cases r;exact⟨0,rfl⟩
 |lst a=>cases r;exact⟨0,rfl⟩
 |str x=>obtain⟨t,rfl⟩:=r;exact⟨t,rfl⟩
end
end ZP
namespace MI
open L2 ZP
def srcOf(d:D)(h:Hd):Option (List D×(Hd->Prop)):=match d with
 |.tup xs=>some (xs,λ_=>True)
 |.rol xs=>some (xs,λ_=>True)
 |.str x=>some (a1k x,λ_=>True)
 |.ref i=>(match h[i]? with|some (.lst xs)=>some (xs,λh=>h[i]? = some (.lst xs))|_=>none)
 |_=>none
def aoz(x y:D)(h:Hd):R Itm:=match srcOf x h,srcOf y h with
 |some (xs,c1),some (ys,c2)=>.ok ⟨(xs.zip ys).map λp=>.tup [p.1,p.2],λh=>c1 h/\c2 h⟩ h
 |_,_=>.no
def agc(f g:SE):SI:=λτ h=>(f τ h).bind λx h1=>(g τ h1).bind λy h2=>aoz x y h2
theorem a7g(r:Rep K ι H v d)(hr:HRep K ι H h)(e:srcOf d h=some (xs,ck)) :
  ∃k:Srk,v=k.v/\ck h/\∀ι' H' h',Gr ι H ι' H'->HRep K ι' H' h'->ck h'->∃vs,its H' k=some vs/\Reps K ι' H' vs xs:=by
 cases r with
 |@tup a vs ys ha rs =>
  cases e
  exact⟨.tup a,rfl,True.intro,λι' H' h' g _ _=>⟨vs,by simp[its,g.tup _ _ ha],rs.mono g⟩⟩
 |@rol a vs ys ha rs =>
  cases e
  refine⟨.lst a,rfl,True.intro,λι' H' h' g _ _=>⟨vs,?_,rs.mono g⟩⟩;obtain⟨o,q⟩:=ha.mono g;simp[its,q]
 |str x =>
  cases e
  exact⟨.str x,rfl,True.intro,λι' H' h' g _ _=>⟨_,rfl,a2b x⟩⟩
 |@ref a i ha =>
  obtain⟨ob,e1,e2⟩:=hr.at ha
  cases ob with
  |lst zs =>
   simp only[srcOf,e1]at e;cases e
   refine⟨.lst a,rfl,e1,λι' H' h' g hr' c=>?_⟩;obtain⟨us,q1,q2⟩:=hr'.obj i a _ (g.at ha) c;exact⟨us,by simp[its,q1],q2⟩
  |dK _=>simp only[srcOf,e1]at e;cases e
  |dT _=>simp only[srcOf,e1]at e;cases e
  |ins _ _=>simp only[srcOf,e1]at e;cases e
  |dN _=>simp only[srcOf,e1]at e;cases e
 |_=>cases e
theorem ak4:bootBuiltins "zip" = some (.type "zip"):=by first|exact PySem.boot_zip|exact PyProof.Rows.boot_zip|rfl
end MI
namespace MI
open L2
def FrzOf(L:List Addr)(H H2:Hp):Prop:=∀a,(a∉L->H2 a=H a)/\(a∈L->∃o u,H a=some u/\H2 a=some (.frz o u))
def ab7(H:Hp)(L:List Addr):Prop:=∀a∈L,(∃xs,H a=some (.lst xs))\/(∃kvs,H a=some (.dK kvs))\/(∃kvs,H a=some (.dT kvs))\/(∃C dx fs,H a=some (.ins C dx fs))\/∃φ,H a=some (.ext φ)
def still:HO->Prop
 |.lst _=>False|.dK _=>False|.dT _=>False|.ins _ _ _=>False|.ext _=>False
 |_=>True
theorem FrzOf.still(f:FrzOf L H H2)(ab:ab7 H L)(e:H a=some u)(st:MI.still u):H2 a=some u:=by
 rw[(f a).1 λz=>?_]
 ·exact e
 ·rcases ab a z with⟨_,q⟩|⟨_,q⟩|⟨_,q⟩|⟨_,_,_,q⟩|⟨_,q⟩<;>(rw[e]at q;cases q;exact st)
theorem Inv.frz{X:Cx}{aA:List (Addr×Obj)}{σ:St}{H:Hp}{s:Shared}{L:List Addr}(I:Inv X aA σ H s)(ab:ab7 H L):∃H2,FrzOf L H H2/\Inv X aA σ H2 s:=by
 have obj:∀a∈L,∀u,H a=some u->∃o,s.heap.get? a=some o:=λa ha u e=>by
  rcases ab a ha with⟨_,q⟩|⟨_,q⟩|⟨_,q⟩|⟨_,_,_,q⟩|⟨_,q⟩
  ·obtain⟨_,_,_,_,z⟩:=I.hok a _ q;exact⟨_,z⟩
  ·obtain⟨_,_,_,_,z⟩:=I.hok a _ q;obtain⟨o,_,_,z,_⟩:=z;exact⟨o,z⟩
  ·obtain⟨_,_,_,_,o,_,_,z,_⟩:=I.hok a _ q;exact⟨o,z⟩
  ·obtain⟨_,_,_,z,_⟩:=I.hok a _ q;exact⟨_,z⟩
  ·obtain⟨_,z,_⟩:=I.hok a _ q;exact z
 let H2:Hp:=λa=>if a∈L then (match s.heap.get? a,H a with|some o,some u=>some (.frz o u)|_,w=>w) else H a
 have f:FrzOf L H H2:=λa=>⟨λh=>by simp[H2,h],λh=>by
  obtain⟨u,e⟩:∃u,H a=some u:=by
   rcases ab a h with⟨_,q⟩|⟨_,q⟩|⟨_,q⟩|⟨_,_,_,q⟩|⟨_,q⟩<;>exact⟨_,q⟩
  obtain⟨o,eo⟩:=obj a h u e;exact⟨o,u,e,by simp[H2,h,e,eo]⟩⟩
 refine⟨H2,f,?_⟩;have mv:∀a u,ObjOk X.prog X.w H s.heap a u->ObjOk X.prog X.w H2 s.heap a u:=λa u x=>x.stay (λb v _ q=>q) (λc q=>f.still ab q True.intro) λc xs q=>f.still ab q True.intro;have ok:HOk X.prog X.w H2 s.heap:=λa u e=>by
  by_cases hl:a∈L
  ·obtain⟨u0,e0⟩:∃u,H a=some u:=by
    rcases ab a hl with⟨_,q⟩|⟨_,q⟩|⟨_,q⟩|⟨_,_,_,q⟩|⟨_,q⟩<;>exact⟨_,q⟩
   obtain⟨o,eo⟩:=obj a hl u0 e0;have e':H2 a=some (.frz o u0):=by simp[H2,hl,e0,eo]
   rw[e']at e;cases e
   exact⟨eo,mv a u0 (I.hok a u0 e0)⟩
  ·rw[(f a).1 hl]at e;exact mv a u (I.hok a u e)
 have fn:∀b,H b=none->H2 b=none:=λb n=>by
  rw[(f b).1 λz=>?_]
  ·exact n
  ·rcases ab b z with⟨_,q⟩|⟨_,q⟩|⟨_,q⟩|⟨_,_,_,q⟩|⟨_,q⟩<;>(rw[n]at q;cases q)
 have un:Un X.fs [] H H2 s.heap s.heap:=⟨λb o q _ _ _=>q,λb o q _ _ _=>⟨o.slots,q⟩,λb o _ n _=>fn b n,λb o q _=>⟨o,q⟩,λb xs q=>f.still ab q True.intro,λb o u q=>f.still ab q True.intro,λb ps q=>⟨#[],by rw[f.still ab q True.intro];simp⟩⟩
 exact I.un (t':=s.toks) un ok
theorem ae1(h:PE X e t):PE X e (λσ H Q=>t σ H λv H1=>∃L,ab7 H1 L/\∀H2,FrzOf L H1 H2->Q v H2):=λaA s σ H Q I q =>
 thn (h aA s σ H _ I q) λu s' ⟨v,H1,I1,r,L,ab,k⟩=>let ⟨H2,f,I2⟩:=Inv.frz I1 ab; ⟨v,H2,I2,r,k H2 f⟩
def v4{α β:Type}(f:α->Option β):List α->Option (List β)
 |[]=>some []
 |x::xs=>match f x,v4 f xs with|some y,some ys=>some (y::ys)|_,_=>none
open Classical in
noncomputable def a01(n:Nat)(h:Hd):Nat->D->Option D
 |0,_=>none
 |k+1,d=>if clo n d then some d else match d with
  |.tup xs=>(v4 (a01 n h k) xs).map .tup
  |.rol xs=>(v4 (a01 n h k) xs).map .rol
  |.scr xs=>(v4 (a01 n h k) xs).map .scr
  |.rod ks xs=>(v4 (a01 n h k) xs).map (.rod ks)
  |.rdT ks xs=>(v4 (a01 n h k) xs).map (.rdT ks)
  |.ins c ks xs=>(v4 (a01 n h k) xs).map (.ins c ks)
  |.ref i=>match h[i]? with
   |some (.lst xs)=>(v4 (a01 n h k) xs).map .rol
   |some (.dK kvs)=>(v4 (a01 n h k) (kvs.map (·.2))).map (.rod (kvs.map (·.1)))
   |some (.dT kvs)=>(v4 (a01 n h k) (kvs.map (·.2))).map (.rdT (kvs.map (·.1)))
   |some (.ins c kvs)=>(v4 (a01 n h k) (kvs.map (·.2))).map (.ins c (kvs.map (·.1)))
   |some (.dN _)=>none
   |none=>none
  |_=>none
open Classical in
noncomputable def as9(n:Nat)(h:Hd)(k:Nat)(o:O):Option O:=if a0g n o then some o else match o with
 |.lst xs=>(v4 (a01 n h k) xs).map .lst
 |.dK kvs=>(v4 (a01 n h k) (kvs.map (·.2))).map λys=>.dK ((kvs.map (·.1)).zip ys)
 |.dT kvs=>(v4 (a01 n h k) (kvs.map (·.2))).map λys=>.dT ((kvs.map (·.1)).zip ys)
 |.ins c kvs=>(v4 (a01 n h k) (kvs.map (·.2))).map λys=>.ins c ((kvs.map (·.1)).zip ys)
 |.dN _=>none
abbrev FU:Nat:=20
noncomputable def ab8(n:Nat):R D->R D
 |.ok d h1=>match a01 n h1 FU d,v4 (as9 n h1 FU) (h1.take n) with|some d',some g=>.ok d' g|_,_=>.no
 |_=>.no
open Classical in
noncomputable def ap0(n:Nat):R D->R D
 | .ok (.ref i) h1=>(match h1[i]? with
   |some o=>if n<=i/\a0g n o/\∀u∈h1.take n,a0g n u then .ok (.ref n) (h1.take n++[o]) else .no
   |none=>.no)
 |_=>.no
section
variable{K:Fg}{ι ι':List Addr}{H H' H2:Hp}{h1:Hd}{n:Nat}{L:List Addr}
theorem a9w(f:FrzOf L H' H2)(ab:ab7 H' L)(κ:List Addr):Gw κ H' κ H2:=⟨⟨[],by simp⟩,λa vs e=>f.still ab e True.intro,λa o u e=>f.still ab e True.intro⟩
theorem gq(ih:∀{v d d'},Rep K ι H v d->f d=some d'->Rep K κ H2 v d'):∀{vs:List V} {ds ds':List D},Reps K ι H vs ds->v4 f ds=some ds'->Reps K κ H2 vs ds'
 |_,_,_,.nil,e=>by cases e;exact .nil
 |_,x::xs,_,.cons r rs,e=>by
  unfold v4 at e
  split at e
  ·rename_i y ys h1 h2;cases e
   exact .cons (ih r h1) (gq ih rs h2)
  ·cases e
theorem a3n(hr:HRep K ι' H' h1)(hL:∀(i:Nat) a,ι'[i]? = some a->n<=i->a∈L)(f:FrzOf L H' H2)(ab:ab7 H' L):∀(k:Nat) {v:V} {d d':D},Rep K ι' H' v d->a01 n h1 k d=some d'->Rep K (ι'.take n) H2 v d':=by
 intro k
 induction k with
 |zero=>intro v d d' r e;cases e
 |succ k ih =>
  intro v d d' r e
  unfold a01 at e
  split at e
  ·rename_i c;cases e
   exact(r.cut c).monoW (a9w f ab _)
  ·rename_i c
   cases r with
   |tup h rs =>
    simp only[aL]at e;obtain⟨ys,e1,rfl⟩:=e;exact .tup (f.still ab h True.intro) (gq (λr e=>ih r e) rs e1)
   |rol h rs =>
    simp only[aL]at e;obtain⟨ys,e1,rfl⟩:=e;exact .rol (h.monoW (a9w f ab ι')) (gq (λr e=>ih r e) rs e1)
   |scr h rs =>
    simp only[aL]at e;obtain⟨ys,e1,rfl⟩:=e;exact .scr (h.monoW (a9w f ab ι')) (gq (λr e=>ih r e) rs e1)
   |rod h ek rs =>
    simp only[aL]at e;obtain⟨ys,e1,rfl⟩:=e;exact .rod (f.still ab h True.intro) ek (gq (λr e=>ih r e) rs e1)
   |rdT h ek rs =>
    simp only[aL]at e;obtain⟨ys,e1,rfl⟩:=e;exact .rdT (f.still ab h True.intro) ek (gq (λr e=>ih r e) rs e1)
   |@ref a i ha =>
    have hi:n<=i:=by
     simp only[clo]at c;omega
    obtain⟨o,u,e1,e2⟩:=(f a).2 (hL i a ha hi);obtain⟨ob,h3,h4⟩:=hr.at ha;simp only[h3]at e
    cases ob with
    |lst xs =>
     simp only[aL]at e;obtain⟨ys,e3,rfl⟩:=e;obtain⟨vs,h5,h6⟩:=h4;rw[e1]at h5;cases h5
     exact .rol ⟨o,e2⟩ (gq (λr e=>ih r e) h6 e3)
    |dK kvs =>
     simp only[aL]at e;obtain⟨ys,e3,rfl⟩:=e;obtain⟨us,h5,h6,h7⟩:=h4;rw[e1]at h5;cases h5
     exact .rod e2 h6 (gq (λr e=>ih r e) h7 e3)
    |dT kvs =>
     simp only[aL]at e;obtain⟨ys,e3,rfl⟩:=e;obtain⟨us,h5,h6,h7⟩:=h4;rw[e1]at h5;cases h5
     exact .rdT e2 h6 (gq (λr e=>ih r e) h7 e3)
    |ins c kvs =>
     simp only[aL]at e;obtain⟨ys,e3,rfl⟩:=e;obtain⟨C,dx,us,h5,hn,h6,h7⟩:=h4;rw[e1]at h5;cases h5
     exact .ins e2 hn h6 (gq (λr e=>ih r e) h7 e3)
    |dN _=>cases e
   |non=>simp only[clo,dH]at c
   |exc _ _ _=>simp only[clo,dH]at c
   |ins h hn ek rs =>
    simp only[aL]at e;obtain⟨ys,e1,rfl⟩:=e;exact .ins (f.still ab h True.intro) hn ek (gq (λr e=>ih r e) rs e1)
   |bl b=>simp only[clo,dH]at c
   |int b=>simp only[clo,dH]at c
   |str b=>simp only[clo,dH]at c
   |ty b=>simp only[clo,dH]at c
theorem a2r{κ:Type}{H:Hp}{us:List (κ×V)}{ks:List κ}{ys:List D}(e:us.map (·.1)=ks)(r:Reps K ι H (us.map (·.2)) ys):KRep K ι H us (ks.zip ys):=by
 have l:ks.length=ys.length:=by rw[<-e,a9,<-r.len,a9]
 refine⟨?_,?_⟩
 ·rw[List.map_fst_zip (by omega)];exact e
 ·rw[List.map_snd_zip (by omega)];exact r
theorem an5(hr:HRep K ι' H' h1)(hL:∀(i:Nat) a,ι'[i]? = some a->n<=i->a∈L)(f:FrzOf L H' H2)(ab:ab7 H' L){k:Nat}(na:a∉L)(r:ORep K ι' H' a o)(e:as9 n h1 k o=some o'):ORep K (ι'.take n) H2 a o':=by
 have same:H2 a=H' a:=(f a).1 na;unfold as9 at e
 split at e
 ·rename_i c;cases e
  exact(r.cut c).monoW (a9w f ab _) same
 ·cases o with
  |lst xs =>
   simp only[aL]at e;obtain⟨ys,e1,rfl⟩:=e;obtain⟨vs,h3,h4⟩:=r;exact⟨vs,by rw[same];exact h3,gq (λr e=>a3n hr hL f ab k r e) h4 e1⟩
  |dK kvs =>
   simp only[aL]at e;obtain⟨ys,e1,rfl⟩:=e;obtain⟨us,h3,h4,h5⟩:=r;exact⟨us,by rw[same];exact h3,a2r h4 (gq (λr e=>a3n hr hL f ab k r e) h5 e1)⟩
  |dT kvs =>
   simp only[aL]at e;obtain⟨ys,e1,rfl⟩:=e;obtain⟨us,h3,h4,h5⟩:=r;exact⟨us,by rw[same];exact h3,a2r h4 (gq (λr e=>a3n hr hL f ab k r e) h5 e1)⟩
  |ins c kvs =>
   simp only[aL]at e;obtain⟨ys,e1,rfl⟩:=e;obtain⟨C,dx,us,h3,hn,h4,h5⟩:=r;exact⟨C,dx,us,by rw[same];exact h3,hn,a2r h4 (gq (λr e=>a3n hr hL f ab k r e) h5 e1)⟩
  |dN _=>cases e
theorem a0i{α β:Type}{f:α->Option β}:∀{xs:List α} {ys:List β},v4 f xs=some ys->xs.length=ys.length/\∀(i:Nat) y,ys[i]? = some y->∃x,xs[i]? = some x/\f x=some y
 |[],_,e=>by cases e;exact⟨rfl,λi y e=>by simp at e⟩
 |x::xs,ys,e=>by
  unfold v4 at e
  split at e
  ·rename_i y ys h1 h2;cases e
   obtain⟨l,g⟩:=a0i h2;refine⟨by simp[l],λi z e=>?_⟩
   cases i with
   |zero=>simp at e;subst e;exact⟨x,rfl,h1⟩
   |succ i=>simpa using g i z (by simpa using e)
  ·cases e
theorem ae2(hr:HRep K ι' H' h1)(M:List Addr)(hM:∀a∈M,a∈ι'):ab7 H' M:=λa ha=>by
 obtain⟨i,hi⟩:=cy (hM a ha);obtain⟨o,_,q⟩:=hr.at hi
 cases o with
 |lst xs=>obtain⟨vs,h,_⟩:=q;exact .inl ⟨_,h⟩
 |dK xs=>obtain⟨vs,h,_⟩:=q;exact .inr (.inl ⟨_,h⟩)
 |dT xs=>obtain⟨vs,h,_⟩:=q;exact .inr (.inr (.inl ⟨_,h⟩))
 |ins _ _=>obtain⟨C,dx,vs,h,_⟩:=q;exact .inr (.inr (.inr (.inl ⟨_,_,_,h⟩)))
 |dN _ =>
  obtain⟨ent,⟨h,_⟩|⟨h,_⟩,_⟩:=q
  ·exact .inr (.inr (.inr (.inr ⟨_,h.has⟩)))
  ·exact .inr (.inl ⟨_,h⟩)
theorem a3o{α:Type}{l:List α}(nd:l.Nodup){i j:Nat}{a:α}(h1:l[i]? = some a)(h2:l[j]? = some a):i=j:=by
 obtain⟨l1,e1⟩:=a7.mp h1;obtain⟨l2,e2⟩:=a7.mp h2
 rcases Nat.lt_trichotomy i j with l|l|l
 ·exact absurd (e1.trans e2.symm) (dD.mp nd i j l1 l2 l)
 ·exact l
 ·exact absurd (e2.trans e1.symm) (dD.mp nd j i l2 l1 l)
theorem asa(g:Gr ι H ι' H')(f:FrzOf L H' H2)(ab:ab7 H' L)(hL:∀a∈L,H a=none)(hm:∀a∈m,H a=none):Gr ι H (ι++m) H2:=by
 refine⟨⟨m,rfl,hm⟩,λa vs e=>f.still ab (g.tup a vs e) True.intro,λa o u e=>f.still ab (g.frz a o u e) True.intro,λa u e hn=>?_,λa u e=>?_⟩
 ·rw[(f a).1 λz=>by rw[hL a z]at e;cases e]
  exact g.oth a u e hn
 ·obtain⟨u',e'⟩:=g.kp a u e;rw[(f a).1 λz=>by rw[hL a z]at e;cases e]
  exact⟨u',e'⟩
theorem ae3{d d':D}{v:V}{g':Hd}(g:Gr ι H ι' H')(rb:Rep K ι' H' v d)(hr:HRep K ι' H' h1)(e:ab8 ι.length (.ok d h1)=.ok d' g') :
  ∃L,ab7 H' L/\∀H2,FrzOf L H' H2->Gr ι H ι H2/\Rep K ι H2 v d'/\HRep K ι H2 g':=by
 obtain⟨m,rfl,hm⟩:=g.pre;have tk:(ι++m).take ι.length=ι:=by simp
 have ab:ab7 H' m:=ae2 hr m λa ha=>bS _ ha;have hL:∀(i:Nat) a,(ι++m)[i]? = some a->ι.length<=i->a∈m:=λi a e hi=>by
  rw[aw hi]at e;exact aN e
 refine⟨m,ab,λH2 f=>?_⟩;unfold ab8 at e;simp only at e
 split at e
 ·rename_i dd gg e1 e2;cases e
  refine⟨by simpa using asa g f ab hm (m:=[]) (by simp),by have:=a3n hr hL f ab FU rb e1;rwa[tk]at this,?_⟩
  obtain⟨l,gt⟩:=a0i e2;have hl:=hr.len;have ln:ι.length<=h1.length:=by rw[<-hl];simp
  refine⟨(bD.mp hr.nd).1,by rw[<-l,cU];omega,λi a o q1 q2=>?_⟩
  obtain⟨x,hx,fx⟩:=gt i o q2;have hi:i<ι.length:=(a7.mp q1).1;rw[eM,aQ hi]at hx;have q3:(ι++m)[i]? = some a:=by rw[ax hi];exact q1
  have na:a∉m:=λz=>(bD.mp hr.nd).2.2 a (aN q1) a z rfl;have:=an5 hr hL f ab na (hr.obj i a x q3 hx) fx
  rwa[tk]at this
 ·cases e
theorem ahk(g:Gr ι H ι' H')(rb:Rep K ι' H' v d)(hr:HRep K ι' H' h1)(e:ap0 ι.length (.ok d h1)=.ok d' g') :
  ∃b,H b=none/\Gr ι H (ι++[b]) H'/\Rep K (ι++[b]) H' v d'/\HRep K (ι++[b]) H' g':=by
 obtain⟨m,rfl,hm⟩:=g.pre;have tk:(ι++m).take ι.length=ι:=by simp
 have up:∀b,Gw ι H' (ι++[b]) H':=λb=>⟨⟨[b],rfl⟩,λ_ _ h=>h,λ_ _ _ h=>h⟩
 cases rb with
 |@ref b i hb =>
  unfold ap0 at e;simp only at e
  split at e
  ·rename_i ob ho
   split at e
   ·rename_i hc;obtain⟨hi,c1,c2⟩:=hc;cases e
    have hb':=hb;rw[aw hi]at hb';have bm:b∈m:=aN hb';obtain⟨nd1,nd2,nd3⟩:=bD.mp hr.nd;have hl:=hr.len;have ln:ι.length<=h1.length:=by rw[<-hl];simp
    have lt:(h1.take ι.length).length=ι.length:=by rw[cU];omega
    refine⟨b,hm b bm,⟨⟨[b],rfl,by simpa using hm b bm⟩,g.tup,g.frz,g.oth,g.kp⟩,.ref (by simp),?_⟩
    refine⟨bD.mpr ⟨nd1,by simp,λa ha c hc z=>nd3 a ha c (by rw[aI.mp hc];exact bm) z⟩,by simp[lt],λj a o q1 q2=>?_⟩
    by_cases hj:j<ι.length
    ·rw[ax hj]at q1;rw[ax (by omega)]at q2
     have q2':=q2;rw[eM,aQ hj]at q2';have:=(hr.obj j a o (by rw[ax hj];exact q1) q2').cut (c2 o (aN q2))
     rw[tk]at this;exact this.monoW (up b) rfl
    ·have hj2:j<(ι++[b]).length:=(a7.mp q1).1;have:j=ι.length:=by simp at hj2;omega
     subst this;rw[aw (ah _)]at q1;rw[aw (by omega),lt]at q2
     simp at q1 q2
     subst q1 q2;have:=(hr.obj i b ob hb ho).cut c1;rw[tk]at this;exact this.monoW (up b) rfl
   ·cases e
  ·cases e
 |_=>cases e
end
noncomputable def sZ(f:SE):SE:=λτ h=>ab8 h.length (f τ h)
abbrev azk(Q:VK):VK:=λv H1=>∃L,ab7 H1 L/\∀H2,FrzOf L H1 H2->Q v H2
theorem awq(q:lift K E (xn K) (sZ fa) σ H Q):lift K E (xn K) fa σ H (azk Q):=by
 obtain⟨ι,τ,h,S,Rh,o⟩:=q;refine⟨ι,τ,h,S,Rh,?_⟩;unfold sZ at o;rw[<-Rh.len]at o
 cases hf:fa τ h with
 |ok d h1 =>
  rw[hf]at o
  intro ι' H' v g r hr
  cases hz:ab8 ι.length (.ok d h1) with
  |ok d' g' =>
   rw[hz]at o;obtain⟨L,ab,k⟩:=ae3 g r hr hz;refine⟨L,ab,λH2 f=>?_⟩;obtain⟨k1,k2,k3⟩:=k H2 f;exact o ι H2 v k1 k2 k3
  |ex c hx=>unfold ab8 at hz;simp only at hz;split at hz<;>cases hz
  |no=>rw[hz]at o;exact o.elim
 |ex c h1=>rw[hf]at o;exact o.elim
 |no=>rw[hf]at o;exact o.elim
theorem azl(ha:ME X E e fa):ME X E e (sZ fa):=PE.weak (ae1 ha) λσ H Q q=>awq q
def refOf:D->Option Nat
 |.ref i=>some i
 |_=>none
def a0z(ds:List D):List Nat:=ds.filterMap refOf
def a0a:Nat->List D->List D
 |_,[]=>[]
 |k,d::ds=>match d with
  |.ref _=>.ref k::a0a (k+1) ds
  |d=>d::a0a k ds
def uc:Hd->List Nat->List O->Hd
 |h,i::is,o::os=>uc (h.set i o) is os
 |h,_,_=>h
def isRef(d:D):Prop:=∃i,d=.ref i
open Classical in
noncomputable def asb(m:Bool)(F:SF)(ds:List D)(h:Hd):R D:=match v4 (λi=>h[i]?) (a0z ds) with
 |none=>.no
 | some os=>if (a0z ds).Nodup/\(∀d∈ds,clo 0 d\/isRef d)/\(∀o∈os,a0g 0 o) then
   (match (if m then ap0 os.length (F (a0a 0 ds) os) else ab8 os.length (F (a0a 0 ds) os)) with
   | .ok d h1=>if ∀o∈h1,a0g 0 o then
     (if m then .ok (.ref h.length) (uc h (a0z ds) h1++h1.drop os.length)
      else if clo 0 d then .ok d (uc h (a0z ds) h1) else .no) else .no
   |_=>.no)
  else .no
noncomputable def j6(m:Bool)(n:Nat)(F:SF):SF:=λds h=>if ds.length=n then asb m F ds h else .no
section
variable{K:Fg}{ι ι':List Addr}{H H' H2:Hp}{h h1:Hd}{n:Nat}
theorem ak5(κ:List Addr):Gw [] H κ H:=⟨⟨κ,rfl⟩,λ_ _ h=>h,λ_ _ _ h=>h⟩
theorem Rep.any(r:Rep K ι H v d)(c:MI.clo 0 d)(κ:List Addr):Rep K κ H v d:=by
 have:=r.cut c
 rw[hI]at this;exact this.monoW (ak5 κ)
theorem ORep.any(r:ORep K ι H a o)(c:a0g 0 o)(κ:List Addr):ORep K κ H a o:=by
 have:=r.cut c
 rw[hI]at this;exact this.monoW (ak5 κ) rfl
theorem a7h{α:Type}(l:List α):∀{is:List Nat},(∀i∈is,i<l.length)->∃ys,v4 (λi=>l[i]?) is=some ys
 |[],_=>⟨[],rfl⟩
 |i::is,hi=>by
  obtain⟨ys,e⟩:=a7h l (is:=is) λj hj=>hi j (ai _ hj);have:=hi i aP;exact⟨l[i]::ys,by unfold v4;rw[e,a6 this]⟩
theorem a2d:∀{ds:List D} {vs:List V} {pre κ:List Addr},Reps K ι H vs ds->(∀d∈ds,clo 0 d\/isRef d)->v4 (λi=>ι[i]?) (a0z ds)=some κ->Reps K (pre++κ) H vs (a0a pre.length ds)
 |[],_,_,_,.nil,_,_=>.nil
 |d::ds,_,pre,κ,.cons r rs,hc,e=>by
  have hc':∀d∈ds,clo 0 d\/isRef d:=λx hx=>hc x (ai _ hx)
  by_cases hd:isRef d
  ·obtain⟨i,rfl⟩:=hd;have e':v4 (λi=>ι[i]?) (i::a0z ds)=some κ:=e;unfold v4 at e'
   split at e'
   ·rename_i a κ' h1 h2
    cases e'
    cases r with
    |ref ha =>
     rw[ha]at h1;cases h1
     have:=a2d (pre:=pre++[a]) rs hc' h2
     simp only[d0,fh,ag,aM]at this;refine .cons (.ref ?_) this;rw[aw (ah _)];simp
   ·cases e'
  ·have c:=(hc d aP).resolve_right hd;have e1:a0z (d::ds)=a0z ds:=by
    unfold a0z
    cases d<;>first|rfl|exact absurd ⟨_,rfl⟩ hd
   have e2:a0a pre.length (d::ds)=d::a0a pre.length ds:=by
    cases d<;>first|rfl|exact absurd ⟨_,rfl⟩ hd
   rw[e1]at e;rw[e2];exact .cons (r.any c _) (a2d rs hc' e)
theorem yw:∀{is:List Nat} {os:List O} {h:Hd},(uc h is os).length=h.length
 |[],_,_=>by simp[uc]
 |_::_,[],_=>by simp[uc]
 |i::is,o::os,h=>by rw[uc,yw,fK]
theorem a2e:∀{is:List Nat} {os:List O} {h:Hd},i∉is->(uc h is os)[i]? = h[i]?
 |[],_,_,_=>by simp[uc]
 |_::_,[],_,_=>by simp[uc]
 |j::is,o::os,h,n=>by
  rw[uc,a2e λz=>n (ai _ z),bP λz=>n (by rw[z];exact aP)]
theorem a7i:∀{is:List Nat} {os:List O} {h:Hd} {j:Nat},is.Nodup->is[j]? = some i->os[j]? = some o->i<h.length->(uc h is os)[i]? = some o
 |[],_,_,_,_,e,_,_=>by simp at e
 |_::_,[],_,_,_,_,e,_=>by simp at e
 |k::is,o'::os,h,j,nd,e1,e2,hl=>by
  cases j with
  |zero =>
   simp at e1 e2
   subst e1 e2;rw[uc,a2e (bX.mp nd).1,bF hl]
  |succ j =>
   rw[uc];exact a7i (j:=j) (bX.mp nd).2 (by simpa using e1) (by simpa using e2) (by simpa using hl)
theorem a7j{α:Type}{l:List α}(nl:l.Nodup){is:List Nat}{ys:List α}(e:v4 (λi=>l[i]?) is=some ys)(ni:is.Nodup):ys.Nodup:=by
 obtain⟨le,g⟩:=a0i e;refine dD.mpr λi j hi hj lt z=>?_;obtain⟨x,h1,h2⟩:=g i _ (a6 hi);obtain⟨y,h3,h4⟩:=g j _ (a6 hj);rw[<-z]at h4;have:=a3o nl h2 h4;subst this;have:=a3o ni h1 h3;omega
theorem a9x{is:List Nat}{κ m:List Addr}{g:Hd}(hr:HRep K ι H h)(e1:v4 (λi=>ι[i]?) is=some κ)(nd:is.Nodup)(gr:Gr κ H (κ++m) H2)(hg:HRep K (κ++m) H2 g)(cg:∀o∈g,a0g 0 o)(hm:m.length<=1) :
  Gr ι H (ι++m) H2/\HRep K (ι++m) H2 (uc h is g++g.drop κ.length):=by
 obtain⟨l1,g1⟩:=a0i e1;have mn:∀a∈m,H a=none:=by
  obtain⟨m',e,hm'⟩:=gr.pre;rw[List.append_cancel_left e];exact hm'
 have sub:∀a∈κ,a∈ι:=λa ha=>by
  obtain⟨j,hj⟩:=cy ha;obtain⟨i,_,q⟩:=g1 j a hj;exact aN q
 have some_of:∀a∈ι,∃u,H a=some u:=λa ha=>by
  obtain⟨i,hi⟩:=cy ha;obtain⟨o,_,q⟩:=hr.at hi;obtain⟨u,q,_⟩:=q.some;exact⟨u,q⟩
 have G:Gr ι H (ι++m) H2:=⟨⟨m,rfl,mn⟩,gr.tup,gr.frz,λa u e n=>gr.oth a u e λz=>n (sub a z),gr.kp⟩;have lg:=hg.len;rw[ag]at lg;refine⟨G,?_,?_,λj a o q1 q2=>?_⟩
 ·refine bD.mpr ⟨hr.nd,(bD.mp hg.nd).2.1,λa ha b hb z=>?_⟩;obtain⟨u,q⟩:=some_of a ha;rw[z,mn b hb]at q;cases q
 ·rw[ag,ag,yw,eA,hr.len];omega
 ·by_cases hj:j<ι.length
  ·rw[ax hj]at q1;rw[ax (by rw[yw,<-hr.len];exact hj)]at q2
   by_cases hp:j∈is
   ·obtain⟨k,hk⟩:=cy hp;have hkl:k<κ.length:=by rw[<-l1];exact(a7.mp hk).1
    obtain⟨i,h3,h4⟩:=g1 k _ (a6 hkl);rw[hk]at h3;cases h3
    rw[q1]at h4;have hkg:k<g.length:=by omega
    have e5:=a7i (h:=h) nd hk (a6 hkg) (by rw[<-hr.len];exact hj)
    rw[e5]at q2;cases q2
    have ea:(κ++m)[k]? = some a:=by rw[ax hkl,a6 hkl];exact h4.symm
    exact(hg.obj k a _ ea (a6 hkg)).any (cg _ (br hkg)) _
   ·rw[a2e hp]at q2;have r:=hr.obj j a o q1 q2;obtain⟨u,hu,_⟩:=r.some;have na:a∉κ:=λz=>by
     obtain⟨k,hk⟩:=cy z;obtain⟨i,h3,h4⟩:=g1 k a hk;have:=a3o hr.nd q1 h4;subst this;exact hp (aN h3)
    exact r.mono G (by rw[hu];exact gr.oth a u hu na)
  ·have q1':=q1;rw[aw (by omega)]at q1
   rw[aw (by rw[yw,<-hr.len];omega),yw,<-hr.len,List.getElem?_drop]at q2
   have ea:(κ++m)[κ.length+(j-ι.length)]? = some a:=by rw[aw (by omega)];simpa using q1
   exact(hg.obj _ a o ea q2).any (cg o (aN q2)) _
theorem ae4{m:Bool}{F:SF}{vs:List V}{ds:List D}{Q:VK}(r:Reps K ι H vs ds)(hr:HRep K ι H h)(o:out K X0 (xn K) ι H (j6 m n F ds h) Q)(E:XK) :
  a9s K n F vs H (λv H1=>∃L,ab7 H1 L/\∀H2,FrzOf L H1 H2->Q v H2) E:=by
 unfold j6 at o
 split at o
 ·rename_i hl;refine⟨by rw[r.len];exact hl,?_⟩
  unfold asb at o
  split at o
  ·exact o.elim
  ·rename_i os hos
   split at o
   ·rename_i hc;obtain⟨nd,hd,hcl⟩:=hc;obtain⟨l0,g0⟩:=a0i hos;obtain⟨κ,e1⟩:=a7h ι (is:=a0z ds) λi hi=>by
     obtain⟨j,hj⟩:=cy hi;have hjl:j<os.length:=by rw[<-l0];exact(a7.mp hj).1
     obtain⟨x,h3,h4⟩:=g0 j _ (a6 hjl);rw[hj]at h3;cases h3
     rw[hr.len];exact(a7.mp h4).1
    obtain⟨l1,g1⟩:=a0i e1;have lk:κ.length=os.length:=by omega
    have R0:Reps K κ H vs (a0a 0 ds):=by simpa using a2d (pre:=[]) r hd e1
    have H0:HRep K κ H os:=by
     refine⟨a7j hr.nd e1 nd,lk,λj a ob q1 q2=>?_⟩;obtain⟨i,h3,h4⟩:=g1 j a q1;obtain⟨i',h5,h6⟩:=g0 j ob q2;rw[h3]at h5;cases h5
     exact(hr.obj i a ob h4 h6).any (hcl ob (aN q2)) _
    refine⟨κ,a0a 0 ds,os,R0,H0,?_⟩
    cases hF:F (a0a 0 ds) os with
    |no=>rw[hF]at o;cases m<;>exact o.elim
    |ex c hx=>rw[hF]at o;cases m<;>exact o.elim
    |ok d h1 =>
     rw[hF]at o
     intro ι' H' v g rb hr1
     rw[<-lk]at o
     cases m with
     |false =>
      simp only[bA,cM]at o
      cases hz:ab8 κ.length (.ok d h1) with
      |ok d' g' =>
       rw[hz]at o;simp only at o;obtain⟨L,ab,k⟩:=ae3 g rb hr1 hz;refine⟨L,ab,λH2 f=>?_⟩;obtain⟨k1,k2,k3⟩:=k H2 f
       split at o
       ·rename_i cg
        split at o
        ·rename_i cd;have q:=a9x (m:=[]) hr e1 nd (by simpa using k1) (by simpa using k3) cg (by simp)
         have lg:=k3.len;have dr:g'.drop κ.length=[]:=cN (by omega)
         rw[dr,cc,cc]at q;exact o ι H2 v q.1 (k2.any cd _) q.2
        ·exact o.elim
       ·exact o.elim
      |ex c hx=>rw[hz]at o;exact o.elim
      |no=>rw[hz]at o;exact o.elim
     |true =>
      simp only[cQ]at o
      cases hz:ap0 κ.length (.ok d h1) with
      |ok d' g' =>
       rw[hz]at o;simp only at o;obtain⟨b,hb,k1,k2,k3⟩:=ahk g rb hr1 hz;refine⟨[],λa ha=>(by simp at ha),λH2 f=>?_⟩
       have e2:H2=H':=by funext a;exact(f a).1 (by simp)
       subst e2
       split at o
       ·rename_i cg;have q:=a9x (m:=[b]) hr e1 nd k1 k3 cg (by simp)
        refine o (ι++[b]) H2 v q.1 ?_ q.2;have hd':d'=.ref κ.length:=by
         unfold ap0 at hz
         split at hz
         ·rename_i i h2 hh
          injection hh with z1 z2
          split at hz
          ·split at hz
           ·injection hz with z3 z4;exact z3.symm
           ·cases hz
          ·cases hz
         ·cases hz
        subst hd'
        cases k2 with
        |ref hk =>
         rw[aw (ah _)]at hk;simp at hk;subst hk;exact .ref (by rw[<-hr.len];simp)
       ·exact o.elim
      |ex c hx=>rw[hz]at o;exact o.elim
      |no=>rw[hz]at o;exact o.elim
   ·exact o.elim
 ·exact o.elim
end
theorem a9y(m:Bool){X:Cx}(G:Dn X.prog X.w X.K X.mg X.base k x ps (a9s X.K n F) f fd)(hr:Room k X.A)(hg:Gl X x)(ha:MA X X0 (e::es) ka)
  (hdb:(x == ("__debug__" : Str))=false:=by decide) (he:starEach (e::es) X.env=(false,eval e X.env)::starEach es X.env:=by rfl) (hpl:(backTo pos (starEach es X.env)).any (·.1)=false:=by rfl):ME X X0 (.Call (.Name x p) (e::es) [] pos) (sA (j6 m n F) ka):=by
 refine PE.weak (ae1 (alj G.ok hr hg G.m G.kp G.b .nil aqa ha hdb he hpl)) ?_
 rintro σ H Q ⟨ι,τ,h,S,Rh,o⟩
 refine⟨ι,τ,h,S,Rh,bh o λds h1 ι1 H1 vs g1 r1 hr1 o1=>?_⟩;rw[cc];exact ae4 r1 hr1 o1 _
theorem ae5(m:Bool){X:Cx}(G:Dn X.prog X.w X.K X.mg X.base k x ps (a9s X.K n F) f fd)(hr:Room k X.A)(hg:Gl X x)(hdb:(x == ("__debug__" : Str))=false:=by decide) :
  ME X X0 (.Call (.Name x p) [] [] pos) (sA (j6 m n F) bj):=by
 refine PE.weak (ae1 (agt G.ok hr hg G.m G.kp G.b .nil aqa hdb)) ?_
 rintro σ H Q ⟨ι,τ,h,S,Rh,o⟩
 exact ae4 (vs:=[]) .nil Rh o E0
def ahl:SS:=λ_ _=>.no
section
variable{X:Cx}{E:XD}
theorem awr:MS X E st ahl:=λ_ _ _ _ _ _ ⟨_,_,_,_,_,o⟩=>o.elim
theorem asd:MSs X E st ahl:=λ_ _ _ _ _ _ ⟨_,_,_,_,_,o⟩=>o.elim
end
theorem ak6(h:PS X st t):PS X st (λD σ H=>t {D with nx:=λσ' H1=>∃L,ab7 H1 L/\∀H2,FrzOf L H1 H2->D.nx σ' H2} σ H):=λaA s σ H D I q =>
 thn (h aA s σ H _ I q) λf s' k=>by
  cases f with
  |next =>
   obtain⟨σ',H1,I1,L,ab,k⟩:=k;obtain⟨H2,f,I2⟩:=Inv.frz I1 ab;exact⟨σ',H2,I2,k H2 f⟩
  |brk=>exact k
  |cont=>exact k
  |ret u=>exact k
theorem ae6(q:a5o K E (j4 i f) N σ H):lift K E (xn K) f σ H (λv H1=>N.nx (σ.set i (some v)) H1):=by
 obtain⟨ι,τ,h,S,Rh,o⟩:=q;exact⟨ι,τ,h,S,Rh,oh o λd h1 ι1 H1 v g1 r1 hr1 o1=>o1 ι1 H1 _ (.refl _ _) ((S.mono g1).set r1 i) hr1⟩
theorem ae7(ht:adn K n g t)(q:lift K E (xn K) (jo fi t fe ix) σ H Q):ad5 (lift K E (awo K) fi) (xr n ix) g (lift K E (xn K) fe) σ H Q:=by
 obtain⟨ι,τ,h,Sr,Rh,o⟩:=q;refine⟨ι,τ,h,Sr,Rh,bh o λit h1 ι1 H1 J g1 r1 hr1 o1=>?_⟩
 by_cases hl:it.xs.length<=LINE
 ·rw[aQ hl]at o1;exact a9r r1 ht (a5v (Sr.mono g1) ix) hr1 hl o1
 ·rw[bg hl]at o1;exact o1.elim
theorem ahm(ht:adn K n g t)(q:lift K E (xn K) (a4r fi t fc fe ix) σ H Q):a3f (lift K E (awo K) fi) (xr n ix) g (lift K E am8 fc) (lift K E (xn K) fe) σ H Q:=by
 obtain⟨ι,τ,h,Sr,Rh,o⟩:=q;refine⟨ι,τ,h,Sr,Rh,bh o λit h1 ι1 H1 J g1 r1 hr1 o1=>?_⟩
 by_cases hl:it.xs.length<=LINE
 ·rw[aQ hl]at o1;exact adp r1 ht (a5v (Sr.mono g1) ix) hr1 hl o1
 ·rw[bg hl]at o1;exact o1.elim
section
variable{X:Cx}{E:XD}{aD tg aF cnd:Expr}{aB:Scope}{pos spos pos':Pos}{cl:List (Str×Addr)}{ts fr:List Str}{ix:List Nat}{fi:SI}{g:TG}{t:D->Option Sd}{fe:SE}{fc:ST}{i:Nat}{x:Str}
theorem ae8(hN:X.N.Nodup)(hi':X.N[i]? = some x)(hx:Loc X.env.scope x)(hc:X.calm=true)(S:CSc X aB cl ts fr ix)(hi:MI X E tg aF fi)(hg:∀C fp s H,PG (cxC X (ts++fr) aB cl C fp s H) tg g)(ht:adn X.K ts.length g t)(he:∀C fp s H,ME (cxC X (ts++fr) aB cl C fp s H) E aD fe)
  (hs:∀x,foldedSetIterable aF X.env x=pure x:=by intro _;rfl) (hsw:swapsWith (.ListComp aD [⟨tg,aF,[],0⟩] aB pos) (some (.Name x pos')) spos.line X.env=pure true:=by rfl) (hf:Hf X x:=by with_unfolding_all first|exact .inl rfl|exact .inr rfl|assumption) :
  MS X E (.Assign [.Name x pos'] (.ListComp aD [⟨tg,aF,[],0⟩] aB pos) spos) (j4 i (jo fi t fe ix)) :=
 PS.weak (a9l (te:=lift X.K E (xn X.K) fe) hN hi' hx hc S hi hg he hs hsw hf) λN σ H q=>ae7 ht (ae6 q)
theorem a9z(hN:X.N.Nodup)(hi':X.N[i]? = some x)(hx:Loc X.env.scope x)(hc:X.calm=true)(S:CSc X aB cl ts fr ix)(hi:MI X E tg aF fi)(hg:∀C fp s H,PG (cxC X (ts++fr) aB cl C fp s H) tg g)(ht:adn X.K ts.length g t)(he:∀C fp s H,ME (cxC X (ts++fr) aB cl C fp s H) E aD fe)
  (hs:∀x,foldedSetIterable aF X.env x=pure x:=by intro _;rfl) (hsw:swapsWith (.ListComp aD [⟨tg,aF,[],0⟩] aB pos) (some (.Name x pos')) spos.line X.env=pure true:=by rfl) (hf:Hf X x:=by with_unfolding_all first|exact .inl rfl|exact .inr rfl|assumption) :
  MS X E (.Assign [.Name x pos'] (.ListComp aD [⟨tg,aF,[],0⟩] aB pos) spos) (j4 i (sZ (jo fi t fe ix))) :=
 PS.weak (ak6 (a9l (te:=lift X.K E (xn X.K) fe) hN hi' hx hc S hi hg he hs hsw hf)) λN σ H q=>ae7 ht (awq (ae6 q))
theorem ahn(hN:X.N.Nodup)(hi':X.N[i]? = some x)(hx:Loc X.env.scope x)(hc:X.calm=true)(S:CSc X aB cl ts fr ix)(hi:MI X E tg aF fi)(hg:∀C fp s H,PG (cxC X (ts++fr) aB cl C fp s H) tg g)(ht:adn X.K ts.length g t)(he:∀C fp s H,ME (cxC X (ts++fr) aB cl C fp s H) E aD fe)
  (hq:∀C fp s H,MT (cxC X (ts++fr) aB cl C fp s H) E cnd fc)
  (hs:∀x,foldedSetIterable aF X.env x=pure x:=by intro _;rfl) (hsw:swapsWith (.ListComp aD [⟨tg,aF,[cnd],0⟩] aB pos) (some (.Name x pos')) spos.line X.env=pure true:=by rfl) (hf:Hf X x:=by with_unfolding_all first|exact .inl rfl|exact .inr rfl|assumption) :
  MS X E (.Assign [.Name x pos'] (.ListComp aD [⟨tg,aF,[cnd],0⟩] aB pos) spos) (j4 i (sZ (a4r fi t fc fe ix))) :=
 PS.weak (ak6 (ab0 (te:=lift X.K E (xn X.K) fe) (tc:=lift X.K E am8 fc) hN hi' hx hc S hi hg he hq hs hsw hf)) λN σ H q=>ahm ht (awq (ae6 q))
end
theorem ase(Fu:Fun K x qual st f fd)(S:FnScope N ps (dj st))
  (hb:∀(cdv:Value) (A:Around) (outer:List Env) (s:Shared) (H:Hp) (E:XK),Room k (A.deeper (PyProof.Rows.envOfC qual (dj st) s.heap.objs.size f cdv))->MSs (ag8 CX0 P w K mg base N qual (dj st) f cdv A outer s H E).nox X0 (v5 st) b) :
  FnOk P w K mg base CX0 (k+1) f fd ps (a9s K ps.length (qt b N.length)):=arn Fu S hb λds h _ _ _=>Rf.same rfl
end MI
namespace MI
open L2 HT
theorem ab9{s:Shared}(ht:PyProof.Rows.IsTup s.heap t aC)(hs:s.heap.IsSliceOf sl vl vu .none)(pl:IsPart vl lo)(pu:IsPart vu hi)
  (hw:HT.sIx aC.size 0 lo=0/\HT.sIx aC.size aC.size hi=aC.size) (h:Q (.ref t) s):wpAny (model prog w) A (getItem (.ref t) (.ref sl)) Q E s:=by
 obtain⟨os,f1,f2,f3⟩:=id hs;have ty:s.TypeIs (.ref sl) "slice":=⟨os,f1,f2⟩;have tt:s.TypeIs (.ref t) "tuple":=ht.typeIs;rw[getItem]
 try apply cH
 first|(apply a8;apply av)|skip
 apply a8;apply wpAny_sequenceKey tt (by decide)
 apply a8
 apply cY (name:=Str.ofString "__getitem__") tt bR
 apply cV bR tt PyProof.Rows.entry_tuple_getitem _ (PyProof.Rows.args_tuple_getitem _ _)
 change wpAny (model prog w) A.in1 (Builtin.Tuple.tupleItemsOf (.ref t)>>=_) _ _ s
 apply a8;apply PyProof.Rows.tupleItemsOf_ ht
 apply a8;apply fT ty
 rw[aQ (by decide)]
 apply a8;apply HT.a00 hs pl pu
 rw[hw.1,hw.2];dsimp only;rw[aQ (by simp)]
 apply a8
 rw[Builtin.Tuple.tupleIsExact]
 apply a8;apply fT tt
 apply av
 rw[aQ (by decide)]
 apply a8;apply gE
 apply av
 exact⟨_,rfl,av h⟩
def ayc(K:Fg):V->Option Int->Option Int->Hp->VK->Prop:=λx lo hi H Q=>∃a xs,x=.ref a/\SqT K H a xs/\whole xs.length lo hi/\Q (.ref a) H
theorem aho:SlR X (ayc X.K):=by
 intro aA s σ H x v vl vu lo hi sl Q I rx hs pl pu h
 obtain⟨a,xs,rfl,hx,hw,q⟩:=h;cases rx
 obtain⟨its,r,ht,hz⟩:=I.tuple hx;have aH:its.toArray.size=xs.length:=by rw[aJ];exact r.length.symm
 exact⟨"tuple",_,bR.lookup,ht.typeIs,ab9 ht hs pl pu (by rw[aH];exact hw) ⟨.ref a,H,I,rfl,q⟩⟩
def ak7(d:D)(lo hi:Option Int)(h:Hd):R D:=match d with
 |.tup xs=>if whole xs.length lo hi then .ok (.tup xs) h else .ok (.tup (a5l xs lo hi)) h
 |d=>gSl d lo hi h
def agd(f:SE)(l u:SO):SE:=λτ h=>(f τ h).bind λd h1=>(l τ h1).bind λlo h2=>(u τ h2).bind λhi h3=>ak7 d lo hi h3
theorem an6(rx:Rep K ι H x d)(hr:HRep K ι H h)(o:out K E (xn K) ι H (ak7 d lo hi h) Q):(awg x lo hi H Q\/aw8 K x lo hi H Q\/awa K x lo hi H Q)\/ayc K x lo hi H Q:=by
 cases rx with
 |@tup p vs xs hp r =>
  by_cases hc:whole xs.length lo hi
  ·simp only[ak7,aQ hc]at o;exact .inr ⟨p,vs,rfl,SqT.of hp,by rw[r.len];exact hc,ans o (.tup hp r) hr⟩
  ·simp only[ak7,bg hc]at o;exact .inl (.inr (.inl ⟨p,vs,rfl,SqT.of hp,by rw[r.len];exact hc,a0y (a1m r lo hi) hr o⟩))
 |non=>exact o.elim
 |bl _=>exact o.elim
 |int _=>exact o.elim
 |ty _=>exact o.elim
 |str z=>exact .inl (a9u (.str z) hr o)
 |rol a b=>exact .inl (a9u (.rol a b) hr o)
 |scr a b=>exact .inl (a9u (.scr a b) hr o)
 |rod a b c=>exact o.elim
 |rdT a b c=>exact o.elim
 |exc a b c=>exact o.elim
 |ins _ _ _ _=>exact o.elim
 |ref a=>exact .inl (a9u (.ref a) hr o)
theorem ae9(he:ME X E e fa)(hl:MO X E lo l)(hu:MO X E hi u):ME X E (.Subscript e (.Slice lo hi none p2) pos) (agd fa l u):=by
 refine PE.weak (agw ((aqm.or (aq3.or alr)).or aho) he hl hu) ?_
 rintro σ H Q ⟨ι,τ,h,S,Rh,o⟩
 refine⟨ι,τ,h,S,Rh,bh o λd h1 ι1 H1 v g1 r1 hr1 o1=>?_⟩;refine⟨ι1,τ,h1,S.mono g1,hr1,bh o1 λlo h2 ι2 H2 lv g2 r2 hr2 o2=>?_⟩;refine⟨ι2,τ,h2,(S.mono g1).mono g2,hr2,bh o2 λhi h3 ι3 H3 hv g3 r3 hr3 o3=>?_⟩
 cases r2;cases r3
 exact an6 ((r1.mono g2).mono g3) hr3 o3
end MI
namespace L2
open PyProof.Rows
theorem ahp:ay2 X (av4 X.K):=by
 intro aA s σ H o i ov iv Q I ro ri h
 obtain⟨p,xs,k,z,rfl,rfl,hq,he,q⟩:=h;cases ro
 obtain⟨t,rfl⟩:=ri;obtain⟨its,r,pl,hz⟩:=I.list hq;obtain⟨j,h1,h2,h3,h4,h5⟩:=a5d he;obtain⟨w,ew,rw'⟩:=r.get h2;have len:=r.length;have l63:=a0s;have done:EP X aA σ Q w s:=⟨z,H,I,rw',q⟩
 by_cases neg:k<0
 ·have ej:(k+(its.toArray.size:Int)).toNat=j:=by
   rw[gS neg h4]at h1;rw[aJ,<-len];exact bp h1
  exact wpAny_getItem_list_neg pl.isList neg (by rw[aJ];omega) (by omega) (by rw[ej];simpa using ew) done
 ·have ej:k.toNat=j:=by
   rw[hR (by omega) h5]at h1
   exact bp h1
  exact wpAny_getItem_list pl.isList (by omega) (by omega) (by rw[ej];simpa using ew) done
end L2
namespace MI
open L2
def an7(x y:D)(h:Hd):R D:=match x,y with
 |.ref p,.int i=>(match h[p]? with|some (.lst xs)=>(match atI xs i with|some d=>.ok d h|none=>.no)|_=>.no)
 |_,_=>.no
theorem an8:a0m K an7 (av4 K):=by
 intro E ι H h x y dx dy Q rx ry hr o
 cases rx with
 |@ref p i hp =>
  cases ry with
  |int k =>
   simp only[an7]at o
   split at o
   ·rename_i xs hx;obtain⟨vs,h3,h4⟩:=hr.lst hp hx
    split at o
    ·rename_i d he;obtain⟨v,h1,h2⟩:=a9t h4 he;exact⟨p,vs,k,v,rfl,rfl,SqL.of h3,h1,ans o h2 hr⟩
    ·exact o.elim
   ·exact o.elim
  |_=>exact o.elim
 |_=>exact o.elim
def a8u(g:D->D->Hd->R D)(fo fi fe:SE):SS:=λτ h=>(fo τ h).fl λo h1=>(fi τ h1).fl λi h2=>(an7 o i h2).fl λx h3=>(fe τ h3).fl λy h4=>(g x y h4).fl λz h5=>match put o i z h5 with|some h6=>.nx τ h6|none=>.no
section
variable{X:Cx}{E:XD}{e o i:Expr}{fa fb fc:SE}{pos:Pos}
theorem an9(ho:ME X E o fa)(hi:ME X E i fb)(he:ME X E e fc)(hp:OpR X (inplaceOp op) r)(hs:a0m X.K gg r)
  (ha:∀ov iv new,augStore i ov iv new=(do holding [new,ov,iv] (setItem ov iv new);release [new,ov,iv] [];pure .next):=by intros;rfl):MS X E (.AugAssign (.Subscript o i tpos) op e pos) (a8u gg fa fb fc):=by
 refine PS.weak (ald ho hi ahp he hp set_list ha) ?_
 rintro N σ H ⟨ι,τ,h,S,Rh,oo⟩
 refine⟨ι,τ,h,S,Rh,oh oo λd h1 ι1 H1 v g1 r1 hr1 o1=>?_⟩;refine⟨ι1,τ,h1,S.mono g1,hr1,oh o1 λd2 h2 ι2 H2 u g2 r2 hr2 o2=>?_⟩;refine an8 E ι2 H2 h2 v u d d2 _ (r1.mono g2) r2 hr2 (oh o2 λd3 h3 ι3 H3 w g3 r3 hr3 o3=>?_);have S3:=((S.mono g1).mono g2).mono g3;refine⟨ι3,τ,h3,S3,hr3,oh o3 λd4 h4 ι4 H4 y g4 r4 hr4 o4=>?_⟩;refine hs E ι4 H4 h4 w y d3 d4 _ (r3.mono g4) r4 hr4 (oh o4 λd5 h5 ι5 H5 z g5 r5 hr5 o5=>?_)
 cases hq:put d d2 d5 h5 with
 |none=>rw[hq]at o5;exact o5.elim
 |some h6 =>
  rw[hq]at o5;exact adk ((((r1.mono g2).mono g3).mono g4).mono g5) (((r2.mono g3).mono g4).mono g5) r5 hr5 hq λH' g6 hr6=>o5 ι5 H' σ g6 (((S3.mono g4).mono g5).mono g6) hr6
end
end MI
namespace TPM
open PySem.W L2 HT MI
theorem aba(t b:Addr)(items2:Array Value)(n n2:Nat)(dd dd2:Option Addr)(sl sl2:Array (Option Value)) :
  Meets (Builtin.«tuple.__add__» ⟨[.ref t,.ref b],[]⟩) (λ_ R s=>s.heap.get? t=some {cls:=.type "tuple",dict:=dd,data:=.seq #[] n,slots:=sl}/\s.heap.get? b=some {cls:=.type "tuple",dict:=dd2,data:=.seq items2 n2,slots:=sl2}/\R (.ok (.ret (.ref b))) s):=by
 refine .of_wp λprog w A R s h=>?_;obtain⟨hp,g,d,tk,os⟩:=s;obtain⟨hl,hb,h⟩:=h
 wp_walk
 refine wpAny_of_eq sub_tuple_self ?_
 wp_walk
 exact⟨_,rfl,h⟩
def asf(K:Fg):R2:=λx y H Q=>∃a b ys,x=.ref a/\y=.ref b/\SqT K H a []/\SqT K H b ys/\Q (.ref b) H
theorem ana:OpR X (binaryOp .Add) (asf X.K):=by
 intro aA s σ H x y v u Q I rx ry h
 obtain⟨a,b,ys,rfl,rfl,ha,hb,q⟩:=h;cases rx
 cases ry
 obtain⟨its,r1,p1,_⟩:=I.tuple ha;obtain⟨its2,r2,p2,_⟩:=I.tuple hb;cases r1
 obtain⟨⟨cls,dd,data,sl⟩,ho,hc,n,hd⟩:=id p1;obtain⟨⟨cls2,dd2,data2,sl2⟩,ho2,hc2,n2,hd2⟩:=id p2;simp only at hc hd hc2 hd2;subst hc hd hc2 hd2;exact concat_meets ⟨_,ho,rfl⟩ ⟨_,ho2,rfl⟩ gN seq_tuple_add F.slot_tuple_add F.entry_tuple_add (F.args_tuple_add_2 _ _) (aba a b its2.toArray n n2 dd dd2 sl sl2) ⟨ho,ho2,⟨.ref b,H,I,rfl,q⟩⟩
end TPM
namespace L2
open PyProof.Rows
section
variable{X:Cx}
theorem Inv.lstR(I:Inv X aA σ H s)(hH:Rd H l (.lst xs)):xs.length<=sizeLine/\∃(its:List Value) (n:Nat),Vals xs its/\xs.length=its.length/\s.heap.get? l=some {cls:=.type "list",data:=.seq its.toArray n}:=by
 obtain⟨z,its,n,r,e⟩:=hH.ok I.hok;exact⟨z,its,n,r,r.length,e⟩
def ash:R2:=λx y H Q=>∃l b xs zs,x=.ref l/\y=.ref b/\Rd H l (.lst xs)/\Rd H b (.lst zs)/\xs.length+zs.length<=sizeLine/\∀p,H p=none->Q (.ref p) (upd H p (.lst (xs++zs)))
theorem anb:OpR X (binaryOp .Add) ash:=λaA s σ H x y v u Q I rx ry ⟨l,b,xs,zs,ex,ey,h1,h2,hz,q⟩=>by
 subst ex ey;cases rx
 cases ry
 obtain⟨_,as,_,va,la,ea⟩:=I.lstR h1;obtain⟨_,bs,_,vb,lb,eb⟩:=I.lstR h2;have app:as.toArray++bs.toArray=(as++bs).toArray:=by simp
 refine PySem.P.add_list ea eb ?_ (by simp;omega)
 rw[app];exact⟨.ref _,_,I.lnew (t':=s.toks) (va.append vb) (by simpa using hz),rfl,q _ I.fresh⟩
def asi:V->List V->Hp->VK->Prop:=λx vs H Q=>∃l b xs zs,x=.ref l/\vs=[.ref b]/\H l=some (.lst xs)/\Rd H b (.lst zs)/\xs.length+zs.length<=sizeLine/\Q .non (upd H l (.lst (xs++zs)))
theorem abb:MtM X "list.extend" asi:=λaA s σ H x vs v us Q I rx rv ⟨l,b,xs,zs,ex,ev,h1,h2,hz,q⟩=>by
 subst ex ev;cases rx
 obtain⟨u,rfl,ru⟩:=rv.one;cases ru
 obtain⟨_,as,n,va,la,ea⟩:=I.lstM h1;obtain⟨_,bs,m,vb,lb,eb⟩:=I.lstR h2;have few:as.toArray.size+bs.toArray.size<=sizeLine:=by simp;omega
 have long:¬ (!as.toArray.isEmpty && Builtin.List.listTooLong (as.toArray.size+bs.toArray.size))=true:=by rw[a5i few,hE];exact bo
 exact eV F.slot_list_extend ⟨_,ea,rfl⟩ F.entry_list_extend (F.args_list_extend_2 _ _) (AutoSeq1.list_extend_list_list_0 l as.toArray n b bs.toArray m long (by simp;omega) (by omega))
  ⟨ea,eb,.non,_,I.lset (its':=as++bs) h1 ea (by simp) (va.append vb) (by simpa using hz),rfl,q⟩
def asj:R2:=λx y H Q=>∃l k xs,x=.ref l/\y=.int k/\Rd H l (.lst xs) /\ -(2^63)<=k/\k<2^63/\xs.length*k.toNat<=sizeLine/\∀p,H p=none->Q (.ref p) (upd H p (.lst (List.replicate k.toNat xs).flatten))
theorem anc(its:List Value)(k:Nat):List.foldl (λx1 x2=>x1++x2) #[] (List.replicate (if its.toArray.isEmpty=true then 0 else k) its.toArray)=(List.replicate k its).flatten.toArray:=by
 have g:∀m:Nat,List.foldl (λx1 x2=>x1++x2) #[] (List.replicate m its.toArray)=(List.replicate m its).flatten.toArray:=λm=>by simpa using foldl_rep its m []
 cases its with
 |nil=>simp
 |cons a r=>rw[bg (by simp),g]
theorem ane:OpR X (binaryOp .Mult) asj:=λaA s σ H x y v u Q I rx ry ⟨l,k,xs,ex,ey,h1,k1,k2,hz,q⟩=>by
 subst ex ey;cases rx
 obtain⟨t,rfl⟩:=ry;obtain⟨_,as,n,va,la,ea⟩:=I.lstR h1;have few:as.toArray.size*k.toNat<=sizeLine:=by rw[aJ,<-la];exact hz
 have top:(sizeLine:Nat)<=(2^63-1) / 8:=by decide
 refine wpAny_binaryOp_repeat_ref (T := "list") (U := "int") (by decide) ⟨_,ea,rfl⟩ (λs'=>typeIs_int s' k t) noFill_list_mul F.fills_int_mul F.slot_int_rmul repeat_list F.slot_int_index.lookup
  (eV F.slot_int_rmul (typeIs_int s k t) F.entry_int_rmul (F.args_int_rmul_2 _ _) (int___rmul___int_list k t l as.toArray n)
   ⟨ea,rfl,⟨_,ea,rfl⟩,eV F.slot_list_mul ⟨_,ea,rfl⟩ F.entry_list_mul (F.args_list_mul_2 _ _)
    (AutoListH.list___mul___list_int_3 l as.toArray n k t (by rw[fitsIndex_both k1 k2];exact bo) (by omega) (by rw[a5i few];exact bo)) ⟨ea,?_⟩⟩)
 rw[anc];exact⟨.ref _,_,I.lnew (t':=s.toks) (va.rep k.toNat) (by rw[len_rep,Nat.mul_comm];exact hz),rfl,q _ I.fresh⟩
end
end L2
namespace MI
open L2 TPM
def yh(d:D)(h:Hd):Option (List D):=match d with
 |.rol xs=>some xs
 |.ref i=>(match h[i]? with|some (.lst xs)=>some xs|_=>none)
 |_=>none
section
variable{K:Fg}{ι:List Addr}{H:Hp}{h:Hd}
theorem a0j(r:Rep K ι H x d)(hr:HRep K ι H h)(e:yh d h=some xs):∃a vs,x=.ref a/\Rd H a (.lst vs)/\Reps K ι H vs xs:=by
 cases r with
 |@rol a vs ys hp rs=>cases e;exact⟨a,vs,rfl,.inr hp,rs⟩
 |@ref a i hp =>
  obtain⟨ob,e1,e2⟩:=hr.at hp;simp only[yh,e1]at e
  cases ob with
  |lst ys=>cases e;obtain⟨vs,h3,h4⟩:=e2;exact⟨a,vs,rfl,.inl h3,h4⟩
  |_=>cases e
 |_=>cases e
def lq:D->D->Hd->R D
 |.int i,.int j,h=>.ok (.int (i+j)) h
 |.str x,.str y,h=>if x.length+y.length<=LINE then .ok (.str (x++y)) h else .no
 |.tup [],.tup ys,h=>.ok (.tup ys) h
 |.tup (x::xs),.tup ys,h=>if (x::xs).length+ys.length<=LINE then .ok (.tup (x::xs++ys)) h else .no
 |x,y,h=>match yh x h,yh y h with
  |some xs,some ys=>if xs.length+ys.length<=LINE then .ok (.ref h.length) (h++[.lst (xs++ys)]) else .no
  |_,_=>.no
theorem aea(e1:yh x h=some xs)(e2:yh y h=some ys):lq x y h=if xs.length+ys.length<=LINE then .ok (.ref h.length) (h++[.lst (xs++ys)]) else .no:=by
 cases x<;>first|(cases e1;done)|(cases y<;>first|(cases e2;done)|(simp only[lq,e1,e2]))
theorem anf(x y:D)(h:Hd):(∃i j,x=.int i/\y=.int j)\/(∃i j,x=.str i/\y=.str j)\/(∃xs ys,x=.tup xs/\y=.tup ys)\/(∃xs ys,yh x h=some xs/\yh y h=some ys)\/lq x y h=.no:=by
 cases e1:yh x h with
 |some xs =>
  cases e2:yh y h with
  |some ys=>exact .inr (.inr (.inr (.inl ⟨xs,ys,rfl,rfl⟩)))
  |none =>
   refine .inr (.inr (.inr (.inr ?_)))
   cases x<;>first|(cases e1;done)|(simp only[lq,e1,e2])
 |none =>
  cases x with
  |int i=>cases y<;>first|exact .inl ⟨_,_,rfl,rfl⟩|exact .inr (.inr (.inr (.inr rfl)))
  |str i=>cases y<;>first|exact .inr (.inl ⟨_,_,rfl,rfl⟩)|exact .inr (.inr (.inr (.inr rfl)))
  |tup i=>cases y<;>first|exact .inr (.inr (.inl ⟨_,_,rfl,rfl⟩))|(cases i<;>exact .inr (.inr (.inr (.inr rfl))))
  |_=>refine .inr (.inr (.inr (.inr ?_)));simp only[lq,e1]
theorem ahq:a0m K lq (λx y H Q=>(rI0 (λi j=>.int (i+j)) x y H Q\/(∃i j,x=.str i/\y=.str j/\i.length+j.length<=sizeLine/\Q (.str (i++j)) H)\/aq4 K x y H Q\/ash x y H Q)\/asf K x y H Q):=by
 intro E ι H h x y dx dy Q rx ry hr o
 rcases anf dx dy h with⟨i,j,rfl,rfl⟩|⟨i,j,rfl,rfl⟩|⟨xs,ys,rfl,rfl⟩|⟨xs,ys,e1,e2⟩|e
 ·cases rx;cases ry
  exact .inl (.inl ⟨i,j,rfl,rfl,ans o (.int _) hr⟩)
 ·cases rx;cases ry
  simp only[lq]at o
  split at o
  ·rename_i hc;exact .inl (.inr (.inl ⟨i,j,rfl,rfl,ll hc,ans o (.str _) hr⟩))
  ·exact o.elim
 ·cases rx with
  |@tup a vs _ ha r1 =>
  cases ry with
  |@tup b us _ hb r2 =>
  cases xs with
  |nil=>cases r1;exact .inr ⟨a,b,us,rfl,rfl,SqT.of ha,SqT.of hb,ans o (.tup hb r2) hr⟩
  |cons z xs =>
   simp only[lq]at o
   split at o
   ·rename_i hc;refine .inl (.inr (.inr (.inl ⟨a,b,vs,us,rfl,rfl,SqT.of ha,SqT.of hb,λz=>(by subst z;cases r1),ll (by rw[r1.len,r2.len];exact hc),λz=>?_,λ_=>?_⟩)))
    ·subst z;cases r2
     rw[cc]at o;exact ans o (.tup ha r1) hr
    ·exact a0y (r1.app r2) hr o
   ·exact o.elim
 ·rw[aea e1 e2]at o;obtain⟨a,vs,rfl,h1,h2⟩:=a0j rx hr e1;obtain⟨b,us,rfl,h3,h4⟩:=a0j ry hr e2
  split at o
  ·rename_i hc;exact .inl (.inr (.inr (.inr ⟨a,b,vs,us,rfl,rfl,h1,h3,ll (by rw[h2.len,h4.len];exact hc),uf (h2.app h4) hr o⟩)))
  ·exact o.elim
 ·rw[e]at o;exact o.elim
theorem ang(ha:ME X E a fa)(hb:ME X E b fb):ME X E (.BinOp a .Add b pos) (s2 lq fa fb) :=
 ab4 (OpR.or (aps.or (aar.or (alp.or anb))) ana) ahq ha hb
open Classical in
noncomputable def a0o(x y:D)(h:Hd):R D:=match y with
 |.int k=>(match x with
  |.int i=>if CMul i k then .ok (.int (i*k)) h else .no
  |_=>match yh x h with
   |some xs=>if (-(2^63)<=k/\k<2^63)/\xs.length*k.toNat<=LINE then .ok (.ref h.length) (h++[.lst (List.replicate k.toNat xs).flatten]) else .no
   |none=>.no)
 |_=>.no
theorem ahr:a0m K a0o (λx y H Q=>rI CMul (λi j=>.int (i*j)) x y H Q\/asj x y H Q):=by
 intro E ι H h x y dx dy Q rx ry hr o
 cases dy with
 |int k =>
  obtain rfl:=adu ry
  cases hx:yh dx h with
  |some xs =>
   obtain⟨a,vs,rfl,h1,h2⟩:=a0j rx hr hx;have o':out K E (xn K) ι H (if (-(2^63)<=k/\k<2^63)/\xs.length*k.toNat<=LINE then .ok (.ref h.length) (h++[.lst (List.replicate k.toNat xs).flatten]) else .no) Q:=by
    cases dx<;>first|(cases hx;done)|(simp only[a0o,hx]at o;exact o)
   split at o'
   ·rename_i hc;exact .inr ⟨a,k,vs,rfl,rfl,h1,hc.1.1,hc.1.2,ll (by rw[h2.len];exact hc.2),uf (h2.flat _) hr o'⟩
   ·exact o'.elim
  |none =>
   cases dx with
   |int i =>
    obtain rfl:=adu rx
    by_cases hc:CMul i k
    ·simp only[a0o,aQ hc]at o;exact .inl ⟨i,k,rfl,rfl,hc,ans o (.int _) hr⟩
    ·simp only[a0o,bg hc]at o;exact o.elim
   |_=>simp only[a0o,hx]at o;exact o.elim
 |_=>exact o.elim
theorem anh(ha:ME X E a fa)(hb:ME X E b fb):ME X E (.BinOp a .Mult b pos) (s2 a0o fa fb):=ab4 (apu.or ane) ahr ha hb
def aeb:D->List D->Hd->R D
 |.ref i,[.tup ys],h=>(match h[i]? with|some (.lst xs)=>if xs.length+ys.length<=LINE then .ok .non (h.set i (.lst (xs++ys))) else .no|_=>.no)
 |.ref i,[y],h=>(match h[i]?,yh y h with|some (.lst xs),some ys=>if xs.length+ys.length<=LINE then .ok .non (h.set i (.lst (xs++ys))) else .no|_,_=>.no)
 |_,_,_=>.no
theorem ahs:aoy K aeb (λx vs H Q=>asi x vs H Q\/a9n K x vs H Q):=by
 intro E ι H h x dx xs ds Q rx r hr o
 unfold aeb at o
 split at o
 ·rename_i i ys
  cases rx with
  |@ref p _ hp =>
   cases r with
   |cons r1 rs =>
    cases rs
    cases r1 with
    |@tup b us zs hb rb =>
     split at o
     ·rename_i xs hx;obtain⟨vs,h3,h4⟩:=hr.lst hp hx
      split at o
      ·rename_i hc;exact .inr ⟨p,b,vs,us,rfl,rfl,h3,SqT.of hb,ll (by rw[h4.len,rb.len];exact hc),a5r (h4.app rb) hr hp .non o⟩
      ·exact o.elim
     ·exact o.elim
 ·rename_i i y _
  cases rx with
  |@ref p _ hp =>
   cases r with
   |cons r1 rs =>
    cases rs
    split at o
    ·rename_i xs ys hx hy;obtain⟨vs,h3,h4⟩:=hr.lst hp hx;obtain⟨b,us,rfl,h5,h6⟩:=a0j r1 hr hy
     split at o
     ·rename_i hc;exact .inl ⟨p,b,vs,us,rfl,rfl,h3,h5,ll (by rw[h4.len,h6.len];exact hc),a5r (h4.app h6) hr hp .non o⟩
     ·exact o.elim
    ·exact o.elim
 ·exact o.elim
end
end MI
namespace MI
open L2
def a3p:D->Option Key
 |.int i=>some (.inl i)
 |.str x=>some (.inr x)
 |_=>none
def aht:D->Option (List Key)
 |.tup xs=>v4 a3p xs
 |_=>none
def a0b{κ:Type}[DecidableEq κ](kvs:List (κ×D))(k:κ):Option D:=(kvs.find? λkv=>decide (kv.1=k)).map (·.2)
def putD{κ:Type}[DecidableEq κ](kvs:List (κ×D))(k:κ)(d:D):List (κ×D):=if (kvs.any λkv=>decide (kv.1=k))=true then kvs.map λkv=>if kv.1=k then (kv.1,d) else kv else kvs++[(k,d)]
section
variable{K:Fg}{ι:List Addr}{H:Hp}{h:Hd}
theorem a1a{v:V}{d:D}{k:Key}(r:Rep K ι H v d)(e:a3p d=some k):v=kV k:=by
 cases r with
 |int i=>cases e;rfl
 |str x=>cases e;rfl
 |_=>cases e
theorem aa0:∀{vs:List V} {ds:List D} {ks:List Key},Reps K ι H vs ds->v4 a3p ds=some ks->vs=ks.map kV
 |_,_,_,.nil,e=>by cases e;rfl
 |_,d::ds,_,.cons r rs,e=>by
  unfold v4 at e
  split at e
  ·rename_i y ys h1 h2;cases e
   rw[a1a r h1,aa0 rs h2];rfl
  ·cases e
theorem a8v{v:V}{d:D}{ks:List Key}(r:Rep K ι H v d)(e:aht d=some ks):∃b,v=.ref b/\H b=some (.tup (ks.map kV)):=by
 cases r with
 |@tup a vs xs hp rs=>exact⟨a,rfl,by rw[<-aa0 rs e];exact hp⟩
 |_=>cases e
theorem a2s{κ:Type}[DecidableEq κ](k:κ):∀{us:List (κ×V)} {kvs:List (κ×D)},KRep K ι H us kvs->match a0b kvs k with|some d=>∃v,a87 us k=some v/\Rep K ι H v d|none=>a87 us k=none
 |[],[],_=>rfl
 |[],_::_,r=>by have:=aZ List.length r.1;simp at this
 |_::_,[],r=>by have:=aZ List.length r.1;simp at this
 |(a,v)::us,(b,d)::kvs,r=>by
  obtain⟨e,rs⟩:=r;simp only[aK,fP]at e;obtain⟨e1,e2⟩:=e;subst e1
  cases rs with
  |cons r1 rs =>
   by_cases hk:a=k
   ·simp only[a0b,a87,cp,hk,dY,cB];exact⟨v,rfl,r1⟩
   ·have ih:=a2s k (us:=us) (kvs:=kvs) ⟨e2,rs⟩;simp only[a0b,a87,cp,hk,dJ]at ih ⊢;exact ih
theorem a1q{κ:Type}[DecidableEq κ]{us:List (κ×V)}{kvs:List (κ×D)}(k:κ){v:V}{d:D}(r:KRep K ι H us kvs)(rv:Rep K ι H v d):KRep K ι H (putK us k v) (putD kvs k d):=by
 have anyEq:∀{us:List (κ×V)} {kvs:List (κ×D)},us.map (·.1)=kvs.map (·.1)->(us.any λkv=>decide (kv.1=k))=(kvs.any λkv=>decide (kv.1=k)):=λ{us kvs} e=>by
  have h1:(us.any λkv=>decide (kv.1=k))=(us.map (·.1)).any λa=>decide (a=k):=by rw[fV];rfl
  have h2:(kvs.any λkv=>decide (kv.1=k))=(kvs.map (·.1)).any λa=>decide (a=k):=by rw[fV];rfl
  rw[h1,h2,e]
 have rmap:∀{us:List (κ×V)} {kvs:List (κ×D)},KRep K ι H us kvs->KRep K ι H (us.map λkv=>if kv.1=k then (kv.1,v) else kv) (kvs.map λkv=>if kv.1=k then (kv.1,d) else kv):=λ{us}=>by
  induction us with
  |nil=>intro kvs r;cases kvs with
   |nil=>exact⟨rfl,.nil⟩
   |cons _ _=>have:=aZ List.length r.1;simp at this
  |cons a us ih=>intro kvs r;cases kvs with
   |nil=>have:=aZ List.length r.1;simp at this
   |cons b kvs =>
    obtain⟨e,rs⟩:=r;simp only[aK,fP]at e;obtain⟨e1,e2⟩:=e
    cases rs with
    |cons r1 rs =>
     obtain⟨i1,i2⟩:=ih ⟨e2,rs⟩;obtain⟨a1,a2⟩:=a;obtain⟨b1,b2⟩:=b;simp only at e1;subst e1
     by_cases hk:a1=k
     ·simp only[aK,hk,cQ];exact⟨by simp only[aK,i1],.cons rv i2⟩
     ·simp only[aK,hk,cM];exact⟨by simp only[aK,i1],.cons r1 i2⟩
 have ae:=anyEq r.1;unfold putK putD;rw[ae]
 split
 ·exact rmap r
 ·exact⟨by simp[r.1],by simpa using r.2.snoc rv⟩
def abz:D->Option (Int×List Int)
 |.tup [.int r,.tup xs]=>(a0n xs).map λts=>(r,ts)
 |_=>none
theorem aec{k:Int×List Int}(r:Rep K ι H y dy)(e:abz dy=some k):∃b,y=.ref b/\NKey H b k:=by
 cases r with
 |@tup a vs xs ha rs =>
  cases rs with
  |nil=>cases e
  |cons r1 rs =>
   cases rs with
   |nil=>cases r1<;>cases e
   |cons r2 rs =>
    cases rs with
    |cons _ _=>cases r1<;>cases r2<;>cases e
    |nil =>
     cases r1 with
     |int i =>
      cases r2 with
      |@tup c us zs hc r3 =>
       simp only[abz,aL]at e;obtain⟨ts,e1,rfl⟩:=e;exact⟨a,rfl,c,ha,by rw[<-a0h r3 e1];exact hc⟩
      |_=>cases e
     |_=>cases r2<;>cases e
 |_=>cases e
def age(x y:D)(h:Hd):Option (Option D):=match x with
 |.ref i=>(match h[i]? with
  |some (.dK kvs)=>(a3p y).map λk=>a0b kvs k
  |some (.dT kvs)=>(aht y).map λk=>a0b kvs k
  |some (.dN kvs)=>(match abz y with|some k=>some (a0b kvs k)|none=>if kvs=[] then (a3p y).map λ_=>none else none)
  |_=>none)
 |.rod ks xs=>(a3p y).map λk=>a0b (ks.zip xs) k
 |.rdT ks xs=>(aht y).map λk=>a0b (ks.zip xs) k
 |_=>none
def aws(K:Fg)(ι:List Addr)(H:Hp)(a:Addr)(y:V):Option D->Prop
 |some d=>∃v,alw H a y (some v)/\Rep K ι H v d
 |none=>alw H a y none
theorem aed{κ:Type}{us:List (κ×V)}{ks:List κ}{xs:List D}(e:us.map (·.1)=ks)(r:Reps K ι H (us.map (·.2)) xs):KRep K ι H us (ks.zip xs):=a2r e r
theorem aee(rx:Rep K ι H x dx)(ry:Rep K ι H y dy)(hr:HRep K ι H h)(e:age dx dy h=some r):∃a,x=.ref a/\aws K ι H a y r:=by
 have goK:∀{a:Addr} {us:List (Key×V)} {kvs:List (Key×D)},Rd H a (.dK us)->KRep K ι H us kvs->(a3p dy).map (λk=>a0b kvs k)=some r->aws K ι H a y r:=λ{a us kvs} rd kr e=>by
  simp only[aL]at e;obtain⟨k,ek,rfl⟩:=e;have ey:=a1a ry ek;have q:=a2s k kr
  cases hv:a0b kvs k with
  |none=>rw[hv]at q;exact .inl ⟨us,k,rd,ey,q.symm⟩
  |some d=>rw[hv]at q;obtain⟨v,q1,q2⟩:=q;exact⟨v,.inl ⟨us,k,rd,ey,q1.symm⟩,q2⟩
 have goT:∀{a:Addr} {us:List (List Key×V)} {kvs:List (List Key×D)},Rd H a (.dT us)->KRep K ι H us kvs->(aht dy).map (λk=>a0b kvs k)=some r->aws K ι H a y r:=λ{a us kvs} rd kr e=>by
  simp only[aL]at e;obtain⟨k,ek,rfl⟩:=e;obtain⟨b,ey,eb⟩:=a8v ry ek;have q:=a2s k kr
  cases hv:a0b kvs k with
  |none=>rw[hv]at q;exact .inr (.inl ⟨us,k,b,rd,ey,eb,q.symm⟩)
  |some d=>rw[hv]at q;obtain⟨v,q1,q2⟩:=q;exact⟨v,.inr (.inl ⟨us,k,b,rd,ey,eb,q1.symm⟩),q2⟩
 cases rx with
 |@ref a i ha =>
  obtain⟨ob,e1,e2⟩:=hr.at ha;simp only[age,e1]at e
  cases ob with
  |lst _=>cases e
  |dK kvs=>obtain⟨us,h3,h4⟩:=e2;exact⟨a,rfl,goK (.inl h3) h4 e⟩
  |dT kvs=>obtain⟨us,h3,h4⟩:=e2;exact⟨a,rfl,goT (.inl h3) h4 e⟩
  |dN kvs =>
   obtain⟨ent,h3,h4⟩:=e2;refine⟨a,rfl,?_⟩
   cases ek:abz dy with
   |some k =>
    simp only[ek,Option.some.injEq]at e;subst e;obtain⟨b,ey,eb⟩:=aec ry ek;have q:=a2s k h4
    cases hv:a0b kvs k with
    |none=>rw[hv]at q;exact .inr (.inr ⟨ent,k,b,h3,ey,eb,q.symm⟩)
    |some d=>rw[hv]at q;obtain⟨v,q1,q2⟩:=q;exact⟨v,.inr (.inr ⟨ent,k,b,h3,ey,eb,q1.symm⟩),q2⟩
   |none =>
    simp only[ek]at e
    split at e
    ·rename_i z;subst z;simp only[aL]at e;obtain⟨k,e1,rfl⟩:=e;have z:ent=[]:=by
      have:=h4.1
      unfold a3e at this;rw[aV,bO,fM]at this;exact this
     rcases h3 with⟨_,q⟩|⟨q,_⟩
     ·exact absurd z q
     ·exact .inl ⟨[],k,.inl q,a1a ry e1,rfl⟩
    ·cases e
  |ins _ _=>cases e
 |@rod a o us ks xs hp ek rs=>exact⟨a,rfl,goK (.inr ⟨o,hp⟩) (aed ek rs) e⟩
 |@rdT a o us ks xs hp ek rs=>exact⟨a,rfl,goT (.inr ⟨o,hp⟩) (aed ek rs) e⟩
 |_=>cases e
def a2k(x y:D)(h:Hd):R D:=match age x y h with
 |some (some d)=>.ok d h
 |_=>.no
def aa1(neg:Bool)(y x:D)(h:Hd):R D:=match age x y h with
 |some r=>.ok (.bl (if neg then !r.isSome else r.isSome)) h
 |none=>.no
def aef:R2:=λy x H Q=>∃a o,x=.ref a/\alw H a y o/\Q (.bl (!o.isSome)) H
theorem u1{A:Around}(hu:A.units+64<cLine):A.units+2<cLine:=by omega
theorem aeg{X:Cx}(hu:X.A.units+64<cLine):OpR X (compareOp .NotIn) aef:=λaA s σ H y x v u Q I ry rx ⟨a,o,ex,g,q⟩=>by
 subst ex;obtain rfl:u=Value.ref a:=rx;exact alx (u1 hu) I g ry λs3 I3=>⟨.bl (!o.isSome),H,I3,rfl,q⟩
theorem abd:a0m K (aa1 true) aef:=by
 intro E ι H h y x dy dx Q ry rx hr o
 unfold aa1 at o
 split at o
 ·rename_i r e;obtain⟨a,rfl,q⟩:=aee rx ry hr e
  cases r with
  |none=>exact⟨a,none,rfl,q,ans o (.bl _) hr⟩
  |some d=>obtain⟨v,q,_⟩:=q;exact⟨a,some v,rfl,q,ans o (.bl _) hr⟩
 ·exact o.elim
variable{X:Cx}{E:XD}{a b e o i:Expr}{fa fb fc:SE}{pos:Pos}
theorem ani(hu:X.A.units+64<cLine)(ha:ME X E a fa)(hb:ME X E b fb)(hs:awc b):ME X E (.Subscript a b pos) (s2 a2k fa fb):=by
 refine PE.weak (alz (u1 hu) ha hb hs) ?_
 rintro σ H Q ⟨ι,τ,h,S,Rh,o⟩
 refine⟨ι,τ,h,S,Rh,bh o λd h1 ι1 H1 v g1 r1 hr1 o1=>?_⟩;refine⟨ι1,τ,h1,S.mono g1,hr1,bh o1 λd2 h2 ι2 H2 u g2 r2 hr2 o2=>?_⟩;unfold a2k at o2
 split at o2
 ·rename_i dd e;obtain⟨p,rfl,w,q1,q2⟩:=aee (r1.mono g2) r2 hr2 e;exact⟨p,w,rfl,q1,ans o2 q2 hr2⟩
 ·exact o2.elim
def agf(o k v:D)(h:Hd):Option Hd:=match o with
 |.ref i=>(match h[i]? with
  |some (.dK kvs)=>(match a3p k with|some kk=>if kvs.length<LINE then some (h.set i (.dK (putD kvs kk v))) else none|none=>none)
  |some (.dT kvs)=>(match aht k with|some kk=>if kvs.length<LINE then some (h.set i (.dT (putD kvs kk v))) else none|none=>none)
  |some (.dN kvs)=>(match abz k with|some kk=>if kvs.length<LINE then some (h.set i (.dN (putD kvs kk v))) else none|none=>if kvs=[] then (a3p k).map λkk=>h.set i (.dK [(kk,v)]) else none)
  |_=>none)
 |_=>none
def a3q(fe fo fi:SE):SS:=λτ h=>(fe τ h).fl λv h1=>(fo τ h1).fl λo h2=>(fi τ h2).fl λk h3=>match agf o k v h3 with|some h4=>.nx τ h4|none=>.no
theorem KRep.mono{κ:Type}{ι':List Addr}{H':Hp}{us:List (κ×V)}{kvs:List (κ×D)}(g:Gr ι H ι' H')(r:KRep K ι H us kvs):KRep K ι' H' us kvs:=⟨r.1,r.2.mono g⟩
theorem ahu{h':Hd}{o k v:V}{od kd vd:D}{Q:Hp->Prop}(r1:Rep K ι H o od)(r2:Rep K ι H k kd)(r3:Rep K ι H v vd)(hr:HRep K ι H h)(e:agf od kd vd h=some h')(q:∀H',Gr ι H ι H'->HRep K ι H' h'->Q H') :
  ∃a H4,o=.ref a/\aqg H a k v H4/\Q H4:=by
 cases r1 with
 |@ref a i ha =>
  obtain⟨ob,h1,h2⟩:=hr.at ha;simp only[agf,h1]at e
  cases ob with
  |lst _=>cases e
  |dK kvs =>
   obtain⟨us,h3,h4⟩:=h2
   cases hk:a3p kd with
   |none=>simp only[hk]at e;cases e
   |some kk =>
    simp only[hk]at e
    split at e
    ·rename_i hl;cases e
     have lu:us.length=kvs.length:=by simpa using aZ List.length h4.1
     exact⟨a,_,rfl,.inl ⟨us,kk,h3,a1a r2 hk,by rw[ada,lu];exact hl,rfl⟩,q _ (xu hr ha _) (hr.put ha ⟨_,dh,(a1q kk h4 r3).mono (xu hr ha _)⟩)⟩
    ·cases e
  |dT kvs =>
   obtain⟨us,h3,h4⟩:=h2
   cases hk:aht kd with
   |none=>simp only[hk]at e;cases e
   |some kk =>
    simp only[hk]at e
    split at e
    ·rename_i hl;cases e
     have lu:us.length=kvs.length:=by simpa using aZ List.length h4.1
     obtain⟨b,eb,tb⟩:=a8v r2 hk;exact⟨a,_,rfl,.inr (.inl ⟨us,kk,b,h3,eb,tb,by rw[ada,lu];exact hl,rfl⟩),q _ (xu hr ha _) (hr.put ha ⟨_,dh,(a1q kk h4 r3).mono (xu hr ha _)⟩)⟩
    ·cases e
  |ins _ _=>cases e
  |dN kvs =>
   obtain⟨ent,h3,h4⟩:=h2;have lu:ent.length=kvs.length:=by simpa[a3e] using aZ List.length h4.1
   cases hk:abz kd with
   |some kk =>
    simp only[hk]at e
    split at e
    ·rename_i hl;cases e
     obtain⟨b,eb,tb⟩:=aec r2 hk;have hl':ent.length<sizeLine:=by rw[ada,lu];exact hl
     have g:=xu hr ha (.ext (dAt a (wg ent kk b v)));refine⟨a,_,rfl,.inr (.inr ⟨ent,kk,b,h3,eb,tb,hl',rfl⟩),q _ g (hr.put ha ⟨wg ent kk b v,.inl ⟨⟨dh,λx hx=>?_,ad0 h3.nd kk b v,c9 (aaw _ _ _ _) hl'⟩,acy _ _ _ _⟩,by rw[acz];exact(a1q kk h4 r3).mono g⟩)⟩
     refine NKey.keeps ?_ g.tup
     rcases aax hx with⟨y,hy,q1,q2⟩|⟨q1,q2⟩
     ·rw[q1,q2];exact h3.keys y hy
     ·rw[q1,q2];exact tb
    ·cases e
   |none =>
    simp only[hk]at e
    split at e
    ·rename_i z;subst z;simp only[aL]at e;obtain⟨kk,e1,rfl⟩:=e;have z:ent=[]:=List.eq_nil_of_length_eq_zero lu
     rcases h3 with⟨_,q⟩|⟨h3,_⟩
     ·exact absurd z q
     ·exact⟨a,_,rfl,.inl ⟨[],kk,h3,a1a r2 e1,by rw[ada];decide,rfl⟩,q _ (xu hr ha _) (hr.put ha ⟨_,dh,(a1q (kvs:=[]) kk ⟨rfl,.nil⟩ r3).mono (xu hr ha _)⟩)⟩
    ·cases e
 |_=>cases e
theorem anj(hu:X.A.units+64<cLine)(he:ME X E e fa)(ho:ME X E o fb)(hi:ME X E i fc)(hs:swapsWith e (some (.Subscript o i pos')) pos.line X.env=pure false:=by rfl):MS X E (.Assign [.Subscript o i pos'] e pos) (a3q fa fb fc):=by
 refine PS.weak (am0 (u1 hu) ho hi he hs) ?_
 rintro N σ H ⟨ι,τ,h,S,Rh,oo⟩
 refine⟨ι,τ,h,S,Rh,oh oo λd h1 ι1 H1 v g1 r1 hr1 o1=>?_⟩;refine⟨ι1,τ,h1,S.mono g1,hr1,oh o1 λd2 h2 ι2 H2 u g2 r2 hr2 o2=>?_⟩;refine⟨ι2,τ,h2,(S.mono g1).mono g2,hr2,oh o2 λd3 h3 ι3 H3 w g3 r3 hr3 o3=>?_⟩
 cases hp:agf d2 d3 d h3 with
 |none=>rw[hp]at o3;exact o3.elim
 |some h4 =>
  rw[hp]at o3;exact ahu (r2.mono g3) r3 ((r1.mono g2).mono g3) hr3 hp λH' g4 hr4=>o3 ι3 H' σ g4 ((((S.mono g1).mono g2).mono g3).mono g4) hr4
def gD1(x y:D)(h:Hd):R D:=match a3p x with
 |some k=>.ok (.ref h.length) (h++[.dK [(k,y)]])
 |none=>.no
theorem a7k{p:Addr}{o:HO}{ob:O}(hr:HRep K ι H h)(pn:p∉ι)(gw:Gw ι H (ι++[p]) (upd H p o))(q:ORep K (ι++[p]) (upd H p o) p ob):HRep K (ι++[p]) (upd H p o) (h++[ob]):=by
 refine⟨bD.mpr ⟨hr.nd,by simp,λa ha b hb z=>pn (by rw[aI.mp hb]at z;rw[<-z];exact ha)⟩,by simp[hr.len],λj a o' q1 q2=>?_⟩
 by_cases hj:j<ι.length
 ·rw[ax hj]at q1;rw[ax (by rw[<-hr.len];exact hj)]at q2
  exact(hr.obj j a o' q1 q2).monoW gw (bu λz=>pn (by rw[<-z];exact aN q1))
 ·have hj2:j<(ι++[p]).length:=(a7.mp q1).1;have:j=ι.length:=by simp at hj2;omega
  subst this;rw[aw (ah _)]at q1;rw[hr.len,aw (ah _)]at q2;simp at q1 q2;subst q1 q2;exact q
theorem awt(ha:ME X E a fa)(hb:ME X E b fb):ME X E (.Dict [some a] [b] pos) (s2 gD1 fa fb):=by
 refine PE.weak (am2 (ah2 ha hb am1) rfl rfl (by simp) (by simp)) ?_
 rintro σ H Q ⟨ι,τ,h,S,Rh,o⟩ p hp
 have pn:p∉ι:=Rh.notin hp;have g0:Gr ι H ι (upd H p (.dK [])):=wj hp _;unfold s2 at o;refine⟨ι,τ,h,S.mono g0,Rh.aside hp _,?_⟩
 cases hfa:fa τ h with
 |no=>rw[hfa]at o;exact o.elim
 |ex c hx=>rw[hfa]at o;exact xx (Rp:=xn X.K) (r:=.ex c hx) (Q:=Q) o g0
 |ok d h1 =>
  rw[hfa]at o
  intro ι1 H1 v g1 r1 hr1
  refine⟨ι1,τ,h1,(S.mono g0).mono g1,hr1,?_⟩;simp only[R.bind]at o
  cases hfb:fb τ h1 with
  |no=>rw[hfb]at o;exact o.elim
  |ex c hx=>rw[hfb]at o;exact xx (Rp:=xn X.K) (r:=.ex c hx) (Q:=Q) o (g0.trans g1)
  |ok d2 h2 =>
   rw[hfb]at o
   intro ι2 H2 u g2 r2 hr2
   have g12:=g1.trans g2;have e2:H2 p=some (.dK []):=g12.oth p _ dh pn;simp only[gD1]at o
   cases hk:a3p d with
   |none=>rw[hk]at o;exact o.elim
   |some k =>
    rw[hk]at o;refine⟨e2,[(k,u)],?_,by simp,?_⟩
    ·rw[a1a (r1.mono g2) hk];rfl
    ·obtain⟨m,em,hm⟩:=g12.pre;have nm:∀c∈m,c≠p/\H c=none:=λc hc=>by
      have q:=hm c hc
      by_cases z:c=p
      ·subst z;rw[dh]at q;cases q
      ·rw[bu z]at q;exact⟨z,q⟩
     have pn2:p∉ι2:=λz=>by
      rw[em]at z
      rcases bB.mp z with z|z
      ·exact pn z
      ·exact(nm p z).1 rfl
     have ne:∀{c u'},H c=some u'->c≠p:=λe=>cj e hp;have up:∀{c u'},H c=some u'->(upd H p (.dK [])) c=some u':=λe=>by rw[bu (ne e)];exact e
     have gw:Gw ι2 H2 (ι2++[p]) (upd H2 p (.dK [(k,u)])):=⟨⟨[p],rfl⟩,λc vs e=>by rw[bu (λz=>by subst z;rw[e2]at e;cases e)];exact e,λc o u' e=>by rw[bu (λz=>by subst z;rw[e2]at e;cases e)];exact e⟩
     have G:Gr ι H (ι2++[p]) (upd H2 p (.dK [(k,u)])):=by
      refine⟨⟨m++[p],by rw[em];simp,λc hc=>?_⟩,λc vs e=>?_,λc o u' e=>?_,λc u' e hn=>?_,λc u' e=>?_⟩
      ·rcases bB.mp hc with hc|hc
       ·exact(nm c hc).2
       ·rw[aI.mp hc];exact hp
      ·rw[bu (ne e)];exact g12.tup _ _ (up e)
      ·rw[bu (ne e)];exact g12.frz _ _ _ (up e)
      ·rw[bu (ne e)];exact g12.oth _ _ (up e) hn
      ·obtain⟨w,q⟩:=g12.kp _ _ (up e);exact⟨w,by rw[bu (ne e)];exact q⟩
     refine o (ι2++[p]) _ (.ref p) G (.ref (by rw[aw (by rw[hr2.len];exact ah _),hr2.len];simp)) (a7k hr2 pn2 gw ⟨_,dh,rfl,.cons (r2.monoW gw) .nil⟩)
end
end MI
namespace ZP
open PySem.Builtin PySem.Builtin.SmallTypes L2
def a2h(it:Addr):Obj:={cls:=.type "enumerate",data:=.fields #[.none,.bool false,.ref it,rawInt 0,.none,.none]}
theorem aeh(t:Tok)(k:Srk)(us:List Value):Meets (Builtin.«enumerate.__new__» ⟨[.type "enumerate",val t k],[]⟩)
  (λ_ R s=>cont s.heap k us/\R (.ok (.ret (.ref (s.heap.objs.size+1)))) {s with heap:=(s.heap.push (iob t k)).push (a2h s.heap.objs.size)}) :=
 .of_wp λprog w A R s h=>by
  obtain⟨hp,g,d,tk,os⟩:=s;obtain⟨c,h⟩:=h;have sub:=sub_enumerate;have c':cont (Shared.heap ⟨hp,g,d,tk,os⟩) k us:=c;have fin:R (.ok (.ret (.ref (hp.push (iob t k)).objs.size))) {heap:=(hp.push (iob t k)).push (a2h hp.objs.size),gens:=g,drawn:=d,toks:=tk,os:=os}:=by simpa[cA] using h
  wp_walk
  refine wpAny_stack_any λst=>av ?_
  split
  ·rename_i cl _ _ _ _ _
   cases (cl == Value.type "enumerate")
   ·wp_walk using a2q (t:=t) c'
    exact⟨_,rfl,fin⟩
   ·wp_walk using a2q (t:=t) c'
    exact⟨_,rfl,fin⟩
  ·wp_walk using a2q (t:=t) c'
   exact⟨_,rfl,fin⟩
def ItE(k:Srk):It where
 go:=λi H=>∃xs x,its H k=some xs/\xs[i]? = some x
 yld:=λi H v H'=>∃xs x p,its H k=some xs/\xs[i]? = some x/\H p=none/\v=.ref p/\H'=upd H p (.tup [.int i,x])
 stop:=λi H=>∃xs,its H k=some xs/\i=xs.length
def tnE(e it:Addr)(t:Tok)(k:Srk)(i:Nat)(h:Heap):Prop:=(∃old,IsEnum h e it i old)/\own it t k i h
theorem aei(ne:e≠it):Turn P w K (.Tuple elts x1 pos) (ItE k) [e,it] e (tnE e it t k) where
 mem:=by simp
 obj:=λi h st b hb=>by
  obtain⟨⟨old,h1⟩,h4⟩:=st;simp only[ay,bq,cK]at hb
  rcases hb with rfl|rfl
  ·exact⟨_,h1,λv z=>(by cases z)⟩
  ·exact a3m h4
 keep:=λi h h' st kk=>by
  obtain⟨⟨old,h1⟩,h4⟩:=st;exact⟨⟨old,kk e (by simp) _ h1⟩,yc h4 λob q=>kk it (by simp) ob q⟩
 item:=by
  intro X hP hw hK hc i aA s σ H E I hf st hg
  subst hP hw hK;obtain⟨xs,x,e1,g1⟩:=hg;obtain⟨⟨old,h1⟩,h4⟩:=st;have n:∀c∈[e,it],H c=none:=λc hc=>(hf c hc).1;obtain⟨cs,P1,S1,D1,a1,b1,c1,d1⟩:=a8t I (t:=t) e1 (n it (by simp))
  have hd:=I.ok.hd hc;have ef:e∉it::cs:=by
   intro z
   rcases ay.mp z with z|z
   ·exact ne z
   ·exact c1 e z (n e (by simp))
  refine wpAny_pyNext_enum_itemD (D1 X.A.in1 hd) h1 (a1 i h4) (a7.mp g1).1 ne ef λu h' tk pu eo s1' pr sz kp=>?_;obtain⟨x',q1,r1⟩:=d1 i u pu;rw[g1]at q1;cases q1
  refine⟨_,rfl,wpAny_letOwnedTupleGo_enum eo λh2' z2' sb=>?_⟩;have hp:H s.heap.objs.size=none:=I.hok.fresh (ah _);have lt:∀c∈[e,it],c<s.heap.objs.size:=λc hc=>by
   simp only[ay,bq,cK]at hc
   rcases hc with rfl|rfl
   ·exact aU h1
   ·obtain⟨_,q,_⟩:=a3m h4;exact aU q
  have nT:∀c∈[e,it],c≠s.heap.objs.size:=λc hc=>bM (lt c hc);have all:∀c o,c∉[e,it]->s.heap.get? c=some o->h2'.get? c=some o:=λc o nc q=>by
   simp only[ay,bq,cK,not_or]at nc;exact(sb.2 c nc.1).trans (kp c o nc.1 nc.2 q)
  have I0:Inv X aA σ (upd H s.heap.objs.size (.tup [.int i,x])) {s with heap:=s.heap.push {cls:=.type "tuple",data:=.seq #[.int i tk,u]} } :=
   I.laid (t':=s.toks) (o:=.tup [.int i,x]) (λb o q=>af _ q) (ah _) ⟨by show 2<=sizeLine;decide,[.int i tk,u],.cons ⟨tk,rfl⟩ (.cons r1 .nil),⟨_,aT _ rfl,⟨rfl,rfl⟩,_,rfl⟩⟩
  have I1:Inv X aA σ (upd H s.heap.objs.size (.tup [.int i,x])) {s with heap:=h2',toks:=tk+1}:=by
   refine a2c (s:={s with heap:=s.heap.push {cls:=.type "tuple",data:=.seq #[.int i tk,u]} }) (ch:=[e,it]) I0 (λb hb=>?_) λc o nc q=>?_
   ·obtain⟨f0,f1⟩:=hf b hb;exact⟨by rw[bu (nT b hb)];exact f0,f1⟩
   ·rcases Heap.get?_push_cases q with⟨rfl,rfl⟩|q
    ·exact(sb.2 _ (nT e (by simp)).symm).trans pr
    ·exact all c o nc q
  refine⟨.ref s.heap.objs.size,_,I1,rfl,⟨xs,x,_,e1,g1,hp,rfl,rfl⟩,⟨⟨u,by simpa using z2'⟩,yc (b1 _ _ s1') λob q=>(sb.2 _ ne.symm).trans q⟩,λb hb=>?_⟩
  rw[bu (nT b hb)];exact n b hb
 done:=by
  intro X hP hw hK hc i aA s σ H E I hf st hg
  subst hP hw hK;obtain⟨xs,e1,rfl⟩:=hg;obtain⟨⟨old,h1⟩,h4⟩:=st;have n:∀c∈[e,it],H c=none:=λc hc=>(hf c hc).1;obtain⟨cs,P1,S1,D1,a1,b1,c1,d1⟩:=a8t I (t:=t) e1 (n it (by simp))
  have hd:=I.ok.hd hc;refine wpAny_pyNext_enum_endD (D1 X.A.in1 hd) h1 (a1 _ h4) λh' ex=>⟨rfl,a2c (t':=s.toks) I hf λc o nc q=>?_⟩;simp only[ay,bq,cK,not_or]at nc;exact ex c o nc.2 q
 self:=λ_ _ _ _ _ st h=>by
  obtain⟨⟨old,h1⟩,_⟩:=st;exact wpAny_pyIter_enum h1 h
section
variable{X:Cx}{elts:List Expr}{x1:Nat}{tpos:Pos}
def awu(ta:TA):TI:=λσ H R=>ta σ H λvs H1=>∃k xs,vs=[Srk.v k]/\its H1 k=some xs/\R (ItE k) H1
theorem ank(hg:Gl X "enumerate")(hm:X.mg "enumerate" = none)(ha:PA X [e1] ta)
  (h1:starEach [e1] X.env=[(false,eval e1 X.env)]:=by rfl):PI X (.Tuple elts x1 tpos) (.Call (.Name "enumerate" p) [e1] [] pos) (awu ta):=by
 intro aA s σ H R I h
 refine cI (a05 I hg hm PyProof.Rows.boot_enumerate ?_ (by decide) (by decide))
 refine bG (thn (ha pos aA s σ H _ I h) λus s1 ⟨vs,H1,I1,r1,q1⟩=>?_) (by rw[h1];rfl) (by rfl)
 obtain⟨k,xs,rfl,e1,q⟩:=q1;obtain⟨v1,rfl,rv1⟩:=vals1 r1;obtain⟨t,rfl⟩:=ak3 rv1;obtain⟨us1,c1,_⟩:=a5y I1 e1;refine callType_new F.called_enumerate (by decide) (F.typeCall_enumerate_1 _) (F.newCall_enumerate_1 _) (λobj=>F.args_object_init_2 obj _) F.entry_enumerate_new (aeh t k us1) ⟨c1,?_⟩
 have at0:((s1.heap.push (iob t k)).push (a2h s1.heap.objs.size)).get? s1.heap.objs.size=some (iob t k):=af _ (aT _ (by cases k<;>rfl))
 have at1:IsEnum ((s1.heap.push (iob t k)).push (a2h s1.heap.objs.size)) (s1.heap.objs.size+1) s1.heap.objs.size 0 .none:=by
  have:=aT (o:=a2h s1.heap.objs.size) (s1.heap.push (iob t k)) rfl
  rw[cA]at this;exact this
 have keepA:∀b o,s1.heap.get? b=some o->((s1.heap.push (iob t k)).push (a2h s1.heap.objs.size)).get? b=some o:=λb o q=>af _ (af _ q);have I2:Inv X aA σ H1 {s1 with heap:=(s1.heap.push (iob t k)).push (a2h s1.heap.objs.size)}:=I1.kept (t':=s1.toks) keepA
 refine⟨⟨_,at1,rfl⟩,?_⟩;refine wpAny_pyIter_enum (s:={s1 with heap:=(s1.heap.push (iob t k)).push (a2h s1.heap.objs.size)}) at1 ?_
 refine⟨s1.heap.objs.size+1,[s1.heap.objs.size+1,s1.heap.objs.size],tnE _ _ t k,ItE k,H1,rfl,I2,aei (by intro z;have z:(_:Nat)=_:=z;omega),⟨⟨.none,at1⟩,ayb at0⟩,λb hb=>?_,q⟩
 have:s1.heap.objs.size<=b:=by
  simp only[ay,bq,cK]at hb
  rcases hb with rfl|rfl
  ·exact Nat.le_succ _
  ·exact ah _
 exact I1.fpOk this (I1.hok.fresh this)
end
end ZP
namespace MI
open L2 ZP
def aej(x:D)(h:Hd):R Itm:=match srcOf x h with
 |some (xs,c)=>.ok ⟨((List.range xs.length).zip xs).map λp=>.tup [.int (p.1:Nat),p.2],c⟩ h
 |none=>.no
def a1r(f:SE):SI:=λτ h=>(f τ h).bind aej
theorem anl(hg:Gl X "enumerate")(hm:X.mg "enumerate" = none)(ha:ME X E e1 f)
  (h1:starEach [e1] X.env=[(false,eval e1 X.env)]:=by rfl):MI X E (.Tuple elts x1 tpos) (.Call (.Name "enumerate" p) [e1] [] pos) (a1r f):=by
 rintro aA s σ H Rr I ⟨ι,τ,h,S,Rh,o⟩
 refine ank hg hm (a06 ha a4k (by rw[h1];rfl)) h1 aA s σ H Rr I ?_
 refine⟨ι,τ,h,S,Rh,bh o λd h1 ι1 H1 v g1 r1 hr1 o1=>?_⟩;unfold aej at o1
 split at o1
 ·rename_i xs c q1;obtain⟨k,rfl,kc,kf⟩:=a7g r1 hr1 q1;obtain⟨vs,w1,w2⟩:=kf ι1 H1 h1 (.refl _ _) hr1 kc;refine⟨k,vs,rfl,w1,o1 ι1 H1 _ (.refl _ _) ?_ hr1⟩
  intro ι3 H3 h3 g3 hr3 c3
  obtain⟨us,a1,a2⟩:=kf ι3 H3 h3 g3 hr3 c3;refine⟨λi d ed=>?_,us,a1,?_⟩
  ·simp only[ar,aL]at ed;obtain⟨⟨j,y⟩,ez,rfl⟩:=ed;obtain⟨ex,ey⟩:=bY.mp ez;have hj:j=i:=by
    obtain⟨_,q⟩:=a7.mp ex;simpa using q.symm
   subst hj;obtain⟨v2,b3,b4⟩:=a2.get ey;refine⟨⟨us,v2,a1,b3⟩,λx H' yl=>?_⟩;obtain⟨xs',x',p,c1,c3,c5,rfl,rfl⟩:=yl;rw[a1]at c1;cases c1
   rw[b3]at c3;cases c3
   exact⟨wj c5 _,.tup dh (.cons (.int _) (.cons (b4.mono (wj c5 _)) .nil)),hr3.aside c5 _⟩
  ·rw[a9,de,aO,a2.len];omega
 ·exact o1.elim
end MI
namespace L2
open PyProof.Rows
section
variable{X:Cx}
def anm(lo:Int)(n:Nat):List V:=(List.range n).map λi=>V.int (lo+(i:Nat))
theorem ahv{lo:Int}{n:Nat}{acc:Array Value}(h:ItemsOf (λi v=>∃t,v=.int (lo+i*1) t) acc n):Vals (anm lo n) acc.toList:=by
 obtain⟨hs,ha⟩:=h;have key:∀(k:Nat) (us:List Value) (a:Int),us.length=k->(∀(j:Nat) (v:Value),us[j]? = some v->∃t,v=.int (a+(j:Nat)) t)->Vals ((List.range k).map λi=>V.int (a+(i:Nat))) us:=by
  intro k
  induction k with
  |zero=>intro us a hl _;cases us with|nil=>exact .nil|cons _ _=>simp at hl
  |succ k ih =>
   intro us a hl hp
   cases us with
   |nil=>simp at hl
   |cons u us =>
    rw[eT,aK,aV];refine .cons ?_ ?_
    ·obtain⟨t,e⟩:=hp 0 u rfl;exact⟨t,e⟩
    ·have:=ih us (a+1) (by simpa using hl) λj v e=>by
      obtain⟨t,q⟩:=hp (j+1) v (by simpa using e)
      exact⟨t,by rw[q];congr 1;push_cast;omega⟩
     have fe:((λi:Nat=>V.int (a+(i:Nat))) ∘ Nat.succ)=λi:Nat=>V.int (a+1+(i:Nat)):=by funext i;simp;omega
     rw[fe];exact this
 refine key n _ lo (by simp[hs]) λj v e=>?_
 obtain⟨t,q⟩:=ha j v (by simpa using e)
 exact⟨t,by rw[q,Int.mul_one]⟩
def Bd(lo hi:Int):Prop := -(2^62)<=lo/\lo<2^62 /\ -(2^62)<=hi/\hi<2^62
theorem a1s(hc:X.calm=true):CallR X (.type "list") (λxs H Q=>∃p lo hi,xs=[.ref p]/\H p=some (.rng lo hi)/\Bd lo hi/\(hi-lo).toNat<=sizeLine/\∀l,H l=none->Q (.ref l) (upd H l (.lst (anm lo (hi-lo).toNat)))):=by
 intro aA s σ H xs us Q I r ⟨p,lo,hi,e,hp,⟨b1,b2,b3,b4⟩,hl,q⟩
 subst e;obtain⟨u,rfl,ru⟩:=vals1 r;cases ru
 obtain⟨t,u,v,ho⟩:=I.hok p _ hp;refine call_list_range (n:=(hi-lo).toNat) (I.ok.hd hc) ho (small_one b1 b2 b3 b4) (by rw[rangeSize_one];split<;>omega) (by have:=eC;omega) λh' tk acc c kp e hi'=>?_
 exact⟨.ref s.heap.objs.size,_,I.laid (t':=tk) kp (ah _) (show ObjOk X.prog X.w _ h' _ (.lst (anm lo (hi-lo).toNat)) from ⟨by simpa[anm] using hl,acc.toList,c,ahv hi',by simpa using e⟩),rfl,q _ (I.hok.fresh (ah _))⟩
def awv(ta:TA):TE:=λσ H Q=>ta σ H λvs H1=>∃i j,vs=[.int i,.int j]/\∀p,H1 p=none->Q (.ref p) (upd H1 p (.rng i j))
def aww(ta:TA):TE:=λσ H Q=>ta σ H λvs H1=>∃j,vs=[.int j]/\∀p,H1 p=none->Q (.ref p) (upd H1 p (.rng 0 j))
theorem aa2{s:Shared}{lo hi:Int}{tk:Nat}(I:Inv X aA σ H s)(q:∀p,H p=none->Q (.ref p) (upd H p (.rng lo hi))) :
  EP X aA σ Q (.ref s.heap.objs.size) {s with heap:=s.heap.push {cls:=.type "range",data:=.fields #[.int lo t,.int hi u,.int 1 v]},toks:=tk} :=
 ⟨.ref _,_,I.laid (t':=tk) (o:=.rng lo hi) (λb o e=>af _ e) (ah _) ⟨t,u,v,aT _ rfl⟩,rfl,q _ (I.hok.fresh (ah _))⟩
theorem aek(hg:Gl X "range")(hm:X.mg "range" = none)(ha:PA X [a,b] ta)(hs:starEach [a,b] X.env=[(false,eval a X.env),(false,eval b X.env)]:=by rfl)(hs2:starEach [b] X.env=[(false,eval b X.env)]:=by rfl) :
  PE X (.Call (.Name "range" p) [a,b] [] pos) (awv ta):=by
 intro aA s σ H Q I h
 refine Call_ (a05 I hg hm boot_range (bG (thn (ha pos aA s σ H _ I h) λus s1 ⟨vs,H1,I1,r1,i,j,ev,q⟩=>?_) (by rw[hs,hs2]) (by rw[hs2];rfl)))
 subst ev;obtain⟨u1,u2,rfl,⟨t,rfl⟩,⟨t',rfl⟩⟩:=vals2 r1;exact call_range_2 (aa2 I1 q)
theorem ael(hg:Gl X "range")(hm:X.mg "range" = none)(ha:PA X [a] ta)(hs:starEach [a] X.env=[(false,eval a X.env)]:=by rfl):PE X (.Call (.Name "range" p) [a] [] pos) (aww ta):=by
 intro aA s σ H Q I h
 refine Call_ (a05 I hg hm boot_range (bG (thn (ha pos aA s σ H _ I h) λus s1 ⟨vs,H1,I1,r1,j,ev,q⟩=>?_) hs rfl));subst ev;obtain⟨u1,rfl,⟨t,rfl⟩⟩:=vals1 r1;exact call_range_1 (aa2 I1 q)
end
end L2
namespace MI
open L2
def a7l:List D->Hd->R D
 |[.int i,.int j],h=>if (B62 i/\B62 j)/\(j-i).toNat<=LINE then .ok (.ref h.length) (h++[.lst (rng i (j-i).toNat)]) else .no
 |_,_=>.no
def a7m:List D->Hd->R D
 |[.int j],h=>if B62 j/\j.toNat<=LINE then .ok (.ref h.length) (h++[.lst (rng 0 j.toNat)]) else .no
 |_,_=>.no
theorem ahw(lo:Int)(n:Nat):Reps K ι H (anm lo n) (rng lo n):=by
 unfold anm rng
 generalize List.range n=l
 induction l with
 |nil=>exact .nil
 |cons i l ih=>exact .cons (.int _) ih
section
variable{X:Cx}{E:XD}{a b:Expr}{ka:SA}{p p2 pos pos2:Pos}
theorem aem(hr:HRep K ι H h)(hq:H q=none)(c:(hi-lo).toNat<=LINE)(b:Bd lo hi)(o:out K E (xn K) ι H (.ok (.ref h.length) (h++[.lst (rng lo (hi-lo).toNat)])) Q) :
  ∃p lo' hi',[V.ref q]=[V.ref p]/\(upd H q (.rng lo hi)) p=some (.rng lo' hi')/\Bd lo' hi'/\(hi'-lo').toNat<=sizeLine/\∀l,(upd H q (.rng lo hi)) l=none->Q (.ref l) (upd (upd H q (.rng lo hi)) l (.lst (anm lo' (hi'-lo').toNat))) :=
 ⟨q,lo,hi,rfl,dh,b,ll c,uf (E:=E) (ahw lo _) (hr.aside hq _) (xx o (wj hq _))⟩
theorem ahx(hc:X.calm=true)(hg:Gl X "list")(hm:X.mg "list" = none)(hg2:Gl X "range")(hm2:X.mg "range" = none)(ha:MA X E [a,b] ka)(hs:starEach [a,b] X.env=[(false,eval a X.env),(false,eval b X.env)]:=by rfl)(hs2:starEach [b] X.env=[(false,eval b X.env)]:=by rfl)
  (he:starEach [.Call (.Name "range" p2) [a,b] [] pos2] X.env=(false,eval (.Call (.Name "range" p2) [a,b] [] pos2) X.env)::starEach [] X.env:=by rfl) (hpl:(backTo pos (starEach [] X.env)).any (·.1)=false:=by rfl) :
  ME X E (.Call (.Name "list" p) [.Call (.Name "range" p2) [a,b] [] pos2] [] pos) (sA a7l ka):=by
 refine PE.weak (a3a (a1s hc) hg hm a8o (a06 (aek hg2 hm2 ha hs hs2) a4k he) (by decide) (by decide) he hpl) ?_
 rintro σ H Q ⟨ι,τ,h,S,Rh,o⟩
 refine⟨ι,τ,h,S,Rh,bh o λds h1 ι1 H1 vs g1 r1 hr1 o1=>?_⟩;unfold a7l at o1
 split at o1
 ·split at o1
  ·rename_i i j hb
   cases r1 with
   |cons r rs =>
    cases r
    cases rs with
    |cons r rs =>
     cases r;cases rs
     exact⟨i,j,rfl,λq hq=>aem hr1 hq hb.2 ⟨hb.1.1.1,hb.1.1.2,hb.1.2.1,hb.1.2.2⟩ o1⟩
  ·exact o1.elim
 ·exact o1.elim
theorem ahy(hc:X.calm=true)(hg:Gl X "list")(hm:X.mg "list" = none)(hg2:Gl X "range")(hm2:X.mg "range" = none)(ha:MA X E [a] ka)(hs:starEach [a] X.env=[(false,eval a X.env)]:=by rfl)
  (he:starEach [.Call (.Name "range" p2) [a] [] pos2] X.env=(false,eval (.Call (.Name "range" p2) [a] [] pos2) X.env)::starEach [] X.env:=by rfl) (hpl:(backTo pos (starEach [] X.env)).any (·.1)=false:=by rfl) :
  ME X E (.Call (.Name "list" p) [.Call (.Name "range" p2) [a] [] pos2] [] pos) (sA a7m ka):=by
 refine PE.weak (a3a (a1s hc) hg hm a8o (a06 (ael hg2 hm2 ha hs) a4k he) (by decide) (by decide) he hpl) ?_
 rintro σ H Q ⟨ι,τ,h,S,Rh,o⟩
 refine⟨ι,τ,h,S,Rh,bh o λds h1 ι1 H1 vs g1 r1 hr1 o1=>?_⟩;unfold a7m at o1
 split at o1
 ·split at o1
  ·rename_i j hb
   cases r1 with
   |cons r rs =>
    cases r;cases rs
    exact⟨j,rfl,λq hq=>aem hr1 hq (by rw[Int.sub_zero];exact hb.2) ⟨by decide,by decide,hb.1.1,hb.1.2⟩ (by rw[Int.sub_zero];exact o1)⟩
  ·exact o1.elim
 ·exact o1.elim
end
def azm(lo:Int)(n:Nat):List D:=(List.range n).map λi=>D.int (lo-(i:Nat))
def asl(ds:List D)(h:Hd):R Itm:=match ds with
 |[.int i,.int j,.int k]=>if k = -1/\B62 i/\B62 j then .ok ⟨azm i (i-j).toNat,λ_=>True⟩ h else .no
 |_=>.no
theorem ano:bootBuiltins "dict" = some (.type "dict"):=by decide +kernel
theorem aq{α β:Type}(a:α)(h:Hd)(k:α->Hd->R β):(R.ok a h).bind k=k a h:=rfl
theorem vo{α:Type}(a:α)(h:Hd)(k:α->Hd->Fl):(R.ok a h).fl k=k a h:=rfl
def thn(r:Fl)(g:SS):Fl:=match r with|.nx τ h=>g τ h|r=>r
theorem jz(f g:SS)(τ:Sd)(h:Hd):di f g τ h=thn (f τ h) g:=by unfold di thn;cases f τ h<;>rfl
theorem ql(τ:Sd)(h:Hd)(g:SS):thn (.nx τ h) g=g τ h:=rfl
theorem aa3(d:D)(h:Hd)(g:SS):thn (.rt d h) g=.rt d h:=rfl
def toR(r:Fl):R D:=match r with|.rt d h1=>.ok d h1|.nx _ h1=>.ok .non h1|.ex c h1=>.ex c h1|_=>.no
theorem dm(b:SS)(n:Nat)(ds:List D)(h:Hd):qt b n ds h=toR (b (a0t n ds) h):=by unfold qt toR;cases b (a0t n ds) h<;>rfl
theorem a3r(d:D)(h:Hd):toR (.rt d h)=.ok d h:=rfl
theorem aa4(τ:Sd)(h:Hd):toR (.nx τ h)=.ok .non h:=rfl
theorem vp:∀{xs:List D},clos n xs↔∀x∈xs,clo n x
 |[]=>by simp[clos]
 |x::xs=>by simp[clos,vp (xs:=xs)]
theorem bf(i:Int):clo n (.int i):=by simp[clo]
theorem a1b(i:Str):clo n (.str i):=by simp[clo]
theorem wu(i:Bool):clo n (.bl i):=by simp[clo]
theorem kh:clos n []:=by simp[clos]
theorem bz(a:clo n x)(b:clos n xs):clos n (x::xs):=by simp only[clos];exact⟨a,b⟩
theorem du(h:clos n xs):clo n (.tup xs):=by simpa[clo] using h
theorem j7(h:clos n xs):clo n (.rol xs):=by simpa[clo] using h
theorem bc{α:Type}{n:Nat}{f:α->D}{l:List α}(h:∀a∈l,clo n (f a)):clos n (l.map f):=by
 rw[vp]
 intro x hx
 obtain⟨a,ha,rfl⟩:=aE.mp hx;exact h a ha
mutual
theorem aa5(hm:n<=m):∀{d:D},clo n d->clo m d
 |.non,_=>by simp[clo]
 |.bl _,_=>by simp[clo]
 |.int _,_=>by simp[clo]
 |.str _,_=>by simp[clo]
 |.ty _,_=>by simp[clo]
 |.tup xs,h=>by simp only[clo]at h ⊢;exact vf hm h
 |.rol xs,h=>by simp only[clo]at h ⊢;exact vf hm h
 |.scr xs,h=>by simp only[clo]at h ⊢;exact vf hm h
 |.rod _ xs,h=>by simp only[clo]at h ⊢;exact vf hm h
 |.rdT _ xs,h=>by simp only[clo]at h ⊢;exact vf hm h
 |.exc _,_=>by simp[clo]
 |.ins _ _ xs,h=>by simp only[clo]at h ⊢;exact vf hm h
 |.ref i,h=>by simp only[clo]at h ⊢;omega
theorem vf(hm:n<=m):∀{xs:List D},clos n xs->clos m xs
 |[],_=>by simp[clos]
 |x::xs,h=>by simp only[clos]at h ⊢;exact⟨aa5 hm h.1,vf hm h.2⟩
end
theorem vg(hm:n<=m)(h:a0g n o):a0g m o:=by
 cases o with
 |lst xs=>exact vf hm h
 |dK kvs=>exact vf hm h
 |dT kvs=>exact vf hm h
 |ins _ _=>exact vf hm h
 |dN _=>exact vf hm h
theorem a5z{α:Type}{f:α->Option α}:∀{xs:List α},(∀x∈xs,f x=some x)->v4 f xs=some xs
 |[],_=>rfl
 |x::xs,h=>by
  unfold v4;rw[h x aP,a5z λy hy=>h y (ai _ hy)]
theorem a2t(c:clo n d):a01 n h (k+1) d=some d:=by unfold a01;rw[aQ c]
theorem ahz(c:a0g n o):as9 n h k o=some o:=by unfold as9;rw[aQ c]
theorem a65{n k i:Nat}{h:Hd}{xs:List D}(hi:n<=i)(e:h[i]? = some (.lst xs))(c:clos n xs):a01 n h (k+2) (.ref i)=some (.rol xs):=by
 unfold a01;rw[bg (by simp only[clo];omega)]
 simp only[e];rw[a5z λx hx=>a2t (vp.mp c x hx)];rfl
theorem ai0(e:v4 (a01 n h k) xs=some ys)(nc:¬ clos n xs):a01 n h (k+1) (.tup xs)=some (.tup ys):=by
 unfold a01;rw[bg (by simpa only[clo] using nc)]
 simp only[e,cB]
theorem a0c{α β:Type}{f:α->Option β}{x:α}{y:β}{xs:List α}{ys:List β}(h:f x=some y)(t:v4 f xs=some ys):v4 f (x::xs)=some (y::ys):=by unfold v4;rw[h,t]
theorem a3s{n:Nat}{d d':D}{h1:Hd}(e:a01 n h1 FU d=some d')(c:∀o∈h1.take n,a0g n o):ab8 n (.ok d h1)=.ok d' (h1.take n):=by
 unfold ab8;simp only[e];rw[a5z λo ho=>ahz (c o ho)]
theorem j5{h1:Hd}(e:clo n d)(c:∀o∈h1.take n,a0g n o):ab8 n (.ok d h1)=.ok d (h1.take n):=a3s (a2t e) c
theorem a2u(hi:n<=i)(e:h1[i]? = some (.lst xs))(cx:clos n xs)(c:∀o∈h1.take n,a0g n o):ab8 n (.ok (.ref i) h1)=.ok (.rol xs) (h1.take n):=a3s (a65 hi e cx) c
theorem yj(e:f τ h=.ok (.ref h.length) (h++[.lst xs]))(cx:clos h.length xs)(c:∀o∈h,a0g h.length o):sZ f τ h=.ok (.rol xs) h:=by
 unfold sZ;rw[e,a2u (ah _) (by simp) cx (by simpa using c)]
 simp
def Pu(F:SF)(n:Nat)(ds:List D)(d:D):Prop:=∀h,j6 false n F ds h=.ok d h
def Dr(F:SF)(n:Nat)(ds:List D)(o:O)(d:D)(o':O):Prop:=∀p h,h[p]? = some o->j6 false n F (.ref p::ds) h=.ok d (h.set p o')
theorem a2v:∀{ds:List D},(∀d∈ds,clo 0 d)->a0z ds=[]/\a0a 0 ds=ds/\∀k,a0a k ds=ds
 |[],_=>⟨rfl,rfl,λ_=>rfl⟩
 |d::ds,h=>by
  obtain⟨a,b,c⟩:=a2v (ds:=ds) λx hx=>h x (ai _ hx);have hd:=h d aP;have nr:refOf d=none:=by cases d<;>first|rfl|(simp only[clo]at hd;omega)
  refine⟨?_,?_,λk=>?_⟩
  ·simpa[a0z,nr] using a
  ·cases d<;>first|(simp only[clo]at hd;omega)|(simp only[a0a,b])
  ·cases d<;>first|(simp only[clo]at hd;omega)|(simp only[a0a,c])
theorem Pu.of{ds:List D}(hn:ds.length=n)(cd:∀x∈ds,clo 0 x)(e:F ds []=r)(z:ab8 0 r=.ok d [])(c:clo 0 d):Pu F n ds d:=λh=>by
 obtain⟨p1,p2,_⟩:=a2v cd;unfold j6;rw[aQ hn];unfold asb;rw[p1];simp only[v4,bH,bA,cM];rw[aQ ⟨cG,λx hx=>.inl (cd x hx),λo ho=>by simp at ho⟩,p2,e,z]
 simp[c,uc]
theorem Dr.of{ds:List D}(hn:ds.length+1=n)(cd:∀x∈ds,clo 0 x)(co:a0g 0 o)(e:F (.ref 0::ds) [o]=r)(z:ab8 1 r=.ok d [o'])(c:clo 0 d)(co':a0g 0 o'):Dr F n ds o d o':=λp h hp=>by
 obtain⟨p1,_,p3⟩:=a2v cd;have e1:a0z (.ref p::ds)=[p]:=by
  have:a0z (.ref p::ds)=p::a0z ds:=rfl
  rw[this,p1]
 have e2:a0a 0 (.ref p::ds)=.ref 0::ds:=by
  have:a0a 0 (.ref p::ds)=.ref 0::a0a 1 ds:=rfl
  rw[this,p3]
 unfold j6;rw[aQ (by simpa using hn)]
 unfold asb;rw[e1];simp only[v4,hp,aM,bA,cM];have all:∀x∈(D.ref p::ds),clo 0 x\/isRef x:=λx hx=>by
  rcases ay.mp hx with rfl|hx
  ·exact .inr ⟨p,rfl⟩
  ·exact .inl (cd x hx)
 rw[aQ ⟨by simp,all,λu hu=>by rw[aI.mp hu];exact co⟩,e2,e,z]
 simp[c,co',uc]
theorem asm{ds:List D}(hn:ds.length=n)(cd:∀x∈ds,clo 0 x)(e:F ds []=.ok (.ref i) h1)(ho:h1[i]? = some o)(co:a0g 0 o)(h:Hd):j6 true n F ds h=.ok (.ref h.length) (h++[o]):=by
 obtain⟨p1,p2,_⟩:=a2v cd;unfold j6;rw[aQ hn];unfold asb;rw[p1];simp only[v4,bH,cQ];rw[aQ ⟨cG,λx hx=>.inl (cd x hx),λo ho=>by simp at ho⟩,p2,e]
 unfold ap0;simp only[ho];rw[aQ ⟨bU _,co,by simp⟩]
 simp[co,uc]
theorem ai1(g:SG)(b:SS)(τ:Sd)(h:Hd):forL (λ_=>True) g b [] τ h=.nx τ h:=by rw[forL,aQ True.intro]
def trn(r:Fl)(k:Sd->Hd->Fl):Fl:=match r with|.nx τ h=>k τ h|.ct τ h=>k τ h|.bk τ h=>.nx τ h|r=>r
theorem aen(g:SG)(b:SS)(x:D)(xs:List D)(τ τ1:Sd)(h h1:Hd)(e:g x τ h=.nx τ1 h1):forL (λ_=>True) g b (x::xs) τ h=trn (b τ1 h1) (forL (λ_=>True) g b xs):=by
 rw[forL,aQ True.intro,e];dsimp only;unfold trn
 cases b τ1 h1<;>rfl
theorem asn(τ:Sd)(h:Hd)(k:Sd->Hd->Fl):trn (.nx τ h) k=k τ h:=rfl
theorem aso(d:D)(h:Hd)(k:Sd->Hd->Fl):trn (.rt d h) k=.rt d h:=rfl
theorem a66{g:SG}{b:SS}{α:Type}(f:α->D)(I:List α->Sd->Hd->Prop)(Rt:D->Hd->Prop):∀(xs pre:List α) (τ:Sd) (h:Hd),
  (∀pre' x post τ h,pre++xs=pre'++x::post->I pre' τ h->∃τ1 h1,g (f x) τ h=.nx τ1 h1/\((∃τ2 h2,b τ1 h1=.nx τ2 h2/\I (pre'++[x]) τ2 h2)\/∃d h2,b τ1 h1=.rt d h2/\Rt d h2))->I pre τ h->
  (∃τ' h',forL (λ_=>True) g b (xs.map f) τ h=.nx τ' h'/\I (pre++xs) τ' h')\/∃d h',forL (λ_=>True) g b (xs.map f) τ h=.rt d h'/\Rt d h'
 |[],pre,τ,h,_,i0=>.inl ⟨τ,h,ai1 ..,by simpa using i0⟩
 |x::xs,pre,τ,h,st,i0=>by
  obtain⟨τ1,h1,e1,q⟩:=st pre x xs τ h rfl i0;rw[aK,aen _ _ _ _ _ _ _ _ e1]
  rcases q with⟨τ2,h2,e2,i2⟩|⟨d,h2,e2,r⟩
  ·rw[e2,asn];have:=a66 f I Rt xs (pre++[x]) τ2 h2 (λpre' y post τ h e=>st pre' y post τ h (by simpa using e)) i2
   simpa using this
  ·rw[e2,aso];exact .inr ⟨d,h2,rfl,r⟩
theorem um{g:SG}{b:SS}{α:Type}(f:α->D)(I:List α->Sd->Hd->Prop)(xs:List α)(τ:Sd)(h:Hd)
  (st:∀pre x post τ h,xs=pre++x::post->I pre τ h->∃τ1 h1,g (f x) τ h=.nx τ1 h1/\∃τ2 h2,b τ1 h1=.nx τ2 h2/\I (pre++[x]) τ2 h2) (i0:I [] τ h) :
  ∃τ' h',forL (λ_=>True) g b (xs.map f) τ h=.nx τ' h'/\I xs τ' h':=by
 rcases a66 f I (λ_ _=>False) xs [] τ h (λpre' x post τ h e i=>let ⟨τ1,h1,a,b⟩:=st pre' x post τ h e i; ⟨τ1,h1,a,.inl b⟩) i0 with⟨τ',h',a,b⟩|⟨_,_,_,z⟩
 ·exact⟨τ',h',a,b⟩
 ·exact z.elim
theorem a7n{f:D->Hd->R D}{α:Type}(g F:α->D){h:Hd}:∀{xs:List α},(∀x∈xs,f (g x) h=.ok (F x) h)->mapR (λ_=>True) f (xs.map g) h=.ok (xs.map F) h
 |[],_=>by rw[bO,mapR,aQ True.intro];rfl
 |x::xs,st=>by
  rw[aK,mapR,aQ True.intro,st x aP];show(mapR _ f (xs.map g) h).bind _=_;rw[a7n g F λy hy=>st y (ai _ hy)];rfl
theorem abe(I:Nat->Sd->Hd->Prop)(N:Sd->Hd->Prop)(Rt:D->Hd->Prop)
  (st:∀m τ h,I m τ h->(∃h1,c τ h=.ok false h1/\N τ h1)\/∃h1,c τ h=.ok true h1/\((∃τ2 h2 m',f τ h1=.nx τ2 h2/\m'<m/\I m' τ2 h2)\/∃d h2,f τ h1=.rt d h2/\Rt d h2)) :
  ∀(m n:Nat) (τ:Sd) (h:Hd),m<n->I m τ h->(∃τ' h',sWh c f n τ h=.nx τ' h'/\N τ' h')\/∃d h',sWh c f n τ h=.rt d h'/\Rt d h':=by
 intro m
 induction m using Nat.strongRecOn with
 |ind m ih =>
  intro n τ h hn i0
  cases n with
  |zero=>omega
  |succ n =>
   rcases st m τ h i0 with⟨h1,e1,q⟩|⟨h1,e1,q⟩
   ·exact .inl ⟨τ,h1,by rw[sWh,e1];rfl,q⟩
   ·rcases q with⟨τ2,h2,m',e2,lt,i2⟩|⟨d,h2,e2,r⟩
    ·have e3:sWh c f (n+1) τ h=sWh c f n τ2 h2:=by
      rw[sWh,e1,vo,aQ rfl,e2]
     rw[e3];exact ih m' lt n τ2 h2 (by omega) i2
    ·refine .inr ⟨d,h2,?_,r⟩;rw[sWh,e1,vo,aQ rfl,e2]
end MI
namespace HND
open L2 MI
noncomputable def a0k:SS :=
 (a04 (sA a1h (aj (sZ (sA a1o (aj (sZ (agd (sV 0) oN (oS (sI 63)))) bj))) (aj (sI 0) (aj (sI 0) (aj (sI 7) (aj (sI 0) bj)))))))
noncomputable def a0l:SS :=
 (di (sIf (sT (s2 gLt (sV 1) (sI 2)))
 (a04 (sI 0))
 sNx)
 (di (sIf (abx (sT (s2 hEq (s2 gIx (sV 0) (sI 2)) (sI 0))) (sT (s2 gLt (s2 gIx (sV 0) (sI 1)) (sA jx (aj (s2 gIx (sV 0) (sI 0)) bj)))))
 (di (j4 2 (s2 gIx (s2 gIx (sV 0) (sI 0)) (s2 gIx (sV 0) (sI 1))))
 (di (a8u a2j (sV 0) (sI 1) (sI 1))
 (di (a7e (s2 aby (s2 lq (s2 a0o (s2 gIx (sV 0) (sI 3)) (sI 48271)) (sV 2)) (sI 2147483647)) (sV 0) (sI 3))
 (sIf (sT (s2 gGe (sA as4 (aj (sV 2) bj)) (s2 adq (sI 10) (sI 18))))
 (a7e (sA as4 (aj (sV 2) bj)) (sV 0) (sI 2))
 sNx))))
 sNx)
 (di (sIf (sT (s2 gGt (s2 gIx (sV 0) (sI 2)) (sI 0)))
 (di (j4 3 (s2 aby (s2 gIx (sV 0) (sI 2)) (sV 1)))
 (di (a7e (s2 ab6 (s2 gIx (sV 0) (sI 2)) (sV 1)) (sV 0) (sI 2))
 (a04 (sV 3))))
 sNx)
 (di (a8u a2j (sV 0) (sI 4) (sI 1))
 (a04 (s2 aby (s2 ab6 (s2 aby (s2 adq (s2 lq (s2 gIx (sV 0) (sI 3)) (s2 a0o (sI 7368787) (s2 gIx (sV 0) (sI 4)))) (sI 5)) (sI 2147483647)) (sI 1009)) (sV 1)))))))
noncomputable def zm:SS :=
 (di (j4 0 (sC (.str " !\"#$&'()*+,-./0123456789:;<=>?@ABCDEFGHIJKLMNOPQRSTUVWXYZ[\\]^_`")))
 (a04 (s2 lq (sV 0) (sC (.str "abcdefghijklmnopqrstuvwxyz{|}~\n")))))
noncomputable def m5(iu:SF)(aa:SF):SS :=
 (di (j4 4 (sA (j6 false 2 aa) (aj (sV 0) (aj (sA jx (aj (sV 1) bj)) bj))))
 (di (j4 2 (s2 lq (sV 2) (s2 gIx (sV 1) (sV 4))))
 (j4 1 (s2 lq (agd (sV 1) oN (oS (sV 4))) (agd (sV 1) (oS (s2 lq (sV 4) (sI 1))) oN)))))
noncomputable def ye(iu:SF)(aa:SF):SS :=
 (di (j4 1 (sA (j6 false 0 iu) bj))
 (di (j4 2 (sC (.str "")))
 (di (a6p (sRg a09 (aj (s2 lq (sI 1) (sA (j6 false 2 aa) (aj (sV 0) (aj (sI 6) bj)))) bj)) (kN 3) (m5 iu aa))
 (a04 (sV 2)))))
noncomputable def vq(aa:SF):SE :=
 (sA a2i (aj (sI 0) (aj (sV 0) bj)))
noncomputable def vy(aa:SF):SE :=
 (sA a2i (aj (sV 1) (aj (sV 0) bj)))
noncomputable def qz(aa:SF):SS :=
 (di (j4 7 (s2 a6r (s2 a6r (sA jx (aj (sV 4) bj)) (sI 1)) (sA (j6 false 2 aa) (aj (sV 0) (aj (sV 1) bj)))))
 (di (sIf (sT (s2 hEq (sV 3) (sI 0)))
 (j4 7 (sA (j6 false 2 aa) (aj (sV 0) (aj (sA jx (aj (sV 4) bj)) bj))))
 sNx)
 (di (a8q (sML a1n (sV 4) (aj (sV 7) bj)) (a4q 2 (jw (kN 8) (jw (kN 9) a5s))))
 (di (a7e (sV 6) (s2 gIx (sV 5) (sV 8)) (sV 9))
 (di (vm (sML a2a (sV 5) (aj (s2 a0o (sZ (sA a1h (aj (sI 0) bj))) (sV 1)) bj)))
 (vm (sML aeb (sV 4) (aj (sZ (jo (sRg a09 (aj (sV 1) bj)) t1 (vy aa) [6])) bj))))))))
noncomputable def rm(aa:SF):SS :=
 (a7e (sA (j6 false 2 aa) (aj (sV 0) (aj (sV 2) bj))) (s2 gIx (sV 5) (sV 8)) (sV 9))
noncomputable def yx(aa:SF):SS :=
 (di (j4 3 (sA (j6 false 2 aa) (aj (sV 0) (aj (sI 2) bj))))
 (di (j4 4 (jo (sRg a09 (aj (sV 1) bj)) t1 (vq aa) []))
 (di (j4 5 (sA a1h (aj (s2 a0o (sZ (sA a1h (aj (sI 0) bj))) (sV 1)) bj)))
 (di (a6p (sRg a3l (aj (sI 1) (aj (sV 2) bj))) (kN 6) (qz aa))
 (di (a6p (sIt (sV 4)) (a4q 2 (jw (kN 8) (jw (kN 9) a5s))) (rm aa))
 (a04 (sV 5)))))))
noncomputable def ou(aa:SF):SS :=
 (di (j4 5 (s2 a6r (sA (j6 false 2 aa) (aj (sV 0) (aj (sI 7) bj))) (sI 1)))
 (di (sIf (sT (s2 hEq (sV 2) (sI 1)))
 (j4 5 (s2 ab6 (sV 5) (sI 5)))
 sNx)
 (di (sIf (abx (sT (s2 hEq (sV 2) (sI 2))) (sT (s2 gGt (sA (j6 false 2 aa) (aj (sV 0) (aj (sI 3) bj))) (sI 0))))
 (j4 5 (s1 adt (sI 1)))
 sNx)
 (vm (sML a2a (sV 3) (aj (sV 5) bj))))))
noncomputable def ww(aa:SF):SS :=
 (di (j4 2 (sA (j6 false 2 aa) (aj (sV 0) (aj (sI 3) bj))))
 (di (j4 3 (sA a1h (aj (s1 adt (sI 1)) bj)))
 (di (a6p (sRg a3l (aj (sI 1) (aj (sV 1) bj))) (kN 4) (ou aa))
 (a04 (sV 3)))))
noncomputable def m9(aa:SF):ST :=
 (sT (s2 gGt (sA jx (aj (sV 3) bj)) (sI 0)))
noncomputable def j8(aa:SF):SS :=
 (vm (sML a2a (sV 4) (aj (sML a1n (sV 3) (aj (sA (j6 false 2 aa) (aj (sV 0) (aj (sA jx (aj (sV 3) bj)) bj))) bj)) bj)))
noncomputable def yz(aa:SF):SE :=
 (sA a2i bj)
noncomputable def zb(aa:SF):SE :=
 (s1 adt (sI 1))
noncomputable def ug(aa:SF):SE :=
 (s2 gIx (sV 1) (sV 0))
noncomputable def j9(aa:SF):SS :=
 (di (a7e (sA jf (aj (sZ (jo (sIt (sV 8)) t1 (ug aa) [4])) bj)) (sV 5) (s2 gIx (sV 4) (sV 7)))
 (a7e (s2 gIx (sV 2) (sV 7)) (sV 6) (s2 gIx (sV 4) (sV 7))))
noncomputable def p6(aa:SF):SS :=
 (di (j4 3 (sA a7l (aj (sI 1) (aj (sA jx (aj (sV 1) bj)) bj))))
 (di (j4 4 (sA a1h (aj (sI 0) bj)))
 (di (sWh (m9 aa) (j8 aa) 100000)
 (di (j4 5 (jo (sIt (sV 1)) t1 (yz aa) []))
 (di (j4 6 (jo (sIt (sV 1)) t1 (zb aa) []))
 (di (a6p (a1r (sV 1)) (a4q 2 (jw (kN 7) (jw (kN 8) a5s))) (j9 aa))
 (a04 (sA a2i (aj (sA jf (aj (sV 5) bj)) (aj (sA jf (aj (sV 6) bj)) bj))))))))))
end HND
namespace L2
open PyProof.Rows
def mxI:List Int->Int
 |[]=>0
 |[a]=>a
 |a::b::r=>if mxI (b::r)<=a then a else mxI (b::r)
theorem ak8:∀{l:List Int},l≠[]->mxI l∈l/\∀x∈l,x<=mxI l
 |[],h=>absurd rfl h
 |[a],_=>⟨aI.mpr rfl,λx hx=>by rw[aI.mp hx];exact Int.le_refl a⟩
 |a::b::r,_=>by
  obtain⟨i,m⟩:=ak8 (l:=b::r) (by simp)
  unfold mxI
  split
  ·rename_i h;refine⟨aP,λx hx=>?_⟩
   rcases ay.mp hx with rfl|hx
   ·exact Int.le_refl _
   ·exact Int.le_trans (m x hx) h
  ·rename_i h;refine⟨ai _ i,λx hx=>?_⟩
   rcases ay.mp hx with rfl|hx
   ·omega
   ·exact m x hx
theorem aeo(h1:k∈l)(h2:∀x∈l,x<=k):k=mxI l:=by
 obtain⟨a,b⟩:=ak8 (l:=l) (by intro z;subst z;cases h1)
 have:=b k h1
 have:=h2 _ a
 omega
section
variable{X:Cx}
theorem abf(hc:X.calm=true):CallR X (.builtin "max") (λxs H Q=>∃(p:Addr) (ns:List Int),xs=[.ref p]/\SqL X.K H p (ns.map V.int)/\ns≠[]/\Q (.int (mxI ns)) H):=by
 intro aA s σ H xs us Q I r h
 obtain⟨p,ns,rfl,hq,hn,q⟩:=h;obtain⟨u,rfl,rx⟩:=vals1 r;cases rx
 obtain⟨its,r',pl,hz⟩:=I.list hq;have hInts:IntsAre its ns:=intsAre_of r';obtain⟨prs,ep⟩:=hInts.allInts.items;have nums:prs.toList.map (·.1)=ns:=by
  rw[<-nums_intItems,<-ep];exact hInts.numsOf
 have sz:prs.size=ns.length:=by rw[<-nums,a9,cO]
 have pos:0<ns.length:=List.length_pos_iff.mpr hn;have at':∀j,j<ns.length->ns[j]? = some (numAt prs j):=λj hj=>by
  rw[<-nums,ar,dX];unfold numAt;rw[cS (by omega)]
  rfl
 refine max_intList (xs:=prs) (I.ok.hd hc) (ep ▸ pl.isList) (by omega) λv h' tk hv hk=>?_
 obtain⟨t,rfl⟩:=intItems_at hv;obtain⟨b1,b2⟩:=argBest_gt (numAt prs) (prs.size-1)
 generalize argBest (λi j=>decide (numAt prs i > numAt prs j)) (prs.size-1)=b at b1 b2
 have e:numAt prs b=mxI ns:=aeo (aN (at' b (by omega))) λx hx=>by
  obtain⟨j,hj,rfl⟩:=bW hx;have:=at' j hj;rw[a6 hj]at this;rw[bp this];exact b2 j (by omega)
 exact⟨.int (mxI ns),H,I.kept hk,⟨t,by rw[e]⟩,q⟩
end
end L2
namespace MI
open L2
def aa6(d:D)(h:Hd):Option (List Int):=match d with
 |.ref i=>(match h[i]? with|some (.lst xs)=>a0n xs|_=>none)
 |.rol xs=>a0n xs
 |_=>none
theorem aep(r:Rep K ι H v d)(hr:HRep K ι H h)(e:aa6 d h=some ns):∃p,v=.ref p/\SqL K H p (ns.map V.int):=by
 unfold aa6 at e
 split at e
 ·cases r with
  |@ref p _ hp =>
   split at e
   ·rename_i xs hx;obtain⟨vs,h3,h4⟩:=hr.lst hp hx;exact⟨p,rfl,SqL.of (by rw[h3,a0h h4 e])⟩
   ·cases e
 ·cases r with
  |@rol p vs xs hp r=>exact⟨p,rfl,by rw[<-a0h r e];exact hp.l⟩
 ·cases e
def a7o:List D->Hd->R D
 |[d],h=>(match aa6 d h with|some (n::ns)=>.ok (.int (mxI (n::ns))) h|_=>.no)
 |_,_=>.no
theorem ai2:ab3 K a7o (λxs H Q=>∃(p:Addr) (ns:List Int),xs=[.ref p]/\SqL K H p (ns.map V.int)/\ns≠[]/\Q (.int (mxI ns)) H):=by
 intro E ι H h xs ds Q r hr o
 unfold a7o at o
 split at o
 ·cases r with
  |cons r rs =>
   cases rs
   split at o
   ·rename_i n ns e;obtain⟨p,rfl,q⟩:=aep r hr e;exact⟨p,n::ns,rfl,q,by simp,ans o (.int _) hr⟩
   ·exact o.elim
 ·exact o.elim
theorem asp(ne:xs≠[]):a7o [.rol (xs.map D.int)] h=.ok (.int (mxI xs)) h:=by
 have e:∀l:List Int,a0n (l.map D.int)=some l:=λl=>by
  induction l with
  |nil=>rfl
  |cons a l ih=>rw[aK];simp only[a0n,ih,cB]
 unfold a7o aa6;simp only[e]
 cases xs with
 |nil=>exact absurd rfl ne
 |cons n ns=>rfl
end MI
namespace L2
open PyProof.Rows
def ixI(n:Int):List Int->Option Nat
 |[]=>none
 |a::l=>if a=n then some 0 else (ixI n l).map (·+1)
theorem ak9:∀{l:List Int} {j:Nat},ixI n l=some j->l[j]? = some n/\∀i,i<j->l[i]?≠some n
 |[],_,h=>by cases h
 |a::l,j,h=>by
  unfold ixI at h
  split at h
  ·rename_i e;cases h
   exact⟨by rw[e];rfl,λi hi=>absurd hi (gX i)⟩
  ·rename_i e;obtain⟨k,hk,rfl⟩:=aL.mp h;obtain⟨h1,h2⟩:=ak9 hk;refine⟨h1,λi hi=>?_⟩
   cases i with
   |zero=>intro z;exact e (bp z)
   |succ i=>exact h2 i (Nat.lt_of_succ_lt_succ hi)
def eqI(n:Int):Value->Bool
 |.int a _=>a == n
 |_=>false
end L2
namespace MI
open L2
structure KD (P:Program) (w:World) (K:Fg) (a:Addr) (kvs:List (Str×Str)):Prop where
 sys:(a == sysModules)=false
 ex:∃(o:Obj) (vs:List (Key×Value)),K.lookup a=some o/\KV (kvs.map λp=>((.inr p.1:Key),V.str p.2)) vs/\∀h:Heap,h.get? a=some o->h.DictOf (ju P w) a vs
section
variable{X:Cx}{E:XD}{e:Expr}{fa:SE}{pos p:Pos}{a:Addr}{kvs:List (Str×Str)}{x:Str}
theorem KD.at(kd:KD X.prog X.w X.K a kvs)(I:Inv X aA σ H s):∃vs,KV (kvs.map λp=>((.inr p.1:Key),V.str p.2)) vs/\s.heap.DictOf (ju X.prog X.w) a vs:=by
 obtain⟨o,vs,l,r,d⟩:=kd.ex;exact⟨vs,r,d _ (I.bk _ _ (I.mod.kin _ _ l))⟩
end
mutual
def toPy:D->Option PyData
 |.non=>some .none
 |.bl b=>some (.bool b)
 |.int i=>some (.int i)
 |.str x=>some (.str x)
 |.tup xs=>(anp xs).map .tuple
 |.rol xs=>(anp xs).map .list
 |.rod [] []=>some (.dict [])
 |_=>none
def anp:List D->Option (List PyData)
 |[]=>some []
 |x::xs=>match toPy x,anp xs with|some p,some ps=>some (p::ps)|_,_=>none
end
mutual
def noL:D->Bool
 |.rol _=>false
 |.tup xs=>ayd xs
 |_=>true
def ayd:List D->Bool
 |[]=>true
 |x::xs=>noL x && ayd xs
end
theorem a7p:CallR X (.builtin "isinstance") (λxs H Q=>∃a o us T b,xs=[.ref a,.ty T]/\H a=some (.frz o (.dK us))/\PySem.W.kitOne X.K (.type "dict") (.type T)=some b/\Q (.bl b) H):=by
 intro aA s σ H xs us Q I r h
 obtain⟨a,o,kv,T,b,rfl,ea,e,q⟩:=h;obtain⟨u,w',rfl,rx,rt⟩:=vals2 r;cases rt
 obtain rfl:u=Value.ref a:=rx
 obtain⟨_,_,_,vs,_,p⟩:=(show ObjOk X.prog X.w H s.heap a (.frz o (.dK kv)) from I.hok a _ ea)
 obtain⟨o',es,ep,h1,h2,_⟩:=p;exact cb gB I.kIn ⟨o',h1,h2.1⟩ e (λz=>nomatch z) λtk=>⟨.bl b,H,I.tok tk,rfl,q⟩
def a02:List D->Hd->R D
 |[.rod ks xs,.ty T],h=>(match agb "dict" T with|some b=>.ok (.bl b) h|none=>.no)
 |ds,h=>ajy ds h
theorem ai3:ab3 K a02 (λxs H Q=>(∃x T t b,xs=[x,.ty T]/\TyOf K H x t/\PySem.W.kitOne K t (.type T)=some b/\Q (.bl b) H)\/∃a o us T b,xs=[.ref a,.ty T]/\H a=some (.frz o (.dK us))/\PySem.W.kitOne K (.type "dict") (.type T)=some b/\Q (.bl b) H):=by
 intro E ι H h xs ds Q r hr o
 unfold a02 at o
 split at o
 ·split at o
  ·rename_i b hb
   cases r with
   |cons r1 rs =>
    cases rs with
    |cons r2 rs2 =>
     cases rs2
     cases r2
     cases r1 with
     |rod hp ek rr=>exact .inr ⟨_,_,_,_,b,rfl,hp,adw hb,ans o (.bl _) hr⟩
  ·exact o.elim
 ·exact .inl (amv E ι H h xs _ Q r hr o)
end MI
namespace L2
open PySem.W PyProof.Rows Builtin Builtin.ObjectAttr Builtin.Getset_descriptor
section
variable{prog:Program}{w:World}{A:Around}{E:Value->Shared->Prop}{s:Shared}{K:Frag}{x D:Addr}{ox:Obj}{odo:Option Obj}
structure XKit (K:Frag) (D:Addr):Prop where
 ga:findIn K (.ref D) "__getattribute__" = some (some (.builtin "BaseException.__getattribute__"))
 gn:findIn K (.ref D) "__getattr__" = some none
 cl:(clsIn K D).isSome=true
 ca:findIn K (.ref D) "__class__" = some (some (.builtin "object.__class__"))
 sp:specialIn K (.builtin "object.__class__") "__get__" = some (some (.builtin "getset_descriptor.__get__"))
 tk:takesIn K (.builtin "object.__class__")=some true
 ob:mroIn K D (.type "object")=some true
 be:subIn K (.ref D) (.type "BaseException")=some true
 kc:kitCls K (.ref D) (.ref D)=some true
end
end L2
namespace AT
open L2
theorem ai4{α:Type}(x0:α)(xs:List α):atI (x0::xs) 0=some x0:=qx (j:=0) rfl
theorem ai5{α:Type}(x0 x1:α)(xs:List α):atI (x0::x1::xs) 1=some x1:=qx (j:=1) rfl
theorem ai6{α:Type}(x0 x1 x2:α)(xs:List α):atI (x0::x1::x2::xs) 2=some x2:=qx (j:=2) rfl
theorem ai7{α:Type}(x0 x1 x2 x3:α)(xs:List α):atI (x0::x1::x2::x3::xs) 3=some x3:=qx (j:=3) rfl
theorem ai8{α:Type}(x0 x1 x2 x3 x4:α)(xs:List α):atI (x0::x1::x2::x3::x4::xs) 4=some x4:=qx (j:=4) rfl
theorem ai9{α:Type}(x0 x1 x2 x3 x4 x5:α)(xs:List α):atI (x0::x1::x2::x3::x4::x5::xs) 5=some x5:=qx (j:=5) rfl
theorem aia{α:Type}(x0 x1 x2 x3 x4 x5 x6:α)(xs:List α):atI (x0::x1::x2::x3::x4::x5::x6::xs) 6=some x6:=qx (j:=6) rfl
theorem aib{α:Type}(x0 x1 x2 x3 x4 x5 x6 x7:α)(xs:List α):atI (x0::x1::x2::x3::x4::x5::x6::x7::xs) 7=some x7:=qx (j:=7) rfl
theorem x10:ixN 1 0=some 0:=rfl
theorem x20:ixN 2 0=some 0:=rfl
theorem x21:ixN 2 1=some 1:=rfl
theorem x30:ixN 3 0=some 0:=rfl
theorem x31:ixN 3 1=some 1:=rfl
theorem x32:ixN 3 2=some 2:=rfl
theorem x40:ixN 4 0=some 0:=rfl
theorem x41:ixN 4 1=some 1:=rfl
theorem x42:ixN 4 2=some 2:=rfl
theorem x43:ixN 4 3=some 3:=rfl
theorem x50:ixN 5 0=some 0:=rfl
theorem x51:ixN 5 1=some 1:=rfl
theorem x52:ixN 5 2=some 2:=rfl
theorem x53:ixN 5 3=some 3:=rfl
theorem x54:ixN 5 4=some 4:=rfl
theorem x60:ixN 6 0=some 0:=rfl
theorem x61:ixN 6 1=some 1:=rfl
theorem x62:ixN 6 2=some 2:=rfl
theorem x63:ixN 6 3=some 3:=rfl
theorem x64:ixN 6 4=some 4:=rfl
theorem x65:ixN 6 5=some 5:=rfl
theorem x70:ixN 7 0=some 0:=rfl
theorem x71:ixN 7 1=some 1:=rfl
theorem x72:ixN 7 2=some 2:=rfl
theorem x73:ixN 7 3=some 3:=rfl
theorem x74:ixN 7 4=some 4:=rfl
theorem x75:ixN 7 5=some 5:=rfl
theorem x76:ixN 7 6=some 6:=rfl
def aka(x:Int):Int:=if x<0 then -x else x
theorem aic(x:Int)(h:MI.Hd):MI.as4 [.int x] h=.ok (.int (aka x)) h:=rfl
theorem p18(h:MI.Hd):MI.adq (.int 10) (.int 18) h=.ok (.int 1000000000000000000) h:=by rw[MI.adq,aQ (by decide)];rfl
theorem awx{i:Int}(c:0<=j/\j<=1000000/\i.natAbs<2^64):MI.adq (.int i) (.int j) h=.ok (.int (i^j.toNat)) h:=by rw[MI.adq,aQ c]
end AT
namespace MI
open L2 SeqAt
def aye(neg:Bool)(K:Fg):R2:=λx y H Q=>∃(ι:List Addr) (p q:Addr) (vs us:List V) (xs ys:List D),x=.ref p/\y=.ref q/\Rd H p (.lst vs)/\Rd H q (.lst us)/\Reps K ι H vs xs/\Reps K ι H us ys/\xs.all (pur 59)=true/\ys.all (pur 59)=true/\Q (.bl (if neg then !a4f xs ys else a4f xs ys)) H
theorem aid(I:Inv X aA σ H s)(hu:X.A.units+64<cLine)(h1:Rd H p (.lst vs))(h2:Rd H q (.lst us))(rs:Reps X.K ι H vs xs)(qs:Reps X.K ι H us ys)(p1:xs.all (pur 59)=true)(p2:ys.all (pur 59)=true) :
  RcAt X.A s (.ref p) (.ref q) (a4f xs ys)/\RcNeAt X.A s (.ref p) (.ref q) (!a4f xs ys):=by
 obtain⟨its,r1,pl1,z1⟩:=I.list (.inl h1);obtain⟨its2,r2,pl2,z2⟩:=I.list (.inl h2);have l1:its.toArray.size=xs.length:=by rw[aJ,<-r1.length,rs.len]
 have l2:its2.toArray.size=ys.length:=by rw[aJ,<-r2.length,qs.len]
 by_cases hl:xs.length=ys.length
 ·have step:∀j (h1:j<its.toArray.size) (h2:j<its2.toArray.size),EqAt X.A.in1 s its.toArray[j] its2.toArray[j] (pairE xs ys j):=λj h1 h2=>by
   have j1:j<xs.length:=by omega
   have j2:j<ys.length:=by omega
   obtain⟨v1,e1,q1⟩:=rs.get (a6 j1);obtain⟨v2,e2,q2⟩:=qs.get (a6 j2);obtain⟨u1,e3,q3⟩:=r1.get e1;obtain⟨u2,e4,q4⟩:=r2.get e2;have f1:its.toArray[j]=u1:=by simpa using (a7.mp e3).2
   have f2:its2.toArray[j]=u2:=by simpa using (a7.mp e4).2
   have pe:pairE xs ys j=eqD xs[j] ys[j]:=by simp[pairE,a6 j1,a6 j2]
   rw[f1,f2,pe];rw[bQ]at p1 p2;exact ak0 I.hok 59 X.A.in1 q1 q2 q3 q4 (p1 _ (br j1)) (p2 _ (br j2)) (by rw[gP];omega)
  have c1:=RcAt.lists (A:=X.A) (s:=s) (e:=pairE xs ys) pl1.isList pl2.isList (by omega) (by omega) step
  have c2:=RcNeAt.lists (A:=X.A) (s:=s) (e:=pairE xs ys) pl1.isList pl2.isList (by omega) (by omega) step
  have ea:=a1p xs ys;rw[hl,fZ,cD,Bool.and_true,<-hl]at ea;rw[l1,ea]at c1 c2;exact⟨c1,c2⟩
 ·have ne:(its.toArray.size != its2.toArray.size)=true:=by rw[l1,l2];simpa using hl
  have ea:=a1p xs ys;rw[bT.mpr hl,hE]at ea;rw[<-ea];exact⟨RcAt.lists_lengths pl1.isList pl2.isList ne (by omega),RcNeAt.lists_lengths pl1.isList pl2.isList ne (by omega)⟩
theorem asq{X:Cx}(hu:X.A.units+64<cLine):OpR X (compareOp .Eq) (aye false X.K):=by
 intro aA s σ H x y v u Q I rx ry h
 obtain⟨ι,p,q,vs,us,xs,ys,rfl,rfl,h1,h2,r1,r2,p1,p2,hq⟩:=h
 cases rx;cases ry
 exact(aid I hu h1 h2 r1 r2 p1 p2).1 X.prog X.w X.xe _ ⟨.bl _,H,I,rfl,hq⟩
def av9(neg:Bool)(x y:D)(h:Hd):R D:=match yh x h,yh y h with
 |some xs,some ys=>if xs.all (pur 59)=true/\ys.all (pur 59)=true then .ok (.bl (if neg then !a4f xs ys else a4f xs ys)) h else .no
 |_,_=>.no
theorem anq(neg:Bool):a0m K (av9 neg) (aye neg K):=by
 intro E ι H h x y dx dy Q rx ry hr o
 unfold av9 at o
 split at o
 ·rename_i xs ys e1 e2
  split at o
  ·rename_i hc;obtain⟨a,vs,rfl,h1,r1⟩:=a0j rx hr e1;obtain⟨b,us,rfl,h2,r2⟩:=a0j ry hr e2;exact⟨ι,a,b,vs,us,xs,ys,rfl,rfl,h1,h2,r1,r2,hc.1,hc.2,ans o (.bl _) hr⟩
  ·exact o.elim
 ·exact o.elim
end MI
namespace SETH
def it:Nat->Nat->Nat
 |0,x=>x
 |n+1,x=>it n (5*x+1)
theorem aeq(m:Nat):∀(n x:Nat),it (n+m) x=it m (it n x)
 |0,x=>by rw[gV];rfl
 |n+1,x=>by rw[show n+1+m=(n+m)+1 by omega];exact aeq m n _
theorem akb:∀k:Nat,∃c,∀x,it (2^k) x=(4*(2^k*(2*c+1))+1)*x+2^k*(2*c+1)
 |0=>⟨0,λx=>by show 5*x+1=_;omega⟩
 |k+1=>by
  obtain⟨c,h⟩:=akb k;refine⟨2*c*(2^k*(2*c+1))+c+2^k*(2*c+1),λx=>?_⟩;have e:2^(k+1)=2^k+2^k:=by rw[Nat.pow_succ];omega
  rw[e,aeq,h,h]
  generalize 2^k=P
  grind
theorem full:∀(k x y:Nat),∃n,n<2^k/\it n x%2^k=y%2^k
 |0,x,y=>⟨0,by decide,by rw[Nat.pow_zero,Nat.mod_one,Nat.mod_one]⟩
 |k+1,x,y=>by
  obtain⟨n,hn,e⟩:=full k x y;obtain⟨c,h⟩:=akb k;have hp:0<2^k:=Nat.pow_pos (by decide)
  rw[Nat.pow_succ]
  by_cases q:it n x / 2^k%2=y / 2^k%2
  ·exact⟨n,by omega,by rw[hU,hU,e,q]⟩
  ·refine⟨n+2^k,by omega,?_⟩
   rw[aeq,h]
   generalize 2^k=P at *
   generalize it n x=z at *
   have:(4*(P*(2*c+1))+1)*z+P*(2*c+1)=(z+P)+P*2*(2*(2*c+1)*z+c):=by grind
   rw[this,Nat.add_mul_mod_self_left,hU,hU,Nat.add_mod_right,e,Nat.add_div_right _ hp]
   congr 2
   omega
def im(M:Nat):Nat->Nat->Nat
 |0,x=>x
 |n+1,x=>im M n ((x*5+1)%M)
theorem asr(M:Nat):∀(n x:Nat),im M n x%M=it n x%M
 |0,x=>rfl
 |n+1,x=>by
  show im M n _%M=it n _%M;rw[asr M n];have:∀n a b,a%M=b%M->it n a%M=it n b%M:=by
   intro n
   induction n with
   |zero=>exact λa b h=>h
   |succ n ih=>exact λa b h=>ih _ _ (by rw[Nat.add_mod,Nat.mul_mod,h,<-Nat.mul_mod,<-Nat.add_mod])
  exact this n _ _ (by rw[Nat.mod_mod,Nat.mul_comm])
theorem ass(hM:0<M):∀(n x:Nat),x<M->im M n x<M
 |0,x,h=>h
 |n+1,x,h=>ass hM n _ (Nat.mod_lt _ hM)
theorem anr(hx:x<2^k)(hy:y<2^k):∃n,n<2^k/\im (2^k) n x=y:=by
 obtain⟨n,hn,e⟩:=full k x y;refine⟨n,hn,?_⟩;rw[<-asr,Nat.mod_eq_of_lt hy,Nat.mod_eq_of_lt (ass (by omega) n x hx)]at e
 exact e
open PySem.SetTable
def ls(mask:Nat):Nat->Nat×Nat->Nat×Nat
 |0,x=>x
 |n+1,x=>ls mask n (leap mask x.1 x.2)
theorem akc(mask m:Nat):∀(n:Nat) (x:Nat×Nat),ls mask (n+m) x=ls mask m (ls mask n x)
 |0,x=>by rw[gV];rfl
 |n+1,x=>by rw[show n+1+m=(n+m)+1 by omega];exact akc mask m n _
theorem a4t(mask:Nat):∀(n:Nat) (x:Nat×Nat),(ls mask n x).2=x.2 / 32^n
 |0,x=>by rw[Nat.pow_zero,Nat.div_one];rfl
 |n+1,x=>by
  show(ls mask n _).2=_;rw[a4t mask n,Nat.pow_succ,Nat.mul_comm,<-Nat.div_div_eq_div_mul];rfl
theorem asu(mask:Nat):∀(n:Nat) (x:Nat×Nat),x.1<=mask->(ls mask n x).1<=mask
 |0,x,h=>h
 |n+1,x,h=>asu mask n _ (Nat.le_of_lt_succ (Nat.mod_lt _ (fY _)))
theorem asv(mask:Nat):∀(n i:Nat),ls mask n (i,0)=(im (mask+1) n i,0)
 |0,i=>rfl
 |n+1,i=>by
  show ls mask n (leap mask i 0)=(im (mask+1) n _,0);rw[<-asv mask n];rfl
theorem hit{mask k i p y:Nat}(hk:mask+1=2^k)(hi:i<=mask)(hp:p<2^64)(hy:y<=mask):∃m,m<mask+14/\(ls mask m (i,p)).1=y:=by
 have e:ls mask 13 (i,p)=((ls mask 13 (i,p)).1,0):=by
  refine hW rfl ?_;rw[a4t];show p / 32^13=0;exact Nat.div_eq_of_lt (by omega)
 have h13:=asu mask 13 (i,p) hi;obtain⟨n,hn,en⟩:=anr (k:=k) (x:=(ls mask 13 (i,p)).1) (y:=y) (by omega) (by omega)
 refine⟨13+n,by omega,?_⟩
 rw[akc,e,asv];show im (mask+1) n _=y;rw[hk];exact en
end SETH
namespace MI
open L2
def Bz(j:Int):Prop:=0<=j/\j<2^62
instance (j:Int):Decidable (Bz j):=by unfold Bz;exact inferInstance
end MI
namespace MI
open L2
section
variable{env:Env}{es xs ys:List Expr}{a b:Expr}{pos:Pos}
theorem abg{c}{k}:starEach (.Constant c k pos::es) env=(false,eval (.Constant c k pos) env)::starEach es env:=rfl
theorem abh{k}:starEach (.Tuple xs k pos::es) env=(false,eval (.Tuple xs k pos) env)::starEach es env:=rfl
theorem ant{o}:starEach (.UnaryOp o a pos::es) env=(false,eval (.UnaryOp o a pos) env)::starEach es env:=rfl
theorem aie{o}:starEach (.BinOp a o b pos::es) env=(false,eval (.BinOp a o b pos) env)::starEach es env:=rfl
theorem aer{ks}:starEach (.Call a xs ks pos::es) env=(false,eval (.Call a xs ks pos) env)::starEach es env:=rfl
theorem aes{x}:starEach (.Name x pos::es) env=(false,eval (.Name x pos) env)::starEach es env:=rfl
end
section
variable{env:Env}{es xs ys:List Expr}{a b:Expr}{pos:Pos}
theorem aet:starEach (.Subscript a b pos::es) env=(false,eval (.Subscript a b pos) env)::starEach es env:=rfl
end
end MI
namespace L2
open PyProof.Rows
section
variable{X:Cx}{aA:List (Addr×Obj)}{s:Shared}{σ:St}{H:Hp}{A:Around}{E:Value->Shared->Prop}
theorem aa7{Q:Value->Shared->Prop}{a:Addr}{kvs:List (List Key×V)}(I:Inv X aA σ H s)(e:Rd H a (.dT kvs))(h:∀t s',Inv X aA σ H s'->Q (.int kvs.length t) s'):wpAny (model X.prog X.w) A (call (.builtin "len") [.ref a]) Q E s:=by
 obtain⟨z,hd,xs,rel,dd⟩:=acw I.hok e;have lx:kvs.length=xs.length:=dB rel;obtain⟨o,es,ep,ho,hc,hdat,he,_⟩:=dd;have les:es.size=xs.length:=by rw[<-cO,he,a9]
 have hn:=a0s;refine call_len_slot (T := "dict") (n:=(kvs.length:Int)) ⟨o,ho,hc.1⟩ fQ (λQ' h'=>?_) (by omega) (by omega) (h _ _ (I.tok _))
 refine call_meetsIn (S:=λ_ R s'=>s'=s/\R (.ok (.ret (.int kvs.length s.toks))) {s with toks:=s.toks+1}) fQ ⟨o,ho,hc.1⟩ F.entry_dict_len (F.args_dict_len_1 _) (.of_wp λA' R s' ⟨es',hr⟩=>?_) ⟨rfl,h'⟩
 subst es';show wpAny _ _ (dictSize a>>=_) _ _ _;unfold dictSize;refine a8 (a8 (wpAny_dictEntries ho hdat (av ?_)));show wpAny _ _ (Builtin.Dict.pendingCount a>>=_) _ _ _;refine a8 (wpAny_pendingCount_other hd (gU ?_));rw[Nat.add_zero,les,<-lx];exact hr
end
theorem abi{X:Cx}:CallR X (.builtin "len") (λxs H Q=>∃a,xs=[.ref a]/\((∃kvs,Rd H a (.dK kvs)/\Q (.int kvs.length) H)\/∃kvs,Rd H a (.dT kvs)/\Q (.int kvs.length) H)):=by
 intro aA s σ H xs us Q I r h
 obtain⟨a,rfl,h⟩:=h;obtain⟨u,rfl,rx⟩:=vals1 r;cases rx
 rcases h with⟨kvs,e,q⟩|⟨kvs,e,q⟩
 ·exact aqh I e λt s' I'=>⟨.int kvs.length,H,I',⟨t,rfl⟩,q⟩
 ·exact aa7 I e λt s' I'=>⟨.int kvs.length,H,I',⟨t,rfl⟩,q⟩
end L2
namespace MI
open L2
def aeu:SE:=λ_ h=>.ok (.ref h.length) (h++[.dT []])
theorem aif{X:Cx}{E:XD}{pos:Pos}:ME X E (.Dict [] [] pos) aeu:=by
 refine PE.weak ah1 λσ H Q ⟨ι,τ,h,S,Rh,o⟩=>λp hp=>?_;exact o (ι++[p]) _ _ (a4p hp _) (.ref (by rw[aw (by rw[Rh.len];exact ah _),Rh.len];simp)) (Rh.add hp ⟨[],dh,rfl,.nil⟩)
def a2f:List D->Hd->R D
 |[.ref i],h=>(match h[i]? with|some (.dK kvs)=>.ok (.int kvs.length) h|some (.dT kvs)=>.ok (.int kvs.length) h|_=>.no)
 |_,_=>.no
theorem aig{K:Fg}:ab3 K a2f (λxs H Q=>∃a,xs=[.ref a]/\((∃kvs,Rd H a (.dK kvs)/\Q (.int kvs.length) H)\/∃kvs,Rd H a (.dT kvs)/\Q (.int kvs.length) H)):=by
 intro E ι H h xs ds Q r hr o
 cases r with
 |nil=>exact o.elim
 |cons r rs =>
  cases rs with
  |cons _ _=>exact(show False by cases r<;>exact o).elim
  |nil =>
   cases r with
   |@ref p j hp =>
    obtain⟨ob,e1,e2⟩:=hr.at hp
    cases ob with
    |dK kvs=>simp only[a2f,e1]at o;obtain⟨us,h3,h4⟩:=e2;exact⟨p,rfl,.inl ⟨us,.inl h3,by rw[show us.length=kvs.length by simpa using aZ List.length h4.1];exact ans o (.int _) hr⟩⟩
    |dT kvs=>simp only[a2f,e1]at o;obtain⟨us,h3,h4⟩:=e2;exact⟨p,rfl,.inr ⟨us,.inl h3,by rw[show us.length=kvs.length by simpa using aZ List.length h4.1];exact ans o (.int _) hr⟩⟩
    |lst _=>simp only[a2f,e1]at o;exact o.elim
    |ins _ _=>simp only[a2f,e1]at o;exact o.elim
    |dN _=>simp only[a2f,e1]at o;exact o.elim
   |_=>exact o.elim
theorem asw{h:Hd}{i:Nat}{kvs:List (List Key×D)}(e:h[i]? = some (.dT kvs)):a2f [.ref i] h=.ok (.int kvs.length) h:=by unfold a2f;simp only[e]
end MI
namespace K30
open L2 MI
noncomputable def ym(aa:SF):SE :=
 (sV 0)
noncomputable def p7(aa:SF):ST :=
 (sT (s2 hEq (sV 1) (sV 2)))
noncomputable def jt(aa:SF):SS :=
 (di (j4 7 (sZ (a4r (a1r (sV 3)) (tN 2) (p7 aa) (ym aa) [6])))
 (sIf (sOr (sT (s2 hEq (sA jx (aj (sV 7) bj)) (sI 0))) (abx (sT (s2 gLe (s2 lq (sA jx (aj (sV 3) bj)) (sA jx (aj (sV 1) bj))) (sI 32))) (sT (s2 hEq (sA (j6 false 2 aa) (aj (sV 0) (aj (sI 4) bj))) (sI 0)))))
 (di (vm (sML a2a (sV 5) (aj (sA jx (aj (sV 3) bj)) bj)))
 (vm (sML a2a (sV 3) (aj (sV 6) bj))))
 (vm (sML a2a (sV 5) (aj (s2 gIx (sV 7) (sA (j6 false 2 aa) (aj (sV 0) (aj (sA jx (aj (sV 7) bj)) bj)))) bj)))))
noncomputable def uo(aa:SF):ST :=
 (sT (s2 gLt (sA jx (aj (sV 4) bj)) (sA jx (aj (sV 3) bj))))
noncomputable def uq(aa:SF):SS :=
 (di (j4 5 (sA a1h bj))
 (di (a6p (sIt (s2 gIx (sV 1) (s2 gIx (sV 3) (sA jx (aj (sV 4) bj))))) (kN 6) (jt aa))
 (vm (sML a2a (sV 4) (aj (sV 5) bj)))))
noncomputable def yo(aa:SF):SE :=
 (s2 gIx (sV 1) (sV 0))
noncomputable def wy(aa:SF):SS :=
 (di (j4 3 (sA a1h (aj (sI 0) bj)))
 (di (j4 4 (sA a1h bj))
 (di (sWh (uo aa) (uq aa) 100000)
 (a04 (sA a2i (aj (sV 4) (aj (sZ (jo (sIt (sV 3)) t1 (yo aa) [2])) bj)))))))
noncomputable def ut(o9:SF)(m7:SF)(gh:SF)(m8:SF)(aa:SF)(jg:SF):SS :=
 (di (j4 1 (sA (j6 false 1 jg) (aj (sV 0) bj)))
 (di (j4 2 (s2 lq (sI 1) (sA (j6 false 2 aa) (aj (sV 0) (aj (sI 5) bj)))))
 (di (sIf (sT (s2 hEq (sA (j6 false 2 aa) (aj (sV 0) (aj (sI 6) bj))) (sI 0)))
 (j4 2 (s2 lq (sI 1) (sA (j6 false 2 aa) (aj (sV 0) (aj (sI 32) bj)))))
 sNx)
 (di (a8q (sA (j6 false 3 m8) (aj (sV 0) (aj (sA (j6 false 3 o9) (aj (sV 0) (aj (sA jx (aj (sV 1) bj)) (aj (sV 2) bj)))) (aj (sA (j6 false 2 m7) (aj (sV 0) (aj (sV 2) bj))) bj)))) (a4q 2 (jw (kN 3) (jw (kN 4) a5s))))
 (di (a8q (sA (j6 false 3 gh) (aj (sV 0) (aj (sV 3) (aj (sV 4) bj)))) (a4q 2 (jw (kN 5) (jw (kN 6) a5s))))
 (a04 (sA a2i (aj (sV 1) (aj (sV 5) (aj (sV 6) bj))))))))))
end K30
namespace K20
open L2 MI
noncomputable def mj:SS :=
 (sIf (sT (s2 (aa1 true) (sV 5) (sV 2)))
 (di (a3q (sC (.bl true)) (sV 2) (sV 5))
 (vm (sML a2a (sV 1) (aj (sV 5) bj))))
 sNx)
noncomputable def uh:ST :=
 (sT (s2 gLt (sV 3) (sA jx (aj (sV 1) bj))))
noncomputable def my:SS :=
 (di (j4 4 (s2 gIx (sV 0) (s2 gIx (sV 1) (sV 3))))
 (di (a6p (sIt (sV 4)) (kN 5) mj)
 (adh 3 a2j (sI 1))))
noncomputable def p8:SS :=
 (di (j4 1 (sA a1h (aj (sI 0) bj)))
 (di (j4 2 (s2 gD1 (sI 0) (sC (.bl true))))
 (di (j4 3 (sI 0))
 (di (sWh uh my 100000)
 (a04 (sV 1))))))
end K20
namespace K32
open L2 MI
noncomputable def uv:SS :=
 (a04 (a3k (sA a02 (aj (sV 0) (aj (sC (.ty "int")) bj))) (a3k (a5q (sA a02 (aj (sV 0) (aj (sC (.ty "bool")) bj)))) (sCh gLe gLe (sV 1) (sV 0) (sV 2)))))
end K32
namespace L2
open PyProof.Rows
section
variable{X:Cx}
theorem abj(hc:X.calm=true):CallR X (.builtin "max") (λxs H Q=>∃(p:Addr) (ns:List Int),xs=[.ref p]/\SqT X.K H p (ns.map V.int)/\ns≠[]/\Q (.int (mxI ns)) H):=by
 intro aA s σ H xs us Q I r h
 obtain⟨p,ns,rfl,hq,hn,q⟩:=h;obtain⟨u,rfl,rx⟩:=vals1 r;cases rx
 obtain⟨its,r',ht,hz⟩:=I.tuple hq;have hInts:IntsAre its ns:=intsAre_of r';obtain⟨prs,ep⟩:=hInts.allInts.items;have nums:prs.toList.map (·.1)=ns:=by
  rw[<-nums_intItems,<-ep];exact hInts.numsOf
 have sz:prs.size=ns.length:=by rw[<-nums,a9,cO]
 have pos:0<ns.length:=List.length_pos_iff.mpr hn;have at':∀j,j<ns.length->ns[j]? = some (numAt prs j):=λj hj=>by
  rw[<-nums,ar,dX];unfold numAt;rw[cS (by omega)]
  rfl
 have hT:s.heap.IsTuple p (intItems prs):=ep ▸ ht;have hlt:p<s.heap.objs.size:=by obtain⟨_,e,_⟩:=hT;exact aU e
 refine call_max_walk (fS hT ⟨_,_,_,_,_,_,_,rfl,Walks.tuple (A:=X.A.in1) (I.ok.hd hc) s.heap.objs.size p (bM hlt) (intItems prs),⟨⟨_,aT _ rfl,rfl,rfl⟩,hT.at λo e=>af _ e⟩,λb hb=>?_,by simp[intItems];omega,CmpOf.ints_gt (numAt prs) (λ_ _=>intItems_at),λv h' tk hv hk=>?_⟩)
 ·show b<(s.heap.push _).objs.size;rw[cA];simp only[ay,bq,cK]at hb
  rcases hb with rfl|rfl
  ·exact fA _
  ·exact Nat.lt_succ_of_lt hlt
 ·have hv':(intItems prs)[argBest (λi j=>decide (numAt prs i > numAt prs j)) (prs.size-1)]? = some v:=by simpa[intItems] using hv
  obtain⟨t,rfl⟩:=intItems_at hv';obtain⟨b1,b2⟩:=argBest_gt (numAt prs) (prs.size-1)
  generalize argBest (λi j=>decide (numAt prs i > numAt prs j)) (prs.size-1)=b at b1 b2
  have e:numAt prs b=mxI ns:=aeo (aN (at' b (by omega))) λx hx=>by
   obtain⟨j,hj,rfl⟩:=bW hx;have:=at' j hj;rw[a6 hj]at this;rw[bp this];exact b2 j (by omega)
  refine⟨.int (mxI ns),H,I.kept λb o e=>hk b o (λhm=>?_) (af _ e),⟨t,by rw[e]⟩,q⟩
  rw[aI]at hm;exact absurd (hm ▸ aU e) (cC _)
end
end L2
namespace MI
open L2
def a7q:List D->Hd->R D
 |[.tup xs],h=>(match a0n xs with|some (n::ns)=>.ok (.int (mxI (n::ns))) h|_=>.no)
 |_,_=>.no
theorem aih:ab3 K a7q (λxs H Q=>∃(p:Addr) (ns:List Int),xs=[.ref p]/\SqT K H p (ns.map V.int)/\ns≠[]/\Q (.int (mxI ns)) H):=by
 intro E ι H h xs ds Q r hr o
 unfold a7q at o
 split at o
 ·cases r with
  |cons r rs =>
   cases rs
   split at o
   ·rename_i n ns e
    cases r with
    |@tup p vs xs hp r=>exact⟨p,n::ns,rfl,by rw[<-a0h r e];exact SqT.of hp,by simp,ans o (.int _) hr⟩
   ·exact o.elim
 ·exact o.elim
theorem asx(ne:xs≠[]):a7q [.tup (xs.map D.int)] h=.ok (.int (mxI xs)) h:=by
 have e:∀l:List Int,a0n (l.map D.int)=some l:=λl=>by
  induction l with
  |nil=>rfl
  |cons a l ih=>rw[aK];simp only[a0n,ih,cB]
 unfold a7q;simp only[e]
 cases xs with
 |nil=>exact absurd rfl ne
 |cons n ns=>rfl
end MI
namespace L2
open PyProof.Rows
theorem aev(a:Addr)(aC:Array Value)(x:Value)(e:Value->Bool)(j:Nat)(hj:j<aC.size)(hit:e aC[j]=true)(hno:∀m (hm:m<aC.size),m<j->e aC[m]=false) :
  Meets (Builtin.«tuple.index» ⟨[.ref a,x],[]⟩)
   (λA R s=>IsTup s.heap a aC/\(∀B,∀y,y∈aC->SeqAt.EqAt B s y x (e y))/\R (.ok (.ret (.int j s.toks))) {s with toks:=s.toks+1}) :=
 .of_wp λprog w A R s h=>by
  obtain⟨⟨o,h1,h4,n,h5⟩,h2,h3⟩:=h;unfold Builtin.«tuple.index»
  wp_walk
  rw[h5];refine av (av (a8 (av (a8 (av (a8 ?_))))));rw[Std.Legacy.Range.forIn_eq_forIn_range'];simp only[Std.Legacy.Range.size,Nat.sub_zero,g7,Nat.div_one,fZ];refine wpAny_forIn_list _ (λaG r s'=>(∃i,r.1=none/\s'=s/\aG=List.range' i (aC.size-i)/\i<=j)\/(aG=[]/\r.1=some (.done (.ret (.int j s.toks)))/\s'={s with toks:=s.toks+1})) _ ?_ ?_ _ _ (.inl ⟨0,rfl,rfl,by simp,bU _⟩)
  ·rintro y aG r s' (⟨i,hr,rfl,e1,le⟩|⟨z,_⟩)
   ·have c:aC.size-i=aC.size-(i+1)+1:=by omega
    rw[c,gQ]at e1;obtain⟨rfl,rfl⟩:=List.cons.inj e1;have lt:y<aC.size:=by omega
    rw[cS lt];refine a8 (h2 _ _ (Array.getElem_mem lt) prog w _ _ ?_)
    by_cases q:y=j
    ·subst q;rw[hit]
     wp_walk
     exact⟨_,rfl,h3⟩
    ·rw[hno y lt (by omega)]
     exact av (.inl ⟨y+1,rfl,rfl,rfl,by omega⟩)
   ·cases z
  ·rintro r s' (⟨i,hr,rfl,e1,le⟩|⟨_,e1,rfl⟩)
   ·have c:aC.size-i=aC.size-(i+1)+1:=by omega
    rw[c]at e1;cases e1
   ·rw[e1];exact av ⟨_,rfl,h3⟩
def aew(K:Fg):V->List V->Hp->VK->Prop:=λx vs H Q=>∃(l:Addr) (ns:List Int) (n:Int) (j:Nat),x=.ref l/\vs=[.int n]/\SqT K H l (ns.map V.int)/\ixI n ns=some j/\Q (.int (j:Nat)) H
theorem aex:MtR X "tuple.index" (aew X.K):=by
 intro aA s σ H x vs v us Q I rx rv h
 obtain⟨l,ns,n,j,rfl,rfl,hq,hj,q⟩:=h;cases rx
 obtain⟨u,rfl,ru⟩:=rv.one;obtain⟨t,rfl⟩:=ru;obtain⟨its,r,e1,hz⟩:=I.tuple hq;have hl:its.length=ns.length:=by have:=r.length;simp at this;omega
 have each:∀i (h:i<its.length),∃a t,its[i]=.int a t/\ns[i]? = some a:=λi h=>by
  obtain⟨y,h1,h2⟩:=r.get (show(ns.map V.int)[i]? = some (V.int (ns[i]'(by omega))) by rw[ar,a6 (by omega)];rfl)
  obtain⟨t,rfl⟩:=h2;exact⟨_,t,(a7.mp h1).2,a6 _⟩
 obtain⟨p1,p2⟩:=ak9 hj;have jl:j<ns.length:=(a7.mp p1).1;refine eV F.slot_tuple_index e1.typeIs F.entry_tuple_index (F.args_tuple_index_2 _ _)
  (aev l its.toArray (.int n t) (eqI n) j (by simp;omega) ?_ ?_) ⟨e1,λB y hy=>?_,.int (j:Nat),H,I.tok _,⟨_,rfl⟩,q⟩
 ·obtain⟨a,t,h1,h2⟩:=each j (by omega)
  rw[p1]at h2;cases h2
  rw[List.getElem_toArray,h1];exact cD _
 ·intro i hi hij
  obtain⟨a,t,h1,h2⟩:=each i (by simpa using hi)
  rw[List.getElem_toArray,h1];exact bT.mpr λz=>p2 i hij (by rw[h2,z])
 ·obtain⟨i,hi,rfl⟩:=bW (List.mem_toArray.mp hy);obtain⟨a,t',h1,_⟩:=each i hi;rw[h1];exact SeqAt.EqAt.int_int a t' n t
end L2
namespace MI
open L2
def a8w(d:D)(ds:List D)(h:Hd):R D:=match d,ds with
 |.tup xs,[.int n]=>(match a0n xs with|some ns=>(match ixI n ns with|some j=>.ok (.int (j:Nat)) h|none=>.no)|none=>.no)
 |_,_=>.no
theorem abk:aoy K a8w (aew K):=by
 intro E ι H h x dx xs ds Q rx r hr o
 unfold a8w at o
 split at o
 ·rename_i ys n
  cases rx with
  |@tup a vs _ ha rs =>
   cases r with
   |cons r r2 =>
    cases r;cases r2
    split at o
    ·rename_i ns e
     split at o
     ·rename_i j hj;exact⟨a,ns,n,j,rfl,rfl,by rw[<-a0h rs e];exact SqT.of ha,hj,ans o (.int _) hr⟩
     ·exact o.elim
    ·exact o.elim
 ·exact o.elim
def sMT(g:D->List D->Hd->R D)(f:SE)(k:SA):SE:=λτ h=>(f τ h).bind λd h1=>match d with|.tup xs=>(k τ h1).bind λds h2=>g (.tup xs) ds h2|_=>.no
theorem awy{X:Cx}{E:XD}{o e:Expr}{es:List Expr}{name:Str}{idn:String}{apos cpos:Pos}{r:V->List V->Hp->VK->Prop}{g:D->List D->Hd->R D}{fo:SE}{ka:SA}(slot:Slot "tuple" name idn)(hty:typeOf (.builtin idn)=pure (.type "method_descriptor"))(hm:MtR X idn r)(hs:aoy X.K g r)(ho:ME X E o fo)(ha:MA X E (e::es) ka)
  (hbase:attributeBase o name X.env (eval o X.env)=eval o X.env:=by rfl)
  (hfew:((backTo cpos (starEach (e::es) X.env)).all (λx => !x.1) && (backToKw cpos (keywordEach [] X.env)).all (λx=>x.1.isSome)
   && decide ((e::es).length+([]:List Keyword).length+(if ([]:List Keyword).isEmpty then 0 else 1)<30))=true:=by rfl)
  (hline:(apos.endLine == cpos.line)=true:=by rfl) (hst:starEach (e::es) X.env=(false,eval e X.env)::starEach es X.env:=by rfl) (hplain:(backTo cpos (starEach es X.env)).any (·.1)=false:=by rfl) :
  ME X E (.Call (.Attribute o name apos) (e::es) [] cpos) (sMT g fo ka):=by
 refine PE.weak (aq9 PySem.F.plainAttrs_tuple slot hty hm ho ha hbase hfew hline hst hplain) ?_
 rintro σ H Q ⟨ι,τ,h,S,Rh,o⟩
 refine⟨ι,τ,h,S,Rh,bh o λd h1 ι1 H1 v g1 r1 hr1 o1=>?_⟩
 cases r1 with
 |@tup p vs xs hp rs=>exact⟨.inr (.inl ⟨rfl,.inr ⟨_,hp⟩⟩),ι1,τ,h1,S.mono g1,hr1,bh o1 λds h2 ι2 H2 vs g2 r2 hr2 o2=>hs E ι2 H2 h2 _ _ vs ds Q (.tup (g2.tup _ _ hp) (rs.mono g2)) r2 hr2 o2⟩
 |_=>exact o1.elim
end MI
namespace ZP
open PySem.Builtin PySem.Builtin.SmallTypes
abbrev IsZ(h:Heap)(z TI TO:Addr)(f0 f1:Value):Prop :=
 h.get? z=some {cls:=.type "zip",dict:=none,data:=.fields #[f0,f1,.bool false,.ref TI,.ref TO],slots := #[]}
section
variable{prog:Program}{w:World}{A:Around}{E:Value->Shared->Prop}{s:Shared}{z TI TO T i1 i2:Addr}{p q:List Addr}{n1 n2 k:Nat}{P1 P2:Nat->Value->Prop}{S1 S2:Nat->Heap->Prop}
theorem alive{a:Addr}{Q:Option Obj->Shared->Prop}(h:Q (s.heap.get? a) s):wpAny (model prog w) A (loadIfAlive a) Q E s:=by
 intro Γ p hp
 rw[loadIfAlive,Sem.wp_loadIfAlive];exact av h Γ p hp
end
end ZP
namespace ZP
open PySem.Builtin PySem.Builtin.SmallTypes L2
section
variable{M:Model}{A:Around}{E:Value->Shared->Prop}{s:Shared}
theorem a1t{α β:Type}{f:α->β->Sem (ForInStep β)}{Q:β->Shared->Prop}(P:List α->β->Shared->Prop)(nil:∀b s,P [] b s->Q b s)
  (cons:∀a l b s,P (a::l) b s->wpAny M A (f a b) (λr s'=>match r with|.yield b'=>P l b' s'|.done b'=>Q b' s') E s) :
  ∀(l:List α) b s,P l b s->wpAny M A (forIn l b f) Q E s
 |[],b,s,h=>by rw[eh];exact av (nil b s h)
 |a::l,b,s,h=>by
  rw[eJ];refine a8 (cT (cons a l b s h) (λr s' q=>?_) λ_ _ r=>r)
  cases r with
  |done b'=>exact av q
  |yield b'=>exact a1t P nil cons l b' s' q
end
structure Src where
 a:Addr
 t:Tok
 k:Srk
def Drk(H:Hp)(i:Nat):List Srk->Option (List V)->Prop
 |[],o=>o=some []
 |k::L,o=>∃xs,its H k=some xs/\((∃x o',xs[i]? = some x/\Drk H i L o'/\o=o'.map (x::·))\/(i=xs.length/\o=none))
def Drw(H:Hp)(i:Nat)(L:List Src)(o:Option (List V)):Prop:=Drk H i (L.map (·.k)) o
def owns(i:Nat)(h:Heap)(L:List Src):Prop:=∀r∈L,own r.a r.t r.k i h
section
variable{X:Cx}{A:Around}{s:Shared}{H:Hp}{aA:List (Addr×Obj)}{σ:St}
theorem awz{Q:Value->Shared->Prop}{E:Value->Shared->Prop}{r:Src}{i:Nat}{xs:List V}(hA:A.handled=none)(I:Inv X aA σ H s)(hn:H r.a=none)(st:own r.a r.t r.k i s.heap)(e:its H r.k=some xs)
  (q:∀x,xs[i]? = some x->∀u h' tk,RelV x u->own r.a r.t r.k (i+1) h'->Heap.SameBut r.a s.heap h'->Q u {s with heap:=h',toks:=tk})
  (hi:i<=xs.length) (qe:i=xs.length->∀h' e,Heap.ExtBut r.a s.heap h'->(∃o,h'.get? e=some o/\o.cls=.type "StopIteration")->E (.ref e) {s with heap:=h' }) :
  wpAny (model X.prog X.w) A (nextOf (.ref r.a)) Q E s:=by
 obtain⟨cs,P1,S1,D1,a1,b1,c1,d1⟩:=a8t I (t:=r.t) e hn
 rcases Nat.lt_or_eq_of_le hi with h|h
 ·refine(D1 A hA).item i _ _ _ h (a1 i st) λu h' tk pu s' sb=>?_;obtain⟨x,g,rv⟩:=d1 i u pu;exact q x g u h' tk rv (b1 _ _ s') sb
 ·subst h;exact(D1 A hA).done _ _ _ (a1 _ st) λh' e x so=>qe rfl h' e x so
structure Pg (X:Cx) (aA:List (Addr×Obj)) (σ:St) (H:Hp) (s:Shared) (i:Nat) (ch:List Addr) (L1 L2:List Src) (row:List V) (us:List Value) (h':Heap) (tk:Nat):Prop where
 inv:Inv X aA σ H {s with heap:=h',toks:=tk}
 o1:owns (i+1) h' L1
 o2:owns i h' L2
 vs:Vals row us
 ln:us.length=L1.length
 sz:h'.objs.size=s.heap.objs.size
 fr:∀c o,c∉ch->s.heap.get? c=some o->h'.get? c=some o
theorem Pg.turn{h' h2:Heap}{tk tk2:Nat}{c:Addr}{ch:List Addr}{i:Nat}{L1 L2:List Src}{row:List V}{us:List Value}(p:Pg X aA σ H s i ch L1 L2 row us h' tk)(hf:∀b∈ch,a1y X aA H b)(hc:c∈ch)(sb:Heap.SameBut c h' h2)(n1:∀r∈L1,r.a≠c)(n2:∀r∈L2,r.a≠c):Pg X aA σ H s i ch L1 L2 row us h2 tk2 where
 inv:=a2c (s:={s with heap:=h',toks:=tk}) (t':=tk2) p.inv (ch:=ch) hf λb o nb e=>sb.extBut b o (λz=>nb (z ▸ hc)) e
 o1:=λr hr=>yc (p.o1 r hr) λob e=>sb.extBut _ _ (n1 r hr) e
 o2:=λr hr=>yc (p.o2 r hr) λob e=>sb.extBut _ _ (n2 r hr) e
 vs:=p.vs
 ln:=p.ln
 sz:=sb.1.trans p.sz
 fr:=λb o nb e=>sb.extBut b o (λz=>nb (z ▸ hc)) (p.fr b o nb e)
theorem Pg.draw{Q:Value->Shared->Prop}{E:Value->Shared->Prop}{h':Heap}{tk:Nat}{ch:List Addr}{i:Nat}{r:Src}{L1 L2:List Src}{row:List V}{us:List Value}{xs:List V}(hA:A.handled=none)(p:Pg X aA σ H s i ch L1 (r::L2) row us h' tk)(hf:∀b∈ch,a1y X aA H b)(hc:r.a∈ch)(n1:∀r'∈L1,r'.a≠r.a)(n2:∀r'∈L2,r'.a≠r.a)
  (e:its H r.k=some xs) (hi:i<=xs.length) (q:∀x u h2 tk2,xs[i]? = some x->Pg X aA σ H s i ch (L1++[r]) L2 (row++[x]) (us++[u]) h2 tk2->Heap.SameBut r.a h' h2->Q u {s with heap:=h2,toks:=tk2})
  (qe:i=xs.length->∀h2 e,Heap.ExtBut r.a h' h2->(∃o,h2.get? e=some o/\o.cls=.type "StopIteration")->E (.ref e) {s with heap:=h2,toks:=tk}):wpAny (model X.prog X.w) A (nextOf (.ref r.a)) Q E {s with heap:=h',toks:=tk}:=by
 refine awz hA p.inv (hf _ hc).1 (p.o2 r (by simp)) e (λx g u h2 tk2 rv o sb=>q x u h2 tk2 g ?_ sb) hi qe
 have p':Pg X aA σ H s i ch L1 L2 row us h2 tk2:=Pg.turn (tk:=tk) ⟨p.inv,p.o1,λr' hr=>p.o2 r' (ai _ hr),p.vs,p.ln,p.sz,p.fr⟩ hf hc sb n1 n2;refine⟨p'.inv,λr' hr=>?_,p'.o2,p'.vs.append (.cons rv .nil),by simp[p'.ln],p'.sz,p'.fr⟩
 rcases bB.mp hr with m|m
 ·exact p'.o1 r' m
 ·rw[aI.mp m];exact o
end
abbrev IsT(h:Heap)(T:Addr)(vs:List Value):Prop:=h.get? T=some {cls:=.type "tuple",data:=.seq vs.toArray}
section
variable{X:Cx}{A:Around}{E:Value->Shared->Prop}{s:Shared}{H:Hp}{aA:List (Addr×Obj)}{σ:St}{z TI TO T:Addr}{ch:List Addr}{i:Nat}{o:Option (List V)}
theorem apart{L1 L2:List Src}{r:Src}(nd:((L1++r::L2).map (·.a)).Nodup):(∀r'∈L1,r'.a≠r.a)/\∀r'∈L2,r'.a≠r.a:=by
 simp only[bC,aK,bD,bX,aE]at nd;exact⟨λr' m e=>nd.2.2 r'.a ⟨r',m,rfl⟩ r.a (by simp) e,λr' m e=>nd.2.1.1 ⟨r',m,e⟩⟩
theorem azn{Q:Fin->Shared->Prop}{fb:Bool}{ob:Obj}{r:Src}{L:List Src}(hA:A.handled=none)(hz:IsZ s.heap z TI TO (rawInt (T:Nat)) (.bool fb))(hT:s.heap.get? T=some ob)(hi:IsT s.heap TI ((r::L).map λr=>.ref r.a))
  (I:Inv X aA σ H s) (hf:∀b∈ch,a1y X aA H b) (mz:z∈ch) (mL:∀r'∈r::L,r'.a∈ch) (nz:∀r'∈r::L,r'.a≠z) (nd:((r::L).map (·.a)).Nodup) (ow:owns i s.heap (r::L)) (hl:(r::L).length<=sizeLine) (d:Drw H i (r::L) o)
  (qi:∀row us h' tk,o=some row->Pg X aA σ H s i ch (r::L) [] row us h' tk->IsZ h' z TI TO (rawInt (T:Nat)) (.bool true)->Q (.done (.ret (.ref h'.objs.size))) {s with heap:=h'.push {cls:=.type "tuple",data:=.seq us.toArray},toks:=tk})
  (qe:o=none->∀h' tk e,(∀c ob,c∉ch->s.heap.get? c=some ob->h'.get? c=some ob)->(∃o,h'.get? e=some o/\o.cls=.type "StopIteration")->E (.ref e) {s with heap:=h',toks:=tk}) :
  wpAny (model X.prog X.w) A (Builtin.«zip.__next__» ⟨[.ref z],[]⟩) Q E s:=by
 change wpAny (model X.prog X.w) A (field (.ref z) 2>>=_) _ _ _
 apply a8;apply cE hz rfl (x:=.bool false) rfl
 change wpAny (model X.prog X.w) A (field (.ref z) 3>>=_) _ _ _
 apply a8;apply cE hz rfl (x:=.ref TI) rfl
 apply a8;apply dC hi rfl
 change wpAny (model X.prog X.w) A (ownedTupleIsFree (.ref z)>>=_) _ _ _
 apply a8
 rw[ownedTupleIsFree]
 apply a8;apply cE hz rfl (x:=rawInt (T:Nat)) rfl
 show wpAny (model X.prog X.w) A (loadIfAlive (T:Int).toNat>>=_) _ _ _
 apply a8
 rw[cP]
 apply alive
 rw[hT];dsimp only[Option.isNone];rw[bg bo]
 apply a8;apply cE hz rfl (x:=.bool fb) rfl
 obtain⟨h1,z1,b1,st⟩:∃h1,IsZ h1 z TI TO (rawInt (T:Nat)) (.bool true)/\Heap.SameBut z s.heap h1/\∀{Q':Bool->Shared->Prop},Q' false {s with heap:=h1}->wpAny (model X.prog X.w) A (if (Value.bool fb != Value.bool true)=true then (setField (.ref z) 1 (.bool true)>>=λ_=>pure false) else pure false) Q' E s:=by
  cases fb with
  |true=>exact⟨s.heap,hz,Heap.SameBut.refl _ _,λh=>by rw[bg (by decide)];exact av h⟩
  |false=>exact⟨_,dW _ hz rfl,eD ..,λh=>by rw[aQ (by decide)];exact a8 (wpAny_setField hz rfl (by show 1<5;decide) (av h))⟩
 refine st ?_;rw[bg bo];rw[<-eI]
 apply a8
 refine a1t (λl b s'=>∃L1 L2 row h' tk o2,r::L=L1++L2/\l=L2.map (λr=>.ref r.a)/\b.1=none/\Pg X aA σ H s i ch L1 L2 row b.2.toList h' tk/\s'={s with heap:=h',toks:=tk}/\IsZ h' z TI TO (rawInt (T:Nat)) (.bool true)/\Drw H i L2 o2/\o=o2.map (row++·)) (λb s' p=>?_) (λa l b s' p=>?_) _ _ _ ?_
 ·obtain⟨L1,L2,row,h',tk,o2,eL,el,e1,p,rfl,zz,dd,eo⟩:=p;obtain rfl:L2=[]:=by simpa using el.symm
  rw[cc]at eL;subst eL;rw[e1];obtain rfl:o2=some []:=dd
  apply a8;refine gy ?_ (by rw[p.ln];exact hl)
  exact av (qi row _ h' tk (by simpa using eo) p zz)
 ·obtain⟨L1,L2,row,h',tk,o2,eL,el,e1,p,rfl,zz,dd,eo⟩:=p
  cases L2 with
  |nil=>cases el
  |cons r2 L2 =>
   cases el
   obtain⟨xs,e2,dd⟩:=dd;rw[eL]at nd mL nz;obtain⟨n1,n2⟩:=apart nd;have m2:r2∈L1++r2::L2:=by simp
   apply a8;apply cH
   change wpAny (model X.prog X.w) A (nextOf (.ref r2.a)>>=_) _ _ _
   apply a8
   have le:i<=xs.length:=by
    rcases dd with⟨x,o',g,_⟩|⟨g,_⟩
    ·exact eY (a7.mp g).1
    ·exact eZ g
   refine p.draw hA hf (mL r2 m2) n1 n2 e2 le (λx u h2 tk2 g p2 sb=>?_) λg h2 e xb so=>?_
   ·apply av
    refine av ?_
    rcases dd with⟨x',o',g',d',rfl⟩|⟨g',_⟩
    ·rw[g]at g';cases g'
     exact⟨L1++[r2],L2,row++[x],h2,tk2,o',by simp[eL],rfl,rfl,by simpa using p2,rfl,sb.extBut _ _ (nz r2 m2).symm zz,d',by rw[eo];cases o'<;>simp⟩
    ·have:=(a7.mp g).1;omega
   ·refine qe ?_ h2 tk e (λc ob nc e=>xb c ob (λz=>nc (z ▸ mL r2 m2)) (p.fr c ob nc e)) so
    rcases dd with⟨x',o',g',_⟩|⟨_,rfl⟩
    ·have:=(a7.mp g').1;omega
    ·rw[eo];rfl
 ·have p0:Pg X aA σ H s i ch [] (r::L) [] [] s.heap s.toks:=⟨I,(λ_ h=>by cases h),ow,.nil,rfl,rfl,λ_ _ _ e=>e⟩
  exact⟨[],r::L,[],h1,s.toks,o,rfl,by simp,rfl,p0.turn hf mz b1 (λ_ h=>by cases h) nz,rfl,z1,d,by cases o<;>simp⟩
end
section
variable{X:Cx}{A:Around}{E:Value->Shared->Prop}{s:Shared}{H:Hp}{aA:List (Addr×Obj)}{σ:St}{z TI TO T:Addr}{ch:List Addr}{i:Nat}{o:Option (List V)}
theorem azo{us:List Value}{x:Value}{j:Nat}{Q:Unit->Shared->Prop}(hT:IsT s.heap T us)(hl:us.length<=sizeLine)
  (h:∀h',IsT h' T (us.set j x)->Heap.SameBut T s.heap h'->Q () {s with heap:=h' }) :
  wpAny (model X.prog X.w) A (updateSeq T (·.setIfInBounds j x)) Q E s:=by
 refine wpAny_updateSeq hT rfl (h _ ?_ (eD ..)) (by simpa using hl) (by simp;omega)
 rw[IsT,dW _ hT rfl];simp[Obj.mapSeq]
theorem azp{Q:Fin->Shared->Prop}{r:Src}{L:List Src}{ws0:List Value}{f0:Value}{fb:Bool}(hA:A.handled=none)(hz:IsZ s.heap z TI TO f0 (.bool fb))(fr:∀{Q':Bool->Shared->Prop},Q' true s->wpAny (model X.prog X.w) A (ownedTupleIsFree (.ref z)) Q' E s)(hi:IsT s.heap TI ((r::L).map λr=>.ref r.a))(ho:IsT s.heap TO ws0)(lw:ws0.length=(r::L).length)
  (I:Inv X aA σ H s) (hf:∀b∈ch,a1y X aA H b) (mz:z∈ch) (mo:TO∈ch) (oz:TO≠z) (mL:∀r'∈r::L,r'.a∈ch) (nz:∀r'∈r::L,r'.a≠z) (no:∀r'∈r::L,r'.a≠TO) (nd:((r::L).map (·.a)).Nodup) (ow:owns i s.heap (r::L)) (hl:(r::L).length<=sizeLine) (d:Drw H i (r::L) o)
  (qi:∀row us h' h2 tk,o=some row->Pg X aA σ H s i ch (r::L) [] row us h' tk->IsT h' TO us->IsZip h2 z TI TO (rawInt h'.objs.size)->(∀c ob,c≠z->(h'.push {cls:=.type "tuple",data:=.seq us.toArray}).get? c=some ob->h2.get? c=some ob)->Q (.done (.ret (.ref h'.objs.size))) {s with heap:=h2,toks:=tk})
  (qe:o=none->∀h' tk e,(∀c ob,c∉ch->s.heap.get? c=some ob->h'.get? c=some ob)->(∃o,h'.get? e=some o/\o.cls=.type "StopIteration")->E (.ref e) {s with heap:=h',toks:=tk}) :
  wpAny (model X.prog X.w) A (Builtin.«zip.__next__» ⟨[.ref z],[]⟩) Q E s:=by
 change wpAny (model X.prog X.w) A (field (.ref z) 2>>=_) _ _ _
 apply a8;apply cE hz rfl (x:=.bool false) rfl
 change wpAny (model X.prog X.w) A (field (.ref z) 3>>=_) _ _ _
 apply a8;apply cE hz rfl (x:=.ref TI) rfl
 apply a8;apply dC hi rfl
 change wpAny (model X.prog X.w) A (ownedTupleIsFree (.ref z)>>=_) _ _ _
 apply a8
 refine fr ?_;rw[aQ rfl]
 apply a8;apply gE
 apply a8;apply cE hz rfl (x:=.ref TO) rfl
 apply a8;apply eN hz (fY _)
 intro h1 z1 b1
 apply a8
 refine a1t (λl b s'=>∃L1 L2 row us ws h' tk o2,r::L=L1++L2/\l=(L2.map (λr=>Value.ref r.a)).zipIdx L1.length/\b.1=none/\Pg X aA σ H s i ch L1 L2 row us h' tk/\s'={s with heap:=h',toks:=tk}/\IsZ h' z TI TO .ellipsis (.bool fb)/\IsT h' TO (us++ws)/\ws.length=L2.length/\Drw H i L2 o2/\o=o2.map (row++·)) (λb s' p=>?_) (λa l b s' p=>?_) _ _ _ ?_
 ·obtain⟨L1,L2,row,us,ws,h',tk,o2,eL,el,e1,p,rfl,zz,tt,lw,dd,eo⟩:=p;obtain rfl:L2=[]:=by
   cases L2 with
   |nil=>rfl
   |cons _ _=>simp at el
  obtain rfl:ws=[]:=eK.mp lw
  rw[cc]at eL tt;subst eL;dsimp only;rw[e1];obtain rfl:o2=some []:=dd
  apply a8;apply dC tt rfl
  apply a8;refine gy ?_ (by simpa using (by rw[p.ln];exact hl:us.length<=sizeLine))
  change wpAny (model X.prog X.w) A (ownedTupleHandOut (.ref z) (.ref h'.objs.size)>>=_) _ _ _
  apply a8
  rw[ownedTupleHandOut];have z6:IsZ (h'.push {cls:=.type "tuple",data:=.seq us.toArray}) z TI TO .ellipsis (.bool fb):=af _ zz
  apply a8;apply eN z6 (fY _)
  intro h7 z7 b7
  apply eN z7 (by show 1<5;decide)
  intro h8 z8 b8
  apply av
  exact qi row us h' h8 tk (by simpa using eo) p tt z8 λc ob nc e=>b8.extBut _ _ nc (b7.extBut _ _ nc e)
 ·obtain⟨L1,L2,row,us,ws,h',tk,o2,eL,el,e1,p,rfl,zz,tt,lw,dd,eo⟩:=p
  cases L2 with
  |nil=>cases el
  |cons r2 L2 =>
   cases ws with
   |nil=>cases lw
   |cons w0 ws =>
    cases el
    obtain⟨xs,e2,dd⟩:=dd;rw[eL]at nd mL nz no;obtain⟨n1,n2⟩:=apart nd;have m2:r2∈L1++r2::L2:=by simp
    have ly:(us++w0::ws).length<=sizeLine:=by
     have:(r::L).length=(L1++r2::L2).length:=by rw[eL]
     simp only[ag,aW]at this lw hl ⊢;have:=p.ln;omega
    apply a8;apply wpAny_onRaise
    change wpAny (model X.prog X.w) A (nextOf (.ref r2.a)>>=_) _ _ _
    apply a8
    have le:i<=xs.length:=by
     rcases dd with⟨x,o',g,_⟩|⟨g,_⟩
     ·exact eY (a7.mp g).1
     ·exact eZ g
    refine p.draw hA hf (mL r2 m2) n1 n2 e2 le (λx u h2 tk2 g p2 sb=>?_) λg h2 e xb so=>?_
    ·apply av
     have t2:IsT h2 TO (us++w0::ws):=sb.extBut _ _ (no r2 m2).symm tt
     apply a8;refine dC (s:={s with heap:=h2,toks:=tk2}) t2 rfl ?_
     apply a8;refine azo (s:={s with heap:=h2,toks:=tk2}) t2 ly λh3 t3 b3=>?_
     apply a8;apply wpAny_letGo
     refine av ?_
     rcases dd with⟨x',o',g',d',rfl⟩|⟨g',_⟩
     ·rw[g]at g';cases g'
      refine⟨L1++[r2],L2,row++[x],us++[u],ws,h3,tk2,o',by simp[eL],by simp,rfl,p2.turn hf mo b3 (λr' m=>no r' (by rcases bB.mp m with h|h<;>simp_all)) (λr' m=>no r' (by simp[m])),rfl,b3.extBut _ _ oz.symm (sb.extBut _ _ (nz r2 m2).symm zz),?_,by simpa using lw,d',by rw[eo];cases o'<;>simp⟩
      rw[<-p.ln]at t3;simpa using t3
     ·have:=(a7.mp g).1;omega
    ·have z2:IsZ h2 z TI TO .ellipsis (.bool fb):=xb _ _ (nz r2 m2).symm zz;obtain⟨oe,f1,f2⟩:=so;have ne:e≠z:=λy=>by subst y;rw[z2]at f1;cases f1;simp at f2
     refine eN (s:={s with heap:=h2,toks:=tk}) z2 (fY _) λh3 _ b3=>?_
     refine qe ?_ h3 tk e (λc ob nc e=>b3.extBut _ _ (λy=>nc (y ▸ mz)) (xb c ob (λz=>nc (z ▸ mL r2 m2)) (p.fr c ob nc e))) ⟨oe,b3.extBut _ _ ne f1,f2⟩
     rcases dd with⟨x',o',g',_⟩|⟨_,rfl⟩
     ·have:=(a7.mp g').1;omega
     ·rw[eo];rfl
 ·have p0:Pg X aA σ H s i ch [] (r::L) [] [] s.heap s.toks:=⟨I,(λ_ h=>by cases h),ow,.nil,rfl,rfl,λ_ _ _ e=>e⟩
  exact⟨[],r::L,[],[],ws0,h1,s.toks,o,rfl,by simp,rfl,p0.turn hf mz b1 (λ_ h=>by cases h) nz,rfl,z1,b1.extBut _ _ oz ho,lw,d,by cases o<;>simp⟩
end
def fpz(z TI TO:Addr)(L:List Src):List Addr:=z::TI::TO::L.map (·.a)
structure FarN (z TI TO:Addr) (L:List Src):Prop where
 a:TI≠z
 b:TO≠z
 e:TI≠TO
 z:∀r∈L,r.a≠z
 i:∀r∈L,r.a≠TI
 o:∀r∈L,r.a≠TO
 nd:(L.map (·.a)).Nodup
def zsn(z TI TO:Addr)(L:List Src)(i:Nat)(H:Hp)(h:Heap):Prop :=
 IsT h TI (L.map λr=>.ref r.a)/\owns i h L/\(∃ws,IsT h TO ws/\ws.length=L.length) /\
  (IsZip h z TI TO .none\/∃(T:Addr) (fb:Bool),IsZ h z TI TO (rawInt (T:Nat)) (.bool fb))
section
variable{X:Cx}{A:Around}{E:Value->Shared->Prop}{s:Shared}{H:Hp}{aA:List (Addr×Obj)}{σ:St}{z TI TO:Addr}{i:Nat}{o:Option (List V)}{r:Src}{L:List Src}
theorem abl{Q:Option Value->Shared->Prop}(f:FarN z TI TO (r::L))(hA:A.handled=none)(I:Inv X aA σ H s)(hf:∀b∈fpz z TI TO (r::L),a1y X aA H b)(st:zsn z TI TO (r::L) i H s.heap)(hl:(r::L).length<=sizeLine)(d:Drw H i (r::L) o)
  (qi:∀row h' tk,o=some row->Inv X aA σ (upd H s.heap.objs.size (.tup row)) {s with heap:=h',toks:=tk}->zsn z TI TO (r::L) (i+1) (upd H s.heap.objs.size (.tup row)) h'->(IsZip s.heap z TI TO .none->IsZip h' z TI TO (rawInt s.heap.objs.size))->Q (some (.ref s.heap.objs.size)) {s with heap:=h',toks:=tk})
  (qe:o=none->∀h' tk,Inv X aA σ H {s with heap:=h',toks:=tk}->Q none {s with heap:=h',toks:=tk}):wpAny (model X.prog X.w) A (pyNext (.ref z)) Q E s:=by
 obtain⟨hi,ow,⟨ws,ho,lw⟩,st⟩:=st;have ty:s.TypeIs (.ref z) "zip":=by rcases st with e|⟨_,_,e⟩<;>exact⟨_,e,rfl⟩
 have hp:H s.heap.objs.size=none:=I.hok.fresh (ah _);have mz:z∈fpz z TI TO (r::L):=by simp[fpz]
 have mo:TO∈fpz z TI TO (r::L):=by simp[fpz]
 have mL:∀r'∈r::L,r'.a∈fpz z TI TO (r::L):=λr' m=>ai _ (ai _ (ai _ (aE.mpr ⟨r',m,rfl⟩)));have fin:∀(ch:List Addr) row us h' h2 tk,z∈ch->TI∉ch->o=some row->Pg X aA σ H s i ch (r::L) [] row us h' tk->(∃ws,IsT h' TO ws/\ws.length=(r::L).length)->
   (∃(T:Addr) (fb:Bool),IsZ h2 z TI TO (rawInt (T:Nat)) (.bool fb))->(∀c ob,c≠z->(h'.push {cls:=.type "tuple",data:=.seq us.toArray}).get? c=some ob->h2.get? c=some ob)->(IsZip s.heap z TI TO .none->IsZip h2 z TI TO (rawInt h'.objs.size))->
   Q (some (.ref h'.objs.size)) {s with heap:=h2,toks:=tk}:=by
  intro ch row us h' h2 tk cz ci eo p ⟨ws,to,lw⟩ zz fr zi
  have sz:=p.sz;have I0:Inv X aA σ (upd H h'.objs.size (.tup row)) {s with heap:=h'.push {cls:=.type "tuple",data:=.seq us.toArray},toks:=tk} :=
   p.inv.laid (t':=tk) (o:=.tup row) (λb o e=>af _ e) (ah _) ⟨by rw[p.vs.length,p.ln];exact hl,us,p.vs,⟨_,aT _ rfl,⟨rfl,rfl⟩,_,rfl⟩⟩
  have nz:z≠h'.objs.size:=λe=>by
   obtain⟨ot,e0⟩:∃ot,s.heap.get? z=some ot:=by rcases st with e|⟨_,_,e⟩<;>exact⟨_,e⟩
   exact absurd (aU e0) (by rw[e,sz];exact cC _)
  have I1:Inv X aA σ (upd H h'.objs.size (.tup row)) {s with heap:=h2,toks:=tk}:=by
   refine a2c (s:={s with heap:=h'.push {cls:=.type "tuple",data:=.seq us.toArray},toks:=tk}) (ch:=[z]) I0 (λb hb=>?_) λc o nc e=>fr c o (by simpa using nc) e
   rw[aI.mp hb];obtain⟨f0,f1⟩:=hf z mz;exact⟨by rw[bu nz];exact f0,f1⟩
  rw[sz]at I1 zi ⊢;refine qi row h2 tk eo I1 ⟨fr _ _ f.a (af _ (p.fr _ _ ci hi)),λr' m=>yc (p.o1 r' m) λob e=>fr _ _ (f.z r' m) (af _ e),⟨ws,fr _ _ f.b (af _ to),lw⟩,.inr zz⟩ zi
 have fe:∀(ch:List Addr),(∀b∈ch,b∈fpz z TI TO (r::L))->o=none->∀h' tk e,(∀c ob,c∉ch->s.heap.get? c=some ob->h'.get? c=some ob)->(∃o,h'.get? e=some o/\o.cls=.type "StopIteration")->
   wpAny (model X.prog X.w) A (isInstance (.ref e) (.type "StopIteration")>>=λb=>if b=true then pure none else throw (Value.ref e)) Q E {s with heap:=h',toks:=tk}:=by
  intro ch hc en h' tk e fr ⟨o,f1,f2⟩
  exact a8 (fw (b:=true) (T := "StopIteration") ⟨o,f1,f2⟩ isSubtype_stop (av (qe en h' tk (a2c I (λb hb=>hf b (hc b hb)) fr))))
 rw[pyNext]
 apply a8;apply wpAny_attempt
 apply cY (name:=Str.ofString "__next__") ty gY
 apply cV gY ty F.entry_zip_next _ (F.args_zip_next_1 _)
 have cs:∃(f0:Value) (fb:Bool),IsZ s.heap z TI TO f0 (.bool fb)/\((∀(A':Around) (E':Value->Shared->Prop) (Q':Bool->Shared->Prop),Q' true s->wpAny (model X.prog X.w) A' (ownedTupleIsFree (.ref z)) Q' E' s)\/∃(T:Addr) (ob:Obj),f0=rawInt (T:Nat)/\s.heap.get? T=some ob):=by
  rcases st with hz|⟨T,fb,hz⟩
  ·exact⟨_,_,hz,.inl λA' E' Q' q=>by rw[ownedTupleIsFree];exact a8 (cE hz rfl (x:=.none) rfl (av q))⟩
  ·refine⟨_,_,hz,?_⟩
   cases hT:s.heap.get? T with
   |some ob=>exact .inr ⟨T,ob,rfl,hT⟩
   |none =>
    refine .inl λA' E' Q' q=>?_;rw[ownedTupleIsFree];refine a8 (cE hz rfl (x:=rawInt (T:Nat)) rfl ?_);show wpAny (model X.prog X.w) A' (loadIfAlive (T:Int).toNat>>=_) _ _ _
    apply a8
    rw[cP]
    apply alive
    rw[hT];exact av q
 obtain⟨f0,fb,hz,cs⟩:=cs
 rcases cs with fr0|⟨T,ot,rfl,q1⟩
 ·have sub:∀b∈z::TO::(r::L).map (·.a),b∈fpz z TI TO (r::L):=λb hb=>by
   simp only[fpz,ay]at hb ⊢
   rcases hb with h|h|h
   ·exact .inl h
   ·exact .inr (.inr (.inl h))
   ·exact .inr (.inr (.inr h))
  refine azp (ch:=z::TO::(r::L).map (·.a)) hA hz (fr0 _ _ _) hi ho lw I (λb hb=>hf b (sub b hb)) (by simp) (by simp) f.b (λr' m=>ai _ (ai _ (aE.mpr ⟨r',m,rfl⟩))) f.z f.o f.nd ow hl d (λrow us h' h2 tk eo p to zz fr=>⟨_,rfl,av ?_⟩) λen h' tk e fr so=>fe _ sub en h' tk e fr so
  refine fin _ row us h' h2 tk aP (λm=>?_) eo p ⟨us,to,p.ln⟩ ⟨_,false,zz⟩ fr λ_=>zz
  rcases ay.mp m with h|m
  ·exact f.a h
  ·rcases ay.mp m with h|m
   ·exact f.e h
   ·obtain⟨r',m,e⟩:=aE.mp m;exact f.i r' m e
 ·have sub:∀b∈z::(r::L).map (·.a),b∈fpz z TI TO (r::L):=λb hb=>by
   simp only[fpz,ay]at hb ⊢
   rcases hb with h|h
   ·exact .inl h
   ·exact .inr (.inr (.inr h))
  have out:∀{c},c≠z->(∀r'∈r::L,r'.a≠c)->c∉z::(r::L).map (·.a):=λh1 h2 m=>by
   rcases ay.mp m with h|m
   ·exact h1 h
   ·obtain⟨r',m,e⟩:=aE.mp m;exact h2 r' m e
  refine azn (ch:=z::(r::L).map (·.a)) hA hz q1 hi I (λb hb=>hf b (sub b hb)) (by simp) (λr' m=>ai _ (aE.mpr ⟨r',m,rfl⟩)) f.z f.nd ow hl d (λrow us h' tk eo p zz=>⟨_,rfl,av ?_⟩) λen h' tk e fr so=>fe _ sub en h' tk e fr so
  refine fin _ row us h' _ tk aP (out f.a f.i) eo p ⟨ws,p.fr _ _ (out f.b f.o) ho,lw⟩ ⟨T,true,af _ zz⟩ (λc ob _ e=>e) λe=>?_;have q:=b6 (Eq.symm hz) e;simp[rawInt]at q
end
def ItN(ks:List Srk):It where
 go:=λi H=>∃row,Drk H i ks (some row)
 yld:=λi H v H'=>∃row p,Drk H i ks (some row)/\H p=none/\v=.ref p/\H'=upd H p (.tup row)
 stop:=λi H=>Drk H i ks none
def tnN(z TI TO:Addr)(L:List Src)(i:Nat)(h:Heap):Prop:=IsZip h z TI TO .none/\IsT h TI (L.map λr=>.ref r.a)/\(∃ws,IsT h TO ws/\ws.length=L.length)/\owns i h L
theorem zlt{z TI TO:Addr}{L:List Src}{h:Heap}{i:Nat}{f0 f1:Value}(h1:IsZ h z TI TO f0 f1)(h2:IsT h TI (L.map λr=>.ref r.a))(h3:∃ws,IsT h TO ws/\ws.length=L.length)(h4:owns i h L):∀c∈fpz z TI TO L,c<h.objs.size:=λc hb=>by
 obtain⟨ws,h3,_⟩:=h3
 rcases ay.mp hb with rfl|hb
 ·exact aU h1
 rcases ay.mp hb with rfl|hb
 ·exact aU h2
 rcases ay.mp hb with rfl|hb
 ·exact aU h3
 obtain⟨r',m,rfl⟩:=aE.mp hb;obtain⟨_,e,_⟩:=a3m (h4 r' m);exact aU e
theorem aey{P:Program}{w:World}{K:Fg}{elts:List Expr}{x1:Nat}{pos:Pos}{z TI TO:Addr}{r:Src}{L:List Src}(f:FarN z TI TO (r::L))(hl:(r::L).length<=sizeLine):Turn P w K (.Tuple elts x1 pos) (ItN ((r::L).map (·.k))) (fpz z TI TO (r::L)) z (tnN z TI TO (r::L)) where
 mem:=by simp[fpz]
 obj:=λi h st b hb=>by
  obtain⟨h1,h2,⟨ws,h3,_⟩,h4⟩:=st
  rcases ay.mp hb with rfl|hb
  ·exact⟨_,h1,λv z=>(by cases z)⟩
  rcases ay.mp hb with rfl|hb
  ·exact⟨_,h2,λv z=>(by cases z)⟩
  rcases ay.mp hb with rfl|hb
  ·exact⟨_,h3,λv z=>(by cases z)⟩
  obtain⟨r',m,rfl⟩:=aE.mp hb;exact a3m (h4 r' m)
 keep:=λi h h' st k=>by
  obtain⟨h1,h2,⟨ws,h3,l⟩,h4⟩:=st;exact⟨k z (by simp[fpz]) _ h1,k TI (by simp[fpz]) _ h2,⟨ws,k TO (by simp[fpz]) _ h3,l⟩,λr' m=>yc (h4 r' m) λob e=>k r'.a (ai _ (ai _ (ai _ (aE.mpr ⟨r',m,rfl⟩)))) ob e⟩
 item:=by
  intro X hP hw hK hc i aA s σ H E I hf st hg
  subst hP hw hK;obtain⟨row,d⟩:=hg;obtain⟨h1,h2,h3,h4⟩:=st;refine abl f (I.ok.hd hc) I hf ⟨h2,h4,h3,.inl h1⟩ hl d (λrow' h' tk eo I1 st zi=>?_) λen=>by cases en
  cases eo
  refine⟨_,rfl,wpAny_letOwnedTupleGo_zip (zi h1) λh2' z2' sb=>?_⟩;have hp:H s.heap.objs.size=none:=I.hok.fresh (ah _);have lt:∀c∈fpz z TI TO (r::L),c≠s.heap.objs.size:=λc hc=>bM (zlt h1 h2 h3 h4 c hc);obtain⟨g2,g4,⟨ws,g3,l⟩,_⟩:=st;refine⟨.ref s.heap.objs.size,_,a2c (s:={s with heap:=h',toks:=tk}) (t':=tk) (ch:=[z]) I1 (λb hb=>?_) (λc o nc e=>sb.extBut _ _ (by simpa using nc) e),rfl,⟨row,_,d,hp,rfl,rfl⟩,⟨z2',sb.extBut _ _ f.a g2,⟨ws,sb.extBut _ _ f.b g3,l⟩,λr' m=>yc (g4 r' m) λob e=>sb.extBut _ _ (f.z r' m) e⟩,λb hb=>?_⟩
  ·rw[aI.mp hb];obtain⟨f0,f1⟩:=hf z (by simp[fpz])
   exact⟨by rw[bu (lt z (by simp[fpz]))];exact f0,f1⟩
  ·rw[bu (lt b hb)];exact(hf b hb).1
 done:=by
  intro X hP hw hK hc i aA s σ H E I hf st hg
  subst hP hw hK;obtain⟨h1,h2,h3,h4⟩:=st;exact abl f (I.ok.hd hc) I hf ⟨h2,h4,h3,.inl h1⟩ hl (o:=none) hg (λrow h' tk eo=>by cases eo) λ_ h' tk I'=>⟨rfl,I'⟩
 self:=λ_ _ _ _ _ st h=>gR st.1 h
end ZP
namespace MI
open L2 ZP PySem.Builtin PySem.Builtin.SmallTypes
theorem anu{z TI TO:Addr}{L:List Src}{i:Nat}{H H':Hp}{h h':Heap}(st:zsn z TI TO L i H h)(k:∀b∈fpz z TI TO L,∀o,h.get? b=some o->h'.get? b=some o):zsn z TI TO L i H' h':=by
 obtain⟨h2,h4,⟨ws,h3,l⟩,zz⟩:=st;refine⟨k TI (by simp[fpz]) _ h2,λr' m=>yc (h4 r' m) λob e=>k _ (ai _ (ai _ (ai _ (aE.mpr ⟨r',m,rfl⟩)))) _ e,⟨ws,k TO (by simp[fpz]) _ h3,l⟩,?_⟩
 rcases zz with e|⟨T,fb,e⟩
 ·exact .inl (k z (by simp[fpz]) _ e)
 ·exact .inr ⟨T,fb,k z (by simp[fpz]) _ e⟩
end MI
namespace MI
open L2 ZP
theorem anv:typeLookup (.type "zip") "keys" = pure none:=by rw[typeLookup_type,builtinLookup_eq_fast];kernel_rfl
theorem anw:typeLookup (.type "zip") "__getattr__" = pure none:=by rw[typeLookup_type,builtinLookup_eq_fast];kernel_rfl
theorem anx{z TI TO:Addr}{fl:Value}{u:Tok}:Meets (Builtin.«object.__getattribute__» ⟨[.ref z,.str "keys" u],[]⟩) (λA R s=>IsZip s.heap z TI TO fl/\raisesAttr (.ref z) "keys" A R s) :=
 .of_wp λprog w A R s ⟨hx,hs⟩=>by
  have hT:s.TypeIs (.ref z) "zip":=⟨_,hx,rfl⟩;have f:=anv;obtain⟨hp,g,d,tk,os⟩:=s;unfold Builtin.«object.__getattribute__»
  repeat any_goals first|assumption|wp_step
  exact wpAny_raiseAttrError hs.1 hs.2 (attrMsg_fits (by decide +kernel) (by size_fits))
theorem aii:entryFor table "zip.__getattribute__" = some Builtin.«object.__getattribute__»:=entryFor_alias (id' := "object.__getattribute__") (by kernel_rfl) (by decide +kernel) (by decide +kernel) (by kernel_rfl)
theorem anz{prog:Program}{w:World}{A:Around}{s:Shared}{R:Result->Shared->Prop}{z TI TO:Addr}{fl:Value}{u:Tok}(hx:IsZip s.heap z TI TO fl)(hs:raisesAttr (.ref z) "keys" A R s) :
  codeAny (model prog w) A (.call (.builtin "zip.__getattribute__") ⟨[.ref z,.str "keys" u],[]⟩) R s :=
 codeAny_call_builtin dP.plain aii (dP.check _ _ _ _ _ _ _ _ (show s.TypeIs (.ref z) "zip" from ⟨_,hx,rfl⟩) (F.args_zip_getattribute_2 _ _) (anx prog w A R s ⟨hx,hs⟩))
theorem abm{prog:Program}{w:World}{A:Around}{E:Value->Shared->Prop}{s:Shared}{z TI TO:Addr}{fl:Value}{Q:Option Value->Shared->Prop}(hx:IsZip s.heap z TI TO fl)(hA:A.handled=none)
  (h:∀h' tk,(∀b o,s.heap.get? b=some o->h'.get? b=some o)->Q none {s with heap:=h',toks:=tk}):wpAny (model prog w) A (getAttr? (.ref z) "keys") Q E s:=by
 have f1:=sub_AttributeError;have f3:=dP.lookup;have f4:=dP.bind (.ref z);have f5:=anw;obtain⟨hp,g,d,tk,os⟩:=s;have hT:∀t,(⟨hp,g,d,t,os⟩:Shared).TypeIs (.ref z) "zip":=λ_=>⟨_,hx,rfl⟩;unfold getAttr? getAttrBy? getAttrBy
 repeat any_goals first|assumption|exact hT _|wp_step
 refine anz hx ⟨hA,λh' t e x=>?_⟩;obtain⟨t',u',he⟩:=x.there;show wpAny _ _ (getattributeRaised _ _ _ _ _ _ _) _ _ _;unfold getattributeRaised
 repeat any_goals first|assumption|wp_step
 exact h _ _ x.keeps
end MI
namespace MI
open L2 ZP PySem.Builtin PySem.Builtin.SmallTypes
structure Its (h h':Heap) (ks:List Srk) (L:List Src):Prop where
 k:L.map (·.k)=ks
 ge:∀r∈L,h.objs.size<=r.a/\r.a<h'.objs.size/\h'.get? r.a=some (iob r.t r.k)
 nd:(L.map (·.a)).Nodup
 kp:∀b o,h.get? b=some o->h'.get? b=some o
 le:h.objs.size<=h'.objs.size
section
variable{prog:Program}{w:World}{A:Around}{E:Value->Shared->Prop}{s:Shared}
theorem aij{ks:List Srk}{us:List Value}{Q:List Value->Shared->Prop}(vs:Vals (ks.map (·.v)) us)(c:∀k∈ks,∃ws,cont s.heap k ws)
  (q:∀L h',Its s.heap h' ks L->Q (L.map λr=>.ref r.a) {s with heap:=h' }):wpAny (model prog w) A (iterAll us) Q E s:=by
 unfold iterAll
 apply a8
 refine a1t (λl b s'=>∃k1 k2 L h',ks=k1++k2/\Vals (k2.map (·.v)) l/\b=(L.map λr=>Value.ref r.a).toArray/\Its s.heap h' k1 L/\s'={s with heap:=h' }) (λb s' p=>?_) (λa l b s' p=>?_) _ _ _ ⟨[],ks,[],s.heap,rfl,vs,rfl,⟨rfl,(λ_ h=>by cases h),.nil,λ_ _ e=>e,ah _⟩,rfl⟩
 ·obtain⟨k1,k2,L,h',e,v,rfl,i,rfl⟩:=p;obtain rfl:k2=[]:=by simpa using v.length
  rw[cc]at e;subst e;exact av (q L h' i)
 ·obtain⟨k1,k2,L,h',e,v,rfl,i,rfl⟩:=p
  cases k2 with
  |nil=>cases v
  |cons k k2 =>
   cases v with
   |cons r v =>
    obtain⟨t,rfl⟩:=ak3 r;obtain⟨ws,cw⟩:=c k (by rw[e];simp)
    have cw':cont h' k ws:=by
     cases k with
     |tup a=>obtain⟨ob,e,r⟩:=cw;exact⟨ob,i.kp _ _ e,r⟩
     |lst a=>obtain⟨ob,e,r⟩:=cw;exact⟨ob,i.kp _ _ e,r⟩
     |str x=>trivial
    apply a8;apply cH
    refine a2q (s:={s with heap:=h' }) (t:=t) cw' (av ⟨k1++[k],k2,L++[⟨h'.objs.size,t,k⟩],h'.push (iob t k),by simp[e],v,by simp,⟨by simp[i.k],λr hr=>?_,?_,λb o e=>af _ (i.kp b o e),?_⟩,rfl⟩)
    ·rcases bB.mp hr with m|m
     ·obtain⟨a,b,c⟩:=i.ge r m;exact⟨a,by rw[cA];exact Nat.lt_succ_of_lt b,af _ c⟩
     ·rw[aI.mp m];exact⟨i.le,by rw[cA];exact fA _,aT _ (by cases k<;>rfl)⟩
    ·rw[bC,bD];refine⟨i.nd,by simp,λa ha b hb e=>?_⟩
     obtain⟨r,m,rfl⟩:=aE.mp ha;have:=(i.ge r m).2.1;rw[e,aI.mp hb]at this;exact absurd this (cC _)
    ·rw[cA];exact gF i.le
end
theorem aez{ks:List Srk}{us:List Value}(hl:ks.length<=sizeLine):Meets (Builtin.«zip.__new__» ⟨.type "zip"::us,[]⟩)
  (λ_ R s=>Vals (ks.map (·.v)) us/\(∀k∈ks,∃ws,cont s.heap k ws)/\∀L h',Its s.heap h' ks L->R (.ok (.ret (.ref (h'.objs.size+2)))) {s with heap:=((h'.push {cls:=.type "tuple",data:=.seq (L.map λr=>Value.ref r.a).toArray}).push {cls:=.type "tuple",data:=.seq (L.map λ_=>Value.none).toArray}).push {cls:=.type "zip",data:=.fields #[.none,.bool false,.bool false,.ref h'.objs.size,.ref (h'.objs.size+1)]} }) :=
 .of_wp λprog w A R s h=>by
  obtain⟨v,c,h⟩:=h;have sub:=sub_zip
  wp_walk using aij v c
  intro L h' i
  have lL:L.length=ks.length:=by rw[<-i.k,a9]
  apply a8;refine gy ?_ (by simpa[lL] using hl)
  apply a8;refine gy ?_ (by simpa[lL] using hl)
  wp_walk
  refine⟨_,rfl,?_⟩;simpa[cA,ownedTupleFields,fF,Function.comp_def] using h L h' i
section
variable{X:Cx}{s:Shared}{H:Hp}{E:Value->Shared->Prop}{aA:List (Addr×Obj)}{σ:St}
theorem asy{a n j:Nat}(h:a<n):a≠n+j:=by omega
theorem a7r{ks:List Srk}{us:List Value}{Q:Value->Shared->Prop}(hl:ks.length<=sizeLine)(hct:checkTypeCall "zip" ⟨us,[]⟩=pure ())(hcn:checkBuiltinCall "zip.__new__" ⟨.type "zip"::us,[]⟩=pure ())(hok:∀obj,argsOk "object.__init__" ⟨obj::us,[]⟩)
  (I:Inv X aA σ H s) (vs:Vals (ks.map (·.v)) us) (c:∀k∈ks,∃xs,its H k=some xs)
  (q:∀h' z TI TO L,L.map (·.k)=ks->Inv X aA σ H {s with heap:=h' }->FarN z TI TO L->(∀b∈fpz z TI TO L,a1y X aA H b)->zsn z TI TO L 0 H h'->IsZip h' z TI TO .none->Q (.ref z) {s with heap:=h' }) :
  wpAny (model X.prog X.w) X.A (call (.type "zip") us) Q E s:=by
 refine callType_new F.called_zip (by decide) hct hcn hok F.entry_zip_new (aez hl) ⟨vs,λk m=>?_,λL h' i=>?_⟩
 ·obtain⟨xs,e⟩:=c k m;obtain⟨ws,cw,_⟩:=a5y I e;exact⟨ws,cw⟩
 have z0:IsT (((h'.push {cls:=.type "tuple",data:=.seq (L.map λr=>Value.ref r.a).toArray}).push {cls:=.type "tuple",data:=.seq (L.map λ_=>Value.none).toArray}).push {cls:=.type "zip",data:=.fields #[.none,.bool false,.bool false,.ref h'.objs.size,.ref (h'.objs.size+1)]}) h'.objs.size (L.map λr=>.ref r.a) :=
  af _ (af _ (aT _ rfl))
 have z1:=aT (o:={cls:=.type "tuple",data:=.seq (L.map λ_=>Value.none).toArray}) (h'.push {cls:=.type "tuple",data:=.seq (L.map λr=>Value.ref r.a).toArray}) rfl;rw[cA]at z1;have z2:=aT (o:={cls:=.type "zip",data:=.fields #[.none,.bool false,.bool false,.ref h'.objs.size,.ref (h'.objs.size+1)]}) ((h'.push {cls:=.type "tuple",data:=.seq (L.map λr=>Value.ref r.a).toArray}).push {cls:=.type "tuple",data:=.seq (L.map λ_=>Value.none).toArray}) rfl
 rw[cA,cA]at z2;have lt:∀r∈L,∀j,r.a≠h'.objs.size+j:=λr m j=>asy (i.ge r m).2.1;refine⟨⟨_,z2,rfl⟩,q _ _ _ _ L i.k (I.kept (t':=s.toks) λb o e=>af _ (af _ (af _ (i.kp b o e)))) ⟨?_,?_,?_,λr m=>lt r m 2,λr m=>lt r m 0,λr m=>lt r m 1,i.nd⟩ (λb hb=>?_) ⟨z0,λr m=>?_,⟨_,af _ z1,by simp⟩,.inl z2⟩ z2⟩
 ·intro e;have e:(_:Nat)=_:=e;omega
 ·intro e;have e:(_:Nat)=_:=e;omega
 ·intro e;have e:(_:Nat)=_:=e;omega
 ·have:s.heap.objs.size<=b:=by
   have le:=i.le
   rcases ay.mp hb with rfl|hb
   ·exact c9 le (Nat.le_add_right _ 2)
   rcases ay.mp hb with rfl|hb
   ·exact le
   rcases ay.mp hb with rfl|hb
   ·exact c9 le (Nat.le_add_right _ 1)
   obtain⟨r,m,rfl⟩:=aE.mp hb;exact(i.ge r m).1
  exact I.fpOk this (I.hok.fresh this)
 ·exact ayb (af _ (af _ (af _ (i.ge r m).2.2)))
end
theorem aa8{d:D}{h h':Hd}{xs:List D}{ck:Hd->Prop}(e:srcOf d h=some (xs,ck))(m:Hd)(c:ck h'):ck (h'++m):=by
 cases d with
 |tup _=>cases e;trivial
 |rol _=>cases e;trivial
 |str _=>cases e;trivial
 |ref i =>
  unfold srcOf at e;dsimp only at e
  split at e
  ·cases e
   rw[ax (a7.mp c).1];exact c
  ·cases e
 |_=>cases e
theorem af0:∀{ks:List Srk} {o o':Option (List V)},Drk H i ks o->Drk H i ks o'->o=o'
 |[],_,_,a,b=>a.trans b.symm
 |k::ks,o,o',⟨xs,e,a⟩,⟨ys,e',b⟩=>by
  rw[e]at e';cases e'
  rcases a with⟨x,p,g,d,rfl⟩|⟨g,rfl⟩<;>rcases b with⟨y,q,g',d',rfl⟩|⟨g',rfl⟩
  ·rw[g]at g';cases g';rw[af0 d d']
  ·have:=(a7.mp g).1;omega
  ·have:=(a7.mp g').1;omega
  ·rfl
def RD(K:Fg)(ι:List Addr)(H:Hp)(i:Nat)(ks:List Srk):Option (List D)->Prop
 |some ds=>∃row,Drk H i ks (some row)/\Reps K ι H row ds
 |none=>Drk H i ks none
theorem RD.cons(e:its H k=some xs)(r:Reps K ι H xs dx)(g:dx[i]? = some d):∀{o:Option (List D)},RD K ι H i ks o->RD K ι H i (k::ks) (o.map (d::·))
 |some ds,⟨row,a,b⟩=>let ⟨v,c1,c2⟩:=r.get g; ⟨v::row,⟨xs,e,.inl ⟨v,some row,c1,a,rfl⟩⟩,.cons c2 b⟩
 |none,h=>let ⟨v,c1,_⟩:=r.get g; ⟨xs,e,.inl ⟨v,none,c1,h,rfl⟩⟩
theorem RD.stop(e:its H k=some xs)(r:Reps K ι H xs dx)(g:i=dx.length):RD K ι H i (k::ks) none:=⟨xs,e,.inr ⟨by rw[g,r.len],rfl⟩⟩
theorem RD.nil:RD K ι H i [] (some []):=⟨[],rfl,.nil⟩
theorem rd1{dy:List D}(e:its H k=some ys)(r:Reps K ι H ys dy)(h:i<=(dy.map λy=>[y]).length):RD K ι H i [k] (dy.map λy=>[y])[i]?:=by
 rw[a9]at h;rw[ar]
 rcases Nat.lt_or_eq_of_le h with h|h
 ·rw[a6 h];exact RD.cons e r (a6 h) RD.nil
 ·rw[bt (eZ h.symm)];exact RD.stop e r h
def a2l(dx:List D)(dr:List (List D)):List (List D):=(dx.zip dr).map λp=>p.1::p.2
theorem rdz{dx:List D}{dr:List (List D)}(e:its H k=some xs)(r:Reps K ι H xs dx)(F:∀i,i<=dr.length->RD K ι H i ks dr[i]?)(h:i<=(a2l dx dr).length):RD K ι H i (k::ks) (a2l dx dr)[i]?:=by
 simp only[a2l,a9,de]at h;simp only[a2l,ar]
 by_cases a:i<dx.length
 ·have:=RD.cons e r (a6 a) (F i (by omega))
  by_cases b:i<dr.length
  ·rw[(bY (z:=(dx[i],dr[i]))).mpr ⟨a6 a,a6 b⟩]
   rwa[a6 b]at this
  ·rw[bt (l:=dx.zip dr) (by rw[de];omega)]
   rwa[bt (by omega)]at this
 ·rw[bt (l:=dx.zip dr) (by rw[de];omega)]
  exact RD.stop e r (by omega)
theorem aik{ks:List Srk}{dr:List (List D)}{ck:Hd->Prop}(F:∀ι H h,Gr ι0 H0 ι H->HRep K ι H h->ck h->∀i,i<=dr.length->RD K ι H i ks dr[i]?):amg K ι0 H0 (ItN ks) ⟨dr.map .tup,ck⟩:=by
 intro ι H h g hr c
 have F:=F ι H h g hr c;refine⟨λi d ed=>?_,?_⟩
 ·simp only[ar,aL]at ed;obtain⟨ds,e,rfl⟩:=ed;have z:=F i (eY (a7.mp e).1);rw[e]at z;obtain⟨row,a,b⟩:=z;refine⟨⟨row,a⟩,λx H' ⟨row',p,a',hp,e1,e2⟩=>?_⟩
  cases af0 a a'
  subst e1 e2;exact⟨wj hp _,.tup dh (b.mono (wj hp _)),hr.aside hp _⟩
 ·have z:=F dr.length (ah _);rw[bt (ah _)]at z;show Drk H (dr.map D.tup).length ks none;rw[a9];exact z
theorem af1(xs ys:List D):(a2l xs (ys.map λy=>[y])).map D.tup=(xs.zip ys).map λp=>.tup [p.1,p.2]:=by
 simp[a2l,List.zip_map_right]
def ZOk(us:List Value):Prop:=checkTypeCall "zip" ⟨us,[]⟩=pure ()/\checkBuiltinCall "zip.__new__" ⟨.type "zip"::us,[]⟩=pure ()/\∀obj,argsOk "object.__init__" ⟨obj::us,[]⟩
theorem ayf:∀us:List Value,us.length=2->ZOk us
 |[_,_],_=>⟨F.typeCall_zip_2 _ _,F.newCall_zip_2 _ _,λobj=>F.args_object_init_3 obj _ _⟩
def ax0(n:Nat)(ta:TA):TI:=λσ H R=>ta σ H λvs H1=>∃ks:List Srk,vs=ks.map (·.v)/\ks.length=n+1/\(∀k∈ks,∃xs,its H1 k=some xs)/\R (ItN ks) H1
def ZT(tg:Expr):Prop:=∀(P:Program) (w:World) (K:Fg) (z TI TO:Addr) (r:Src) (L:List Src),FarN z TI TO (r::L)->(r::L).length<=sizeLine->∃tn:Nat->Heap->Prop,Turn P w K tg (ItN ((r::L).map (·.k))) (fpz z TI TO (r::L)) z tn/\∀h,tnN z TI TO (r::L) 0 h->tn 0 h
theorem asz{elts:List Expr}{x1:Nat}{tpos:Pos}:ZT (.Tuple elts x1 tpos):=λ_ _ _ _ _ _ _ _ f hl=>⟨_,aey f hl,λ_ h=>h⟩
theorem at3{prog:Program}{w:World}{A:Around}{E:Value->Shared->Prop}{s:Shared}{z TI TO:Addr}{f0 f1:Value}{Q:Value->Shared->Prop}(hz:IsZ s.heap z TI TO f0 f1)(q:Q (.ref z) s):wpAny (model prog w) A (pyIter (.ref z)) Q E s:=by
 have hT:s.TypeIs (.ref z) "zip":=⟨_,hz,rfl⟩;exact wpAny_pyIter_slot hT F.slot_zip_iter (cV F.slot_zip_iter hT F.entry_zip_iter (av ⟨_,rfl, "zip",_,hT,gY.lookup,q⟩) (F.args_zip_iter_1 _))
theorem ao0{x:Str}{p:Pos}:ZT (.Name x p):=λP w K z TI TO r L f hl=>⟨λi h=>zsn z TI TO (r::L) i (λ_=>none) h,{
 mem:=by simp[fpz]
 obj:=λi h st b hb=>by
  obtain⟨h2,h4,⟨ws,h3,_⟩,zz⟩:=st
  rcases ay.mp hb with rfl|hb
  ·rcases zz with e|⟨_,_,e⟩<;>exact⟨_,e,λv z=>(by cases z)⟩
  rcases ay.mp hb with rfl|hb
  ·exact⟨_,h2,λv z=>(by cases z)⟩
  rcases ay.mp hb with rfl|hb
  ·exact⟨_,h3,λv z=>(by cases z)⟩
  obtain⟨r',m,rfl⟩:=aE.mp hb;exact a3m (h4 r' m)
 keep:=λi h h' st k=>anu st k
 item:=by
  intro X hP hw hK hc i aA s σ H E I hf st hg
  subst hP hw hK;obtain⟨row,d⟩:=hg;refine abl (H:=H) f (I.ok.hd hc) I hf st hl d (λrow' h' tk eo I1 st' _=>?_) λen=>by cases en
  cases eo
  have hp:H s.heap.objs.size=none:=I.hok.fresh (ah _);obtain⟨g2,g4,g3,zz⟩:=id st;have lt:∀c∈fpz z TI TO (r::L),c≠s.heap.objs.size:=by
   rcases zz with e|⟨_,_,e⟩<;>exact λc hc=>bM (zlt e g2 g3 g4 c hc)
  exact⟨_,rfl,av ⟨.ref s.heap.objs.size,_,I1,rfl,⟨row,_,d,hp,rfl,rfl⟩,st',λb hb=>by rw[bu (lt b hb)];exact(hf b hb).1⟩⟩
 done:=by
  intro X hP hw hK hc i aA s σ H E I hf st hg
  subst hP hw hK;exact abl (H:=H) f (I.ok.hd hc) I hf st hl (o:=none) hg (λrow h' tk eo=>by cases eo) λ_ h' tk I'=>⟨rfl,I'⟩
 self:=λ_ _ _ _ _ st h=>by
  rcases st.2.2.2 with e|⟨_,_,e⟩<;>exact at3 e h},λh ⟨a,b,c,d⟩=>⟨b,d,c,.inl a⟩⟩
theorem ao1{X:Cx}(hg:Gl X "zip")(hm:X.mg "zip" = none)(hb:bootBuiltins "zip" = some (.type "zip"))(ha:PA X (e1::es) ta)(ht:ZT tg)(hz:∀us:List Value,us.length=n+1->ZOk us)(hn:n<10)
  (he:starEach (e1::es) X.env=(false,eval e1 X.env)::starEach es X.env) (hpl:(backTo pos (starEach es X.env)).any (·.1)=false):PI X tg (.Call (.Name "zip" p) (e1::es) [] pos) (ax0 n ta):=by
 intro aA s σ H R I h
 refine cI (a05 I hg hm hb ?_ (by decide) (by decide))
 refine bG (L2.thn (ha pos aA s σ H _ I h) ?_) he hpl
 rintro us s1 ⟨vs,H1,I1,r1,q1⟩
 obtain⟨ks,rfl,l,c,q⟩:=q1;obtain⟨z1,z2,z3⟩:=hz us (by rw[<-r1.length,a9,l])
 have hl:ks.length<=sizeLine:=by rw[l];exact c9 hn (by decide)
 refine a7r hl z1 z2 z3 I1 r1 c λh' z TI TO L e I2 f hf st hz=>?_;refine gR (s:={s1 with heap:=h' }) hz ?_
 cases L with
 |nil=>rw[<-e]at l;cases l
 |cons r L =>
  obtain⟨a,b,d,_⟩:=st;obtain⟨tn,tu,t0⟩:=ht X.prog X.w X.K z TI TO r L f (by rw[<-e,a9]at hl;exact hl)
  exact⟨z,_,tn,ItN ((r::L).map (·.k)),H1,rfl,I2,tu,t0 _ ⟨hz,a,d,b⟩,hf,by rw[e];exact q⟩
section
variable{X:Cx}{E:XD}{f g k:SE}
theorem ao2(hg:Gl X "zip")(hm:X.mg "zip" = none)(hb:bootBuiltins "zip" = some (.type "zip"))(ha:ME X E e1 f)(hb':ME X E e2 g)
  (h1:starEach [e1,e2] X.env=(false,eval e1 X.env)::starEach [e2] X.env:=by rfl) (h2:starEach [e2] X.env=[(false,eval e2 X.env)]:=by rfl) (ht:ZT tg:=by first|exact asz|exact ao0) :
  MI X E tg (.Call (.Name "zip" p) [e1,e2] [] pos) (agc f g):=by
 rintro aA s σ H Rr I ⟨ι,τ,h,S,Rh,o⟩
 refine ao1 hg hm hb (a06 ha (a06 hb' a4k (by rw[h2];rfl)) h1) ht ayf (by decide) h1 (by rw[h2];rfl) aA s σ H Rr I ?_
 refine⟨ι,τ,h,S,Rh,bh o λd h1 ι1 H1 v g1 r1 hr1 o1=>?_⟩;refine⟨ι1,τ,h1,S.mono g1,hr1,bh o1 λd2 h2 ι2 H2 u g2 r2 hr2 o2=>?_⟩;unfold aoz at o2
 split at o2
 ·rename_i xs c1 ys c2 q1 q2;obtain⟨k1,rfl,k1c,k1f⟩:=a7g (r1.mono g2) hr2 q1;obtain⟨k2,rfl,k2c,k2f⟩:=a7g r2 hr2 q2;obtain⟨vs1,w1,_⟩:=k1f ι2 H2 h2 (.refl _ _) hr2 k1c;obtain⟨vs2,w3,_⟩:=k2f ι2 H2 h2 (.refl _ _) hr2 k2c;refine⟨[k1,k2],rfl,rfl,λk m=>?_,o2 ι2 H2 _ (.refl _ _) ?_ hr2⟩
  ·simp only[ay,bq,cK]at m
   rcases m with rfl|rfl
   ·exact⟨_,w1⟩
   ·exact⟨_,w3⟩
  ·rw[<-af1];refine aik λι3 H3 h3 g3 hr3 c i hi=>?_;obtain⟨us1,a1,a2⟩:=k1f ι3 H3 h3 g3 hr3 c.1;obtain⟨us2,a3,a4⟩:=k2f ι3 H3 h3 g3 hr3 c.2;exact rdz a1 a2 (λj hj=>rd1 a3 a4 hj) hi
 ·exact o2.elim
end
end MI
namespace MI
open L2 ZP PySem.Builtin PySem.Builtin.SmallTypes
theorem a2w:plainId "dict.update.loop" = true:=by decide +kernel
theorem aa9:entryFor table "dict.update.loop" = some Builtin.«dict.update.loop»:=entryFor_of_tree (by kernel_rfl)
def a8x(ps:List (Key×D)):List (Key×D):=ps.foldl (λa p=>putD a p.1 p.2) []
theorem a7s(ps:List (Key×D))(p:Key×D):a8x (ps++[p])=putD (a8x ps) p.1 p.2:=by unfold a8x;rw[dI];rfl
theorem ail{κ:Type}[DecidableEq κ](kvs:List (κ×D))(k:κ)(d:D):(putD kvs k d).length<=kvs.length+1:=by
 unfold putD;split
 ·rw[a9];omega
 ·rw[ag];exact ah _
theorem a67(ps:List (Key×D)):∀n,(a8x (ps.take n)).length<=n
 |0=>bU _
 |n+1=>by
  rw[gu]
  cases e:ps[n]? with
  |none=>exact gF (by simpa using a67 ps n)
  |some p =>
   show(a8x (ps.take n++[p])).length<=_;rw[a7s];have:=ail (a8x (ps.take n)) p.1 p.2;have:=a67 ps n;omega
section
variable{X:Cx}{A:Around}{z TI TO S:Addr}{r:Src}{L:List Src}{aA:List (Addr×Obj)}{σ:St}{ι0 ι:List Addr}{H0:Hp}{h0:Hd}{ps:List (Key×D)}{res:Value}{R:Result->Shared->Prop}
theorem aim{E:Value->Shared->Prop}{Q:List Value->Shared->Prop}{s:Shared}{T:Addr}{us:List Value}(e:PyProof.Rows.IsTup s.heap T us.toArray)(q:Q us s):wpAny (model X.prog X.w) A (Builtin.Dict.pairItems (.ref T)) Q E s:=by
 obtain⟨o,h1,h2,n,h3⟩:=e;unfold Builtin.Dict.pairItems;refine a8 (fT (show s.TypeIs (.ref T) "tuple" from ⟨o,h1,h2⟩) ?_)
 show wpAny _ _ (seqItems? (.ref T)>>=_) _ _ s;unfold seqItems?;refine a8 (a8 (wpAny_load h1 ?_));rw[h3];exact av (av q)
theorem at4(f:FarN z TI TO (r::L))(hA:A.handled=none)(hl:(r::L).length<=sizeLine)(iS:ι[h0.length]? = some S)(hn:ps.length<=sizeLine)
  (Fs:∀H' a,Gr ι0 H0 ι H'->HRep X.K ι H' (h0++[.dK a])->(∀i p,ps[i]? = some p->∃v,Drw H' i (r::L) (some [kV p.1,v])/\Rep X.K ι H' v p.2)/\Drw H' ps.length (r::L) none)
  (fin:∀s' H',Inv X aA σ H' s'->Gr ι0 H0 ι H'->HRep X.K ι H' (h0++[.dK (a8x ps)])->R (.ok (.ret res)) s') :
  ∀n i (k:Int) s H,ps.length-i=n->i<=ps.length->Inv X aA σ H s->(∀b∈fpz z TI TO (r::L),a1y X aA H b)->zsn z TI TO (r::L) i H s.heap->Gr ι0 H0 ι H->HRep X.K ι H (h0++[.dK (a8x (ps.take i))])->
   codeAny (model X.prog X.w) A (.builtin "dict.update.loop" ⟨[.ref S,.ref z,rawInt k,res],[]⟩) R s:=by
 intro n
 induction n with
 |zero =>
  intro i k s H hk hi I hf st g hr
  obtain rfl:i=ps.length:=by omega
  apply codeAny_builtin aa9
  rw[Around.under_plainId a2w]
  change wpAny _ A.in1 (pyNext (.ref z)>>=_) _ _ s
  refine a8 (abl f hA I hf st hl (Fs H _ g hr).2 (λrow h' tk eo=>by cases eo) λ_ h' tk I'=>?_)
  rw[bZ (ah _)]at hr
  change wpAny _ A.in1 (Builtin.Dict.addKeywords S []>>=λ_=>ret res) _ _ _
  exact a8 (av (av (fin _ _ I' g hr)))
 |succ n ih =>
  intro i k s H hk hi I hf st g hr
  have lt:i<ps.length:=by omega
  obtain⟨v,d,rr⟩:=(Fs H _ g hr).1 i ps[i] (a6 lt);have nS:∀b∈fpz z TI TO (r::L),b≠s.heap.objs.size:=by
   obtain⟨g2,g4,g3,zz⟩:=id st
   rcases zz with e|⟨_,_,e⟩<;>exact λb hb=>bM (zlt e g2 g3 g4 b hb)
  apply codeAny_builtin aa9
  rw[Around.under_plainId a2w]
  change wpAny _ A.in1 (pyNext (.ref z)>>=_) _ _ s
  refine a8 (abl f hA I hf st hl d (λrow' h' tk eo I' st' _=>?_) λen=>by cases en)
  cases eo
  have hp:H s.heap.objs.size=none:=I.hok.fresh (ah _);have hr1:=hr.aside hp (.tup [kV ps[i].1,v]);have gn:=wj hp (.tup [kV ps[i].1,v]) (ι:=ι);have g1:=g.trans gn;obtain⟨_,us,ru,tu⟩:=(show ObjOk X.prog X.w _ h' s.heap.objs.size (.tup [kV ps[i].1,v]) from I'.hok _ _ dh)
  obtain⟨u1,u2,rfl,q1,q2⟩:=vals2 ru
  change wpAny _ A.in1 (holding [Value.ref s.heap.objs.size] _>>=_) _ _ _
  refine a8 (cH ?_);refine a8 (wpAny_tryCatch (aim (X:=X) tu.r ?_));show wpAny _ _ (holding [u1,u2] (dictSet S u1 u2)) _ _ _;refine cH ?_;have lz:(h0++[O.dK (a8x (ps.take i))])[h0.length]? = some (.dK (a8x (ps.take i))):=by simp
  obtain⟨us,e1,e2⟩:=hr1.obj h0.length S _ iS lz;have lu:us.length<=i:=by
   have:=aZ List.length e2.1
   rw[a9,a9]at this;rw[this];exact a67 ps i
  obtain⟨_,hd,vs,rel,dd⟩:=acv I'.hok e1;have hz:vs.length<=sizeLine:=by rw[<-rel.length];omega
  refine wpAny_dictSet_pairs (hsz:=hz) (a8h q1) dd λh2 dd' hs=>?_;have he:∃q,h2.get? S=some q:=let ⟨q,_,_,hq,_⟩:=dd'; ⟨q,hq⟩;have hl2:(putK us ps[i].1 v).length<=sizeLine:=by have:=ud us ps[i].1 v;omega
  have I2:=a07 (t':=tk+1) I' (by rw[e1];exact True.intro) hs he (a9h hl2 hd (rel.put ps[i].1 q2) dd')
  have hf':∀b∈fpz z TI TO (r::L),upd H s.heap.objs.size (.tup [kV ps[i].1,v]) b=none:=λb hb=>by rw[bu (nS b hb)];exact(hf b hb).1
  have nl:∀b∈fpz z TI TO (r::L),b≠S:=λb hb e=>by have:=hf' b hb;rw[e,e1]at this;cases this
  have gp:=xu hr1 iS (.dK (putK us ps[i].1 v));refine av ⟨plainId_quiet a2w _,ih (i+1) (k+1) _ _ (by omega) lt I2 (λb hb=>⟨by rw[bu (nl b hb)];exact hf' b hb,(hf b hb).2⟩) ?_ (g1.trans gp) ?_⟩
  ·exact anu st' λb hb o e=>(hs.2 b (nl b hb)).trans e
  ·have:=hr1.put iS (o:=.dK (putK us ps[i].1 v)) (ob:=.dK (putD (a8x (ps.take i)) ps[i].1 ps[i].2)) ⟨_,dh,(a1q ps[i].1 e2 (rr.mono gn)).mono gp⟩
   rw[gu,a6 lt,Option.toList_some,a7s];simpa using this
theorem abn{E:Value->Shared->Prop}{s:Shared}{H:Hp}{Q:Value->Shared->Prop}(f:FarN z TI TO (r::L))(hA:A.handled=none)(hl:(r::L).length<=sizeLine)(hn:ps.length<=sizeLine)(I:Inv X aA σ H s)(hf:∀b∈fpz z TI TO (r::L),a1y X aA H b)(st:zsn z TI TO (r::L) 0 H s.heap)(hz:IsZip s.heap z TI TO .none)(hr:HRep X.K ι H h0)
  (Fs:∀ι' H' a,Gr ι H ι' H'->HRep X.K ι' H' (h0++[.dK a])->(∀i p,ps[i]? = some p->∃v,Drw H' i (r::L) (some [kV p.1,v])/\Rep X.K ι' H' v p.2)/\Drw H' ps.length (r::L) none)
  (fin:∀s' H',Inv X aA σ H' s'->Gr ι H (ι++[s.heap.objs.size]) H'->HRep X.K (ι++[s.heap.objs.size]) H' (h0++[.dK (a8x ps)])->Q (.ref s.heap.objs.size) s') :
  wpAny (model X.prog X.w) A (call (.type "dict") [.ref z]) Q E s:=by
 have hp:H s.heap.objs.size=none:=I.hok.fresh (ah _);have nz:∀b∈fpz z TI TO (r::L),b≠s.heap.objs.size:=λb hb=>bM (zlt hz st.1 st.2.2.1 st.2.1 b hb);have mz:z∈fpz z TI TO (r::L):=by simp[fpz]
 refine callType_codes (Q₁:=λv t=>v=.ref s.heap.objs.size/\t={s with heap:=s.heap.push {cls:=.type "dict",data:=.dict #[]} }) F.kt_called_dict (F.kt_typeCall_dict_1 _) F.entry_dict_init (kt_code_dict_new _ ⟨rfl,rfl⟩) ?_
 rintro _ _ ⟨rfl,rfl⟩
 have o1:(s.heap.push {cls:=.type "dict",data:=.dict #[]}).get? s.heap.objs.size=some {cls:=.type "dict",data:=.dict #[]}:=aT _ rfl;have I1:Inv X aA σ (upd H s.heap.objs.size (.dK [])) {s with heap:=s.heap.push {cls:=.type "dict",data:=.dict #[]} } :=
  I.laid (a:=s.heap.objs.size) (o:=.dK []) (t':=s.toks) (λ_ _ q=>af _ q) (ah _) (a5k s.heap I.big)
 have ty:Shared.TypeIs {s with heap:=s.heap.push {cls:=.type "dict",data:=.dict #[]} } (.ref s.heap.objs.size) "dict":=⟨_,o1,rfl⟩
 refine⟨ty,F.args_dict_init_2 _ _,?_⟩;unfold Builtin.«dict.__init__»;refine a8 ?_;unfold Builtin.Dict.selfAndRest;refine a8 (wpAny_notOrdered_dict ty ?_);show wpAny _ _ (pure (s.heap.objs.size,[Value.ref z])) _ _ _;refine av ?_;show wpAny _ _ (Builtin.Dict.updateFrom "dict.__init__" s.heap.objs.size (.ref z) [] .none) _ _ _;unfold Builtin.Dict.updateFrom;have zi:IsZip (s.heap.push {cls:=.type "dict",data:=.dict #[]}) z TI TO .none:=af _ hz;refine a8 (fT (show Shared.TypeIs {s with heap:=_} (.ref z) "zip" from ⟨_,zi,rfl⟩) ?_)
 rw[aQ (by decide)]
 refine a8 (abm (s:={s with heap:=_}) zi hA λh' tk kp=>?_)
 rw[aQ (show(none:Option Value).isNone=true from rfl)]
 refine a8 (gE (a8 ?_));refine gR (s:={s with heap:=h',toks:=tk}) (kp _ _ zi) ?_
 have lz:(ι++[s.heap.objs.size])[h0.length]? = some s.heap.objs.size:=by rw[aw (by rw[hr.len];exact ah _),hr.len];simp
 have I2:=I1.kept (h':=h') (t':=tk) kp;refine av ⟨plainId_quiet a2w _,at4 (A:=A.in1) (ι0:=ι) (H0:=H) f hA hl lz hn (λH' a=>Fs _ H' a) (λs' H' i g r=>⟨rfl,fin s' H' i g r⟩) _ 0 0 _ _ rfl (bU _) I2 (λb hb=>?_) ?_ (a4p hp _) ?_⟩
 ·obtain⟨g0,g1⟩:=hf b hb;exact⟨by rw[bu (nz b hb)];exact g0,g1⟩
 ·exact anu st λb hb o e=>kp _ _ (af _ e)
 ·rw[hI];exact hr.add hp ⟨[],dh,rfl,.nil⟩
end
theorem af2{α β:Type}{f:α->Option β}:∀{xs:List α} {ks:List β},v4 f xs=some ks->ks.length=xs.length/\∀(i:Nat) (k:β),ks[i]? = some k->∃x,xs[i]? = some x/\f x=some k
 |[],_,e=>by cases e;exact⟨rfl,λi k h=>by simp at h⟩
 |x::xs,ks,e=>by
  unfold v4 at e
  split at e
  ·rename_i y ys h1 h2;cases e
   obtain⟨a,b⟩:=af2 h2;exact⟨by rw[aW,aW,a],λi k h=>by
    cases i with
    |zero=>exact⟨x,rfl,by rw[h1];exact h⟩
    |succ i=>exact b i k h⟩
  ·cases e
def abo(x y:D)(h:Hd):R D:=match srcOf x h,srcOf y h with
 |some (xs,_),some (ys,_)=>(match v4 a3p xs with
  |some ks=>if (ks.zip ys).length<=LINE then .ok (.ref h.length) (h++[.dK (a8x (ks.zip ys))]) else .no
  |none=>.no)
 |_,_=>.no
theorem ao3{X:Cx}{E:XD}{e1 e2:Expr}{f g:SE}{p p2:Pos}{pos pos2:Pos}(hc:X.calm=true)(hg:Gl X "dict")(hm:X.mg "dict" = none)(hg2:Gl X "zip")(hm2:X.mg "zip" = none)(hb0:bootBuiltins "dict" = some (.type "dict"))(hb:bootBuiltins "zip" = some (.type "zip"))(ha:ME X E e1 f)(hb':ME X E e2 g)
  (h1:starEach [e1,e2] X.env=(false,eval e1 X.env)::starEach [e2] X.env:=by rfl) (h2:starEach [e2] X.env=[(false,eval e2 X.env)]:=by rfl)
  (he:starEach [.Call (.Name "zip" p2) [e1,e2] [] pos2] X.env=(false,eval (.Call (.Name "zip" p2) [e1,e2] [] pos2) X.env)::starEach [] X.env:=by rfl) (hpl:(backTo pos (starEach [] X.env)).any (·.1)=false:=by rfl) :
  ME X E (.Call (.Name "dict" p) [.Call (.Name "zip" p2) [e1,e2] [] pos2] [] pos) (s2 abo f g):=by
 rintro aA s σ H Q I ⟨ι,τ,h,S,Rh,o⟩
 refine cI (a05 I hg hm hb0 ?_ (by decide) (by decide))
 refine bG ?_ he hpl;rw[he];show wpAny _ _ (spliced ((false,eval (.Call (.Name "zip" p2) [e1,e2] [] pos2) X.env)::backTo pos (starEach [] X.env))) _ _ s;refine Calls.spliced_cons ?_;refine cI (a05 I hg2 hm2 hb ?_ (by decide) (by decide))
 refine bG (L2.thn (a06 ha (a06 hb' a4k (by rw[h2];rfl)) h1 pos2 aA s σ H (λvs H1=>∃k1 k2 ι2 h2 xs ys ks,vs=[Srk.v k1,Srk.v k2]/\v4 a3p xs=some ks/\(∀k∈[k1,k2],∃xs,its H1 k=some xs)/\HRep X.K ι2 H1 h2/\(ks.zip ys).length<=sizeLine/\(∀ι' H' a,Gr ι2 H1 ι' H'->HRep X.K ι' H' (h2++[.dK a])->∀i,i<=(a2l xs (ys.map λy=>[y])).length->RD X.K ι' H' i [k1,k2] (a2l xs (ys.map λy=>[y]))[i]?) /\
   ∀p H',Gr ι2 H1 (ι2++[p]) H'->HRep X.K (ι2++[p]) H' (h2++[.dK (a8x (ks.zip ys))])->Q (.ref p) H') I ?_) ?_) h1 (by rw[h2];rfl)
 ·refine⟨ι,τ,h,S,Rh,bh o λd h1 ι1 H1 v g1 r1 hr1 o1=>?_⟩;refine⟨ι1,τ,h1,S.mono g1,hr1,bh o1 λd2 h2 ι2 H2 u g2 r2 hr2 o2=>?_⟩;unfold abo at o2
  split at o2
  ·rename_i xs c1 ys c2 q1 q2
   split at o2
   ·rename_i ks hks
    split at o2
    ·rename_i hl;obtain⟨k1,rfl,k1c,k1f⟩:=a7g (r1.mono g2) hr2 q1;obtain⟨k2,rfl,k2c,k2f⟩:=a7g r2 hr2 q2;obtain⟨vs1,w1,_⟩:=k1f ι2 H2 h2 (.refl _ _) hr2 k1c;obtain⟨vs2,w3,_⟩:=k2f ι2 H2 h2 (.refl _ _) hr2 k2c;refine⟨k1,k2,ι2,h2,xs,ys,ks,rfl,hks,λk m=>?_,hr2,ll hl,λι' H' a g' r' i hi=>?_,λp H' g' r'=>?_⟩
     ·simp only[ay,bq,cK]at m
      rcases m with rfl|rfl
      ·exact⟨_,w1⟩
      ·exact⟨_,w3⟩
     ·obtain⟨us1,a1,a2⟩:=k1f ι' H' _ g' r' (aa8 q1 _ k1c);obtain⟨us2,a3,a4⟩:=k2f ι' H' _ g' r' (aa8 q2 _ k2c);exact rdz a1 a2 (λj hj=>rd1 a3 a4 hj) hi
     ·refine o2 _ H' _ g' (.ref ?_) r';rw[aw (by rw[hr2.len];exact ah _),hr2.len];simp
    ·exact o2.elim
   ·exact o2.elim
  ·exact o2.elim
 ·rintro us s1 ⟨vs,H1,I1,r1,k1,k2,ι2,hd,xs,ys,ks,rfl,hks,c,hr,hl,Fs,q⟩
  obtain⟨z1,z2,z3⟩:=ayf us r1.length.symm;obtain⟨lk,atk⟩:=af2 hks;refine a7r (ks:=[k1,k2]) (by show 2<=sizeLine;decide) z1 z2 z3 I1 r1 c λh' z TI TO L e I2 f hf st hz=>?_
  refine Calls.spliced_nil ?_;have zl:(a2l xs (ys.map λy=>[y])).length=(ks.zip ys).length:=by simp[a2l,lk]
  cases L with
  |nil=>cases e
  |cons r L =>
   refine abn f (I.ok.hd hc) (by have:=aZ List.length e;rw[a9]at this;rw[this];show 2<=sizeLine;decide) hl I2 hf st hz hr (λι' H' a g' r'=>⟨λi p ep=>?_,?_⟩) λs' H' I' g r=>⟨.ref _,_,I',rfl,q _ _ g r⟩
   ·have lt:=(a7.mp ep).1;have:=Fs ι' H' a g' r' i (by omega)
    obtain⟨p1,p2⟩:=bY.mp ep;obtain⟨x,ex,fx⟩:=atk i _ p1;have er:(a2l xs (ys.map λy=>[y]))[i]? = some [x,p.2]:=by
     unfold a2l;rw[ar,(bY (z:=(x,[p.2]))).mpr ⟨ex,by rw[ar,p2];rfl⟩]
     rfl
    rw[er]at this;obtain⟨row,a1,a2⟩:=this;rw[<-e]at a1
    cases a2 with
    |cons b1 b2 =>
     cases b2 with
     |cons b2 b3 =>
      cases b3
      rw[a1a b1 fx]at a1;exact⟨_,a1,b2⟩
   ·have:=Fs ι' H' a g' r' _ (ah _)
    rw[bt (ah _),<-e,zl]at this;exact this
end MI
namespace L2
open PyProof.Rows
section
variable{X:Cx}{aA:List (Addr×Obj)}{s:Shared}{σ:St}{H:Hp}{A:Around}{E:Value->Shared->Prop}
theorem at5{Q:Value->Shared->Prop}{a:Addr}{ent:List NE}(I:Inv X aA σ H s)(e:NDE H a ent)(h:∀t s',Inv X aA σ H s'->Q (.int ent.length t) s'):wpAny (model X.prog X.w) A (call (.builtin "len") [.ref a]) Q E s:=by
 obtain⟨z,hd,xs,rel,dd⟩:=aav I.hok e;have lx:ent.length=xs.length:=dB rel;obtain⟨o,es,ep,ho,hc,hdat,he,_⟩:=dd;have les:es.size=xs.length:=by rw[<-cO,he,a9]
 have hn:=a0s;refine call_len_slot (T := "dict") (n:=(ent.length:Int)) ⟨o,ho,hc.1⟩ fQ (λQ' h'=>?_) (by omega) (by omega) (h _ _ (I.tok _))
 refine call_meetsIn (S:=λ_ R s'=>s'=s/\R (.ok (.ret (.int ent.length s.toks))) {s with toks:=s.toks+1}) fQ ⟨o,ho,hc.1⟩ F.entry_dict_len (F.args_dict_len_1 _) (.of_wp λA' R s' ⟨es',hr⟩=>?_) ⟨rfl,h'⟩
 subst es';show wpAny _ _ (dictSize a>>=_) _ _ _;unfold dictSize;refine a8 (a8 (wpAny_dictEntries ho hdat (av ?_)));show wpAny _ _ (Builtin.Dict.pendingCount a>>=_) _ _ _;refine a8 (wpAny_pendingCount_other hd (gU ?_));rw[Nat.add_zero,les,<-lx];exact hr
end
def at6(xs:List V)(H:Hp)(Q:VK):Prop:=∃a,xs=[.ref a]/\((∃kvs,Rd H a (.dK kvs)/\Q (.int kvs.length) H)\/∃ent,NDE H a ent/\Q (.int ent.length) H)
theorem abp{X:Cx}:CallR X (.builtin "len") at6:=by
 intro aA s σ H xs us Q I r h
 obtain⟨a,rfl,h⟩:=h;obtain⟨u,rfl,rx⟩:=vals1 r;cases rx
 rcases h with⟨kvs,e,q⟩|⟨kvs,e,q⟩
 ·exact aqh I e λt s' I'=>⟨.int kvs.length,H,I',⟨t,rfl⟩,q⟩
 ·exact at5 I e λt s' I'=>⟨.int kvs.length,H,I',⟨t,rfl⟩,q⟩
end L2
namespace MI
open L2
def akd:SE:=λ_ h=>.ok (.ref h.length) (h++[.dN []])
theorem ain{X:Cx}{E:XD}{pos:Pos}:ME X E (.Dict [] [] pos) akd:=by
 refine PE.weak ah0 λσ H Q ⟨ι,τ,h,S,Rh,o⟩=>λp hp=>?_;exact o (ι++[p]) _ _ (a4p hp _) (.ref (by rw[aw (by rw[Rh.len];exact ah _),Rh.len];simp)) (Rh.add hp ⟨[],.inr ⟨dh,rfl⟩,rfl,.nil⟩)
def a4g:List D->Hd->R D
 |[.ref i],h=>(match h[i]? with|some (.dK kvs)=>.ok (.int kvs.length) h|some (.dN kvs)=>.ok (.int kvs.length) h|_=>.no)
 |_,_=>.no
theorem aio{K:Fg}:ab3 K a4g at6:=by
 intro E ι H h xs ds Q r hr o
 cases r with
 |nil=>exact o.elim
 |cons r rs =>
  cases rs with
  |cons _ _=>exact(show False by cases r<;>exact o).elim
  |nil =>
   cases r with
   |@ref p j hp =>
    obtain⟨ob,e1,e2⟩:=hr.at hp
    cases ob with
    |dK kvs=>simp only[a4g,e1]at o;obtain⟨us,h3,h4⟩:=e2;exact⟨p,rfl,.inl ⟨us,.inl h3,by rw[show us.length=kvs.length by simpa using aZ List.length h4.1];exact ans o (.int _) hr⟩⟩
    |dN kvs=>simp only[a4g,e1]at o;obtain⟨us,h3,h4⟩:=e2;exact⟨p,rfl,.inr ⟨us,h3,by rw[show us.length=kvs.length by simpa[a3e] using aZ List.length h4.1];exact ans o (.int _) hr⟩⟩
    |_=>simp only[a4g,e1]at o;exact o.elim
   |_=>exact o.elim
theorem at7{h:Hd}{i:Nat}{kvs:List ((Int×List Int)×D)}(e:h[i]? = some (.dN kvs)):a4g [.ref i] h=.ok (.int kvs.length) h:=by unfold a4g;simp only[e]
theorem at8{h:Hd}{i:Nat}{kvs:List (Key×D)}(e:h[i]? = some (.dK kvs)):a4g [.ref i] h=.ok (.int kvs.length) h:=by unfold a4g;simp only[e]
end MI
namespace K31
open L2 MI
noncomputable def vz:SS :=
 (sIf (sT (s2 (aa1 true) (sV 2) (sV 1)))
 (a3q (sA a4g (aj (sV 1) bj)) (sV 1) (sV 2))
 sNx)
noncomputable def w6:SE :=
 (s2 a2k (sV 1) (sV 0))
noncomputable def zc:SS :=
 (di (j4 1 akd)
 (di (a6p (sIt (sV 0)) (kN 2) vz)
 (a04 (jo (sIt (sV 0)) t1 w6 [1]))))
noncomputable def zq(az:SF):SE :=
 (s2 gIx (sV 1) (sV 0))
noncomputable def wz(az:SF):SE :=
 (sA a2i (aj (sV 0) (aj (sA jf (aj (sZ (jo (sIt (sV 1)) t1 (zq az) [2])) bj)) bj)))
noncomputable def xf(az:SF):ST :=
 (sT (sCh gLe gLt (sV 3) (sA a7o (aj (sV 2) bj)) (sI 32)))
noncomputable def zu(az:SF):SS :=
 (di (j4 3 (s2 lq (sA a7o (aj (sV 2) bj)) (sI 1)))
 (j4 2 (sA (j6 false 1 az) (aj (sZ (jo (agc (sV 2) (sV 0)) (tN 2) (wz az) [2])) bj))))
noncomputable def a1u(az:SF):SS :=
 (di (j4 2 (sA (j6 false 1 az) (aj (sV 1) bj)))
 (di (j4 3 (sI 0))
 (di (sWh (xf az) (zu az) 100000)
 (a04 (sV 2)))))
noncomputable def jb:SE :=
 (sMT a8w (sV 1) (aj (sV 0) bj))
noncomputable def n6:SE :=
 (s2 gIx (sV 1) (sV 0))
noncomputable def jc:SE :=
 (sA jf (aj (sZ (jo (sIt (s2 gIx (sV 1) (sV 0))) t1 n6 [2])) bj))
noncomputable def jd:SE :=
 (s2 gIx (sV 1) (sV 0))
noncomputable def ph:SS :=
 (di (j4 4 (sZ (jo (sRg a09 (aj (s2 lq (sA a7q (aj (sV 3) bj)) (sI 1)) bj)) t1 jb [3])))
 (di (j4 5 (sZ (jo (sIt (sV 4)) t1 jc [1,3])))
 (a04 (sA a2i (aj (sV 0) (aj (sA jf (aj (sV 5) bj)) (aj (sA jf (aj (sZ (jo (sIt (sV 4)) t1 jd [2])) bj)) bj)))))))
noncomputable def uw(kj:SF)(az:SF)(bx:SF):SE :=
 (s2 gIx (sV 1) (sV 0))
noncomputable def yf(kj:SF)(az:SF)(bx:SF):SE :=
 (s2 a2k (sV 1) (sV 0))
noncomputable def a0d(kj:SF)(az:SF)(bx:SF):SS :=
 (di (a8q (sV 0) (a4q 3 (jw (kN 1) (jw (kN 2) (jw (kN 3) a5s)))))
 (di (j4 4 (sA (j6 false 2 kj) (aj (sV 2) (aj (sV 3) bj))))
 (di (j4 5 (sA (j6 false 1 bx) (aj (sV 2) bj)))
 (di (j4 6 (sZ (s2 abo (sV 5) (sA (j6 false 1 az) (aj (sZ (jo (sIt (sV 5)) t1 (uw kj az bx) [4])) bj)))))
 (a04 (sA jf (aj (sZ (jo (sRg a09 (aj (sA jx (aj (sV 2) bj)) bj)) t1 (yf kj az bx) [6])) bj)))))))
noncomputable def zf(uy:SF)(iw:SF):SS :=
 (di (a8q (sV 0) (a4q 3 (jw (kN 1) (jw (kN 2) (jw (kN 3) a5s)))))
 (a04 (sA (j6 false 4 iw) (aj (sV 1) (aj (sV 2) (aj (sV 3) (aj (sA (j6 false 1 uy) (aj (sV 0) bj)) bj)))))))
noncomputable def rz(gj:SF):SE :=
 (sA (j6 false 3 gj) (aj (sV 0) (aj (sV 1) (aj (sV 2) bj))))
noncomputable def ux(gj:SF):SS :=
 (di (sIf (sOr (a6o (a6n (sA a02 (aj (sV 0) (aj (sC (.ty "tuple")) bj))))) (sT (s2 hNe (sA jx (aj (sV 0) bj)) (sV 1))))
 ahl
 sNx)
 (a04 (sA amz (aj (sZ (jo (sIt (sV 0)) t1 (rz gj) [2,3])) bj))))
noncomputable def n8(fu:SF):SE :=
 (sA (j6 false 4 fu) (aj (sV 0) (aj (sA jx (aj (sV 1) bj)) (aj (sI 0) (aj (s2 a6r (sA jx (aj (sV 2) bj)) (sI 1)) bj)))))
noncomputable def pq(fu:SF):SS :=
 (di (sIf (sOr (a6o (a6n (sA a02 (aj (sV 0) (aj (sC (.ty "tuple")) bj))))) (sOr (sT (s2 hNe (sA jx (aj (sV 0) bj)) (sI 3))) (sOr (a6o (a6n (sA a02 (aj (s2 gIx (sV 0) (sI 0)) (aj (sC (.ty "str")) bj))))) (sT (s2 hNe (s2 gIx (sV 0) (sI 0)) (sV 1))))))
 ahl
 sNx)
 (di (j4 2 (s2 gIx (sV 0) (sI 1)))
 (di (sIf (sOr (a6o (a6n (sA a02 (aj (sV 2) (aj (sC (.ty "tuple")) bj))))) (sOr (a6o (sT (sCh gLe gLe (sI 1) (sA jx (aj (sV 2) bj)) (sI 32)))) (a6o (a6n (sA (j6 false 4 fu) (aj (s2 gIx (sV 0) (sI 2)) (aj (sA jx (aj (sV 2) bj)) (aj (s1 adt (sI 1)) (aj (sI 5) bj)))))))))
 ahl
 sNx)
 (a04 (sA amz (aj (sZ (jo (sIt (sV 2)) t1 (n8 fu) [1,2])) bj))))))
end K31
namespace L2
open PyProof.Rows
section
variable{X:Cx}{aA:List (Addr×Obj)}{σ:St}{H:Hp}{s:Shared}{a:Addr}{y v:V}{u r:Value}{A:Around}{E:Value->Shared->Prop}
theorem af3{H':Hp}{Q:Unit->Shared->Prop}(hu:A.units+1<cLine)(I:Inv X aA σ H s)(g:aqg H a y v H')(ry:RelV y u)(rv:RelV v r)(h:∀s',Inv X aA σ H' s'->Q () s') :
  wpAny (model X.prog X.w) A (dictSet a u r) Q E s:=by
 rcases g with⟨kvs,k,e,ey,l,eH⟩|⟨kvs,k,b,e,ey,eb,l,eH⟩|⟨ent,k,b,e,ey,eb,l,eH⟩
 ·subst ey eH;obtain⟨z,hd,vs,rel,dd⟩:=acv I.hok e;have hz:vs.length<=sizeLine:=by rw[<-rel.length];exact z
  have hl:(putK kvs k v).length<=sizeLine:=by have:=ud kvs k v;omega
  refine wpAny_dictSet_pairs (hsz:=hz) (a8h ry) dd λh' dd' hs=>h _ ?_;have he:∃q,h'.get? a=some q:=let ⟨q,_,_,hq,_⟩:=dd'; ⟨q,hq⟩;exact a07 I (by rw[e];exact True.intro) hs he (a9h hl hd (rel.put k rv) dd')
 ·subst ey eH
  cases (show u=Value.ref b from ry)
  obtain⟨z,hd,xs,rel,dd⟩:=aqe I.hok e;have hz:xs.length<=sizeLine:=by rw[<-dB rel];exact z
  have hl:(putK kvs k v).length<=sizeLine:=by have:=ud kvs k v;omega
  refine wpAny_dictSet_heap (hsz:=hz) (da hu) (a77 I.hok eb) dd λh' dd' hs=>h _ ?_;obtain⟨q,es,ep,hq,h2,h3,h4,_,h5⟩:=dd';refine a07 I (by rw[e];exact True.intro) hs ⟨q,hq⟩ ⟨hl,hd,_,(rel.put k eb rv).keeps λc ys ec=>?_,q,es,ep,hq,h2,h3,h4,h5⟩
  rw[bu (ap9 ec e (λz=>nomatch z))];exact ec
 ·subst ey eH
  cases (show u=Value.ref b from ry)
  obtain⟨z,hd,xs,rel,dd⟩:=aav I.hok e;have hz:xs.length<=sizeLine:=by rw[<-dB rel];exact z
  refine wpAny_dictSet_heap (knd:=a75 X.prog X.w) (hsz:=hz) hu (eb.is I.hok) dd λh' dd' hs=>h _ ?_;obtain⟨q,es,ep,hq,h2,h3,h4,_,h5⟩:=dd';have mu:Mut (H a):=by
   rcases e with⟨e,_⟩|⟨e,_⟩
   ·rw[e.has];exact True.intro
   ·rw[e];exact True.intro
  exact a07 I mu hs ⟨q,hq⟩ ⟨⟨hd,_,ajn rel k b rv,q,es,ep,hq,h2,h3,h4⟩,⟨q,hq⟩,λh1 h2 ⟨sy,xs,r,o,es,ep,e1,e2,e3,e4⟩ kk=>⟨sy,xs,r,o,es,ep,kk o e1,e2,e3,e4⟩⟩
end
end L2
namespace MI
open L2
section
variable{X:Cx}{E:XD}{ek ev tg aF cnd:Expr}{aB:Scope}{pos:Pos}{cl:List (Str×Addr)}{ts fr:List Str}{ix:List Nat}{fi:SI}{g:TG}{t:D->Option Sd}{fk fv:SE}{fc:ST}
variable(hc:X.calm=true)(hu:X.A.units+64<cLine)(S:CSc X aB cl ts fr ix)(hi:MI X E tg aF fi)(hg:∀C fp s H,PG (cxC X (ts++fr) aB cl C fp s H) tg g)(ht:adn X.K ts.length g t)
include hc hu S hi hg ht
end
end MI
namespace L2
open PyProof.Rows
def at9(tk tv:TE):TE:=λσ H Q=>∀p,H p=none->tk σ (upd H p (.dT [])) λy H2=>tv σ H2 λx H3=>∃H4,aqg H3 p y x H4/\Q (.ref p) H4
theorem aip{X:Cx}{k v:Expr}{pos:Pos}{tk tv:TE}(hu:X.A.units+1<cLine)(hk:PE X k tk)(hv:PE X v tv):PE X (.Dict [some k] [v] pos) (at9 tk tv):=by
 intro aA s σ H Q I q
 have hn:=I.hok.fresh (ah s.heap.objs.size);have I1:=I.laid (a:=s.heap.objs.size) (o:=.dT []) (h':=s.heap.push {cls:=.type "dict",data:=.dict #[]}) (t':=s.toks) (λ_ _ q=>af _ q) (ah _) (a9i s.heap I.big);rw[arm_eval_Dict,zip_pairTrees [some k] [v] X.env pos rfl rfl,dictDisplay_pairs _ (by simp[pairTrees]) (by simp[pairTrees])]
 refine a8 (fD (a8 ?_));unfold subDict;refine a8 (wpAny_alloc (a8 (cH ?_)));rw[aQ (by simp[pairTrees])]
 refine a8 (pairTrees_cons_walk (thn (hk aA _ σ _ _ I1 (q _ hn)) λkv s2 ⟨y,H2,I2,r2,q2⟩=>thn (hv aA s2 σ H2 _ I2 q2) λvv s3 ⟨x,H3,I3,r3,H4,g,q4⟩=>pairTrees_nil_walk ?_));refine cH ?_;rw[eJ];refine a8 (a8 (a8 (af3 hu I3 g r2 r3 λs4 I4=>av ?_)));show wpAny _ _ (forIn [] _ _) _ _ _;rw[eh];exact av (av (av (av ⟨.ref s.heap.objs.size,H4,I4,rfl,q4⟩)))
end L2
namespace MI
open L2
def ava(x y:D)(h:Hd):R D:=match aht x with
 |some k=>.ok (.ref h.length) (h++[.dT [(k,y)]])
 |none=>.no
theorem ata{X:Cx}{E:XD}{a b:Expr}{fa fb:SE}{pos:Pos}(hu:X.A.units+64<cLine)(ha:ME X E a fa)(hb:ME X E b fb):ME X E (.Dict [some a] [b] pos) (s2 ava fa fb):=by
 refine PE.weak (aip (da (u1 hu)) ha hb) ?_
 rintro σ H Q ⟨ι,τ,h,S,Rh,o⟩ p hp
 have pn:p∉ι:=Rh.notin hp;have g0:Gr ι H ι (upd H p (.dT [])):=wj hp _;unfold s2 at o;refine⟨ι,τ,h,S.mono g0,Rh.aside hp _,?_⟩
 cases hfa:fa τ h with
 |no=>rw[hfa]at o;exact o.elim
 |ex c hx=>rw[hfa]at o;exact xx (Rp:=xn X.K) (r:=.ex c hx) (Q:=Q) o g0
 |ok d h1 =>
  rw[hfa]at o
  intro ι1 H1 v g1 r1 hr1
  refine⟨ι1,τ,h1,(S.mono g0).mono g1,hr1,?_⟩;simp only[R.bind]at o
  cases hfb:fb τ h1 with
  |no=>rw[hfb]at o;exact o.elim
  |ex c hx=>rw[hfb]at o;exact xx (Rp:=xn X.K) (r:=.ex c hx) (Q:=Q) o (g0.trans g1)
  |ok d2 h2 =>
   rw[hfb]at o
   intro ι2 H2 u g2 r2 hr2
   have g12:=g1.trans g2;have e2:H2 p=some (.dT []):=g12.oth p _ dh pn;simp only[ava]at o
   cases hk:aht d with
   |none=>rw[hk]at o;exact o.elim
   |some k =>
    rw[hk]at o;obtain⟨b,rfl,eb⟩:=a8v (r1.mono g2) hk;refine⟨upd H2 p (.dT [(k,u)]),.inr (.inl ⟨[],k,b,e2,rfl,eb,by rw[eC];decide,rfl⟩),?_⟩
    ·obtain⟨m,em,hm⟩:=g12.pre;have nm:∀c∈m,c≠p/\H c=none:=λc hc=>by
      have q:=hm c hc
      by_cases z:c=p
      ·subst z;rw[dh]at q;cases q
      ·rw[bu z]at q;exact⟨z,q⟩
     have pn2:p∉ι2:=λz=>by
      rw[em]at z
      rcases bB.mp z with z|z
      ·exact pn z
      ·exact(nm p z).1 rfl
     have ne:∀{c u'},H c=some u'->c≠p:=λe=>cj e hp;have up:∀{c u'},H c=some u'->(upd H p (.dT [])) c=some u':=λe=>by rw[bu (ne e)];exact e
     have gw:Gw ι2 H2 (ι2++[p]) (upd H2 p (.dT [(k,u)])):=⟨⟨[p],rfl⟩,λc vs e=>by rw[bu (λz=>by subst z;rw[e2]at e;cases e)];exact e,λc o u' e=>by rw[bu (λz=>by subst z;rw[e2]at e;cases e)];exact e⟩
     have G:Gr ι H (ι2++[p]) (upd H2 p (.dT [(k,u)])):=by
      refine⟨⟨m++[p],by rw[em];simp,λc hc=>?_⟩,λc vs e=>?_,λc o u' e=>?_,λc u' e hn=>?_,λc u' e=>?_⟩
      ·rcases bB.mp hc with hc|hc
       ·exact(nm c hc).2
       ·rw[aI.mp hc];exact hp
      ·rw[bu (ne e)];exact g12.tup _ _ (up e)
      ·rw[bu (ne e)];exact g12.frz _ _ _ (up e)
      ·rw[bu (ne e)];exact g12.oth _ _ (up e) hn
      ·obtain⟨w,q⟩:=g12.kp _ _ (up e);exact⟨w,by rw[bu (ne e)];exact q⟩
     refine o (ι2++[p]) _ (.ref p) G (.ref (by rw[aw (by rw[hr2.len];exact ah _),hr2.len];simp)) (a7k hr2 pn2 gw ⟨_,dh,rfl,.cons (r2.monoW gw) .nil⟩)
end MI
namespace K29
open L2 MI
noncomputable def nj:SS :=
 (sIf (sT (s2 (gIn true) (sV 3) (sV 1)))
 (vm (sML a2a (sV 1) (aj (sV 3) bj)))
 sNx)
noncomputable def ul:ST :=
 (sT (s2 gLt (sV 2) (sA jx (aj (sV 1) bj))))
noncomputable def nq:SS :=
 (di (a6p (sIt (s2 gIx (sV 0) (s2 gIx (sV 1) (sV 2)))) (kN 3) nj)
 (adh 2 a2j (sI 1)))
noncomputable def qb:SS :=
 (di (j4 1 (sA a1h (aj (sI 0) bj)))
 (di (j4 2 (sI 0))
 (di (sWh ul nq 100000)
 (a04 (s2 (av9 false) (sV 1) (sZ (sA a7m (aj (sA jx (aj (sV 0) bj)) bj))))))))
noncomputable def jj:SS :=
 (sIf (sT (s2 (aa1 true) (sV 7) (sV 3)))
 (di (a3q (sC (.bl true)) (sV 3) (sV 7))
 (vm (sML a2a (sV 2) (aj (sV 7) bj))))
 sNx)
noncomputable def qd:ST :=
 (sT (s2 gLt (sV 4) (sA jx (aj (sV 2) bj))))
noncomputable def jk:SS :=
 (di (a8q (s2 gIx (sV 2) (sV 4)) (a4q 2 (jw (kN 5) (jw (kN 6) a5s))))
 (di (sIf (sT (s2 hNe (s2 gIx (s2 gIx (sV 0) (sI 2)) (sV 5)) (s2 gIx (s2 gIx (sV 1) (sI 2)) (sV 6))))
 ahl
 sNx)
 (di (a6p (agc (s2 gIx (s2 gIx (sV 0) (sI 1)) (sV 5)) (s2 gIx (s2 gIx (sV 1) (sI 1)) (sV 6))) (kN 7) jj)
 (adh 4 a2j (sI 1)))))
noncomputable def jq:SS :=
 (di (j4 2 (sA a1h (aj (sA a2i (aj (sI 0) (aj (sI 0) bj))) bj)))
 (di (j4 3 (s2 ava (sA a2i (aj (sI 0) (aj (sI 0) bj))) (sC (.bl true))))
 (di (j4 4 (sI 0))
 (di (sWh qd jk 100000)
 (a04 (sC (.bl true)))))))
noncomputable def ie:SE :=
 (s2 gIx (sV 1) (sV 0))
noncomputable def dw:SS :=
 (di (j4 8 (sA jf (aj (sZ (s2 lq (sZ (sA a1h (aj (s2 gIx (sV 2) (sV 6)) bj))) (sZ (jo (sIt (sV 7)) t1 ie [2])))) bj)))
 (di (sIf (sT (s2 (aa1 true) (sV 8) (sV 4)))
 (a3q (sA a2f (aj (sV 4) bj)) (sV 4) (sV 8))
 sNx)
 (vm (sML a2a (sV 5) (aj (s2 a2k (sV 4) (sV 8)) bj)))))
noncomputable def dz:SS :=
 (di (j4 4 aeu)
 (di (j4 5 (sA a1h bj))
 (di (a6p (a1r (sV 0)) (a4q 2 (jw (kN 6) (jw (kN 7) a5s))) dw)
 (di (j4 2 (sV 5))
 (sIf (sT (s2 hEq (sA a2f (aj (sV 4) bj)) (sA jx (aj (sV 0) bj))))
 (a04 (sC (.bl true)))
 sNx)))))
noncomputable def jr:SS :=
 (di (j4 2 (sZ (sA a1o (aj (sV 1) bj))))
 (di (a6p (sRg a09 (aj (sA jx (aj (sV 0) bj)) bj)) (kN 3) dz)
 ahl))
noncomputable def xg(gf:SF)(iz:SF)(iy:SF)(g8:SF)(qp:SF):SS :=
 (di (j4 1 (sA (j6 false 1 qp) (aj (sV 0) bj)))
 (di (sIf (sOr (a6o (a6n (sA (j6 false 2 iy) (aj (sV 1) (aj (s2 gIx (sV 0) (sI 0)) bj))))) (a6o (a6n (sA (j6 false 2 g8) (aj (sV 0) (aj (sV 1) bj))))))
 ahl
 sNx)
 (di (sIf (sOr (a6o (a6n (sA (j6 false 1 iz) (aj (s2 gIx (sV 1) (sI 1)) bj)))) (a6o (a6n (sA (j6 false 2 gf) (aj (s2 gIx (sV 1) (sI 1)) (aj (s2 gIx (sV 1) (sI 2)) bj))))))
 ahl
 sNx)
 (a04 (s2 hEq (sA (j6 false 1 qp) (aj (sV 1) bj)) (sV 1))))))
noncomputable def af4(gm:SF)(qm:SF)(jm:SF):SS :=
 (di (j4 1 (sA (j6 true 1 qm) (aj (sV 0) bj)))
 (di (j4 2 (sA (j6 false 1 gm) (aj (sV 1) bj)))
 (di (j4 3 (sA (j6 false 1 gm) (aj (sV 1) bj)))
 (a04 (a3k (sA (j6 false 1 jm) (aj (sV 2) bj)) (a3k (sA (j6 false 1 jm) (aj (sV 3) bj)) (sA (j6 false 1 jm) (aj (sV 2) bj))))))))
end K29
namespace MI
open L2
theorem atb(ha:ME X E a fa)(hb:ME X E b fb)(hp:a5e b:=by with_unfolding_all exact λ_ _=>rfl):ME X E (.Subscript a b pos) (s2 gIx fa fb):=amo ha hb hp
theorem ax1(i:Nat)(hN:X.N.Nodup)(he:ME X E e fa)(hi:X.N[i]? = some x:=by rfl)(hx:Loc X.env.scope x:=by with_unfolding_all first|exact Or.inl rfl|exact Or.inr rfl)(hs:swapsWith e (some (.Name x pos')) pos.line X.env=pure false:=by rfl)(hf:Hf X x:=by with_unfolding_all first|exact .inl rfl|exact .inr rfl|assumption) :
  MS X E (.Assign [.Name x pos'] e pos) (j4 i fa):=ara hN hi hx he hs hf
theorem atc{X:Cx}(G:Dn X.prog X.w X.K X.mg X.base k x ps (a9s X.K n F) f fd)(hr:Room k' X.A)(hk:k<=k')(ha:MA X X0 (e::es) ka)(hg:Gl X x:=by rfl)
  (hdb:(x == ("__debug__" : Str))=false:=by decide) (he:starEach (e::es) X.env=(false,eval e X.env)::starEach es X.env:=by rfl) (hpl:(backTo pos (starEach es X.env)).any (·.1)=false:=by rfl):ME X X0 (.Call (.Name x p) (e::es) [] pos) (sA (j6 false n F) ka):=a9y false G (hr.mono hk) hg ha hdb he hpl
theorem atd(hm:X.mg "len" = none)(ha:MA X E [e] ka)(hg:Gl X "len":=by rfl)(he:starEach [e] X.env=(false,eval e X.env)::starEach [] X.env:=by rfl)(hpl:(backTo pos (starEach [] X.env)).any (·.1)=false:=by rfl):ME X E (.Call (.Name "len" p) [e] [] pos) (sA jx ka) :=
 a7d (L2.CallR.or a70 a71) amt hg hm ad9 ha (by decide) (by decide) he hpl
theorem a7t(ho:OpR X (compareOp op) r)(hs:a0m X.K g r)(ha:ME X E a fa)(hb:ME X E b fb)(hm:behindInMarks op b=false:=by exact a9c _):MT X E (.Compare a [op] [b] pos) (sT (s2 g fa fb)):=a5p ho hs ha hb hm
theorem ate(hu:X.A.units+64<cLine)(ha:ME X E a fa)(hb:ME X E b fb):MT X E (.Compare a [.Eq] [b] pos) (sT (s2 hEq fa fb)):=a5p (ak1 hu) adz ha hb (a9c _)
theorem pgn(i:Nat)(hN:N.Nodup:=by decide +kernel)(hi:N[i]? = some x:=by rfl)(hx:∀C fp s H,Loc (cxC X N aB cl C fp s H).env.scope x:=by with_unfolding_all exact λ_ _ _ _=>Or.inl rfl)(hf:∀C fp s H,(cxC X N aB cl C fp s H).fn x=true\/(cxC X N aB cl C fp s H).env.scope.names.lookup x=some .local:=by with_unfolding_all exact λ_ _ _ _=>.inr rfl) :
  ∀C fp s H,PG (cxC X N aB cl C fp s H) (.Name x pos) (a4d i):=λC fp s H=>a8c (X:=cxC X N aB cl C fp s H) hN hi (hx C fp s H) (hf C fp s H)
theorem pgm(i:Nat)(hN:N.Nodup:=by decide +kernel)(hi:N[i]? = some x:=by rfl)(hx:Loc (cxC X N aB cl C fp s H).env.scope x:=by with_unfolding_all exact Or.inl rfl)(hf:(cxC X N aB cl C fp s H).fn x=true\/(cxC X N aB cl C fp s H).env.scope.names.lookup x=some .local:=by with_unfolding_all exact .inr rfl) :
  PG (cxC X N aB cl C fp s H) (.Name x pos) (a4d i):=a8c (X:=cxC X N aB cl C fp s H) hN hi hx hf
def allP(P:α->Prop):List α->Prop
 |[]=>True
 |a::l=>P a/\allP P l
theorem allP.mem{P:α->Prop}:∀{l:List α},allP P l->∀a∈l,P a
 |b::l,h,a,m=>by
  rcases ay.mp m with rfl|m
  ·exact h.1
  ·exact h.2.mem a m
theorem a1c{X:Cx}(ts fr:List Str)(ix:List Nat)(clos:closureFor aB X.env=pure cl:=by rfl)(kind:aB.kind=.function:=by rfl)
  (nocell:(aB.names.all λp=>p.2 != .cell)=true:=by rfl) (names:(aB.names.all λp=>p.2 != .local || aB.names.lookup p.1 == some .local)=true:=by rfl) (sub:allP (λp=>X.env.cells.lookup p.1=some p.2) cl:=by with_unfolding_all repeat' constructor)
  (has:((relabel aB X.env).names.all λp => !(p.2 == .cell || p.2 == .free) || (cl.lookup p.1).isSome)=true:=by rfl) (nofn:(ts.all λy=>(relabel aB X.env).names.lookup y == some .local)=true:=by rfl)
  (len:ix.length=fr.length:=by rfl) (vis:((fr.zip ix).all λp=>X.N[p.2]? == some p.1 && (X.env.kindOf p.1 == some .cell || X.env.kindOf p.1 == some .free) && ((relabel aB X.env).names.lookup p.1 == some .cell || (relabel aB X.env).names.lookup p.1 == some .free))=true:=by rfl) :
  CSc X aB cl ts fr ix:=.of clos kind nocell names sub.mem has nofn len vis
theorem atf{aB:Scope}(ts:List Str)(kind:aB.kind=.function:=by rfl)(h:∀y∈aB.names,y.2≠.cell/\y.2≠.free:=by decide +kernel)(names:∀y∈aB.names,y.2=.local->aB.names.lookup y.1=some .local:=by decide +kernel)
  (ht:∀y∈ts,aB.names.lookup y=some .local:=by decide +kernel):CSc X aB [] ts [] []:=.noFree kind h names ht
section
variable{α:Type}{us:List α}
theorem len0{P:List α->Prop}(h:us.length=0)(k:P []):P us:=by cases us with|nil=>exact k|cons _ _=>cases h
theorem abq{P:List α->Prop}(h:us.length=n+1)(k:∀a vs,vs.length=n->P (a::vs)):P us:=by cases us with|nil=>cases h|cons a vs=>exact k a vs (gW h)
theorem ayg{P:List α->Prop}(h:us.length=1)(k:∀a,P [a]):P us:=abq h λa _ h=>len0 (P:=λus=>P (a::us)) h (k a)
theorem ayh{P:List α->Prop}(h:us.length=2)(k:∀a b,P [a,b]):P us:=abq h λa _ h=>ayg (P:=λus=>P (a::us)) h (k a)
theorem atg{P:List α->Prop}(h:us.length=3)(k:∀a b c,P [a,b,c]):P us:=abq h λa _ h=>ayh (P:=λus=>P (a::us)) h (k a)
theorem ayi{P:List α->Prop}(h:us.length=4)(k:∀a b c d,P [a,b,c,d]):P us:=abq h λa _ h=>atg (P:=λus=>P (a::us)) h (k a)
theorem ayj{P:List α->Prop}(h:us.length=5)(k:∀a b c d e,P [a,b,c,d,e]):P us:=abq h λa _ h=>ayi (P:=λus=>P (a::us)) h (k a)
theorem azq{P:List α->Prop}(h:us.length=6)(k:∀a b c d e f,P [a,b,c,d,e,f]):P us:=abq h λa _ h=>ayj (P:=λus=>P (a::us)) h (k a)
end
end MI
namespace K29
open L2 MI
def top(i:Nat):Stmt:=PySem.Challenge.pw_nearreach_k29_least_tables.main.body.getD i (.Pass ⟨0,0,0,0⟩)
structure Nm (mg:Str->Option Value):Prop where
 abs:mg "abs" = none
 all:mg "all" = none
 bool:mg "bool" = none
 dict:mg "dict" = none
 enumerate:mg "enumerate" = none
 int:mg "int" = none
 isinstance:mg "isinstance" = none
 len:mg "len" = none
 list:mg "list" = none
 max:mg "max" = none
 range:mg "range" = none
 str:mg "str" = none
 tuple:mg "tuple" = none
 zip:mg "zip" = none
structure Cn (mg:Str->Option Value):Prop where
 MOST_ROOMS:∃t,mg "MOST_ROOMS" = some (.int 32 t)
section
variable{P:Program}{w:World}{K:Fg}{mg:Str->Option Value}{base:Heap}{f:Addr}
def MD(P:Program)(w:World)(K:Fg)(mg:Str->Option Value)(base:Heap)(f:Addr)(k:Nat)(N ps:List Str)(x:Str)(t:Stmt)(b:SS):Prop:=FnScope N ps (dj t)/\∀(cdv:Value) (A:Around) (outer:List Env) (s:Shared) (H:Hp) (E:XK),Room k (A.deeper (PyProof.Rows.envOfC x (dj t) s.heap.objs.size f cdv))->MSs (ag8 CX0 P w K mg base N x (dj t) f cdv A outer s H E).nox X0 (v5 t) b
theorem md{N ps:List Str}{x:Str}{t:Stmt}{b:SS}(S:FnScope N ps (dj t))(h:FnScope N ps (dj t)->∀(cdv:Value) (A:Around) (outer:List Env) (s:Shared) (H:Hp) (E:XK),Room k (A.deeper (PyProof.Rows.envOfC x (dj t) s.heap.objs.size f cdv))->MSs (ag8 CX0 P w K mg base N x (dj t) f cdv A outer s H E).nox X0 (v5 t) b):MD P w K mg base f k N ps x t b:=⟨S,h S⟩
def Dk(P:Program)(w:World)(K:Fg)(mg:Str->Option Value)(base:Heap)(k:Nat)(x:Str)(ps:List Str)(F:SF):Prop:=∃a d j,Dn P w K mg base j x ps (a9s K ps.length F) a d/\j<=k
theorem dk{x:Str}{ps:List Str}{F:SF}{a:Addr}{d:FuncData}{j k:Nat}(D:Dn P w K mg base j x ps (a9s K ps.length F) a d)(h:j<=k:=by decide):Dk P w K mg base k x ps F:=⟨a,d,j,D,h⟩
theorem ax2{X:Cx}{x:Str}{ps:List Str}{F:SF}{k n:Nat}{e:Expr}{es:List Expr}{ka:SA}{p pos:Pos}(G:Dk X.prog X.w X.K X.mg X.base k x ps F)(hr:Room k X.A)(ha:MA X X0 (e::es) ka)(hn:n=ps.length:=by rfl)(hg:Gl X x:=by rfl)(hdb:(x == ("__debug__" : Str))=false:=by decide)(he:starEach (e::es) X.env=(false,eval e X.env)::starEach es X.env:=by rfl)(hpl:(backTo pos (starEach es X.env)).any (·.1)=false:=by rfl):ME X X0 (.Call (.Name x p) (e::es) [] pos) (sA (j6 false n F) ka):=by
 subst hn;obtain⟨_,_,_,D,h⟩:=G;exact atc D hr h ha hg hdb he hpl
set_option hygiene false
local macro_rules|`(tactic|walk_at "m") => `(tactic|refine md ⟨rfl,rfl,rfl,by decide +kernel,rfl,by decide +kernel,by decide +kernel⟩ ?_;intro SC cdv A outer s H E hr)
local macro_rules|`(tactic|rfl) => `(tactic|with_unfolding_all exact Eq.refl _)
local macro_rules|`(tactic|exists $e) => `(tactic|with_unfolding_all exact $e)
local macro_rules|`(tactic|ac_rfl) => `(tactic|with_unfolding_all assumption)
local macro_rules|`(tactic|walk_at "d") => `(tactic|with_reducible repeat' first
 |(show PE _ _ _;first|refine azl ?_|(show PE _ (.Name _ _) _;first|exact azi _|exact ah5 (by rfl) (by exists M.tuple) a9m|exact am9 (by rfl) (by exists C.MOST_ROOMS.choose_spec)|exact ah5 (by rfl) (by exists M.int) aqs|exact ah5 (by rfl) (by exists M.bool) an2|exact ah5 (by rfl) (by exists M.str) aqp)|(show PE _ (.Constant _ _ _) _;first|exact aqu|exact awj|exact aqv)|(show PE _ (.Call _ _ _ _) _;first|refine ax2 (by ac_rfl) (by exists hr) ?_|refine atc (by ac_rfl) (by exists hr) (by ac_rfl) ?_|refine atd (by exists M.len) ?_|refine adg (L2.CallR.or a5h (a7a (by rfl))) ady (by rfl) (by exists M.tuple) a9m ?_|refine a7d (L2.CallR.or a8j a7p) ai3 (by rfl) (by exists M.isinstance) a5n ?_|refine a7d (abf (by rfl)) ai2 (by rfl) (by exists M.max) ak2 ?_|refine adg (L2.CallR.or a72 (a8l (by rfl))) ahe (by rfl) (by exists M.list) a8o ?_|refine a7d ags amu (by rfl) (by exists M.abs) aqr ?_|refine a7d (a8k (by rfl)) an0 (by rfl) (by exists M.all) aqq ?_|refine a7d abi aig (by rfl) (by exists M.len) ad9 ?_|refine a7d abp aio (by rfl) (by exists M.len) ad9 ?_|refine a7d (abj (by rfl)) aih (by rfl) (by exists M.max) ak2 ?_|refine a9y true (by ac_rfl) (by exists hr.mono (by assumption)) (by rfl) ?_)|(show PE _ (.Subscript _ _ _) _;first|refine atb ?_ ?_|refine ani (by exists hr.u) ?_ ?_ (by exists λ_ _=>rfl)|refine ae9 ?_ ?_ ?_)|(show PE _ (.BinOp _ _ _ _) _;first|refine ang ?_ ?_|refine arp ?_ ?_|refine anh ?_ ?_|refine aro ?_ ?_|refine arq ?_ ?_|refine ars ?_ ?_)|refine ar7 ?_|(show PE _ (.ListComp _ _ _ _) _;first|refine v9 (by rfl) (a1c ["to"] ["rooms"] [2]) ?_ (pgn _) wk (λ_ _ _ _=>?_)|refine v9 (by rfl) (a1c ["key"] ["numbers"] [1]) ?_ (pgn _) wk (λ_ _ _ _=>?_)|refine v9 (by rfl) (a1c ["room","row"] ["rooms"] [2]) ?_ (λ_ _ _ _=>(ac3 (by rfl) (a1i (pgm _) (a1i (pgm _) a8d)))) aju (λ_ _ _ _=>?_)|refine v9 (by rfl) (a1c ["first"] ["kinds"] [2]) ?_ (pgn _) wk (λ_ _ _ _=>?_)|refine v9 (by rfl) (a1c ["room"] ["rooms"] [4]) ?_ (pgn _) wk (λ_ _ _ _=>?_)|refine v9 (by rfl) (a1c ["room"] ["numbers"] [6]) ?_ (pgn _) wk (λ_ _ _ _=>?_)|refine v9 (by rfl) (a1c ["_law_k"] ["_law_room"] [6]) ?_ (pgn _) wk (λ_ _ _ _=>?_)|refine v9 (by rfl) (a1c ["_law_to"] ["_law_places"] [4]) ?_ (pgn _) wk (λ_ _ _ _=>?_)|refine v9 (by rfl) (a1c ["_law_one"] ["_law_kinds_here"] [2]) ?_ (pgn _) wk (λ_ _ _ _=>?_)|refine v9 (by rfl) (a1c ["_law_one"] ["_law_low","_law_high"] [2,3]) ?_ (pgn _) wk (λ_ _ _ _=>?_)|refine v9 (by rfl) (a1c ["_law_row"] ["_law_tongue_here","_law_goes_here"] [1,2]) ?_ (pgn _) wk (λ_ _ _ _=>?_)|refine v9 (by rfl) (a1c ["_law_to"] ["_law_marks"] [2]) ?_ (pgn _) wk (λ_ _ _ _=>?_))|refine amw PySem.F.slot_list_append PySem.F.type_list_append (by exists acp) amx ?_ ?_|refine ar6 ?_|(show PE _ (.BoolOp _ _ _) _;first|refine ar3 ?_ ?_|refine ar0 ?_)|(show PE _ (.UnaryOp _ _ _) _;first|refine art ?_|refine ar4 ?_)|(show PE _ (.Dict _ _ _) _;first|refine awt ?_ ?_|exact ain|refine ata (by exists hr.u) ?_ ?_|exact aif)|(show PE _ (.Compare _ _ _ _) _;first|refine ah6 (aap.or yr) (aap.or yr) a4s a4s ?_ ?_ ?_|refine ade (asq (by exists hr.u)) (anq false) ?_ ?_ (a9c _)|refine ade (ak1 (by exists hr.u)) adz ?_ ?_ (a9c _))|refine amw PySem.F.slot_list_pop PySem.F.type_list_pop (by exists agx) adx ?_ ?_|refine awy PySem.F.slot_tuple_index PySem.F.type_tuple_index (by exists aex) abk ?_ ?_|refine ao3 (by rfl) (by rfl) (by exists M.dict) (by rfl) (by exists M.zip) ano ak4 ?_ ?_|exact ae5 false (by ac_rfl) (by exists hr.mono (by assumption)) (by rfl)|refine amw PySem.F.slot_list_extend PySem.F.type_list_extend (by exists MtR.or abb ab2) ahs ?_ ?_|refine ahx (by rfl) (by rfl) (by exists M.list) (by rfl) (by exists M.range) ?_|refine ahy (by rfl) (by rfl) (by exists M.list) (by rfl) (by exists M.range) ?_)
 |(show PSs _ _ _;first|exact asd|refine a9p ?_ ?_|refine adi ?_|exact amc)
 |(show PS _ _ _;first|exact awr|refine ax1 _ (by exists SC.nd) ?_|refine ar9 ?_|refine awn ?_ ?_ ?_|(show PS _ (.Assign _ _ _) _;first|refine arc ?_ ?_ ?_|refine arf ?_ ?_|refine anj (by exists hr.u) ?_ ?_ ?_)|(show PS _ (.For _ _ _ _ _) _;first|refine ari PassesOwn.never (by rfl) ?_ ?_ ?_)|refine amd ?_|refine ah7 _ PassesOwn.never ?_ ?_|refine arb (by exists SC.nd) (by rfl) (by exists Or.inl rfl) (acd.or a2z) a9v ?_|refine ae8 (by exists SC.nd) (by rfl) (by exists Or.inl rfl) (by rfl) (atf ["_law_room"]) ?_ (pgn _) wk (λ_ _ _ _=>?_)|refine an9 ?_ ?_ ?_ (acd.or a2z) a9v|refine a9z (by exists SC.nd) (by rfl) (by exists Or.inl rfl) (by rfl) (a1c ["room"] ["rooms"] [3]) ?_ (pgn _) wk (λ_ _ _ _=>?_)|refine a9z (by exists SC.nd) (by rfl) (by exists Or.inl rfl) (by rfl) (a1c ["first"] ["goes","rooms"] [1,3]) ?_ (pgn _) wk (λ_ _ _ _=>?_)|refine ae8 (by exists SC.nd) (by rfl) (by exists Or.inl rfl) (by rfl) (atf ["_law_at"]) ?_ (pgn _) wk (λ_ _ _ _=>?_)|refine ahn (by exists SC.nd) (by rfl) (by exists Or.inl rfl) (by rfl) (a1c ["_law_room","_law_one"] ["_law_to"] [6]) ?_ (λ_ _ _ _=>(ac3 (by rfl) (a1i (pgm _) (a1i (pgm _) a8d)))) aju (λ_ _ _ _=>?_) (λ_ _ _ _=>?_))
 |(show PA _ _ _;first|exact ar5|refine a08 ?_ ?_ aes|refine a08 ?_ ?_ abg|refine a08 ?_ ?_ aer|refine a08 ?_ ?_|refine a08 ?_ ?_ aet|refine a08 ?_ ?_ aie|refine a08 ?_ ?_ ant|refine a08 ?_ ?_ abh)
 |(show PT _ _ _;first|(show PT _ (.Compare _ _ _ _) _;first|refine ate (by exists hr.u) ?_ ?_|refine a7t (apy.or a6s) ajw ?_ ?_|refine a5p (aeg (by exists hr.u)) abd ?_ ?_ (by with_unfolding_all rfl)|refine a7t (as8 (by exists hr.u)) an1 ?_ ?_|refine a7t aw2 aru ?_ ?_|refine a9o (aap.or yr) (apy.or a6s) a4s ajw ?_ ?_ ?_|refine a7t aw3 arv ?_ ?_|refine a7t (aap.or yr) a4s ?_ ?_|refine a9o (aap.or yr) (aap.or yr) a4s a4s ?_ ?_ ?_|refine a5p (ab1.or a6z) ams ?_ ?_ (by with_unfolding_all rfl))|refine aqz ?_|refine aqw ?_|refine PW.pt ?_)
 |(show PG _ _ _;first|exact adm (by exists SC.nd) (by rfl) (by exists Or.inl rfl)|refine ard (by rfl) ?_|exact adm (by exists SC.nd) (by rfl) (by exists Or.inr rfl))
 |(show PI _ _ _ _;first|refine arh ?_|refine amh (by rfl) (by exists M.range) ?_|refine anl (by rfl) (by exists M.enumerate) ?_|refine ao2 (by rfl) (by exists M.zip) ak4 ?_ ?_|refine ami (by rfl) (by exists M.range) ?_)
 |(show PGs _ _ _;first|refine ahi ?_ ?_|exact amf)
 |(show PW _ _ _;first|refine awm ?_ ?_|refine aqx ?_|refine aqy ?_ ?_|refine amb ?_)
 |(show PO _ _ _;first|exact amq|refine amr ?_)
 |(with_unfolding_all first|refine a9p ?_ ?_|refine adi ?_))
theorem m_0(M:Nm mg):MD P w K mg base f k ["goes","found","seen","looked","row","room"] ["goes"] "rooms_led_to" (top 2) (K20.p8):=by
 walk_at "m"
 unfold K20.p8 K20.my K20.uh K20.mj
 walk_at "d"
theorem m_1(M:Nm mg):MD P w K mg base f k ["keys","numbers","key"] ["keys"] "numbered" (top 4) (K31.zc):=by
 walk_at "m"
 unfold K31.zc K31.w6 K31.vz
 walk_at "d"
theorem m_2(M:Nm mg)(C:Cn mg)(D_1:Dk P w K mg base k "numbered" ["keys"] F_1):MD P w K mg base f k ["goes","kinds","rooms","count"] ["goes","kinds"] "merged" (top 5) (K31.a1u F_1):=by
 walk_at "m"
 unfold K31.a1u K31.zu K31.xf K31.wz K31.zq
 walk_at "d"
theorem m_3(M:Nm mg):MD P w K mg base f k ["tongue","goes","kinds","rooms","firsts","rows"] ["tongue","goes","kinds","rooms"] "merged_table" (top 6) (K31.ph):=by
 walk_at "m"
 unfold K31.ph K31.jd K31.jc K31.n6 K31.jb
 walk_at "d"
theorem m_4(M:Nm mg)(D_2:Dk P w K mg base k "merged" ["goes","kinds"] F_2)(D_1:Dk P w K mg base k "numbered" ["keys"] F_1)(D_0:Dk P w K mg base k "rooms_led_to" ["goes"] F_0):MD P w K mg base f k ["table","tongue","goes","kinds","rooms","order","numbers"] ["table"] "folding" (top 8) (K31.a0d F_2 F_1 F_0):=by
 walk_at "m"
 unfold K31.a0d K31.yf K31.uw
 walk_at "d"
theorem m_5(D_4:Dk P w K mg base k "folding" ["table"] F_4)(D_3:Dk P w K mg base k "merged_table" ["tongue","goes","kinds","rooms"] F_3):MD P w K mg base f k ["table","tongue","goes","kinds"] ["table"] "least_of" (top 10) (K31.zf F_4 F_3):=by
 walk_at "m"
 unfold K31.zf
 walk_at "d"
theorem m_6(M:Nm mg):MD P w K mg base f k ["_law_script"] ["_law_script"] "_law_hand" (top 12) (HND.a0k):=by
 walk_at "m"
 unfold HND.a0k
 walk_at "d"
theorem m_7(M:Nm mg):MD P w K mg base f k ["_law_hand_here","_law_many","_law_cell","_law_told"] ["_law_hand_here","_law_many"] "_law_take" (top 13) (HND.a0l):=by
 walk_at "m"
 unfold HND.a0l
 walk_at "d"
theorem m_8:MD P w K mg base f k ["_law_some"] [] "_law_signs" (top 14) (HND.zm):=by
 walk_at "m"
 unfold HND.zm
 walk_at "d"
theorem m_9(M:Nm mg)(D_8:Dn P w K mg base k_8 "_law_signs" [] (a9s K 0 F_8) a_8 d_8)(h_8:k_8<=k)(D_7:Dk P w K mg base k "_law_take" ["_law_hand_here","_law_many"] F_7):MD P w K mg base f k ["_law_hand_here","_law_rest","_law_tongue_here","_law_turn","_law_at"] ["_law_hand_here"] "_law_tongue" (top 15) (HND.ye F_8 F_7):=by
 walk_at "m"
 unfold HND.ye HND.m5
 walk_at "d"
theorem azr(M:Nm mg)(D_7:Dk P w K mg base k "_law_take" ["_law_hand_here","_law_many"] F_7):MD P w K mg base f k ["_law_hand_here","_law_size","_law_rooms","_law_manner","_law_free","_law_goes_here","_law_room","_law_pick","_law_one","_law_at"] ["_law_hand_here","_law_size","_law_rooms"] "_law_goes" (top 16) (HND.yx F_7):=by
 walk_at "m"
 unfold HND.yx HND.rm HND.qz HND.vy HND.vq
 walk_at "d"
theorem azs(M:Nm mg)(D_7:Dk P w K mg base k "_law_take" ["_law_hand_here","_law_many"] F_7):MD P w K mg base f k ["_law_hand_here","_law_rooms","_law_manner","_law_kinds_here","_law_room","_law_kind"] ["_law_hand_here","_law_rooms"] "_law_kinds" (top 17) (HND.ww F_7):=by
 walk_at "m"
 unfold HND.ww HND.ou
 walk_at "d"
theorem azt(M:Nm mg)(D_7:Dk P w K mg base k "_law_take" ["_law_hand_here","_law_many"] F_7):MD P w K mg base f k ["_law_hand_here","_law_goes_here","_law_kinds_here","_law_rest","_law_places","_law_rows","_law_told","_law_room","_law_row"] ["_law_hand_here","_law_goes_here","_law_kinds_here"] "_law_shuffled" (top 18) (HND.p6 F_7):=by
 walk_at "m"
 unfold HND.p6 HND.j9 HND.ug HND.zb HND.yz HND.j8 HND.m9
 walk_at "d"
theorem azu(M:Nm mg)(D_7:Dk P w K mg base k "_law_take" ["_law_hand_here","_law_many"] F_7):MD P w K mg base f k ["_law_hand_here","_law_goes_here","_law_kinds_here","_law_bases","_law_rows","_law_row","_law_to","_law_some"] ["_law_hand_here","_law_goes_here","_law_kinds_here"] "_law_split" (top 19) (K30.wy F_7):=by
 walk_at "m"
 unfold K30.wy K30.yo K30.uq K30.uo K30.jt K30.p7 K30.ym
 walk_at "d"
theorem azv(M:Nm mg)(D_10:Dk P w K mg base k "_law_goes" ["_law_hand_here","_law_size","_law_rooms"] F_10)(D_11:Dk P w K mg base k "_law_kinds" ["_law_hand_here","_law_rooms"] F_11)(D_12:Dk P w K mg base k "_law_shuffled" ["_law_hand_here","_law_goes_here","_law_kinds_here"] F_12)(D_13:Dk P w K mg base k "_law_split" ["_law_hand_here","_law_goes_here","_law_kinds_here"] F_13)(D_7:Dk P w K mg base k "_law_take" ["_law_hand_here","_law_many"] F_7)(D_9:Dk P w K mg base k "_law_tongue" ["_law_hand_here"] F_9):MD P w K mg base f k ["_law_hand_here","_law_tongue_here","_law_rooms","_law_rows","_law_some","_law_goes_here","_law_kinds_here"] ["_law_hand_here"] "_law_copied" (top 20) (K30.ut F_10 F_11 F_12 F_13 F_7 F_9):=by
 walk_at "m"
 unfold K30.ut
 walk_at "d"
theorem azw(M:Nm mg):MD P w K mg base f k ["_law_thing","_law_low","_law_high"] ["_law_thing","_law_low","_law_high"] "_law_number" (top 21) (K32.uv):=by
 walk_at "m"
 unfold K32.uv
 walk_at "d"
theorem azx(M:Nm mg)(D_15:Dk P w K mg base k "_law_number" ["_law_thing","_law_low","_law_high"] F_15):MD P w K mg base f k ["_law_thing","_law_size","_law_low","_law_high"] ["_law_thing","_law_size","_law_low","_law_high"] "_law_is_row" (top 22) (K31.ux F_15):=by
 walk_at "m"
 unfold K31.ux K31.rz
 walk_at "d"
theorem azy(M:Nm mg)(D_16:Dk P w K mg base k "_law_is_row" ["_law_thing","_law_size","_law_low","_law_high"] F_16):MD P w K mg base f k ["_law_thing","_law_tongue_here","_law_goes_here"] ["_law_thing","_law_tongue_here"] "_law_is_table" (top 23) (K31.pq F_16):=by
 walk_at "m"
 unfold K31.pq K31.n8
 walk_at "d"
theorem azz(M:Nm mg):MD P w K mg base f k ["_law_goes_here","_law_met","_law_at","_law_to"] ["_law_goes_here"] "_law_in_order" (top 24) (qb):=by
 walk_at "m"
 unfold qb nq ul nj
 walk_at "d"
theorem b00(M:Nm mg):MD P w K mg base f k ["_law_table","_law_other","_law_twos","_law_met","_law_at","_law_one","_law_two","_law_pair"] ["_law_table","_law_other"] "_law_same_kinds" (top 25) (jq):=by
 walk_at "m"
 unfold jq jk qd jj
 walk_at "d"
theorem b01(M:Nm mg):MD P w K mg base f k ["_law_goes_here","_law_kinds_here","_law_marks","_law_turn","_law_numbers","_law_fresh","_law_room","_law_row","_law_key"] ["_law_goes_here","_law_kinds_here"] "_law_all_unlike" (top 26) (jr):=by
 walk_at "m"
 unfold jr dz dw ie
 walk_at "d"
theorem b02(D_20:Dk P w K mg base k "_law_all_unlike" ["_law_goes_here","_law_kinds_here"] F_20)(D_18:Dk P w K mg base k "_law_in_order" ["_law_goes_here"] F_18)(D_17:Dk P w K mg base k "_law_is_table" ["_law_thing","_law_tongue_here"] F_17)(D_19:Dk P w K mg base k "_law_same_kinds" ["_law_table","_law_other"] F_19)(D_5:Dk P w K mg base k "least_of" ["table"] F_5):MD P w K mg base f k ["_law_table","_law_found"] ["_law_table"] "_law_right" (top 27) (xg F_20 F_18 F_17 F_19 F_5):=by
 walk_at "m"
 unfold xg
 walk_at "d"
theorem b03(D_14:Dk P w K mg base k "_law_copied" ["_law_hand_here"] F_14)(D_6:Dn P w K mg base k_6 "_law_hand" ["_law_script"] (a9s K 1 F_6) a_6 d_6)(h_6:k_6<=k)(D_21:Dk P w K mg base k "_law_right" ["_law_table"] F_21):MD P w K mg base f k ["_law_script","_law_hand_here","_law_one","_law_other"] ["_law_script"] "law" (top 28) (af4 F_14 F_6 F_21):=by
 walk_at "m"
 unfold af4
 walk_at "d"
end
end K29
namespace BF
def walk(step:Nat->Nat->Nat)(r:Nat):List Nat->Nat
 |[]=>r
 |c::p=>step (walk step r p) c
section
variable(s:Nat)(step:Nat->Nat->Nat)(K:Nat->Bool)
def fl:Nat->Nat->Bool
 |0,r=>K r
 |k+1,r=>(List.range s).any λc=>fl k (step r c)
variable{s step K}
end
theorem sr:∀(n:Nat) (l:List Nat),l.Nodup->(∀x∈l,x<n)->l.length<=n
 |0,l,_,h=>by
  cases l with
  |nil=>exact ah _
  |cons x l=>exact absurd (h x aP) (by omega)
 |n+1,l,nd,h=>by
  have:=sr n (l.erase n) (nd.erase n) λx hx=>by
   have h1:=h x (List.mem_of_mem_erase hx);have h2:x≠n:=λz=>by subst z;exact(List.Nodup.not_mem_erase nd) hx
   omega
  have:=List.length_erase (a:=n) (l:=l)
  split at this<;>omega
end BF
namespace NB
open L2 (bw a3i)
section
variable{α:Type}[DecidableEq α]
theorem ur:∀(l acc:List α) (x:α),x∈l.foldl L2.stepK acc↔x∈acc\/x∈l
 |[],acc,x=>by simp
 |v::l,acc,x=>by
  rw[bL,ur l,L2.a7c,ay,or_assoc]
theorem ik{l:List α}{x:α}:x∈bw l↔x∈l:=by unfold bw;rw[ur];simp
theorem af5(l:List α):(bw l).Nodup:=(L2.ue l [] cG).1
theorem af6(l:List α):(bw l).length<=l.length:=by
 have:=(L2.ue l [] cG).2.1
 rwa[bH,gV]at this
theorem xj(l:List α)(x:α):bw (l++[x])=L2.stepK (bw l) x:=by unfold bw;rw[dI];rfl
theorem ake{l:List α}(h:l≠[]):0<(bw l).length:=by
 cases l with
 |nil=>exact absurd rfl h
 |cons x l=>exact eU (ik.mpr aP:x∈bw (x::l))
def ix(l:List α)(x:α):Nat:=(bw l).idxOf x
theorem af7{l:List α}{x:α}(h:x∈l):ix l x<(bw l).length:=gG.mpr (ik.mpr h)
theorem ath{l:List α}{x:α}(h:x∈l):(bw l)[ix l x]? = some x:=by
 rw[a6 (af7 h)];exact aZ some (List.getElem_idxOf (af7 h))
theorem a4u{l:List α}{x y:α}(hx:x∈l)(hy:y∈l)(e:ix l x=ix l y):x=y:=by
 have a:=ath hx;rw[e,ath hy]at a;exact(bp a).symm
theorem ati{l:List α}{k:Nat}(h:k<(bw l).length):∃x∈l,ix l x=k:=⟨(bw l)[k],ik.mp (br h),(af5 l).idxOf_getElem k h⟩
def nb(l:List α):List Nat:=l.map (ix l)
theorem a4v(l:List α):(nb l).length=l.length:=a9 _
theorem a4h{l:List α}{i:Nat}{x:α}(h:l[i]? = some x):(nb l)[i]? = some (ix l x):=by unfold nb;rw[ar,h];rfl
theorem atj{l:List α}{k:Nat}(h:k∈nb l):k<(bw l).length:=by
 obtain⟨x,hx,rfl⟩:=aE.mp h;exact af7 hx
theorem akf{l:List α}{k:Nat}(h:k<(bw l).length):k∈nb l:=by
 obtain⟨x,hx,rfl⟩:=ati h;exact aE.mpr ⟨x,hx,rfl⟩
theorem aiq{l m:List α}(sub:∀x∈m,x∈l)(nd:m.Nodup)(le:l.length<=m.length):l.Nodup:=by
 have a:m.length<=(bw l).length:=nd.length_le_of_subset λx hx=>ik.mpr (sub x hx);have b:=af6 l;exact(a3i l).mp (by omega)
end
def at'(c:List Nat)(i:Nat):Nat:=(c[i]?).getD 0
theorem a3t{c:List Nat}{i:Nat}(h:i<c.length):c[i]? = some (at' c i):=by unfold at';rw[a6 h];rfl
def key(G:List (List Nat))(c:List Nat):List (Nat×List Nat):=(c.zip G).map λp=>(p.1,p.2.map (at' c))
def rf(G:List (List Nat))(c:List Nat):List Nat:=nb (key G c)
def cnt(c:List Nat):Nat:=(bw c).length
section
variable{G:List (List Nat)}{c:List Nat}
def row(G:List (List Nat))(r:Nat):List Nat:=(G[r]?).getD []
theorem a8y(l:c.length=G.length):(key G c).length=G.length:=by unfold key;rw[a9,de,l,fZ]
theorem akg(l:c.length=G.length){r:Nat}(h:r<G.length):(key G c)[r]? = some (at' c r,(row G r).map (at' c)):=by
 unfold key row;rw[ar,(bY (z:=(at' c r,G[r]))).mpr ⟨a3t (l ▸ h),a6 h⟩,a6 h];rfl
theorem atl(l:c.length=G.length):(rf G c).length=G.length:=by unfold rf;rw[a4v,a8y l]
theorem air(l:c.length=G.length){r:Nat}(h:r<G.length):at' (rf G c) r=ix (key G c) (at' c r,(row G r).map (at' c)):=by
 unfold at' rf;rw[a4h (akg l h)];rfl
theorem a7u(l:c.length=G.length){r:Nat}(h:r<G.length):(at' c r,(row G r).map (at' c))∈key G c:=aN (akg l h)
theorem a8z(l:c.length=G.length){r s:Nat}(hr:r<G.length)(hs:s<G.length):at' (rf G c) r=at' (rf G c) s↔at' c r=at' c s/\(row G r).map (at' c)=(row G s).map (at' c):=by
 rw[air l hr,air l hs]
 constructor
 ·intro e
  have:=a4u (a7u l hr) (a7u l hs) e
  exact⟨aZ Prod.fst this,aZ Prod.snd this⟩
 ·rintro⟨a,b⟩
  rw[a,b]
theorem a7v{α:Type}[DecidableEq α](l:List α):cnt (nb l)=(bw l).length:=by
 unfold cnt;refine Nat.le_antisymm ?_ ?_
 ·have:(bw (nb l)).length<=(List.range (bw l).length).length:=(af5 _).length_le_of_subset λx hx=>aX.mpr (atj (ik.mp hx))
  rwa[aO]at this
 ·have:(List.range (bw l).length).length<=(bw (nb l)).length:=dA.length_le_of_subset λx hx=>ik.mpr (akf (aX.mp hx))
  rwa[aO]at this
theorem still(l:c.length=G.length)(le:cnt (rf G c)<=cnt c){r s:Nat}(hr:r<G.length)(hs:s<G.length):at' (rf G c) r=at' (rf G c) s↔at' c r=at' c s:=by
 constructor
 ·intro e;exact((a8z l hr hs).mp e).1
 ·intro e
  have le':(bw (key G c)).length<=cnt c:=by unfold rf at le;rwa[a7v]at le
  have nd:((bw (key G c)).map Prod.fst).Nodup:=by
   refine aiq (m:=bw c) (λx hx=>?_) (af5 c) (by rw[a9];exact le')
   obtain⟨i,hi,rfl⟩:=bW (ik.mp hx);have hi':i<G.length:=l ▸ hi;have:c[i]=at' c i:=by have:=a3t hi;rw[a6 hi]at this;exact bp this
   rw[this];exact aE.mpr ⟨_,ik.mpr (a7u l hi'),rfl⟩
  have inj:∀{m:List (Nat×List Nat)},(m.map Prod.fst).Nodup->∀p∈m,∀q∈m,p.1=q.1->p=q:=by
   intro m
   induction m with
   |nil=>intro _ p hp;cases hp
   |cons a m ih =>
    intro nd p hp q hq e
    rw[aK,bX]at nd
    rcases ay.mp hp with rfl|hp<;>rcases ay.mp hq with rfl|hq
    ·rfl
    ·exact absurd (show p.1∈m.map Prod.fst from aE.mpr ⟨q,by assumption,e.symm⟩) nd.1
    ·exact absurd (show q.1∈m.map Prod.fst from aE.mpr ⟨p,by assumption,e⟩) nd.1
    ·exact ih nd.2 p hp q hq e
  have:=inj nd _ (ik.mpr (a7u l hr)) _ (ik.mpr (a7u l hs)) e
  rw[air l hr,air l hs,this]
end
end NB
namespace NB
open L2 (bw)
theorem zx{β γ:Type}(f:Nat->β)(g:Nat->γ):∀{l m:List Nat},(∀x∈l,∀y∈m,f x=f y->g x=g y)->l.map f=m.map f->l.map g=m.map g
 |[],[],_,_=>rfl
 |[],_::_,_,e=>by cases e
 |_::_,[],_,e=>by cases e
 |x::l,y::m,h,e=>by
  rw[aK,aK,fP]at e;rw[aK,aK,h x aP y aP e.1,zx f g (λa ha b hb=>h a (ai _ ha) b (ai _ hb)) e.2]
theorem a1v{α:Type}[DecidableEq α]:∀(l acc:List α),∃m,l.foldl L2.stepK acc=acc++m
 |[],acc=>⟨[],by simp⟩
 |v::l,acc=>by
  obtain⟨m,e⟩:=a1v l (L2.stepK acc v);rw[bL,e];unfold L2.stepK
  split
  ·exact⟨m,rfl⟩
  ·exact⟨v::m,by simp⟩
theorem ao4{α:Type}[DecidableEq α](x:α)(l:List α):ix (x::l) x=0:=by
 unfold ix bw;obtain⟨m,e⟩:=a1v l (L2.stepK [] x);rw[bL,e];simp[L2.stepK]
section
variable{G:List (List Nat)}{ks:List Int}
def C(G:List (List Nat))(ks:List Int):Nat->List Nat
 |0=>nb ks
 |t+1=>rf G (C G ks t)
theorem a0e(lk:ks.length=G.length):∀t,(C G ks t).length=G.length
 |0=>by unfold C;rw[a4v,lk]
 |t+1=>by unfold C;exact atl (a0e lk t)
theorem akh(lk:ks.length=G.length){r s:Nat}(hr:r<G.length)(hs:s<G.length):∀t,at' (C G ks t) r=at' (C G ks t) s->ks[r]? = ks[s]?
 |0,e=>by
  have a:ks[r]? = some (ks[r]'(by omega)):=a6 _
  have b:ks[s]? = some (ks[s]'(by omega)):=a6 _
  unfold C at' at e;rw[a4h a,a4h b]at e;rw[a,b,a4u (br _) (br _) e]
 |t+1,e=>akh lk hr hs t ((a8z (a0e lk t) hr hs).mp e).1
structure Stab (G:List (List Nat)) (ks:List Int) (c:List Nat):Prop where
 len:c.length=G.length
 kind:∀r s,r<G.length->s<G.length->at' c r=at' c s->ks[r]? = ks[s]?
 row:∀r s,r<G.length->s<G.length->at' c r=at' c s->(row G r).map (at' c)=(row G s).map (at' c)
theorem a4w(g:∀r∈G,∀x∈r,x<G.length){r x:Nat}(h:x∈row G r):x<G.length:=by
 unfold row at h
 cases e:G[r]? with
 |none=>rw[e]at h;cases h
 |some l=>rw[e]at h;exact g l (aN e) x h
theorem ayk(lk:ks.length=G.length)(g:∀r∈G,∀x∈r,x<G.length){t:Nat}(le:cnt (C G ks (t+1))<=cnt (C G ks t)):Stab G ks (C G ks (t+1)) :=
 ⟨a0e lk _,λr s hr hs e=>akh lk hr hs _ e,λr s hr hs e =>
  zx (at' (C G ks t)) _ (λx hx y hy e=>(still (a0e lk t) le (a4w g hx) (a4w g hy)).mpr e) ((a8z (a0e lk t) hr hs).mp e).2⟩
variable{c L:List Nat}
def F(L c:List Nat)(r:Nat):Nat:=ix (L.map (at' c)) (at' c r)
def many(L c:List Nat):Nat:=(bw (L.map (at' c))).length
theorem ax3{r:Nat}(h:r∈L):at' c r∈L.map (at' c):=aE.mpr ⟨r,h,rfl⟩
theorem ayl{r s:Nat}(hr:r∈L)(hs:s∈L):F L c r=F L c s↔at' c r=at' c s:=⟨λe=>a4u (ax3 hr) (ax3 hs) e,λe=>by unfold F;rw[e]⟩
theorem aym{r:Nat}(hr:r∈L):F L c r<many L c:=af7 (ax3 hr)
theorem atm{k:Nat}(h:k<many L c):∃r∈L,F L c r=k:=by
 obtain⟨x,hx,e⟩:=ati h;obtain⟨r,hr,rfl⟩:=aE.mp hx;exact⟨r,hr,e⟩
theorem atn(h:L[0]? = some 0):F L c 0=0:=by
 cases L with
 |nil=>cases h
 |cons x l=>cases h;exact ao4 _ _
theorem ais{r:Nat}(h:r∈L):1<=many L c:=fX (bU _) (aym h)
theorem ao5:many L c<=L.length:=by have:=af6 (L.map (at' c));rwa[a9]at this
section
variable{n:Nat}(all:∀r,r∈L↔r<n)
include all
end
end
end NB
namespace MI
open L2
abbrev S(l:List Nat):Str:=⟨l.toArray⟩
theorem ao6(l:List Nat):(S l).cps.toList=l:=by simp
theorem af8(l:List Nat):(S l).length=l.length:=by simp[Str.length]
theorem ao7(x:Str):S x.cps.toList=x:=by cases x;simp
theorem ax4(a b:List Nat):S a++S b=S (a++b):=by rw[<-ao7 (S a++S b),awi]
theorem ax5(h:S a=S b):a=b:=by
 have:=aZ (λx:Str=>x.cps.toList) h
 simpa using this
theorem ax6(a b:List Nat):(S a == S b)=decide (a=b):=by
 by_cases h:a=b
 ·subst h;simp
 ·have:¬ S a=S b:=λz=>h (ax5 z)
  simp[h]
section
variable{h:Hd}{a b l:List Nat}{i:Nat}{c:Nat}
theorem b04(hl:l.length<=LINE)(e:l[i]? = some c):gIx (.str (S l)) (.int (i:Nat)) h=.ok (.str (S [c])) h:=by
 unfold gIx;simp only[af8,aQ hl,ao6,qx e]
theorem ao8(hl:a.length+b.length<=LINE):lq (.str (S a)) (.str (S b)) h=.ok (.str (S (a++b))) h:=by
 unfold lq;simp only[af8,aQ hl,ax4]
theorem ao9(hl:l.length<=LINE):jx [.str (S l)] h=.ok (.int l.length) h:=by
 unfold jx;simp only[af8,aQ hl]
theorem b05(k:Nat)(hl:l.length<=LINE):ak7 (.str (S l)) none (some (k:Int)) h=.ok (.str (S (l.take k))) h:=by
 show gSl (.str (S l)) none (some (k:Int)) h=_;unfold gSl;simp only[af8,aQ hl,ao6,adb]
theorem ato(k:Nat)(hl:l.length<=LINE):ak7 (.str (S l)) (some (k:Int)) none h=.ok (.str (S (l.drop k))) h:=by
 show gSl (.str (S l)) (some (k:Int)) none h=_;unfold gSl;simp only[af8,aQ hl,ao6,adc]
end
section
variable{h:Hd}{i j:Int}{xs ys:List D}
theorem a3c:gIx (.tup xs) (.int i) h=(match atI xs i with|some d=>.ok d h|none=>.no):=rfl
theorem a7w:gIx (.rol xs) (.int i) h=(match atI xs i with|some d=>.ok d h|none=>.no):=rfl
theorem a4x:gIx (.ref k) (.int i) h=(match uz (.ref k) h with|some xs=>(match atI xs i with|some d=>.ok d h|none=>.no)|none=>.no):=rfl
theorem yp:jx [.tup xs] h=.ok (.int xs.length) h:=rfl
theorem a1d:jx [.rol xs] h=.ok (.int xs.length) h:=rfl
theorem yq:jx [.ref k] h=(match uz (.ref k) h with|some xs=>.ok (.int xs.length) h|none=>.no):=rfl
theorem a0u:lq (.int i) (.int j) h=.ok (.int (i+j)) h:=rfl
theorem a68:a2j (.int i) (.int j) h=.ok (.int (i+j)) h:=rfl
open Classical in
theorem aaa:a0o (.int i) (.int j) h=if CMul i j then .ok (.int (i*j)) h else .no:=by unfold a0o;rfl
theorem xm(b:Bool):tru (.bl b) h=.ok b h:=rfl
theorem a69:tru (.int i) h=.ok (i != 0) h:=rfl
theorem a6a:tru (.rol xs) h=.ok (!xs.isEmpty) h:=rfl
theorem a6b:tru (.tup xs) h=.ok (!xs.isEmpty) h:=rfl
theorem a6c:tru .non h=.ok false h:=rfl
theorem a7x:hEq (.int i) (.int j) h=.ok (.bl (i == j)) h:=rfl
theorem abr:hNe (.int i) (.int j) h=.ok (.bl (!(i == j))) h:=rfl
theorem ax7(a b:Str):hNe (.str a) (.str b) h=.ok (.bl (!(a == b))) h:=rfl
theorem ait(a b:Bool):hEq (.bl a) (.bl b) h=.ok (.bl (a == b)) h:=rfl
theorem aiu(a b:Bool):hNe (.bl a) (.bl b) h=.ok (.bl (!(a == b))) h:=rfl
theorem aab(x:D):gIs x .non h=.ok (.bl (a7f x)) h:=by cases x<;>rfl
theorem a1w(x:D):ajx x .non h=.ok (.bl (!a7f x)) h:=by cases x<;>rfl
theorem aiv(a b:Bool):gIs (.bl a) (.bl b) h=.ok (.bl (a == b)) h:=rfl
theorem a2x(a b:Bool):ajx (.bl a) (.bl b) h=.ok (.bl (a != b)) h:=rfl
theorem avb:a7f (.int i)=false:=rfl
theorem avc(x:Str):a7f (.str x)=false:=rfl
theorem avd:a7f .non=true:=rfl
theorem ave:a7f (.tup xs)=false:=rfl
end
theorem ax8(n:Nat):rng 0 n=(List.range n).map λi:Nat=>D.int (i:Nat):=by
 unfold rng;exact bV λi _=>by rw[Int.zero_add]
theorem ax9(a:Int)(n:Nat):rng a n=(List.range n).map λi:Nat=>D.int (a+(i:Nat)):=rfl
theorem a90(h:n<=LINE):B62 (n:Int):=by
 have:n<=16777216:=h
 unfold B62;omega
theorem aoa(h : -16777216<=n)(h':n<=16777216):B62 n:=by unfold B62;omega
theorem atp(h:Hd)(z:n<=LINE):a09 [.int (n:Nat)] h=.ok ⟨(List.range n).map λi:Nat=>D.int (i:Nat),λ_=>True⟩ h:=by
 unfold a09;simp only[a90 z,cQ,cP,ax8]
theorem atq(h:Hd)(za:a<=LINE)(z:n<=LINE):a3l [.int (a:Nat),.int (n:Nat)] h=.ok ⟨(List.range (n-a)).map λi:Nat=>D.int ((a+i:Nat)),λ_=>True⟩ h:=by
 unfold a3l;simp only[a90 z,a90 za,h9,cQ,ax9];rw[show((n:Int)-(a:Int)).toNat=n-a by omega]
 congr 2
theorem axa(e:f τ h=.ok d h):aj f bj τ h=.ok [d] h:=by unfold aj bj;rw[e];rfl
theorem atr(e:f τ h=.ok c h)(e':g τ h=.ok d h):aj f (aj g bj) τ h=.ok [c,d] h:=by unfold aj;rw[e,aq,e',aq];rfl
theorem a3u(e:f τ h=.ok (.int (n:Nat)) h)(z:n<=LINE):sRg a09 (aj f bj) τ h=.ok ⟨(List.range n).map λi:Nat=>D.int (i:Nat),λ_=>True⟩ h:=by
 unfold sRg;rw[axa e,aq];exact atp h z
theorem af9(e':g τ h=.ok (.int (a:Nat)) h)(e:f τ h=.ok (.int (n:Nat)) h)(za:a<=LINE)(z:n<=LINE):sRg a3l (aj g (aj f bj)) τ h=.ok ⟨(List.range (n-a)).map λi:Nat=>D.int ((a+i:Nat)),λ_=>True⟩ h:=by
 unfold sRg;rw[atr e' e,aq];exact atq h za z
theorem ao(e:τ[i]? = some (some d)):sV i τ h=.ok d h:=by unfold sV;rw[e]
theorem ig{fi:SI}{t:D->Option Sd}{fe:SE}{ix:List Nat}{τ:Sd}{h:Hd}{α:Type}(g F:α->D)(xs:List α)(e:fi τ h=.ok ⟨xs.map g,λ_=>True⟩ h)(z:xs.length<=LINE)
  (st:∀x∈xs,a5t t fe (frs' ix τ) (g x) h=.ok (F x) h):jo fi t fe ix τ h=.ok (.ref h.length) (h++[.lst (xs.map F)]):=by
 unfold jo;rw[e,aq];dsimp only;rw[aQ (by rw[a9];exact z),a7n g F st]
 rfl
theorem a6d(fe:SE)(r:Sd)(x:D)(h:Hd):a5t t1 fe r x h=fe (some x::r) h:=rfl
theorem aiw(i:Nat)(ix:List Nat)(τ:Sd):frs' (i::ix) τ=(τ[i]?).join::frs' ix τ:=rfl
theorem afa(τ:Sd):frs' [] τ=[]:=rfl
section
variable{f k f1 f2 f3:SE}{c c1 c2:ST}{g p q:SS}{τ τ1:Sd}{h h1 h2 h3 h4:Hd}{a b d v:D}{i:Nat}{t u:Bool}
theorem ayn(d:D)(τ:Sd)(h:Hd):sC d τ h=.ok d h:=rfl
theorem qu(e1:f τ h=.ok a h1)(e3:G [a] h1=.ok v h2):sA G (aj f bj) τ h=.ok v h2:=by
 have:aj f bj τ h=.ok [a] h1:=by unfold aj;rw[e1];rfl
 unfold sA;rw[this,aq,e3]
theorem a0p(e1:f τ h=.ok a h1)(e2:k τ h1=.ok b h2)(e3:G [a,b] h2=.ok v h3):sA G (aj f (aj k bj)) τ h=.ok v h3:=by
 have:aj f (aj k bj) τ h=.ok [a,b] h2:=by unfold aj;rw[e1,aq,e2];rfl
 unfold sA;rw[this,aq,e3]
theorem ap1(e0:f1 τ h=.ok d h1)(e1:f τ h1=.ok a h2)(e2:k τ h2=.ok b h3)(e3:G [d,a,b] h3=.ok v h4):sA G (aj f1 (aj f (aj k bj))) τ h=.ok v h4:=by
 have:aj f1 (aj f (aj k bj)) τ h=.ok [d,a,b] h3:=by unfold aj;rw[e0,aq,e1,aq,e2];rfl
 unfold sA;rw[this,aq,e3]
theorem jy(e:f τ h=.ok d h1):di (j4 i f) g τ h=g (τ.set i (some d)) h1:=by
 rw[jz];unfold j4;rw[e];rfl
theorem avf(e:f τ h=.ok d h1):j4 i f τ h=.nx (τ.set i (some d)) h1:=by
 unfold j4;rw[e];rfl
theorem zg(e:p τ h=.nx τ1 h1):di p g τ h=g τ1 h1:=by rw[jz,e];rfl
theorem ifT(e:c τ h=.ok true h1):sIf c p q τ h=p τ h1:=by unfold sIf;rw[e];rfl
theorem ifF(e:c τ h=.ok false h1):sIf c p q τ h=q τ h1:=by unfold sIf;rw[e];rfl
theorem ifN(e:c τ h=.ok false h1):di (sIf c p sNx) g τ h=g τ h1:=by rw[jz,ifF e];rfl
theorem tof(e:f τ h=.ok (.bl t) h1):sT f τ h=.ok t h1:=by unfold sT;rw[e];rfl
theorem a6e(e:f τ h=.ok d h1)(e':tru d h1=.ok t h2):a6n f τ h=.ok t h2:=by unfold a6n;rw[e,aq,e']
theorem avh(e:c1 τ h=.ok true h1)(e':c2 τ h1=.ok t h2):abx c1 c2 τ h=.ok t h2:=by unfold abx;rw[e,aq,aQ rfl,e']
theorem axb(e:c1 τ h=.ok false h1):abx c1 c2 τ h=.ok false h1:=by unfold abx;rw[e,aq,bg (by simp)]
theorem orT(e:c1 τ h=.ok true h1):sOr c1 c2 τ h=.ok true h1:=by unfold sOr;rw[e,aq,aQ rfl]
theorem orF(e:c1 τ h=.ok false h1)(e':c2 τ h1=.ok t h2):sOr c1 c2 τ h=.ok t h2:=by unfold sOr;rw[e,aq,bg (by simp),e']
theorem axc(e:c τ h=.ok t h1):a6o c τ h=.ok (!t) h1:=by unfold a6o;rw[e];rfl
theorem agg(e:c τ h=.ok true h1):a6o c τ h=.ok false h1:=axc e
theorem a03(e:f τ h=.ok d h1):a04 f τ h=.rt d h1:=by unfold a04;rw[e];rfl
theorem aix(e:f τ h=.ok (.bl true) h1)(e':k τ h1=.ok d h2):a3k f k τ h=.ok d h2:=by unfold a3k;rw[e,aq];exact e'
theorem zj(e1:f τ h=.ok d h1)(l:isL d h1=true)(e2:A τ h1=.ok ds h2)(e3:G d ds h2=.ok v h3):vm (sML G f A) τ h=.nx τ h3:=by
 unfold vm sML;rw[e1,aq,aQ l,e2,aq,e3];rfl
theorem atu(e1:f τ h=.ok d h1)(l:isL d h1=true)(e2:A τ h1=.ok ds h2)(e3:G d ds h2=.ok v h3):sML G f A τ h=.ok v h3:=by
 unfold sML;rw[e1,aq,aQ l,e2,aq,e3]
theorem arg1(e:f τ h=.ok d h1):aj f bj τ h=.ok [d] h1:=by unfold aj bj;rw[e];rfl
theorem u5(e1:f τ h=.ok a h1)(e2:k τ h1=.ok b h2)(e3:G a b h2=.ok v h3):s2 G f k τ h=.ok v h3:=by
 unfold s2;rw[e1,aq,e2,aq,e3]
theorem atv(e:τ[i]? = some (some a))(e3:G a d h=.ok v h3):s2 G (sV i) (sC d) τ h=.ok v h3:=u5 (ao e) (ayn _ _ _) e3
theorem ckk:sC d τ h=.ok d h:=rfl
theorem tvc(e:τ[i]? = some (some a))(e3:G a d h=.ok (.bl t) h3):sT (s2 G (sV i) (sC d)) τ h=.ok t h3:=tof (u5 (ao e) (ayn _ _ _) e3)
theorem t2s(e1:f τ h=.ok a h1)(e2:k τ h1=.ok b h2)(e3:G a b h2=.ok (.bl t) h3):sT (s2 G f k) τ h=.ok t h3:=tof (u5 e1 e2 e3)
theorem ets{rr:R D}(e:f τ h=.ok d h1)(e2:toR (g (τ.set i (some d)) h1)=rr):toR (di (j4 i f) g τ h)=rr:=by rw[jy e,e2]
theorem eti{rr:R D}(e:c τ h=.ok false h1)(e2:toR (g τ h1)=rr):toR (di (sIf c p sNx) g τ h)=rr:=by rw[ifN e,e2]
theorem etr{fa fb:Fl}{rr:R D}(e:fa=fb)(e2:toR fb=rr):toR fa=rr:=by rw[e,e2]
theorem ayo(e1:f τ h=.ok a h1)(e3:G a h1=.ok v h2):s1 G f τ h=.ok v h2:=by
 unfold s1;rw[e1,aq,e3]
theorem aob(ht:τ[i]? = some (some a))(e:f τ h=.ok b h1)(e2:G a b h1=.ok d h2):adh i G f τ h=.nx (τ.set i (some d)) h2:=by
 unfold adh;rw[ht];dsimp only;rw[e,vo,e2];rfl
theorem afb(e:f τ h=.ok d h1)(e2:G d τ h1=.nx τ1 h2):a8q f G τ h=.nx τ1 h2:=by
 unfold a8q;rw[e,vo,e2]
theorem atw(e1:f1 τ h=.ok v h1)(e2:f2 τ h1=.ok a h2)(e3:f3 τ h2=.ok b h3)(e4:put a b v h3=some h4):a7e f1 f2 f3 τ h=.nx τ h4:=by
 unfold a7e;rw[e1,vo,e2,vo,e3,vo,e4]
theorem aac(e1:f1 τ h=.ok v h1)(e2:f2 τ h1=.ok a h2)(e3:f3 τ h2=.ok b h3)(e4:agf a b v h3=some h4):a3q f1 f2 f3 τ h=.nx τ h4:=by
 unfold a3q;rw[e1,vo,e2,vo,e3,vo,e4]
theorem a3v{fi:SI}{G:SG}{b:SS}{xs:List D}{ck:Hd->Prop}(e:fi τ h=.ok ⟨xs,ck⟩ h1):di (a6p fi G b) g τ h=thn (forL ck G b xs τ h1) g:=by
 rw[jz];unfold a6p;rw[e];rfl
theorem a88(e:f τ h=.ok d h1)(e2:ah9 d h1=.ok ⟨xs,ck⟩ h1):sIt f τ h=.ok ⟨xs,ck⟩ h1:=by
 unfold sIt;rw[e,aq,e2]
theorem a0v(e:h[i]? = some (.lst xs))(z:xs.length<LINE):a2a (.ref i) [a] h=.ok .non (h.set i (.lst (xs++[a]))):=by
 unfold a2a;simp only[e,aQ z]
theorem atx(e:h[i]? = some (.lst xs))(hj:j<xs.length):put (.ref i) (.int (j:Nat)) v h=some (h.set i (.lst (xs.set j v))):=by
 have:ixN xs.length (j:Int)=some j:=by unfold ixN;rw[aQ (by omega),aQ (by omega)];simp
 unfold put;simp only[e,this]
theorem aoc(e:h[i]? = some (.lst xs))(hj:xs[j]? = some y)(z:xs.length<=LINE):a1n (.ref i) [.int (j:Nat)] h=.ok y (h.set i (.lst (xs.eraseIdx j))):=by
 have lt:j<xs.length:=(a7.mp hj).1;have:ixN xs.length (j:Int)=some j:=by unfold ixN;rw[aQ (by omega),aQ (by omega)];simp
 unfold a1n;simp only[e,this,hj,aQ z]
theorem a3w(e:h[i]? = some (.lst xs))(hj:xs[j]? = some y):gIx (.ref i) (.int (j:Nat)) h=.ok y h:=by
 rw[a4x];unfold uz;simp only[e,qx hj]
theorem ap2(hj:xs[j]? = some y):gIx (.rol xs) (.int (j:Nat)) h=.ok y h:=by
 rw[a7w];simp only[qx hj]
theorem aad(hj:xs[j]? = some y):gIx (.tup xs) (.int (j:Nat)) h=.ok y h:=by
 rw[a3c];simp only[qx hj]
theorem a2g(e:h[i]? = some (.lst xs)):jx [.ref i] h=.ok (.int (xs.length:Nat)) h:=by
 rw[yq];unfold uz;simp only[e]
theorem afc(e:h[i]? = some (.lst xs)):jf [.ref i] h=.ok (.tup xs) h:=by
 unfold jf uz;simp only[e]
theorem div_ii(c:0<y/\y<1073741824):ab6 (.int x) (.int y) h=.ok (.int (x / y)) h:=by unfold ab6;exact aQ c
theorem ayp(c:y<x):gGt (.int x) (.int y) h=.ok (.bl true) h:=by unfold gGt;simp only[c,dY]
theorem ayq(c:¬ y<x):gGt (.int x) (.int y) h=.ok (.bl false) h:=by unfold gGt;simp only[c,dJ]
theorem axd(c:x<y):gLt (.int x) (.int y) h=.ok (.bl true) h:=by unfold gLt;simp only[c,dY]
theorem axe(c:¬ x<y):gLt (.int x) (.int y) h=.ok (.bl false) h:=by unfold gLt;simp only[c,dJ]
theorem a91(c:x=y):hEq (.int x) (.int y) h=.ok (.bl true) h:=by rw[a7x,c,cD]
theorem a6f(c:¬ x=y):hEq (.int x) (.int y) h=.ok (.bl false) h:=by rw[a7x,bT.mpr c]
theorem axf(c:x=y):hNe (.int x) (.int y) h=.ok (.bl false) h:=by rw[abr,c,cD];rfl
theorem axg(c:¬ x=y):hNe (.int x) (.int y) h=.ok (.bl true) h:=by rw[abr,bT.mpr c];rfl
theorem axh(x:Int):adt (.int x) h=.ok (.int (-x)) h:=rfl
theorem a7y(x y:Int):MI.a6r (.int x) (.int y) h=.ok (.int (x-y)) h:=rfl
theorem dq(h:n<=1000000):n<=LINE:=by show n<=16777216;omega
theorem yg(h:n<=1000000):n<LINE:=by show n<16777216;omega
theorem avi:MI.a2i [a,b] h=.ok (.tup [a,b]) h:=by unfold MI.a2i;rw[aQ (dq (by simp))]
theorem ayr:MI.a2i [a,b,v] h=.ok (.tup [a,b,v]) h:=by unfold MI.a2i;rw[aQ (dq (by simp))]
end
end MI
namespace EVX
open L2 MI
section
variable{i:Nat}{cs:Str->Bool}{fb fs p g:SS}{τ τ1 τ2:Sd}{h h1 h2:Hd}{c:Str}{f:SE}{ka:SA}{ds:List D}{F:SF}{n:Nat}
theorem axi{G:List D->Hd->R D}{f1 f2 f3 f4:SE}{h3 h4 h5:Hd}{a b c d v:D}(e1:f1 τ h=.ok a h1)(e2:f2 τ h1=.ok b h2)(e3:f3 τ h2=.ok c h3)(e4:f4 τ h3=.ok d h4)(e5:G [a,b,c,d] h4=.ok v h5):sA G (aj f1 (aj f2 (aj f3 (aj f4 bj)))) τ h=.ok v h5:=by
 have:aj f1 (aj f2 (aj f3 (aj f4 bj))) τ h=.ok [a,b,c,d] h4:=by unfold aj;rw[e1,aq,e2,aq,e3,aq,e4];rfl
 unfold sA;rw[this,aq,e5]
end
end EVX
namespace HND
open L2 MI AT
local macro_rules|`(tactic|walk_at "ev") => `(tactic|simp only[jz,ql,aa3,a3r,aa4,j4,adh,a8u,sIf,a04,vm,a7e,put,a3q,a8q,a4q,jw,a5s,kN,sV,sC,s2,s1,sA,aj,bj,sNx,sT,asB,a6n,xm,a69,a6a,a6b,a6c,abx,sOr,a6o,a3k,av6,a5q,sCh,av7,aq,vo,MI.a3c,MI.a7w,MI.a4x,an7,uz,gLt,gGt,gGe,gLe,a7x,abr,ait,aiu,aab,a1w,aiv,a2x,avb,avc,avd,ave,a0u,MI.a6r,aby,ab6,aaa,AT.aic,AT.p18,yp,a1d,yq,av8,a68,adt,ahd,ahc,MI.a2i,MI.a1h,sML,isL,a2a,oN,oS,agd,yh,sIt,ah9,sRg,a9,aW,bH,ag,bE,b9,bK,bI,cq,cW,AT.ai4,AT.ai5,AT.ai6,AT.ai7,AT.ai8,AT.ai9,AT.aia,AT.aib,AT.x10,AT.x20,AT.x21,AT.x30,AT.x31,AT.x32,AT.x40,AT.x41,AT.x42,AT.x43,AT.x50,AT.x51,AT.x52,AT.x53,AT.x54,AT.x60,AT.x61,AT.x62,AT.x63,AT.x64,AT.x65,AT.x70,AT.x71,AT.x72,AT.x73,AT.x74,AT.x75,AT.x76,dY,dJ,reduceIte,eO,gL,cJ,ei,h9,true_and,and_true,cD,Nat.reduceAdd,Nat.reduceLeDiff,Nat.reduceLT,Nat.reducePow,Int.reduceLT,Int.reduceLE,Int.reduceNeg,Int.reduceEq,Int.reduceBEq,bA,eP,ite_true,ite_false,cQ,cM, *])
structure Hand (o:O) (N:Nat):Prop where
 ex:∃(cells:List Int) (a l s c:Int),o=.lst [.rol (cells.map D.int),.int a,.int l,.int s,.int c]/\0<=a/\0<=l/\0<=s/\s<2147483647/\0<=c/\c<=N/\cells.length<=63
theorem Hand.clo(P:Hand o N):a0g 0 o:=by
 obtain⟨cells,a,l,s,c,rfl,_⟩:=P.ex;exact bz (j7 (bc λx _=>bf x)) (bz (bf _) (bz (bf _) (bz (bf _) (bz (bf _) kh))))
theorem Hand.up(P:Hand o N)(h:N<=M):Hand o M:=by
 obtain⟨cells,a,l,s,c,e,h1,h2,h3,h4,h5,h6,h7⟩:=P.ex;exact⟨cells,a,l,s,c,e,h1,h2,h3,h4,h5,by omega,h7⟩
noncomputable def aa:SF:=qt a0l 4
theorem afd(P:Hand o N)(hN:N<=1000000000)(m0:0<m)(m1:m<1073741824):∃r o',aa [.ref 0,.int m] [o]=.ok (.int r) [o']/\0<=r/\r<m/\Hand o' (N+1):=by
 obtain⟨cells,a,l,s,c,rfl,a0,l0,s0,s1,c0,c1,c63⟩:=P.ex;unfold aa;rw[dm];unfold a0l a0t;simp only[aK,bO,aW,bH,Nat.reduceSub,Nat.reduceAdd,List.replicate,cW,cq]
 by_cases h2:m<2
 ·refine⟨0,_,?_,by omega,by omega,⟨cells,a,l,s,c,rfl,a0,l0,s0,s1,c0,by omega,c63⟩⟩
  walk_at "ev"
 ·have k2:decide (m<2)=false:=aR h2;have k3:(0<m/\m<1073741824)=True:=by simp[m0,m1]
  have k3':(0<m)=True:=by simp[m0]
  have draw:∀s':Int,0<=s'->s'<2147483647->∃r,0<=r/\r<m/\(s'+7368787*(c+1))^(5:Int).toNat%2147483647 / 1009%m=r/\CMul 7368787 (c+1)/\∀h,adq (.int (s'+7368787*(c+1))) (.int 5) h=.ok (.int ((s'+7368787*(c+1))^(5:Int).toNat)) h:=λs' h0 h1 =>
   ⟨_,fR _ (by omega),eQ _ m0,rfl,.inl ⟨by decide,by decide⟩,λh=>awx ⟨by decide,by decide,by omega⟩⟩
  by_cases hA:l=0/\a<(cells.length:Int)
  ·obtain⟨rfl,ha⟩:=hA;obtain⟨j,rfl⟩:=cL a0;have hj:j<cells.length:=by omega
   have hat:atI (cells.map D.int) (j:Int)=some (.int cells[j]):=qx (by simp[hj])
   have ka:decide ((j:Int)<(cells.length:Int))=true:=aS ha;have cm:CMul s 48271:=.inr ⟨by decide,by decide⟩
   have s2:0<=(s*48271+cells[j])%2147483647:=fR _ (by decide)
   have s3:(s*48271+cells[j])%2147483647<2147483647:=eQ _ (by decide)
   generalize hs':(s*48271+cells[j])%2147483647=s' at s2 s3
   generalize hx:cells[j]=x at *
   by_cases hB:(1000000000000000000:Int)<=aka x
   ·have kb:decide ((1000000000000000000:Int)<=aka x)=true:=aS hB;have pos:0<aka x:=by omega
    have kc:decide (0<aka x)=true:=aS pos;refine⟨aka x%m,_,?_,fR _ (by omega),eQ _ m0,⟨cells,(j:Int)+1,aka x / m,s',c,rfl,by omega,Int.ediv_nonneg (by omega) (by omega),s2,s3,c0,by omega,c63⟩⟩
    walk_at "ev"
   ·have kb:decide ((1000000000000000000:Int)<=aka x)=false:=aR hB;obtain⟨r,r0,r1,er,d1,d2⟩:=draw s' s2 s3;refine⟨r,_,?_,r0,r1,⟨cells,(j:Int)+1,0,s',c+1,rfl,by omega,by omega,s2,s3,by omega,by omega,c63⟩⟩
    walk_at "ev"
  ·by_cases hC:0<l
   ·have kc:decide (0<l)=true:=aS hC;have kd:(l == 0)=false:=by simp;omega
    refine⟨l%m,_,?_,fR _ (by omega),eQ _ m0,⟨cells,a,l / m,s,c,rfl,a0,Int.ediv_nonneg (by omega) (by omega),s0,s1,c0,by omega,c63⟩⟩
    walk_at "ev"
   ·have:l=0:=by omega
    subst this;have ka:decide (a<(cells.length:Int))=false:=aR λz=>hA ⟨rfl,z⟩;obtain⟨r,r0,r1,er,d1,d2⟩:=draw s s0 s1;refine⟨r,_,?_,r0,r1,⟨cells,a,0,s,c+1,rfl,a0,by omega,s0,s1,by omega,by omega,c63⟩⟩
    walk_at "ev"
theorem qg(P:Hand o N)(hN:N<=1000000000)(m0:0<m)(m1:m<1073741824):∃r o',Dr aa 2 [.int m] o (.int r) o'/\0<=r/\r<m/\Hand o' (N+1):=by
 obtain⟨r,o',e,r0,r1,P'⟩:=afd P hN m0 m1;refine⟨r,o',Dr.of rfl (by simp[bf]) P.clo e (j5 (bf _) ?_) (bf _) P'.clo,r0,r1,P'⟩
 intro u hu
 simp at hu
 subst hu;exact vg (by omega) P'.clo
end HND
namespace HND
open L2 MI AT
local macro_rules|`(tactic|walk_at "ev") => `(tactic|simp only[jz,ql,aa3,a3r,aa4,j4,adh,a8u,sIf,a04,vm,a7e,put,a3q,a8q,a4q,jw,a5s,kN,sV,sC,s2,s1,sA,aj,bj,sNx,sT,asB,a6n,xm,a69,a6a,a6b,a6c,abx,sOr,a6o,a3k,av6,a5q,sCh,av7,aq,vo,MI.a3c,MI.a7w,MI.a4x,an7,uz,gLt,gGt,gGe,gLe,a7x,abr,ait,aiu,aab,a1w,aiv,a2x,avb,avc,avd,ave,a0u,MI.a6r,aby,ab6,aaa,AT.aic,AT.p18,yp,a1d,yq,av8,a68,adt,ahd,ahc,MI.a2i,MI.a1h,sML,isL,a2a,oN,oS,agd,yh,sIt,ah9,sRg,a6p,a09,a3l,asl,a1r,aej,agc,aoz,srcOf,  a9,aW,bH,ag,bE,b9,bK,bI,cq,cW,AT.ai4,AT.ai5,AT.ai6,AT.ai7,AT.ai8,AT.ai9,AT.aia,AT.aib,AT.x10,AT.x20,AT.x21,AT.x30,AT.x31,AT.x32,AT.x40,AT.x41,AT.x42,AT.x43,AT.x50,AT.x51,AT.x52,AT.x53,AT.x54,AT.x60,AT.x61,AT.x62,AT.x63,AT.x64,AT.x65,AT.x70,AT.x71,AT.x72,AT.x73,AT.x74,AT.x75,AT.x76,dY,dJ,reduceIte,eO,gL,cJ,ei,h9,true_and,and_true,cD,Nat.reduceAdd,Nat.reduceLeDiff,Nat.reduceLT,Nat.reducePow,Int.reduceLT,Int.reduceLE,Int.reduceNeg,Int.reduceEq,Int.reduceBEq,bA,eP,ite_true,ite_false,cQ,cM, *])
noncomputable def qm:SF:=qt a0k 1
theorem aod(ns:List Int)(h:Hd):∃o,Hand o 0/\j6 true 1 qm [.scr (ns.map D.int)] h=.ok (.ref h.length) (h++[o]):=by
 have cl:clos 0 ((ns.take 63).map D.int):=bc λx _=>bf x;have z1:sZ (agd (sV 0) oN (oS (sI 63))) [some (.scr (ns.map D.int))] []=.ok (.rol ((ns.take 63).map D.int)) []:=by
  refine yj (by
   show gSl (.scr (ns.map D.int)) none (some ((63:Nat):Int)) []=_;unfold gSl;simp only[adb,List.map_take]) cl (by simp)
 have z2:sZ (sA a1o (aj (sZ (agd (sV 0) oN (oS (sI 63)))) bj)) [some (.scr (ns.map D.int))] []=.ok (.rol ((ns.take 63).map D.int)) []:=by
  refine yj (by
   simp only[sA,aj,bj,z1,aq]
   rfl) cl (by simp)
 have e:qm [.scr (ns.map D.int)] []=.ok (.ref 0) [.lst [.rol ((ns.take 63).map D.int),.int 0,.int 0,.int 7,.int 0]]:=by
  unfold qm;rw[dm];unfold a0k a0t;simp only[aK,bO,aW,bH,Nat.reduceSub,Nat.reduceAdd,List.replicate,cc];simp only[a04,sA,aj,bj,sC,aq,vo]at z2 ⊢;simp only[z2,aq];rfl
 have P:Hand (.lst [.rol ((ns.take 63).map D.int),.int 0,.int 0,.int 7,.int 0]) 0:=⟨ns.take 63,0,0,7,0,rfl,by decide,by decide,by decide,by decide,by decide,by decide,by simp;omega⟩
 exact⟨_,P,asm rfl (by simpa[clo] using (bc λx _=>bf x:clos 0 (ns.map D.int))) e rfl P.clo h⟩
def avj:Str := " !\"#$&'()*+,-./0123456789:;<=>?@ABCDEFGHIJKLMNOPQRSTUVWXYZ[\\]^_`"
def avk:Str := "abcdefghijklmnopqrstuvwxyz{|}~\n"
def sig:List Nat:=avj.cps.toList++avk.cps.toList
theorem aoe:sig.length=95:=by decide +kernel
theorem aty:sig.Nodup:=by decide +kernel
noncomputable def iu:SF:=qt zm 1
theorem lits{h:Hd}:lq (.str avj) (.str avk) h=.ok (.str (S sig)) h:=by
 rw[<-ao7 avj,<-ao7 avk,ao8 (by decide +kernel)]
 rfl
theorem aiy:Pu iu 0 [] (.str (S sig)):=by
 refine Pu.of rfl (by simp) (r:=.ok (.str (S sig)) []) ?_ (by rw[j5 (a1b _) (by simp)];rfl) (a1b _)
 unfold iu;rw[dm];unfold zm;have e:=@lits [];unfold avj avk at e;show toR (di (j4 0 _) _ [none] [])=_;simp only[jz,j4,sC,vo,ql,a04,s2,sV,bK,bE,aq,e,a3r]
structure Tongue (l:List Nat):Prop where
 lo:1<=l.length
 hi:l.length<=6
 nd:l.Nodup
 sub:∀c∈l,c∈sig
noncomputable def jg:SF:=qt (ye iu aa) 5
theorem a7z(a r:List Nat)(i:Nat)(c:Nat)(e:r[i]? = some c):List.Perm (a++r) ((a++[c])++(r.take i++r.drop (i+1))):=by
 obtain⟨hi,e⟩:=a7.mp e;have:r=r.take i++c::r.drop (i+1):=by rw[<-e];simp
 rw[d0];refine List.Perm.append_left a ?_;rw[fh]
 conv=>lhs;rw[this]
 exact List.perm_middle
theorem afe(P:Hand o N)(hN:N<=999999000):∃l o',Tongue l/\Dr jg 1 [] o (.str (S l)) o'/\Hand o' (N+7):=by
 obtain⟨r0,o1,e1,r0a,r0b,P1⟩:=qg (m:=6) P (by omega) (by decide) (by decide)
 have lo:=um (g:=kN 3) (b:=m5 iu aa) (λi:Nat=>D.int (0+(i:Nat)))
  (λpre τ h=>∃(aG told:List Nat) (u:O) (t3 t4:Option D),τ=[some (.ref 0),some (.str (S aG)),some (.str (S told)),t3,t4]/\h=[u]/\Hand u (N+1+pre.length)/\told.length=pre.length/\(told++aG).length=95/\(told++aG).Nodup/\∀c∈told++aG,c∈sig)
  (List.range (1+r0).toNat) [some (.ref 0),some (.str (S sig)),some (.str (S [])),none,none] [o1] ?_
  ⟨sig,[],o1,none,none,rfl,rfl,P1,rfl,by simp[aoe],by simpa using aty,by simp⟩
 ·obtain⟨τ',h',e2,aG,told,u,t3,t4,rfl,rfl,P2,l1,l2,nd,sb⟩:=lo;rw[aO]at P2 l1;have T:Tongue told:=⟨by omega,by omega,(bD.mp nd).1,λc hc=>sb c (cX _ hc)⟩
  refine⟨told,u,T,Dr.of rfl (by simp) P.clo (r:=.ok (.str (S told)) [u]) ?_ (j5 (a1b _) (by simpa using vg (by omega) P2.clo)) (a1b _) P2.clo,P2.up (by omega)⟩
  unfold jg;rw[dm];unfold ye a0t;simp only[aK,bO,aW,bH,Nat.reduceSub,Nat.reduceAdd,List.replicate,cW,cq];have c1:=aiy [o];have c2:=e1 0 [o] rfl;have em:("" : Str)=S []:=rfl;have bd:B62 (1+r0):=by unfold B62;omega
  have e2:forL (λ_=>True) (kN 3) (m5 iu aa) (rng 0 (1+r0).toNat) [some (D.ref 0),some (D.str (S sig)),some (D.str (S [])),none,none] [o1]=_:=e2
  walk_at "ev"
 ·rintro pre i post τ h all ⟨aG,told,u,t3,t4,rfl,rfl,P2,l1,l2,nd,sb⟩
  have aH:pre.length<(1+r0).toNat:=by
   have:=aZ List.length all
   simp at this;omega
  rw[ag]at l2;obtain⟨r,u',e2,ra,rb,P3⟩:=qg (m:=(aG.length:Nat)) P2 (by omega) (by omega) (by omega)
  obtain⟨j,rfl⟩:=cL ra;have hj:j<aG.length:=by omega
  have gx:aG[j]? = some aG[j]:=a6 hj;have pp:=a7z told aG j aG[j] gx;refine⟨_,_,rfl,_,_,?_,aG.take j++aG.drop (j+1),told++[aG[j]],u',some (.int (0+(i:Nat))),some (.int (j:Nat)),rfl,rfl,by simpa[fF] using P3,by simp[l1],?_,pp.nodup_iff.mp nd,λc hc=>sb c (pp.mem_iff.mpr hc)⟩
  ·unfold m5;have L:∀n:Nat,n<=95->n<=LINE:=λn hn=>by show n<=16777216;omega
   have c2:=e2 0 [u] rfl;have x1:∀h,gIx (.str (S aG)) (.int (j:Nat)) h=.ok (.str (S [aG[j]])) h:=λh=>b04 (L _ (by omega)) gx
   have x2:∀h,jx [.str (S aG)] h=.ok (.int aG.length) h:=λh=>ao9 (L _ (by omega))
   have x3:∀h,lq (.str (S told)) (.str (S [aG[j]])) h=.ok (.str (S (told++[aG[j]]))) h:=λh=>ao8 (L _ (by simp;omega))
   have x4:∀h,ak7 (.str (S aG)) none (some (j:Int)) h=.ok (.str (S (aG.take j))) h:=λh=>b05 j (L _ (by omega))
   have x5:∀h,ak7 (.str (S aG)) (some ((j:Int)+1)) none h=.ok (.str (S (aG.drop (j+1)))) h:=λh=>ato (j+1) (L _ (by omega))
   have x6:∀h,lq (.str (S (aG.take j))) (.str (S (aG.drop (j+1)))) h=.ok (.str (S (aG.take j++aG.drop (j+1)))) h:=λh=>ao8 (L _ (by simp;omega))
   clear all aH
   walk_at "ev"
  ·rw[<-pp.length_eq];simpa using l2
end HND
namespace HND
open L2 MI AT
theorem aae{ck:Hd->Prop}{g:SG}{b:SS}{α:Type}(f:α->D)(I:List α->Sd->Hd->Prop)(c:∀pre τ h,I pre τ h->ck h):∀(xs pre:List α) (τ:Sd) (h:Hd),
  (∀pre' x post τ h,pre++xs=pre'++x::post->I pre' τ h->∃τ1 h1,g (f x) τ h=.nx τ1 h1/\∃τ2 h2,b τ1 h1=.nx τ2 h2/\I (pre'++[x]) τ2 h2)->I pre τ h->∃τ' h',forL ck g b (xs.map f) τ h=.nx τ' h'/\I (pre++xs) τ' h'
 |[],pre,τ,h,_,i0=>⟨τ,h,by rw[bO,forL,aQ (c _ _ _ i0)],by simpa using i0⟩
 |x::xs,pre,τ,h,st,i0=>by
  obtain⟨τ1,h1,e1,τ2,h2,e2,i2⟩:=st pre x xs τ h rfl i0;obtain⟨τ',h',e3,i3⟩:=aae f I c xs (pre++[x]) τ2 h2 (λpre' y post τ h e=>st pre' y post τ h (by simpa using e)) i2
  refine⟨τ',h',?_,by simpa using i3⟩
  rw[aK,forL,aQ (c _ _ _ i0),e1];dsimp only;rw[e2];exact e3
abbrev a0q(p:Nat×Nat):D:=.tup [.int (p.1:Nat),.int (p.2:Nat)]
abbrev agh(r:List Int):O:=.lst (r.map D.int)
def a2m(k:Nat):List D:=.ref 2::(List.range k).map λj=>.ref (4+j)
def HP(u:O)(free:List (Nat×Nat))(r0:List Int)(rows:List (List Int)):Hd:=u::.lst (free.map a0q)::agh r0::.lst (a2m rows.length)::rows.map agh
def adr(j:Nat):Nat:=if j=0 then 2 else 3+j
theorem aof(h:j<=k):(a2m k)[j]? = some (.ref (adr j)):=by
 unfold a2m adr
 cases j with
 |zero=>rfl
 |succ j =>
  rw[b9,ar,bN (by omega),bg (by omega)]
  simp;omega
theorem aiz(k:Nat):(a2m k).length=k+1:=by simp[a2m]
def a4y(r0:List Int)(rows:List (List Int))(a b:Nat)(v:Int):List Int×List (List Int):=if a=0 then (r0.set b v,rows) else (r0,rows.set (a-1) ((rows.getD (a-1) []).set b v))
theorem a92(h:k<n):ixN n (k:Int)=some k:=by unfold ixN;rw[aQ (by omega),aQ (by omega)];simp
theorem aki{r0:List Int}{rows:List (List Int)}(ha:a<=rows.length)(hb:b<s)(l0:r0.length=s)(l1:∀r∈rows,r.length=s) :
  put (.ref (adr a)) (.int (b:Nat)) (.int v) (HP u free r0 rows)=some (HP u free (a4y r0 rows a b v).1 (a4y r0 rows a b v).2):=by
 unfold HP adr a4y
 by_cases h0:a=0
 ·subst h0;simp only[cQ,put,b9,bE,a9,l0,a92 hb,bI,bK,List.map_set,agh]
 ·obtain⟨j,rfl⟩:∃j,a=j+1:=⟨a-1,by omega⟩
  have hj:j<rows.length:=by omega
  have lr:=l1 rows[j] (br hj);simp only[bg h0,put,show 3+(j+1)=j+1+1+1+1 by omega,b9,ar,a6 hj,cB,a9,lr,a92 hb,bI,g7,fK,List.map_set,dv,fz,agh]
theorem afg{r0:List Int}{rows:List (List Int)}(ha:a<=rows.length)(v0:0<=v)(v1:v<n)(h0:r0.length=s/\∀x∈r0,0<=x/\x<n)(h1:∀r∈rows,r.length=s/\∀x∈r,0<=x/\x<n) :
  ((a4y r0 rows a b v).1.length=s/\∀x∈(a4y r0 rows a b v).1,0<=x/\x<n)/\(a4y r0 rows a b v).2.length=rows.length/\∀r∈(a4y r0 rows a b v).2,r.length=s/\∀x∈r,0<=x/\x<n:=by
 have ins:∀{r:List Int} {k:Nat},(∀x∈r,0<=x/\x<n)->∀x∈r.set k v,0<=x/\x<n:=λhr x hx=>by
  rcases dE hx with hx|rfl
  ·exact hr x hx
  ·exact⟨v0,v1⟩
 unfold a4y
 by_cases z:a=0
 ·rw[aQ z];exact⟨⟨by simp[h0.1],ins h0.2⟩,rfl,h1⟩
 ·rw[bg z];refine⟨h0,by simp,λr hr=>?_⟩
  rcases dE hr with hr|rfl
  ·exact h1 r hr
  ·have hj:a-1<rows.length:=by omega
   have:=h1 rows[a-1] (br hj)
   rw[dv,a6 hj,fz];exact⟨by simp[this.1],ins this.2⟩
theorem aog:uz (.ref 3) (HP u free r0 rows)=some (a2m rows.length):=rfl
theorem aoh:uz (.ref 1) (HP u free r0 rows)=some (free.map a0q):=rfl
theorem akj{rows:List (List Int)}(ha:a<=rows.length):gIx (.ref 3) (.int (a:Nat)) (HP u free r0 rows)=.ok (.ref (adr a)) (HP u free r0 rows):=by
 rw[a4x,aog];simp only[qx (aof ha)]
noncomputable def o9:SF:=qt (yx aa) 10
theorem aj0{u:O}{free:List (Nat×Nat)}{r0:List Int}{rows:List (List Int)}:a01 1 (HP u free r0 rows) FU (.ref 3)=some (.rol ((r0::rows).map λr=>.rol (r.map D.int))):=by
 have one:∀(i:Nat) (r:List Int),1<=i->(HP u free r0 rows)[i]? = some (agh r)->a01 1 (HP u free r0 rows) 19 (.ref i)=some (.rol (r.map D.int)):=λi r hi e=>a65 hi e (bc λx _=>bf x);have all:v4 (a01 1 (HP u free r0 rows) 19) (a2m rows.length)=some ((r0::rows).map λr=>.rol (r.map D.int)):=by
  unfold a2m;rw[aK];refine a0c (one 2 r0 (by omega) rfl) ?_
  have go:∀(k:Nat) (rs:List (List Int)),(∀j r,rs[j]? = some r->rows[k+j]? = some r)->v4 (a01 1 (HP u free r0 rows) 19) ((List.range' k rs.length).map λj=>D.ref (4+j))=some (rs.map λr=>.rol (r.map D.int)):=by
   intro k rs
   induction rs generalizing k with
   |nil=>intro _;rfl
   |cons r rs ih =>
    intro hk
    rw[aW,gQ,aK,aK];refine a0c (one (4+k) r (by omega) ?_) (ih (k+1) λj r' e=>?_)
    ·have:=hk 0 r rfl
     unfold HP;rw[show 4+k=k+1+1+1+1 by omega]
     simp only[b9,ar];rw[show k+0=k by omega]at this
     rw[this];rfl
    ·have:=hk (j+1) r' (by simpa using e)
     rw[show k+1+j=k+(j+1) by omega];exact this
  have:=go 0 rows (λj r e=>by simpa using e)
  rw[<-List.range_eq_range']at this;exact this
 unfold FU a01;rw[bg (by simp only[clo];omega)]
 have e3:(HP u free r0 rows)[3]? = some (.lst (a2m rows.length)):=rfl;simp only[e3,all,cB]
theorem a80(h:List.range k=pre++i::post):i=pre.length/\i<k:=by
 have h1:=aZ (λl=>l[pre.length]?) h;have h2:=aZ List.length h;simp at h1 h2;have:pre.length<k:=by omega
 rw[bN this]at h1;simp at h1;omega
abbrev zy(s n:Nat)(r:List Int):Prop:=r.length=s/\∀x∈r,0<=x/\x<(n:Int)
theorem akk:(HP u free r0 rows).length=4+rows.length:=by simp[HP];omega
theorem akl(c:a0g 0 u):∀o∈HP u free r0 rows,a0g (HP u free r0 rows).length o:=by
 intro o ho
 rw[akk];have rw1:∀r:List Int,a0g (4+rows.length) (agh r):=λr=>bc λx _=>bf x
 rcases ay.mp ho with rfl|ho
 ·exact vg (by omega) c
 rcases ay.mp ho with rfl|ho
 ·exact bc λx _=>du (bz (bf _) (bz (bf _) kh))
 rcases ay.mp ho with rfl|ho
 ·exact rw1 _
 rcases ay.mp ho with rfl|ho
 ·show clos _ (a2m rows.length);refine bz (by simp only[clo];omega) ?_
  rw[vp]
  intro x hx
  obtain⟨j,hj,rfl⟩:=aE.mp hx;rw[aX]at hj;simp only[clo];omega
 ·obtain⟨r,_,rfl⟩:=aE.mp ho;exact rw1 r
theorem a3x{α β:Type}(f:α->β):∀(l:List α) (k:Nat),(l.eraseIdx k).map f=(l.map f).eraseIdx k
 |[],_=>rfl
 |_::_,0=>rfl
 |x::l,k+1=>by simp[List.eraseIdx,a3x f l k]
theorem aj1(e:free[k]? = some p)(z:free.length<=LINE):a1n (.ref 1) [.int (k:Nat)] (HP u free r0 rows)=.ok (a0q p) (HP u (free.eraseIdx k) r0 rows):=by
 have hk:k<free.length:=(a7.mp e).1;have e1:(HP u free r0 rows)[1]? = some (.lst (free.map a0q)):=rfl;unfold a1n;simp only[e1,a9,a92 hk,ar,e,cB,aQ z,<-a3x];rfl
theorem aj2{free more:List (Nat×Nat)}(z:free.length+more.length<=LINE):aeb (.ref 1) [.rol (more.map a0q)] (HP u free r0 rows)=.ok .non (HP u (free++more) r0 rows):=by
 have e1:(HP u free r0 rows)[1]? = some (.lst (free.map a0q)):=rfl;unfold aeb;simp only[e1,yh,a9,aQ z,<-bC];rfl
theorem aoi{rows:List (List Int)}(z:rows.length+1<LINE):a2a (.ref 3) [.ref (HP u free r0 rows).length] (HP u free r0 rows++[agh r])=.ok .non (HP u free r0 (rows++[r])):=by
 have e1:(HP u free r0 rows++[agh r])[3]? = some (.lst (a2m rows.length)):=rfl;unfold a2a;simp only[e1,aiz,aQ z];rw[akk];unfold HP;simp[a2m,fN]
theorem mul_zero(z:s<=LINE):a0o (.rol [.int 0]) (.int (s:Nat)) h=.ok (.ref h.length) (h++[agh (List.replicate s 0)]):=by
 unfold a0o;have z':s<=16777216:=z;simp only[yh,aW,bH,cP];rw[aQ ⟨⟨by omega,by omega⟩,by show _<=16777216;omega⟩]
 congr 3
 simp[agh]
theorem afh(c:a0g 0 u)(z:s<=LINE)(z6:s<=6)(t1':τ[1]? = some (some (.int (s:Nat))))(t6:τ[6]? = some (some (.int (room:Nat)))) :
  sZ (jo (sRg a09 (aj (sV 1) bj)) t1 (vy aa) [6]) τ (HP u free r0 rows)=.ok (.rol (((List.range s).map λj=>(room,j)).map a0q)) (HP u free r0 rows):=by
 refine yj ?_ (bc λx _=>du (bz (bf _) (bz (bf _) kh))) (akl c);rw[aV];refine ig (λi:Nat=>D.int (i:Nat)) (λj:Nat=>a0q (room,j)) (List.range s) ?_ (by rw[aO];exact z) λx _=>?_
 ·exact a3u (ao t1') z
 ·rw[a6d,aiw,afa,t6];unfold vy;simp only[Option.join_some,sA,aj,bj,sV,bE,b9,aq,MI.a2i,aW,bH,Nat.reduceAdd,aQ (show(2:Nat)<=LINE by decide)]
theorem ays:isL (.ref 1) (HP u free r0 rows)=true:=rfl
theorem b06:isL (.ref 3) (HP u free r0 rows)=true:=rfl
theorem ayt{u:O}{free:List (Nat×Nat)}{r0:List Int}{rows:List (List Int)}:jx [.ref 1] (HP u free r0 rows)=.ok (.int (free.length:Nat)) (HP u free r0 rows):=by
 rw[yq,aoh];simp only[a9]
def Slt(L:List (List Int))(p k r:Nat):Prop:=∃row,L[p]? = some row/\row[k]? = some ((r:Nat):Int)
def Tre(L:List (List Int))(free:List (Nat×Nat))(m:Nat):Prop:=∀r,1<=r->r<m->∃p k,p<r/\Slt L p k r/\(p,k)∉free
theorem afi{r0:List Int}{rows:List (List Int)}{v:Int}{p k r:Nat}(ne:(p,k)≠(a,b))(h:Slt (r0::rows) p k r):Slt ((a4y r0 rows a b v).1::(a4y r0 rows a b v).2) p k r:=by
 obtain⟨row,h1,h2⟩:=h;unfold a4y
 by_cases ha:a=0
 ·subst ha;rw[aQ rfl]
  cases p with
  |zero =>
   cases h1
   exact⟨_,rfl,by rw[bP (λz=>ne (by rw[z]))];exact h2⟩
  |succ p=>exact⟨row,h1,h2⟩
 ·rw[bg ha]
  cases p with
  |zero=>exact⟨row,h1,h2⟩
  |succ p =>
   rw[b9]at h1
   by_cases e:a-1=p
   ·refine⟨((rows.getD (a-1) []).set b v),?_,?_⟩
    ·rw[b9,e,bF (a7.mp h1).1]
    ·rw[bP (λz=>ne (by rw[z,<-e];congr 1;omega)),e,dv,h1]
     exact h2
   ·exact⟨row,by rw[b9,bP e];exact h1,h2⟩
theorem aoj{r0:List Int}{rows:List (List Int)}{r:Nat}(ha:a<=rows.length)(hb:b<s)(l0:r0.length=s)(l1:∀r∈rows,r.length=s):Slt ((a4y r0 rows a b (r:Nat)).1::(a4y r0 rows a b (r:Nat)).2) a b r:=by
 unfold a4y
 cases a with
 |zero=>exact⟨_,rfl,by show(r0.set b _)[b]? = _;rw[bF (by omega)]⟩
 |succ a =>
  rw[bg (by omega),g7]
  have hl:a<rows.length:=by omega
  refine⟨_,by rw[b9,bF hl],?_⟩
  rw[bF];rw[dv,a6 hl];show b<rows[a].length;rw[l1 _ (br hl)];exact hb
theorem afj{L M:List (List Int)}(h:Slt L p k r):Slt (L++M) p k r:=by
 obtain⟨row,h1,h2⟩:=h;exact⟨row,by rw[ax (a7.mp h1).1];exact h1,h2⟩
theorem afk{free:List (Nat×Nat)}{rows:List (List Int)}{t6:Option D}(P:Hand o N)(hN:N<=999999000)(s1:1<=s)(s6:s<=6)(n32:n<=32)(hi:1+i<n)(lr:rows.length=i)(f1:s<=free.length)(f2:free.length<=1000)(ff:∀p∈free,p.1<=i/\p.2<s)(q0:zy s n r0)(q1:∀r∈rows,zy s n r)(fr:free.Nodup)(tr:Tre (r0::rows) free (1+i)) :
  ∃(u:O) (free':List (Nat×Nat)) (r0':List Int) (rows':List (List Int)) (z7 z8 z9:Option D),qz aa [some (.ref 0),some (.int (s:Nat)),some (.int (n:Nat)),some (.int m),some (.ref 1),some (.ref 3),some (.int ((1+i:Nat))),t7,t8,t9] (HP o free r0 rows)=.nx [some (.ref 0),some (.int (s:Nat)),some (.int (n:Nat)),some (.int m),some (.ref 1),some (.ref 3),some (.int ((1+i:Nat))),z7,z8,z9] (HP u free' r0' rows')
   /\ Hand u (N+2)/\rows'.length=i+1/\s<=free'.length/\free'.length<=free.length+s/\(∀p∈free',p.1<=i+1/\p.2<s)/\zy s n r0'/\(∀r∈rows',zy s n r)/\free'.Nodup/\Tre (r0'::rows') free' (2+i):=by
 obtain⟨x,o1,e1,x0,x1,P1⟩:=qg (m:=(s:Nat)) P (by omega) (by omega) (by omega)
 obtain⟨y,o2,e2,y0,y1,P2⟩:=qg (m:=(free.length:Nat)) P1 (by omega) (by omega) (by omega)
 obtain⟨k,u,hk,Pu,ek⟩:∃(k:Nat) (u:O),k<free.length/\Hand u (N+2)/\∀τ:Sd,∀τ':Sd,τ=[some (.ref 0),some (.int (s:Nat)),some (.int (n:Nat)),some (.int m),some (.ref 1),some (.ref 3),some (.int ((1+i:Nat))),t7,t8,t9]->τ'=[some (.ref 0),some (.int (s:Nat)),some (.int (n:Nat)),some (.int m),some (.ref 1),some (.ref 3),some (.int ((1+i:Nat))),some (.int (k:Nat)),t8,t9]->∀g:SS,
   (di (j4 7 (s2 a6r (s2 a6r (sA jx (aj (sV 4) bj)) (sI 1)) (sA (j6 false 2 aa) (aj (sV 0) (aj (sV 1) bj)))))
 (di (sIf (sT (s2 hEq (sV 3) (sI 0)))
 (j4 7 (sA (j6 false 2 aa) (aj (sV 0) (aj (sA jx (aj (sV 4) bj)) bj))))
 sNx) g)) τ (HP o free r0 rows)=g τ' (HP u free r0 rows):=by
  have c1:j6 false 2 aa [.ref 0,.int (s:Nat)] (HP o free r0 rows)=.ok (.int x) (HP o1 free r0 rows):=e1 0 _ rfl;have c2:j6 false 2 aa [.ref 0,.int (free.length:Nat)] (HP o1 free r0 rows)=.ok (.int y) (HP o2 free r0 rows):=e2 0 _ rfl;have l1:=@ayt o free r0 rows;have l2:=@ayt o1 free r0 rows
  by_cases hm:m=0
  ·obtain⟨k,rfl⟩:=cL y0;refine⟨k,o2,by omega,P2,λτ τ' eτ eτ' g=>?_⟩
   subst eτ eτ' hm;simp only[jz,ql,j4,sIf,sV,sC,s2,sA,aj,bj,sNx,sT,asB,aq,vo,MI.a6r,a7x,l1,l2,c1,c2,bE,b9,bK,bI,cD,cQ,a6n,xm]
  ·have hb:(m == 0)=false:=by simpa using hm
   refine⟨(free.length-1-x).toNat,o1,by omega,P1.up (by omega),λτ τ' eτ eτ' g=>?_⟩
   subst eτ eτ';rw[show(((free.length:Int)-1-x).toNat:Int)=(free.length:Int)-1-x by omega]
   simp only[jz,ql,j4,sIf,sV,sC,s2,sA,aj,bj,sNx,sT,asB,aq,vo,MI.a6r,a7x,l1,l2,c1,c2,bE,b9,bK,bI,hb,bA,cM,a6n,xm]
 have gk:free[k]? = some free[k]:=a6 hk;obtain⟨fa,fb⟩:=ff free[k] (br hk);have pn:free[k]∉free.eraseIdx k:=λz=>by
  obtain⟨j,_,ne,e⟩:=List.mem_eraseIdx_iff_getElem.mp z;exact ne ((ft fr).mp e)
 generalize free[k]=p at gk fa fb pn
 have l0:=dq (n:=free.length) (by omega)
 have so:=afg (b:=p.2) (v:=((1+i:Nat):Int)) (by omega:p.1<=rows.length) (by omega) (by omega:((1+i:Nat):Int)<(n:Int)) q0 q1
 refine⟨u,free.eraseIdx k++(List.range s).map (λj=>(1+i,j)),(a4y r0 rows p.1 p.2 ((1+i:Nat):Int)).1,(a4y r0 rows p.1 p.2 ((1+i:Nat):Int)).2++[List.replicate s 0],some (.int (k:Nat)),some (.int (p.1:Nat)),some (.int (p.2:Nat)),?_,Pu,?_,?_,?_,?_,so.1,?_,?_,?_⟩
 ·unfold qz;rw[ek _ _ rfl rfl];rw[jz];have st1:∀τ:Sd,τ=[some (.ref 0),some (.int (s:Nat)),some (.int (n:Nat)),some (.int m),some (.ref 1),some (.ref 3),some (.int ((1+i:Nat))),some (.int (k:Nat)),t8,t9]->a8q (sML a1n (sV 4) (aj (sV 7) bj)) (a4q 2 (jw (kN 8) (jw (kN 9) a5s))) τ (HP u free r0 rows)=.nx [some (.ref 0),some (.int (s:Nat)),some (.int (n:Nat)),some (.int m),some (.ref 1),some (.ref 3),some (.int ((1+i:Nat))),some (.int (k:Nat)),some (.int (p.1:Nat)),some (.int (p.2:Nat))] (HP u (free.eraseIdx k) r0 rows):=by
   rintro τ rfl
   unfold a8q;rw[atu (ao rfl) ays (arg1 (ao rfl)) (aj1 gk l0)];rfl
  rw[st1 _ rfl,ql,jz]
  generalize HT:([some (.ref 0),some (.int (s:Nat)),some (.int (n:Nat)),some (.int m),some (.ref 1),some (.ref 3),some (.int ((1+i:Nat))),some (.int (k:Nat)),some (.int (p.1:Nat)),some (.int (p.2:Nat))]:Sd)=τ
  have pa:=aki (u:=u) (free:=free.eraseIdx k) (v:=((1+i:Nat):Int)) (by omega:p.1<=rows.length) fb q0.1 λr hr=>(q1 r hr).1
  have st2:a7e (sV 6) (s2 gIx (sV 5) (sV 8)) (sV 9) τ (HP u (free.eraseIdx k) r0 rows)=.nx τ (HP u (free.eraseIdx k) (a4y r0 rows p.1 p.2 ((1+i:Nat):Int)).1 (a4y r0 rows p.1 p.2 ((1+i:Nat):Int)).2):=by
   subst HT;unfold a7e;rw[ao rfl,vo,u5 (ao rfl) (ao rfl) (akj (by omega)),vo,ao rfl,vo,pa]
  rw[st2,ql,jz]
  generalize (a4y r0 rows p.1 p.2 ((1+i:Nat):Int)).1=r0' at so
  generalize (a4y r0 rows p.1 p.2 ((1+i:Nat):Int)).2=rows' at so
  have st3:vm (sML a2a (sV 5) (aj (s2 a0o (sZ (sA a1h (aj (sI 0) bj))) (sV 1)) bj)) τ (HP u (free.eraseIdx k) r0' rows')=.nx τ (HP u (free.eraseIdx k) r0' (rows'++[List.replicate s 0])):=by
   subst HT;exact zj (ao rfl) b06 (arg1 (u5 (yj (xs:=[.int 0]) rfl (bz (bf _) kh) (akl Pu.clo)) (ao rfl) (mul_zero (dq (by omega))))) (aoi (by have:=so.2.1;have:=dq (n:=rows'.length+2) (by omega);omega))
  rw[st3,ql];subst HT;refine zj (ao rfl) ays (arg1 (afh Pu.clo (dq (by omega)) s6 rfl rfl)) (aj2 (dq ?_))
  simp only[ee,a9,aO]
  split<;>omega
 ·rw[ag,so.2.1,lr];rfl
 ·simp only[ag,ee,a9,aO]
  split<;>omega
 ·simp only[ag,ee,a9,aO]
  split<;>omega
 ·intro q hq
  rcases bB.mp hq with h|h
  ·have:=ff q (eE h)
   omega
  ·obtain⟨j,hj,rfl⟩:=aE.mp h;rw[aX]at hj;exact⟨by simp only[];omega,hj⟩
 ·intro r hr
  rcases bB.mp hr with h|h
  ·exact so.2.2 r h
  ·rw[aI]at h;subst h;exact⟨by simp,λx hx=>by rw[gH hx];omega⟩
 ·refine bD.mpr ⟨fr.sublist (List.eraseIdx_sublist ..),dA.map _ |> λz=>z λa b ne e=>ne (aZ Prod.snd e),λq hq q' hq' e=>?_⟩
  subst e;obtain⟨j,_,rfl⟩:=aE.mp hq';have:=ff _ (eE hq);simp only at this;omega
 ·have nw:∀{a c:Nat},a<1+i->(a,c)∉free.eraseIdx k->(a,c)∉free.eraseIdx k++(List.range s).map λj=>(1+i,j):=λha hn z=>by
   rcases bB.mp z with z|z
   ·exact hn z
   ·obtain⟨j,_,e⟩:=aE.mp z;have:=aZ Prod.fst e;simp only at this;omega
  intro r r1 r2
  rw[<-cW]
  by_cases e:r=1+i
  ·subst e;exact⟨p.1,p.2,by omega,afj (aoj (by omega) fb q0.1 λr hr=>(q1 r hr).1),nw (by omega) pn⟩
  ·obtain⟨a,c,h1,h2,h3⟩:=tr r r1 (by omega)
   exact⟨a,c,h1,afj (afi (λz=>h3 (by rw[z];exact aN gk)) h2),nw (by omega) λz=>h3 (eE z)⟩
theorem afl{o:O}{N s n:Nat}{p:Nat×Nat}{free:List (Nat×Nat)}{r0:List Int}{rows:List (List Int)}{t3 t6 t7:Option D}(P:Hand o N)(hN:N<=999999000)(n1:1<=n)(n32:n<=32)(pa:p.1<=rows.length)(pb:p.2<s)(q0:zy s n r0)(q1:∀r∈rows,zy s n r) :
  ∃(u:O) (r0':List Int) (rows':List (List Int)),rm aa [some (.ref 0),some (.int (s:Nat)),some (.int (n:Nat)),t3,some (.ref 1),some (.ref 3),t6,t7,some (.int (p.1:Nat)),some (.int (p.2:Nat))] (HP o free r0 rows)=.nx [some (.ref 0),some (.int (s:Nat)),some (.int (n:Nat)),t3,some (.ref 1),some (.ref 3),t6,t7,some (.int (p.1:Nat)),some (.int (p.2:Nat))] (HP u free r0' rows')
   /\ Hand u (N+1)/\rows'.length=rows.length/\zy s n r0'/\(∀r∈rows',zy s n r)/\∀q c r,(q,c)≠p->Slt (r0::rows) q c r->Slt (r0'::rows') q c r:=by
 obtain⟨x,o1,e1,x0,x1,P1⟩:=qg (m:=(n:Nat)) P (by omega) (by omega) (by omega)
 have so:=afg (b:=p.2) pa x0 x1 q0 q1;have pa':=aki (u:=o1) (free:=free) (v:=x) pa pb q0.1 λr hr=>(q1 r hr).1;refine⟨o1,_,_,?_,P1,so.2.1,so.1,so.2.2,λq c r ne h=>afi ne h⟩;have c1:j6 false 2 aa [.ref 0,.int (n:Nat)] (HP o free r0 rows)=.ok (.int x) (HP o1 free r0 rows):=e1 0 _ rfl;unfold rm a7e
 generalize HT:([some (.ref 0),some (.int (s:Nat)),some (.int (n:Nat)),t3,some (.ref 1),some (.ref 3),t6,t7,some (.int (p.1:Nat)),some (.int (p.2:Nat))]:Sd)=τ
 have a1:(sA (j6 false 2 aa) (aj (sV 0) (aj (sV 2) bj))) τ (HP o free r0 rows)=.ok (.int x) (HP o1 free r0 rows):=by
  subst HT;unfold sA;rw[atr (ao rfl) (ao rfl),aq,c1]
 rw[a1,vo];subst HT;rw[u5 (ao rfl) (ao rfl) (akj pa),vo,ao rfl,vo,pa']
theorem aj3(P:Hand o N)(hN:N<=999990000)(s1:1<=s)(s6:s<=6)(n1:1<=n)(n32:n<=32) :
  ∃(rows:List (List Int)) (o':O),rows.length=n/\(∀r∈rows,zy s n r)/\Dr o9 3 [.int (s:Nat),.int (n:Nat)] o (.rol (rows.map λr=>.rol (r.map D.int))) o'/\Hand o' (N+1000)/\∀r,1<=r->r<n->∃p k,p<r/\Slt rows p k r:=by
 obtain⟨m,o1,e1,m0,m1,P1⟩:=qg (m:=2) P (by omega) (by omega) (by omega)
 have z:zy s n (List.replicate s 0):=⟨by simp,λx hx=>by rw[gH hx];omega⟩
 have lo:=um (g:=kN 6) (b:=qz aa) (λi:Nat=>D.int ((1+i:Nat)))
  (λpre τ h=>∃(u:O) (free:List (Nat×Nat)) (r0:List Int) (rows:List (List Int)) (t6 t7 t8 t9:Option D),τ=[some (.ref 0),some (.int (s:Nat)),some (.int (n:Nat)),some (.int m),some (.ref 1),some (.ref 3),t6,t7,t8,t9]/\h=HP u free r0 rows/\Hand u (N+1+2*pre.length)/\rows.length=pre.length/\s<=free.length/\free.length<=s+s*pre.length/\(∀p∈free,p.1<=pre.length/\p.2<s)/\zy s n r0/\(∀r∈rows,zy s n r)/\free.Nodup/\Tre (r0::rows) free (1+pre.length))
  (List.range (n-1)) [some (.ref 0),some (.int (s:Nat)),some (.int (n:Nat)),some (.int m),some (.ref 1),some (.ref 3),none,none,none,none] (HP o1 ((List.range s).map λj=>(0,j)) (List.replicate s 0) []) ?_
  ⟨o1,_,_,[],none,none,none,none,rfl,rfl,P1,rfl,by simp,by simp,λp hp=>by
   obtain⟨j,hj,rfl⟩:=aE.mp hp;rw[aX]at hj;exact⟨ah _,hj⟩,z,by simp,dA.map _ |> (λz=>z λa b ne e=>ne (aZ Prod.snd e)),λr r1 r2=>absurd r2 (by show ¬ r<1+0;omega)⟩
 ·obtain⟨τ',h',e2,u,free,r0,rows,t6,t7,t8,t9,rfl,rfl,P2,l1,l2,l3,ff,q0,q1,fr,tr⟩:=lo;rw[aO]at P2 l1 l3 ff tr;have f31:s*(n-1)<=6*31:=Nat.mul_le_mul s6 (by omega)
  have lo2:=aae (g:=a4q 2 (jw (kN 8) (jw (kN 9) a5s))) (b:=rm aa) (ck:=λh=>h[1]? = some (.lst (free.map a0q))) a0q
   (λpre τ h=>∃(u:O) (r0:List Int) (rows:List (List Int)) (t8 t9:Option D),τ=[some (.ref 0),some (.int (s:Nat)),some (.int (n:Nat)),some (.int m),some (.ref 1),some (.ref 3),t6,t7,t8,t9]/\h=HP u free r0 rows/\Hand u (N+1+2*(n-1)+pre.length)/\rows.length=n-1/\zy s n r0/\(∀r∈rows,zy s n r)/\Tre (r0::rows) free (1+(n-1)))
   (λpre τ h ⟨u,r0,rows,_,_,_,e,_⟩=>by rw[e];rfl) free [] [some (.ref 0),some (.int (s:Nat)),some (.int (n:Nat)),some (.int m),some (.ref 1),some (.ref 3),t6,t7,t8,t9] (HP u free r0 rows) ?_ ⟨u,r0,rows,t8,t9,rfl,rfl,P2,l1,q0,q1,tr⟩
  ·obtain⟨τ',h',e3,u',r0',rows',t8',t9',rfl,rfl,P3,l1',q0',q1',tr'⟩:=lo2;rw[cq]at P3;refine⟨r0'::rows',u',by rw[aW];omega,λr hr=>by
    rcases ay.mp hr with rfl|h
    ·exact q0'
    ·exact q1' r h,?_,P3.up (by omega),λr r1 r2=>let ⟨p,k,h1,h2,_⟩:=tr' r r1 (by omega); ⟨p,k,h1,h2⟩⟩
   refine Dr.of rfl (by intro x hx;simp only[ay,bq,cK]at hx;rcases hx with rfl|rfl<;>exact bf _) P.clo (r:=.ok (.ref 3) (HP u' free r0' rows')) ?_ (a3s aj0 (by intro x hx;rw[show List.take 1 (HP u' free r0' rows')=[u'] from rfl,aI]at hx;subst hx;exact vg (by omega) P3.clo)) (j7 (bc λx _=>j7 (bc λy _=>bf y))) P3.clo
   unfold o9;rw[dm];show toR (yx aa [some (.ref 0),some (.int (s:Nat)),some (.int (n:Nat)),none,none,none,none,none,none,none] [o])=_;unfold yx;have c1:j6 false 2 aa [.ref 0,.int 2] [o]=.ok (.int m) [o1]:=e1 0 _ rfl;rw[jy (a0p (ao rfl) ckk c1)];simp only[bK,bI];have z6:=dq (n:=s) (by omega)
   have c2:∀τ:Sd,τ[1]? = some (some (.int (s:Nat)))->jo (sRg a09 (aj (sV 1) bj)) t1 (vq aa) [] τ [o1]=.ok (.ref 1) ([o1]++[.lst ((List.range s).map λj=>a0q (0,j))]):=λτ ht=>by
    refine ig (λi:Nat=>D.int (i:Nat)) (λj:Nat=>a0q (0,j)) (List.range s) (a3u (ao ht) z6) (by rw[aO];exact z6) λx _=>?_
    rw[a6d,afa];unfold vq;simp only[sA,aj,bj,sV,sC,bE,aq,MI.a2i,aW,bH,Nat.reduceAdd,aQ (show(2:Nat)<=LINE by decide)]
    rfl
   rw[jy (c2 _ rfl)];simp only[bK,bI,cW,cq];have cl:∀x∈[o1,O.lst ((List.range s).map λj=>a0q (0,j))],a0g 2 x:=by
    intro x hx
    simp only[ay,bq,cK]at hx
    rcases hx with rfl|rfl
    ·exact vg (by omega) P1.clo
    ·exact bc λx _=>du (bz (bf _) (bz (bf _) kh))
   have c3:∀τ:Sd,τ[1]? = some (some (.int (s:Nat)))->sA a1h (aj (s2 a0o (sZ (sA a1h (aj (sI 0) bj))) (sV 1)) bj) τ [o1,O.lst ((List.range s).map λj=>a0q (0,j))]=.ok (.ref 3) (HP o1 ((List.range s).map λj=>(0,j)) (List.replicate s 0) []):=λτ ht=>by
    refine qu (u5 (yj (xs:=[.int 0]) rfl (bz (bf _) kh) cl) (ao ht) (mul_zero z6)) ?_;unfold MI.a1h HP;simp only[aV,bH,bO];rfl
   rw[jy (c3 _ rfl)];simp only[bK,bI];have i2:∀(τ:Sd) (h:Hd),τ[2]? = some (some (.int (n:Nat)))->sRg a3l (aj (sI 1) (aj (sV 2) bj)) τ h=.ok ⟨(List.range (n-1)).map λi:Nat=>D.int ((1+i:Nat)),λ_=>True⟩ h:=λτ h ht=>af9 (a:=1) ckk (ao ht) (dq (by omega)) (dq (by omega))
   rw[a3v (i2 _ _ rfl),e2,ql];have i3:∀τ:Sd,τ[4]? = some (some (.ref 1))->sIt (sV 4) τ (HP u free r0 rows)=.ok ⟨free.map a0q,λh=>h[1]? = some (.lst (free.map a0q))⟩ (HP u free r0 rows):=λτ ht=>by
    unfold sIt;rw[ao ht,aq];rfl
   rw[a3v (i3 _ rfl),e3,ql];rfl
  ·rintro pre p post τ h all ⟨u,r0,rows,t8,t9,rfl,rfl,P3,l1',q0',q1',tr'⟩
   rw[cq]at all;have hp:p∈free:=by rw[all];simp
   have hl:pre.length<free.length:=by rw[all];simp
   obtain⟨fa,fb⟩:=ff p hp;obtain⟨u',r0',rows',e4,P4,l4,q4,q5,q6⟩:=afl (t3:=some (.int m)) (t6:=t6) (t7:=t7) (free:=free) P3 (by omega) n1 n32 (by omega:p.1<=rows.length) fb q0' q1'
   exact⟨_,_,rfl,_,_,e4,u',r0',rows',_,_,rfl,rfl,by simpa[fF] using P4,by omega,q4,q5,λr r1 r2=>let ⟨a,c,h1,h2,h3⟩:=tr' r r1 r2; ⟨a,c,h1,q6 a c r (λz=>h3 (by rw[z];exact hp)) h2,h3⟩⟩
 ·rintro pre i post τ h all ⟨u,free,r0,rows,t6,t7,t8,t9,rfl,rfl,P2,l1,l2,l3,ff,q0,q1,fr,tr⟩
  obtain⟨hi,hk⟩:=a80 all;have f31:s*pre.length<=6*31:=Nat.mul_le_mul s6 (by omega)
  obtain⟨u',free',r0',rows',z7,z8,z9,e3,P3,l4,l5,l6,f',q3,q4,fr',tr'⟩:=afk (m:=m) (t6:=t6) (t7:=t7) (t8:=t8) (t9:=t9) (i:=i) P2 (by omega) s1 s6 n32 (by omega) (by omega:rows.length=i) l2 (by omega) (λp hp=>by have:=ff p hp;omega) q0 q1 fr (by rw[hi];exact tr)
  refine⟨_,_,rfl,_,_,e3,u',free',r0',rows',_,z7,z8,z9,rfl,rfl,P3.up (by rw[ag,aM];omega),by rw[ag,aM];omega,l5,?_,λp hp=>by rw[ag,aM];have:=f' p hp;omega,q3,q4,fr',by rw[ag,aM,show 1+(pre.length+1)=2+i by omega];exact tr'⟩
  rw[ag,aM,Nat.mul_add];omega
theorem aok(P:Hand o N)(hN:N<=999990000)(s1:1<=s)(s6:s<=6)(n1:1<=n)(n32:n<=32) :
  ∃(rows:List (List Int)) (o':O),rows.length=n/\(∀r∈rows,zy s n r)/\Dr o9 3 [.int (s:Nat),.int (n:Nat)] o (.rol (rows.map λr=>.rol (r.map D.int))) o'/\Hand o' (N+1000) :=
 let ⟨rows,o',a,b,c,d,_⟩:=aj3 P hN s1 s6 n1 n32
 ⟨rows,o',a,b,c,d⟩
noncomputable def m7:SF:=qt (ww aa) 6
abbrev KOk(k:Int):Prop := -1<=k/\k<=5
theorem abt{ks:List Int}(P:Hand o N)(hN:N<=999999000)(l:ks.length<=100) :
  ∃(u:O) (k:Int),ou aa [some (.ref 0),some (.int n),some (.int m),some (.ref 1),some (.int room),t5] [o,.lst (ks.map D.int)]=.nx [some (.ref 0),some (.int n),some (.int m),some (.ref 1),some (.int room),some (.int k)] [u,.lst ((ks++[k]).map D.int)]/\Hand u (N+2)/\KOk k:=by
 obtain⟨x,o1,e1,x0,x1,P1⟩:=qg (m:=7) P (by omega) (by omega) (by omega)
 obtain⟨y,o2,e2,y0,y1,P2⟩:=qg (m:=3) P1 (by omega) (by omega) (by omega)
 have c1:j6 false 2 aa [.ref 0,.int 7] [o,.lst (ks.map D.int)]=.ok (.int x) [o1,.lst (ks.map D.int)]:=e1 0 _ rfl;have c2:j6 false 2 aa [.ref 0,.int 3] [o1,.lst (ks.map D.int)]=.ok (.int y) [o2,.lst (ks.map D.int)]:=e2 0 _ rfl;have fin:∀(u:O) (k:Int),vm (sML a2a (sV 3) (aj (sV 5) bj)) [some (.ref 0),some (.int n),some (.int m),some (.ref 1),some (.int room),some (.int k)] [u,.lst (ks.map D.int)]=.nx [some (.ref 0),some (.int n),some (.int m),some (.ref 1),some (.int room),some (.int k)] [u,.lst ((ks++[k]).map D.int)]:=λu k=>by
  rw[bC];exact zj (ao rfl) rfl (arg1 (ao rfl)) (a0v (xs:=ks.map D.int) rfl (by rw[a9];exact yg (by omega)))
 unfold ou
 by_cases h1:m=1
 ·subst h1;refine⟨o1,(x-1) / 5,?_,P1.up (by omega),by omega⟩
  refine b6 (jy (u5 (a0p (ao rfl) ckk c1) ckk (a7y _ _))) ?_;refine b6 (zg (b6 (ifT (tvc rfl (a91 rfl))) (avf (atv rfl (div_ii (by decide)))))) ?_
  refine b6 (ifN (axb (tvc rfl (a6f (by decide))))) ?_
  exact fin _ _
 ·by_cases h2:m=2
  ·subst h2
   by_cases hy:0<y
   ·refine⟨o2,-1,?_,P2,by decide⟩
    refine b6 (jy (u5 (a0p (ao rfl) ckk c1) ckk (a7y _ _))) ?_;refine b6 (ifN (tvc rfl (a6f h1))) ?_;refine b6 (zg (b6 (ifT (avh (tvc rfl (a91 rfl)) (t2s (a0p (ao rfl) ckk c2) ckk (ayp hy)))) (avf (ayo ckk (axh _))))) ?_;exact fin _ _
   ·refine⟨o2,x-1,?_,P2,by omega⟩
    refine b6 (jy (u5 (a0p (ao rfl) ckk c1) ckk (a7y _ _))) ?_;refine b6 (ifN (tvc rfl (a6f h1))) ?_;refine b6 (ifN (avh (tvc rfl (a91 rfl)) (t2s (a0p (ao rfl) ckk c2) ckk (ayq hy)))) ?_;exact fin _ _
  ·refine⟨o1,x-1,?_,P1.up (by omega),by omega⟩
   refine b6 (jy (u5 (a0p (ao rfl) ckk c1) ckk (a7y _ _))) ?_;refine b6 (ifN (tvc rfl (a6f h1))) ?_;refine b6 (ifN (axb (tvc rfl (a6f h2)))) ?_;exact fin _ _
theorem kinds_ok(P:Hand o N)(hN:N<=999990000)(n1:1<=n)(n32:n<=32) :
  ∃(ks:List Int) (o':O),ks.length=n/\ks[0]? = some (-1)/\(∀k∈ks,KOk k)/\Dr m7 2 [.int (n:Nat)] o (.rol (ks.map D.int)) o'/\Hand o' (N+1000):=by
 obtain⟨m,o1,e1,m0,m1,P1⟩:=qg (m:=3) P (by omega) (by omega) (by omega)
 have lo:=um (g:=kN 4) (b:=ou aa) (λi:Nat=>D.int ((1+i:Nat)))
  (λpre τ h=>∃(u:O) (ks:List Int) (t4 t5:Option D),τ=[some (.ref 0),some (.int (n:Nat)),some (.int m),some (.ref 1),t4,t5]/\h=[u,.lst (ks.map D.int)]/\Hand u (N+1+2*pre.length)/\ks.length=1+pre.length/\ks[0]? = some (-1)/\∀k∈ks,KOk k)
  (List.range (n-1)) [some (.ref 0),some (.int (n:Nat)),some (.int m),some (.ref 1),none,none] [o1,.lst ([-1].map D.int)] ?_
  ⟨o1,[-1],none,none,rfl,rfl,P1,rfl,rfl,by intro k hk;rw[aI]at hk;subst hk;decide⟩
 ·obtain⟨τ',h',e2,u,ks,t4,t5,rfl,rfl,P2,l1,k0,kk⟩:=lo;rw[aO]at P2 l1;refine⟨ks,u,by omega,k0,kk,?_,P2.up (by omega)⟩
  refine Dr.of rfl (by intro x hx;simp only[ay,bq,cK]at hx;rw[hx];exact bf _) P.clo (r:=.ok (.ref 1) [u,.lst (ks.map D.int)]) ?_ (a2u (ah _) rfl (bc λx _=>bf x) (by intro x hx;rw[show List.take 1 [u,O.lst (ks.map D.int)]=[u] from rfl,aI]at hx;subst hx;exact vg (by omega) P2.clo)) (j7 (bc λy _=>bf y)) P2.clo
  unfold m7;rw[dm];show toR (ww aa [some (.ref 0),some (.int (n:Nat)),none,none,none,none] [o])=_;unfold ww;have c1:j6 false 2 aa [.ref 0,.int 3] [o]=.ok (.int m) [o1]:=e1 0 _ rfl;rw[jy (a0p (ao rfl) ckk c1),jy (d:=.ref 1) (h1:=[o1,.lst ([-1].map D.int)]) rfl];simp only[bK,bI];have i2:∀(τ:Sd) (h:Hd),τ[1]? = some (some (.int (n:Nat)))->sRg a3l (aj (sI 1) (aj (sV 1) bj)) τ h=.ok ⟨(List.range (n-1)).map λi:Nat=>D.int ((1+i:Nat)),λ_=>True⟩ h:=λτ h ht=>af9 (a:=1) ckk (ao ht) (dq (by omega)) (dq (by omega))
  rw[a3v (i2 _ _ rfl),e2,ql];rfl
 ·rintro pre i post τ h all ⟨u,ks,t4,t5,rfl,rfl,P2,l1,k0,kk⟩
  obtain⟨hi,hk⟩:=a80 all;obtain⟨u',k,e3,P3,hk3⟩:=abt (n:=n) (m:=m) (room:=((1+i:Nat):Int)) (t5:=t5) P2 (by omega) (by omega:ks.length<=100)
  refine⟨_,_,rfl,_,_,e3,u',ks++[k],_,_,rfl,rfl,P3.up (by rw[ag,aM];omega),by rw[ag,ag,aM,aM];omega,?_,λq hq=>?_⟩
  ·rw[ax (by omega)];exact k0
  ·rcases bB.mp hq with h|h
   ·exact kk q h
   ·rw[aI]at h;subst h;exact hk3
abbrev ak(i:Nat):D:=.int (i:Nat)
noncomputable def gh:SF:=qt (p6 aa) 9
theorem dg(l:List Nat):clos k (l.map ak):=bc λx _=>bf _
theorem afm(P:Hand o N)(hN:N<=999990000)(n1:1<=n)(n32:n<=32) :
  ∃(pl:List Nat) (u:O),sWh (m9 aa) (j8 aa) 100000 [some (.ref 0),some d1,some d2,some (.ref 1),some (.ref 2),t5,t6,t7,t8] [o,.lst (((List.range (n-1)).map (1+·)).map ak),.lst ([0].map ak)]=.nx [some (.ref 0),some d1,some d2,some (.ref 1),some (.ref 2),t5,t6,t7,t8] [u,.lst [],.lst (pl.map ak)]
   /\ List.Perm pl (List.range n)/\pl[0]? = some 0/\Hand u (N+32):=by
 have w:=abe (c:=m9 aa) (f:=j8 aa)
  (λm τ h=>∃(u:O) (pl aG:List Nat),τ=[some (.ref 0),some d1,some d2,some (.ref 1),some (.ref 2),t5,t6,t7,t8]/\h=[u,.lst (aG.map ak),.lst (pl.map ak)]/\m=aG.length/\List.Perm (pl++aG) (List.range n)/\pl[0]? = some 0/\Hand u (N+pl.length))
  (λτ h=>∃(u:O) (pl:List Nat),τ=[some (.ref 0),some d1,some d2,some (.ref 1),some (.ref 2),t5,t6,t7,t8]/\h=[u,.lst [],.lst (pl.map ak)]/\List.Perm pl (List.range n)/\pl[0]? = some 0/\Hand u (N+32))
  (λ_ _=>False) ?_ (n-1) 100000 [some (.ref 0),some d1,some d2,some (.ref 1),some (.ref 2),t5,t6,t7,t8] [o,.lst (((List.range (n-1)).map (1+·)).map ak),.lst ([0].map ak)] (by omega)
  ⟨o,[0],(List.range (n-1)).map (1+·),rfl,rfl,by simp,?_,rfl,P.up (by omega)⟩
 ·rcases w with⟨τ',h',e,u,pl,rfl,rfl,a,b,c⟩|⟨_,_,_,z⟩
  ·exact⟨pl,u,e,a,b,c⟩
  ·exact z.elim
 ·rintro m τ h ⟨u,pl,aG,rfl,rfl,rfl,pm,p0,Pu⟩
  have ln:(pl++aG).length=n:=by rw[pm.length_eq,aO]
  rw[ag]at ln
  cases aG with
  |nil =>
   refine .inl ⟨_,?_,u,pl,rfl,rfl,by simpa using pm,p0,Pu.up (by omega)⟩
   exact t2s (qu (ao rfl) (a2g rfl)) ckk (ayq (by simp))
  |cons r0 rs =>
   refine .inr ⟨_,t2s (qu (ao rfl) (a2g rfl)) ckk (ayp (by simp)),.inl ?_⟩
   generalize hr:r0::rs=aG at *
   have rl:0<aG.length:=by rw[<-hr];simp
   obtain⟨x,u',e1,x0,x1,P1⟩:=qg (m:=(aG.length:Nat)) Pu (by omega) (by omega) (by omega)
   obtain⟨j,rfl⟩:=cL x0;have hj:j<aG.length:=by omega
   have gx:aG[j]? = some aG[j]:=a6 hj;have pp:=a7z pl aG j aG[j] gx;rw[<-List.eraseIdx_eq_take_drop_succ]at pp;have c1:j6 false 2 aa [.ref 0,.int ((aG.map ak).length:Nat)] [u,.lst (aG.map ak),.lst (pl.map ak)]=.ok (.int (j:Nat)) [u',.lst (aG.map ak),.lst (pl.map ak)]:=by
    rw[a9];exact e1 0 _ rfl
   refine⟨_,[u',.lst ((aG.eraseIdx j).map ak),.lst ((pl++[aG[j]]).map ak)],(aG.eraseIdx j).length,?_,?_,u',pl++[aG[j]],aG.eraseIdx j,rfl,rfl,rfl,pp.symm.trans pm,?_,?_⟩
   ·unfold j8;refine zj (v:=.non) (ao rfl) rfl (arg1 (atu (ao rfl) rfl (arg1 (a0p (ao rfl) (qu (ao rfl) (a2g rfl)) c1)) (aoc (xs:=aG.map ak) rfl (y:=ak aG[j]) (by rw[ar,gx];rfl) (by rw[a9];exact dq (by omega))))) ?_
    rw[<-a3x,bC];exact a0v (xs:=pl.map ak) rfl (by rw[a9];exact yg (by omega))
   ·rw[ee,aQ hj];omega
   ·have:0<pl.length:=by
     cases pl with
     |nil=>simp at p0
     |cons a b=>simp
    rw[ax this];exact p0
   ·rw[ag,aM];exact P1
 ·obtain⟨k,rfl⟩:∃k,n=k+1:=⟨n-1,by omega⟩
  rw[eT,show k+1-1=k by omega]
  refine List.Perm.of_eq ?_;show 0::_=_
  congr 1
  exact bV λi _=>by simp[Nat.succ_eq_add_one,gT]
theorem aol{α:Type}{xs:List α}{pre post:List (Nat×α)}{x:Nat×α}(h:(List.range xs.length).zip xs=pre++x::post):x.1=pre.length/\xs[pre.length]? = some x.2:=by
 have h1:=aZ (λl=>l[pre.length]?) h;have h2:=aZ List.length h;simp at h1 h2;have hl:pre.length<xs.length:=by omega
 rw[a6 (by simpa using hl)]at h1
 simp at h1
 rw[a6 hl,<-h1];exact⟨rfl,rfl⟩
theorem all_map{α:Type}(f:α->D)(P:α->Prop):∀(l:List D),(∀x∈l,∃r,P r/\x=f r)->∃G:List α,l=G.map f/\∀r∈G,P r
 |[],_=>⟨[],rfl,by simp⟩
 |x::l,h=>by
  obtain⟨r,pr,rfl⟩:=h _ aP;obtain⟨G,rfl,pG⟩:=all_map f P l λy hy=>h y (ai _ hy);exact⟨r::G,rfl,λq hq=>by
   rcases ay.mp hq with rfl|h
   ·exact pr
   ·exact pG q h⟩
abbrev fj(r:List Nat):D:=.tup (r.map ak)
abbrev a0r(r:List Int):D:=.rol (r.map D.int)
abbrev aom(s n:Nat)(r:List Nat):Prop:=r.length=s/\∀x∈r,x<n
theorem aj4{a b:List Nat}(e:fj a=fj b):a=b:=by
 have e:=D.tup.inj e;exact(g9 λx y h=>by have:=D.int.inj h;omega).mp e
theorem afn{N s n i q:Nat}{pl:List Nat}{ks ts:List Int}{rs:List D}{k:Int}(Pu:Hand u N)(n32:n<=32)(s6:s<=6)(pm:List.Perm pl (List.range n))(hq:pl[i]? = some q)(hk:ks[i]? = some k)(hr:zy s n r)(lr:rs.length=n)(lt:ts.length=n)(cr:∀x∈rs,clo 0 x) :
  ∃r':List Nat,r'=(r.map λx=>(pl[x.toNat]?).getD 0)/\aom s n r'/\j9 aa [some (.ref 0),some d1,some (.rol (ks.map D.int)),some (.ref 1),some (.ref 2),some (.ref 3),some (.ref 4),some (ak i),some (a0r r)] [u,.lst [],.lst (pl.map ak),.lst rs,.lst (ts.map D.int)]=.nx [some (.ref 0),some d1,some (.rol (ks.map D.int)),some (.ref 1),some (.ref 2),some (.ref 3),some (.ref 4),some (ak i),some (a0r r)] [u,.lst [],.lst (pl.map ak),.lst (rs.set q (fj r')),.lst ((ts.set q k).map D.int)]:=by
 have pln:pl.length=n:=by rw[pm.length_eq,aO]
 have at':∀x:Int,x∈r->∃(j:Nat),x=j/\∃y:Nat,y<n/\pl[j]? = some y:=λx hx=>by
  obtain⟨a,b⟩:=hr.2 x hx;obtain⟨j,rfl⟩:=cL a;have hj:j<pl.length:=by omega
  exact⟨j,rfl,pl[j],by have:=pm.mem_iff.mp (br hj);simpa using this,a6 hj⟩
 have qn:q<n:=by
  have:=aN hq
  simpa using pm.mem_iff.mp this
 refine⟨r.map λx=>(pl[x.toNat]?).getD 0,rfl,⟨by simp[hr.1],λy hy=>?_⟩,?_⟩
 ·obtain⟨x,hx,rfl⟩:=aE.mp hy;obtain⟨j,rfl,y,yn,e⟩:=at' x hx;simpa[e] using yn
 ·have cl:∀o∈[u,O.lst [],.lst (pl.map ak),.lst rs,.lst (ts.map D.int)],a0g 5 o:=by
   intro o ho
   simp only[ay,bq,cK]at ho
   rcases ho with rfl|rfl|rfl|rfl|rfl
   ·exact vg (by omega) Pu.clo
   ·exact(kh:clos 5 [])
   ·exact dg _
   ·exact vp.mpr λx hx=>aa5 (by omega) (cr x hx)
   ·exact bc λx _=>bf x
  have cz:sZ (jo (sIt (sV 8)) t1 (ug aa) [4]) [some (.ref 0),some d1,some (.rol (ks.map D.int)),some (.ref 1),some (.ref 2),some (.ref 3),some (.ref 4),some (ak i),some (a0r r)] [u,.lst [],.lst (pl.map ak),.lst rs,.lst (ts.map D.int)]=.ok (.rol (r.map λx=>ak ((pl[x.toNat]?).getD 0))) [u,.lst [],.lst (pl.map ak),.lst rs,.lst (ts.map D.int)]:=by
   refine yj (ig D.int (λx=>ak ((pl[x.toNat]?).getD 0)) r (a88 (ao rfl) rfl) (dq ?_) λx hx=>?_) (bc λx _=>bf _) cl
   ·have:=hr.1
    omega
   ·obtain⟨j,rfl,y,yn,e⟩:=at' x hx;rw[a6d];refine(u5 (ao rfl) (ao rfl) (a3w (xs:=pl.map ak) rfl (y:=ak y) (by rw[ar,e];rfl))).trans ?_
    simp[e]
  unfold j9;have ip:∀(h:Hd),h[2]? = some (.lst (pl.map ak))->gIx (.ref 2) (ak i) h=.ok (ak q) h:=λh hh=>a3w hh (by rw[ar,hq];rfl)
  refine b6 (zg (atw (qu cz rfl) (ao rfl) (u5 (ao rfl) (ao rfl) (ip _ rfl)) (atx (xs:=rs) rfl (by omega)))) ?_
  rw[List.map_set];refine b6 (atw (u5 (ao rfl) (ao rfl) (ap2 (by rw[ar,hk];rfl))) (ao rfl) (u5 (ao rfl) (ao rfl) (ip _ rfl)) (atx (xs:=ts.map D.int) rfl (by rw[a9];omega))) ?_
  simp only[bI,bK,fj,aV];rfl
theorem a81{N s n:Nat}{rows:List (List Int)}{ks:List Int}(P:Hand o N)(hN:N<=999990000)(n1:1<=n)(n32:n<=32)(s6:s<=6)(lr:rows.length=n)(qr:∀r∈rows,zy s n r)(lk:ks.length=n)(k0:ks[0]? = some (-1))(kk:∀k∈ks,KOk k) :
  ∃(G:List (List Nat)) (ts:List Int) (o':O),G.length=n/\(∀r∈G,aom s n r)/\ts.length=n/\ts[0]? = some (-1)/\(∀k∈ts,KOk k)/\Dr gh 3 [.rol (rows.map a0r),.rol (ks.map D.int)] o (.tup [.tup (G.map fj),.tup (ts.map D.int)]) o'/\Hand o' (N+32)/\∃pl:List Nat,List.Perm pl (List.range n)/\pl[0]? = some 0/\∀(j q:Nat) (row:List Int),pl[j]? = some q->rows[j]? = some row->G[q]? = some (row.map λx=>(pl[x.toNat]?).getD 0):=by
 obtain⟨pl,u,e1,pm,p0,Pu⟩:=afm (d1:=.rol (rows.map a0r)) (d2:=.rol (ks.map D.int)) (t5:=none) (t6:=none) (t7:=none) (t8:=none) P hN n1 n32;have pln:pl.length=n:=by rw[pm.length_eq,aO]
 have pnd:pl.Nodup:=pm.nodup_iff.mpr dA;have lo:=um (g:=a4q 2 (jw (kN 7) (jw (kN 8) a5s))) (b:=j9 aa) (λp:Nat×D=>D.tup [.int (p.1:Nat),p.2])
  (λpre τ h=>∃(rs:List D) (ts:List Int) (t7 t8:Option D),τ=[some (.ref 0),some (.rol (rows.map a0r)),some (.rol (ks.map D.int)),some (.ref 1),some (.ref 2),some (.ref 3),some (.ref 4),t7,t8]/\h=[u,.lst [],.lst (pl.map ak),.lst rs,.lst (ts.map D.int)]/\rs.length=n/\ts.length=n/\(∀x∈rs,clo 0 x)/\(∀j q,j<pre.length->pl[j]? = some q->∃r':List Nat,(∀row:List Int,rows[j]? = some row->r'=row.map λx=>(pl[x.toNat]?).getD 0)/\aom s n r'/\rs[q]? = some (fj r'))/\(∀k∈ts,KOk k)/\(0<pre.length->ts[0]? = some (-1)))
  ((List.range (rows.map a0r).length).zip (rows.map a0r)) [some (.ref 0),some (.rol (rows.map a0r)),some (.rol (ks.map D.int)),some (.ref 1),some (.ref 2),some (.ref 3),some (.ref 4),none,none] [u,.lst [],.lst (pl.map ak),.lst (rows.map λ_=>.tup []),.lst ((rows.map λ_=>(-1:Int)).map D.int)] ?_
  ⟨_,_,none,none,rfl,rfl,by simpa using lr,by simpa using lr,λx hx=>by
   obtain⟨_,_,rfl⟩:=aE.mp hx;exact du kh,λj q hj=>by simp at hj,λk hk=>by
   obtain⟨_,_,rfl⟩:=aE.mp hk
   decide,λz=>by simp at z⟩
 ·obtain⟨τ',h',e2,rs,ts,t7,t8,rfl,rfl,l1,l2,c1,full,tk,t0⟩:=lo;have zl:((List.range (rows.map a0r).length).zip (rows.map a0r)).length=n:=by simp[lr]
  rw[zl]at full t0;obtain⟨G,rfl,hG⟩:=all_map fj (aom s n) rs λx hx=>by
   obtain⟨q,hq,rfl⟩:=fB.mp hx;have:q∈pl:=pm.mem_iff.mpr (by simp;omega)
   obtain⟨j,hj,ej⟩:=fB.mp this;obtain⟨r',_,a,b⟩:=full j q (by omega) (by rw[a6 hj,ej])
   rw[a6 hq]at b;exact⟨r',a,bp b⟩
  refine⟨G,ts,u,by simpa using l1,hG,l2,t0 (by omega),tk,?_,Pu,pl,pm,p0,λj q row hq hr=>?_⟩
  rotate_left
  ·have jn:j<n:=by have:=(a7.mp hr).1;omega
   obtain⟨r',e,_,b⟩:=full j q jn hq;rw[ar]at b;obtain⟨g,hg,eg⟩:=aL.mp b;rw[hg,<-e row hr,aj4 eg]
  have cd:clo 0 (.tup [.tup (G.map fj),.tup (ts.map D.int)]):=du (bz (du (vp.mpr c1)) (bz (du (bc λx _=>bf x)) kh));refine Dr.of rfl (by
   intro x hx;simp only[ay,bq,cK]at hx
   rcases hx with rfl|rfl
   ·exact j7 (bc λx _=>j7 (bc λy _=>bf y))
   ·exact j7 (bc λy _=>bf y)) P.clo (r:=.ok (.tup [.tup (G.map fj),.tup (ts.map D.int)]) [u,.lst [],.lst (pl.map ak),.lst (G.map fj),.lst (ts.map D.int)]) ?_ (j5 (aa5 (by omega) cd) (by intro x hx;rw[show List.take 1 [u,O.lst [],.lst (pl.map ak),.lst (G.map fj),.lst (ts.map D.int)]=[u] from rfl,aI]at hx;subst hx;exact vg (by omega) Pu.clo)) cd Pu.clo
  unfold gh;rw[dm];show toR (p6 aa [some (.ref 0),some (.rol (rows.map a0r)),some (.rol (ks.map D.int)),none,none,none,none,none,none] [o])=_;unfold p6;have r1:a7l [.int 1,.int ((rows.map a0r).length:Nat)] [o]=.ok (.ref 1) [o,.lst (((List.range (n-1)).map (1+·)).map ak)]:=by
   rw[a9,lr];unfold a7l;dsimp only;rw[aQ ⟨⟨aoa (by omega) (by omega),aoa (by omega) (by omega)⟩,dq (by omega)⟩,show((n:Int)-1).toNat=n-1 by omega]
   simp only[rng,aV];rfl
  refine ets (a0p ckk (qu (ao rfl) a1d) r1) ?_;refine etr (jy (d:=.ref 2) (h1:=[o,.lst (((List.range (n-1)).map (1+·)).map ak),.lst ([0].map ak)]) rfl) ?_;refine etr (zg e1) ?_;have zr:(rows.length:Nat)<=LINE:=dq (by omega)
  refine ets (ig a0r (λ_=>.tup []) rows (a88 (ao rfl) rfl) zr λx _=>rfl) ?_;refine ets (ig a0r (λ_=>.int (-1)) rows (a88 (ao rfl) rfl) zr λx _=>rfl) ?_;have en:∀(τ:Sd) (h:Hd),τ[1]? = some (some (.rol (rows.map a0r)))->a1r (sV 1) τ h=.ok ⟨((List.range (rows.map a0r).length).zip (rows.map a0r)).map λp=>.tup [.int (p.1:Nat),p.2],λ_=>True⟩ h:=λτ h ht=>by
   unfold a1r;rw[ao ht,aq];rfl
  refine etr (a3v (en _ _ rfl)) ?_;rw[show((rows.map λ_=>(-1:Int)).map D.int)=rows.map λ_=>.int (-1) from by rw[aV];rfl]at e2
  refine b6 (aZ (λz=>toR (thn z _)) e2) ?_;rw[ql];refine etr (a03 (a0p (qu (ao rfl) (afc rfl)) (qu (ao rfl) (afc rfl)) avi)) ?_;rfl
 ·rintro pre x post τ h all ⟨rs,ts,t7,t8,rfl,rfl,l1,l2,c1,full,tk,t0⟩
  obtain⟨hi,hx⟩:=aol all;obtain⟨i,d⟩:=x;simp only at hi hx;subst hi;rw[ar]at hx;obtain⟨r,hr,rfl⟩:=aL.mp hx;have hlt:pre.length<n:=by have:=(a7.mp hr).1;omega
  have hq:pl[pre.length]? = some pl[pre.length]:=a6 (by omega)
  have hk:ks[pre.length]? = some ks[pre.length]:=a6 (by omega)
  generalize pl[pre.length]=q at hq
  generalize ks[pre.length]=k at hk
  have qn:q<n:=by simpa using pm.mem_iff.mp (aN hq)
  obtain⟨r',er',hr',e3⟩:=afn (d1:=.rol (rows.map a0r)) Pu n32 s6 pm hq hk (qr r (aN hr)) l1 l2 c1;have kq:=kk k (aN hk);refine⟨_,_,rfl,_,_,e3,_,_,_,_,rfl,rfl,by simpa using l1,by simpa using l2,λy hy=>?_,λj q' hj hq'=>?_,λy hy=>?_,λ_=>?_⟩
  ·rcases dE hy with h|rfl
   ·exact c1 y h
   ·exact du (dg _)
  ·by_cases eq:q'=q
   ·subst eq;refine⟨r',λrow hrow=>?_,hr',by rw[bF (by omega)]⟩
    have:j=pre.length:=by
     have h1:=a7.mp hq;have h2:=a7.mp hq';obtain⟨a1,b1⟩:=h1;obtain⟨a2,b2⟩:=h2;exact(ft pnd).mp (b2.trans b1.symm)
    rw[this,hr]at hrow;cases hrow
    exact er'
   ·rw[ag,aM]at hj
    by_cases ej:j=pre.length
    ·subst ej;rw[hq]at hq';exact(eq (bp hq').symm).elim
    ·rw[bP (fI eq)];exact full j q' (by omega) hq'
  ·rcases dE hy with h|rfl
   ·exact tk y h
   ·exact kq
  ·by_cases z:pre.length=0
   ·rw[z]at hq hk;rw[p0]at hq;rw[k0]at hk;cases hq
    cases hk
    rw[bF (by omega)]
   ·have:q≠0:=λe=>by
     subst e;have h1:=a7.mp hq;have h0:=a7.mp p0;obtain⟨a1,b1⟩:=h1;obtain⟨a0,b0⟩:=h0;exact z ((ft pnd).mp (b1.trans b0.symm))
    rw[bP this];exact t0 (by omega)
structure Table where
 tg:List Nat
 go:List (List Nat)
 ks:List Int
def Table.d(T:Table):D:=.tup [.str (S T.tg),.tup (T.go.map fj),.tup (T.ks.map D.int)]
structure Table.Ok (T:Table):Prop where
 tong:Tongue T.tg
 n1:1<=T.go.length
 n32:T.go.length<=32
 row:∀r∈T.go,aom T.tg.length T.go.length r
 kl:T.ks.length=T.go.length
 k0:T.ks[0]? = some (-1)
 kk:∀k∈T.ks,KOk k
theorem Table.clo{T:Table}:clo 0 T.d:=du (bz (a1b _) (bz (du (bc λx _=>du (dg _))) (bz (du (bc λx _=>bf x)) kh)))
end HND
namespace NB
open L2 MI AT HND
section
variable{α κ:Type}[DecidableEq α][DecidableEq κ](K:α->κ)
def dct(p:List α):List (κ×D):=(bw p).map λx=>(K x,ak (ix p x))
theorem a1e(p:List α):(dct K p).length=(bw p).length:=a9 _
variable{K}(inj:∀a b,K a=K b->a=b)
include inj
theorem a4z{p:List α}{x:α}(h:x∈p):a0b (dct K p) (K x)=some (ak (ix p x)):=by
 have e:∀{l:List α},x∈l->(l.map λy=>(K y,ak (ix p y))).find? (λkv=>decide (kv.1=K x))=some (K x,ak (ix p x)):=by
  intro l
  induction l with
  |nil=>intro h;cases h
  |cons a l ih =>
   intro h
   rw[aK,cp]
   by_cases q:a=x
   ·subst q;simp
   ·rw[show decide ((K a,ak (ix p a)).1=K x)=false from aR λz=>q (inj _ _ z)]
    exact ih ((ay.mp h).resolve_left λz=>q z.symm)
 unfold a0b dct;rw[e (ik.mpr h)];rfl
theorem akm{p:List α}{x:α}(h:x∉p):∀kv∈dct K p,¬ decide (kv.1=K x)=true:=λkv hk=>by
 obtain⟨y,hy,rfl⟩:=aE.mp hk;rw[eR]
 intro z
 exact h (inj _ _ z ▸ ik.mp hy)
theorem a93{p:List α}{x:α}(h:x∉p):a0b (dct K p) (K x)=none:=by unfold a0b;rw[dR.mpr (akm inj h)];rfl
theorem a6g{p:List α}{x:α}(h:x∉p):putD (dct K p) (K x) (ak (bw p).length)=dct K (p++[x]):=by
 unfold putD;rw[bg λz=>by obtain⟨kv,hk,e⟩:=dQ.mp z;exact akm inj h kv hk e]
 have n:x∉bw p:=λz=>h (ik.mp z);have e:bw (p++[x])=bw p++[x]:=by rw[xj];exact bg n
 unfold dct;rw[e,bC];have two:∀{a b a' b':List (κ×D)},a=a'->b=b'->a++b=a'++b':=λe1 e2=>by rw[e1,e2]
 refine two (bV λy hy=>?_) ?_
 ·unfold ix;rw[e,e9,aQ hy]
 ·unfold ix;rw[aK,bO,e,e9,bg n];simp
omit inj
theorem a6h{p:List α}{x:α}(h:x∈p):dct K (p++[x])=dct K p:=by
 have e:bw (p++[x])=bw p:=by rw[xj];exact aQ (ik.mpr h)
 unfold dct ix;rw[e]
end
structure Kys {α:Type} [DecidableEq α] (kd:α->D) (ob:List α->O):Prop where
 nil:ob []=.dN []
 out:∀p x,aa1 true (kd x) (.ref 0) [ob p]=.ok (.bl (!decide (x∈p))) [ob p]
 len:∀p,a4g [.ref 0] [ob p]=.ok (ak (bw p).length) [ob p]
 put:∀p x,x∉p->(bw p).length<LINE->agf (.ref 0) (kd x) (ak (bw p).length) [ob p]=some [ob (p++[x])]
 same:∀p x,x∈p->ob (p++[x])=ob p
 get:∀p x,x∈p->a2k (.ref 0) (kd x) [ob p]=.ok (ak (ix p x)) [ob p]
section
variable{α:Type}[DecidableEq α]{kd:α->D}
def obI(K:α->Key)(p:List α):O:=if p=[] then .dN [] else .dK (dct K p)
theorem a5a{K:α->Key}{p:List α}(h:p≠[]):obI K p=.dK (dct K p):=bg h
theorem afo{K:α->Key}(inj:∀a b,K a=K b->a=b)(hk:∀x,a3p (kd x)=some (K x))(hn:∀x,abz (kd x)=none):Kys kd (obI K):=by
 have gv:∀p x,p≠[]->age (.ref 0) (kd x) [obI K p]=some (a0b (dct K p) (K x)):=λp x h=>by
  rw[a5a h];show(a3p (kd x)).map _=_;rw[hk];rfl
 have g0:∀x,age (.ref 0) (kd x) [obI K []]=some none:=λx=>by
  show(match abz (kd x) with|some k=>some (a0b [] k)|none=>if ([]:List ((Int×List Int)×D))=[] then (a3p (kd x)).map λ_=>none else none)=_
  rw[hn,hk];rfl
 have l1:∀p:List α,p≠[]->(dct K p).length=(bw p).length:=λp _=>a1e K p;refine⟨rfl,λp x=>?_,λp=>?_,λp x h l=>?_,λp x h=>?_,λp x h=>?_⟩
 ·by_cases e:p=[]
  ·subst e;unfold aa1;rw[g0];simp
  ·unfold aa1;rw[gv p x e]
   by_cases q:x∈p
   ·rw[a4z inj q];simp[q]
   ·rw[a93 inj q];simp[q]
 ·by_cases e:p=[]
  ·subst e;rfl
  ·rw[a5a e,at8 rfl,a1e]
 ·have ne:p++[x]≠[]:=by simp
  rw[a5a ne]
  by_cases e:p=[]
  ·subst e;show(match abz (kd x) with|some kk=>if ([]:List ((Int×List Int)×D)).length<LINE then some ([O.dN []].set 0 (.dN (putD [] kk _))) else none|none=>if ([]:List ((Int×List Int)×D))=[] then (a3p (kd x)).map λkk=>[O.dN []].set 0 (.dK [(kk,_)]) else none)=_
   rw[hn,hk];rw[<-a6g inj h];rfl
  ·rw[a5a e];show(match a3p (kd x) with|some kk=>if (dct K p).length<LINE then some ([O.dK (dct K p)].set 0 (.dK (putD (dct K p) kk _))) else none|none=>none)=_
   rw[hk];show(if _ then _ else _)=_
   rw[aQ (by rw[a1e];exact l),a6g inj h];rfl
 ·have e:p≠[]:=λz=>by rw[z]at h;cases h
  rw[a5a e,a5a (by simp),a6h h]
 ·have e:p≠[]:=λz=>by rw[z]at h;cases h
  unfold a2k;rw[gv p x e,a4z inj h]
def obN(K:α->Int×List Int)(p:List α):O:=.dN (dct K p)
theorem aj5{K:α->Int×List Int}(inj:∀a b,K a=K b->a=b)(hk:∀x,abz (kd x)=some (K x)):Kys kd (obN K):=by
 have gv:∀p x,age (.ref 0) (kd x) [obN K p]=some (a0b (dct K p) (K x)):=λp x=>by
  show(match abz (kd x) with|some k=>some (a0b (dct K p) k)|none=>if dct K p=[] then (a3p (kd x)).map λ_=>none else none)=_
  rw[hk]
 refine⟨rfl,λp x=>?_,λp=>?_,λp x h l=>?_,λp x h=>?_,λp x h=>?_⟩
 ·unfold aa1;rw[gv p x]
  by_cases q:x∈p
  ·rw[a4z inj q];simp[q]
  ·rw[a93 inj q];simp[q]
 ·unfold obN;rw[at7 rfl,a1e]
 ·show(match abz (kd x) with|some kk=>if (dct K p).length<LINE then some ([O.dN (dct K p)].set 0 (.dN (putD (dct K p) kk _))) else none|none=>if dct K p=[] then (a3p (kd x)).map λkk=>[O.dN (dct K p)].set 0 (.dK [(kk,_)]) else none)=_
  rw[hk];show(if _ then _ else _)=_
  rw[aQ (by rw[a1e];exact l),a6g inj h];rfl
 ·unfold obN;rw[a6h h]
 ·unfold a2k;rw[gv p x,a4z inj h]
end
end NB
namespace PAP
open L2 MI AT HND
theorem atz(bs:List Bool)(h:Hd):amz [.rol (bs.map D.bl)] h=.ok (.bl (bs.all id)) h:=by
 unfold amz;simp only[ahf]
theorem au0(ws:List D):((List.range ws.length).zip ws).map (λp=>D.tup [.int (p.1:Nat),p.2])=(List.range ws.length).map λr=>.tup [ak r,(ws[r]?).getD .non]:=by
 refine gI λi=>?_
 by_cases hi:i<ws.length
 ·rw[ar,ar,bN hi,bY (z:=(i,ws[i])).mpr ⟨by rw[bN hi],by rw[a6 hi]⟩]
  simp[a6 hi]
 ·rw[bt (by simp;omega),bt (by simp;omega)]
end PAP
namespace K32
open L2 MI AT HND PAP
section
variable{A B:Table}{ns:List Nat}{r:Nat}{h:Hd}
theorem akn:∀a b:List Nat,a4f (a.map ak) (b.map ak)=decide (a=b)
 |[],[]=>by simp[a4f]
 |[],_::_=>by simp[a4f]
 |_::_,[]=>by simp[a4f]
 |x::a,y::b=>by
  show(((x:Int) == (y:Int)) && a4f (a.map ak) (b.map ak))=_;rw[akn a b]
  by_cases h1:x=y
  ·subst h1;simp
  ·have:¬ ((x:Int)=(y:Int)):=by omega
   simp[h1,this]
theorem axj(a b:List Nat):hNe (.str (S a)) (.str (S b)) h=.ok (.bl (!decide (a=b))) h:=by rw[ax7,ax6]
theorem au1{f:SE}{τ:Sd}{h1:Hd}{b:Bool}(e:f τ h=.ok (.bl b) h1):a5q f τ h=.ok (.bl (!b)) h1:=by unfold a5q;rw[e];rfl
theorem au2{f g k:SE}{τ:Sd}{a b c:Int}(e1:f τ h=.ok (.int a) h)(e2:g τ h=.ok (.int b) h)(e3:k τ h=.ok (.int c) h):sCh gLe gLe f g k τ h=.ok (.bl (decide (a<=b) && decide (b<=c))) h:=by
 unfold sCh;rw[e1,aq,e2,aq];show(R.ok (D.bl (decide (a<=b))) h).bind _=_;rw[aq]
 by_cases h1:a<=b
 ·rw[aS h1];dsimp only;rw[e3,aq];show R.ok (D.bl (decide (b<=c))) h=_;rw[eO]
 ·rw[aR h1];rfl
end
theorem au3{a b c:D}(ha:MI.clo 0 a)(hb:MI.clo 0 b)(hc:MI.clo 0 c):∀x∈[a,b,c],MI.clo 0 x:=by
 intro x hx
 simp only[ay,bq,cK]at hx
 rcases hx with rfl|rfl|rfl
 ·exact ha
 ·exact hb
 ·exact hc
noncomputable def gj:SF:=qt uv 3
section
variable{A B:Table}{ns:List Nat}{r:Nat}
theorem au4{xs:List D}{f:SE}{τ:Sd}{h:Hd}(e:f τ h=.ok (.tup xs) h):a1r f τ h=.ok ⟨(List.range xs.length).map λr=>.tup [ak r,(xs[r]?).getD .non],λ_=>True⟩ h:=by
 unfold a1r;rw[e,aq,<-au0];rfl
end
end K32
namespace K20
open L2 MI AT HND EVX
open PAP
theorem ar1{a:D}(ha:MI.clo 0 a):∀x∈[a],MI.clo 0 x:=by intro x hx;rw[aI]at hx;subst hx;exact ha
def grow(G:List (List Nat)):Nat->List Nat->Nat->List Nat
 |0,ms,_=>ms
 |f+1,ms,i=>match ms[i]? with|none=>ms|some x=>grow G f (((G[x]?).getD []).foldl stepK ms) (i+1)
def met(G:List (List Nat)):List Nat:=grow G (G.length+1) [0] 0
theorem a1x{G:List (List Nat)}{f i:Nat}{ms:List Nat}(h:ms[i]? = none):grow G f ms i=ms:=by
 cases f with
 |zero=>rfl
 |succ f=>simp only[grow,h]
theorem a3y{G:List (List Nat)}{f i x:Nat}{ms r:List Nat}(h:ms[i]? = some x)(hr:G[x]? = some r):grow G (f+1) ms i=grow G f (r.foldl stepK ms) (i+1):=by simp only[grow,h,hr,fz]
structure Gd (G:List (List Nat)):Prop where
 n1:1<=G.length
 n32:G.length<=32
 rg:∀r∈G,∀x∈r,x<G.length
theorem fold_lt{n:Nat}:∀(r ms:List Nat),(∀x∈r,x<n)->(∀x∈ms,x<n)->∀x∈r.foldl stepK ms,x<n
 |[],ms,_,hm=>hm
 |a::r,ms,hr,hm=>by
  rw[bL];refine fold_lt r _ (λx hx=>hr x (ai _ hx)) λx hx=>?_
  rcases(a7c ms a x).mp hx with z|rfl
  ·exact hm x z
  ·exact hr _ aP
abbrev ns(l:List Nat):List D:=l.map ak
theorem au5(x:Nat)(l:List Nat):inD (ak x) (ns l)=decide (x∈l):=by
 unfold inD;rw[fV]
 by_cases h:x∈l
 ·rw[aS h,dQ];exact⟨x,h,by show((x:Int) == (x:Int))=true;simp⟩
 ·rw[aR h,List.any_eq_false]
  intro y hy
  have:x≠y:=λe=>h (e ▸ hy)
  show ¬ ((y:Int) == (x:Int))=true;rw[gZ];omega
theorem aaf{x:Nat}{l:List Nat}{h:Hd}(e:h[0]? = some (.lst (ns l))):gIn true (ak x) (.ref 0) h=.ok (.bl (!decide (x∈l))) h:=by
 have fl:yt (ak x)=true/\(ns l).all yt=true:=⟨rfl,by
  rw[bQ]
  intro y hy
  obtain⟨n,_,rfl⟩:=aE.mp hy
  rfl⟩
 unfold gIn uz;simp only[e,aQ fl,cQ,au5]
def qw(l:List Nat):List (Key×D):=l.map λx:Nat=>((.inl (x:Int):Key),D.bl true)
theorem aj6{x:Nat}{l:List Nat}(h:x∈l):∃d,a0b (qw l) (.inl (x:Int))=some d:=by
 unfold a0b
 cases e:(qw l).find? λkv=>decide (kv.1=(.inl (x:Int):Key)) with
 |some kv=>exact⟨kv.2,rfl⟩
 |none =>
  rw[dR]at e;exact absurd (aS rfl) (e _ (aE.mpr ⟨x,h,rfl⟩))
theorem afp{x:Nat}{l:List Nat}(h:x∉l):a0b (qw l) (.inl (x:Int))=none/\putD (qw l) (.inl (x:Int)) (.bl true)=qw (l++[x]):=by
 have no:∀kv∈qw l,¬ decide (kv.1=(.inl (x:Int):Key))=true:=λkv hk=>by
  obtain⟨v,hv,rfl⟩:=aE.mp hk;rw[eR]
  intro z
  have:=fH z
  exact h (by rwa[show x=v by omega])
 refine⟨?_,?_⟩
 ·unfold a0b;rw[dR.mpr no];rfl
 ·unfold putD;rw[bg (λz=>by obtain⟨kv,hk,e⟩:=dQ.mp z;exact no kv hk e)]
  unfold qw;rw[bC];rfl
theorem ako{x:Nat}{l:List Nat}{o:O}:aa1 true (ak x) (.ref 1) [o,.dK (qw l)]=.ok (.bl (!decide (x∈l))) [o,.dK (qw l)]:=by
 show(match (some (a0b (qw l) (.inl (x:Int))):Option (Option D)) with|some r=>R.ok (D.bl (if true then !r.isSome else r.isSome)) [o,O.dK (qw l)]|none=>.no)=_
 by_cases h:x∈l
 ·obtain⟨d,e⟩:=aj6 h;rw[e,aS h];rfl
 ·rw[(afp h).1,aR h];rfl
section
variable{G:List (List Nat)}
def Inv(G:List (List Nat))(m i:Nat)(ms:List Nat):Prop:=ms.Nodup/\(∀x∈ms,x<G.length)/\i+m=G.length+1/\grow G m ms i=met G
theorem Inv.step(g:Gd G){m i x:Nat}{ms r:List Nat}(h:Inv G m i ms)(e:ms[i]? = some x)(er:G[x]? = some r):1<=m/\Inv G (m-1) (i+1) (r.foldl stepK ms):=by
 obtain⟨nd,lt,im,gr⟩:=h;have ml:=BF.sr G.length ms nd lt;have il:=(a7.mp e).1;have m1:1<=m:=by omega
 refine⟨m1,(ue r ms nd).1,fold_lt r ms (g.rg r (aN er)) lt,by omega,?_⟩
 rw[<-gr,<-a3y e er]
 congr 1
 omega
noncomputable def bx:SF:=qt p8 6
theorem au6(g:Gd G):Pu bx 1 [.tup (G.map fj)] (.rol (ns (met G))):=by
 have w:=abe (c:=uh) (f:=my)
  (λm τ h=>∃(ms:List Nat) (i:Nat) (t4 t5:Option D),τ=[some (.tup (G.map fj)),some (.ref 0),some (.ref 1),some (ak i),t4,t5]/\h=[.lst (ns ms),.dK (qw ms)]/\Inv G m i ms)
  (λτ h=>∃(i:Nat) (t4 t5:Option D),τ=[some (.tup (G.map fj)),some (.ref 0),some (.ref 1),some (ak i),t4,t5]/\h=[.lst (ns (met G)),.dK (qw (met G))])
  (λ_ _=>False) ?_ (G.length+1) 100000 [some (.tup (G.map fj)),some (.ref 0),some (.ref 1),some (ak 0),none,none] [.lst (ns [0]),.dK (qw [0])] (by have:=g.n32;omega)
  ⟨[0],0,none,none,rfl,rfl,by simp,by intro x hx;rw[aI]at hx;subst hx;exact g.n1,by omega,rfl⟩
 ·rcases w with⟨τ',h',e,i,t4,t5,rfl,rfl⟩|⟨_,_,_,z⟩
  ·refine Pu.of rfl (ar1 (du (bc λx _=>du (dg _)))) (r:=.ok (.ref 0) [.lst (ns (met G)),.dK (qw (met G))]) ?_ (a2u (ah _) rfl (dg _) (by simp)) (j7 (dg _))
   unfold bx;rw[dm];show toR (p8 [some (.tup (G.map fj)),none,none,none,none,none] [])=_;unfold p8;refine etr (jy (d:=.ref 0) (h1:=[.lst (ns [0])]) rfl) ?_;refine etr (jy (d:=.ref 1) (h1:=[.lst (ns [0]),.dK (qw [0])]) rfl) ?_;refine etr (jy ckk) ?_;refine etr (zg e) ?_;exact aZ toR (a03 (ao rfl))
  ·exact z.elim
 ·rintro m τ h ⟨ms,i,t4,t5,rfl,rfl,inv⟩
  have lm:jx [.ref 0] [.lst (ns ms),.dK (qw ms)]=.ok (ak ms.length) [.lst (ns ms),.dK (qw ms)]:=by rw[a2g (xs:=ns ms) rfl,a9]
  by_cases lt:i<ms.length
  ·refine .inr ⟨_,t2s (ao rfl) (qu (ao rfl) lm) (axd (by omega)),.inl ?_⟩
   have ex:ms[i]? = some ms[i]:=a6 lt;have xl:=inv.2.1 _ (br lt)
   generalize ms[i]=x at ex xl
   have er:G[x]? = some G[x]:=a6 xl
   generalize G[x]=r at er
   obtain⟨m1,inv'⟩:=inv.step g ex er;have small:=BF.sr G.length ms inv.1 inv.2.1;have n32:=g.n32;have lp:=um (g:=kN 5) (b:=mj) ak
    (λpre τ h=>∃t5:Option D,τ=[some (.tup (G.map fj)),some (.ref 0),some (.ref 1),some (ak i),some (fj r),t5]/\h=[.lst (ns (pre.foldl stepK ms)),.dK (qw (pre.foldl stepK ms))])
    r [some (.tup (G.map fj)),some (.ref 0),some (.ref 1),some (ak i),some (fj r),t5] [.lst (ns ms),.dK (qw ms)] ?_ ⟨t5,rfl,rfl⟩
   ·obtain⟨τ',h',e,t5',rfl,rfl⟩:=lp;refine⟨[some (.tup (G.map fj)),some (.ref 0),some (.ref 1),some (ak (i+1)),some (fj r),t5'],[.lst (ns (r.foldl stepK ms)),.dK (qw (r.foldl stepK ms))],m-1,?_,by omega,_,i+1,_,t5',rfl,rfl,inv'⟩
    unfold my;refine b6 (jy (u5 (ao rfl) (u5 (ao rfl) (ao rfl) (a3w (xs:=ns ms) rfl (y:=ak x) (by rw[ar,ex];rfl))) (aad (y:=fj r) (by rw[ar,er];rfl)))) ?_
    have i1:sIt (sV 4) [some (.tup (G.map fj)),some (.ref 0),some (.ref 1),some (ak i),some (fj r),t5] [.lst (ns ms),.dK (qw ms)]=.ok ⟨ns r,λ_=>True⟩ [.lst (ns ms),.dK (qw ms)]:=a88 (ao rfl) rfl;refine b6 (a3v i1) ?_;refine b6 (aZ (λz=>MI.thn z _) e) ?_;rw[ql];exact aob rfl ckk (show a2j (ak i) (.int 1) _=.ok (ak (i+1)) _ from rfl)
   ·rintro pre y post τ h all ⟨t5,rfl,rfl⟩
    have nd:=ue pre ms inv.1;have fl:(pre.foldl stepK ms).length<=G.length:=BF.sr _ _ nd.1 (fold_lt pre ms (λz hz=>g.rg r (aN er) z (by rw[all];simp[hz])) inv.2.1)
    refine⟨_,_,rfl,[some (.tup (G.map fj)),some (.ref 0),some (.ref 1),some (ak i),some (fj r),some (ak y)],[.lst (ns ((pre++[y]).foldl stepK ms)),.dK (qw ((pre++[y]).foldl stepK ms))],?_,_,rfl,rfl⟩;rw[dI,bL,hJ];unfold mj
    by_cases q:y∈pre.foldl stepK ms
    ·refine b6 (ifF (t2s (ao rfl) (ao rfl) (ako.trans (by rw[aS q];rfl)))) ?_
     rw[show stepK (pre.foldl stepK ms) y=pre.foldl stepK ms from aQ q]
     rfl
    ·refine b6 (ifT (t2s (ao rfl) (ao rfl) (ako.trans (by rw[aR q];rfl)))) ?_
     rw[show stepK (pre.foldl stepK ms) y=pre.foldl stepK ms++[y] from bg q]
     generalize pre.foldl stepK ms=u at q fl
     have pt:agf (.ref 1) (ak y) (.bl true) [.lst (ns u),.dK (qw u)]=some [.lst (ns u),.dK (qw (u++[y]))]:=by
      have lt:(qw u).length<LINE:=yg (by unfold qw;rw[a9];omega)
      show(if (qw u).length<LINE then some [O.lst (ns u),O.dK (putD (qw u) (.inl (y:Int)) (.bl true))] else none)=_
      rw[aQ lt,(afp q).2]
     refine b6 (zg (aac ckk (ao rfl) (ao rfl) pt)) ?_;unfold ns;rw[bC];exact zj (ao rfl) rfl (arg1 (ao rfl)) (a0v (xs:=u.map ak) rfl (by rw[a9];exact yg (by omega)))
  ·refine .inl ⟨_,t2s (ao rfl) (qu (ao rfl) lm) (axe (by omega)),i,t4,t5,rfl,?_⟩
   rw[<-inv.2.2.2,a1x (bt (by omega))]
end
end K20
namespace PN
open L2 MI AT HND EVX
end PN
namespace SRC
open L2 MI AT HND EVX
theorem axk(c:x<=y):gLe (.int x) (.int y) h=.ok (.bl true) h:=by
 show R.ok (D.bl (decide (x<=y))) h=_;rw[aS c]
theorem axl(c:¬ x<=y):gLe (.int x) (.int y) h=.ok (.bl false) h:=by
 show R.ok (D.bl (decide (x<=y))) h=_;rw[aR c]
theorem ayu{ck:Hd->Prop}{f:D->Hd->R D}{α:Type}(g F:α->D){h:Hd}(c:ck h):∀{xs:List α},(∀x∈xs,f (g x) h=.ok (F x) h)->mapR ck f (xs.map g) h=.ok (xs.map F) h
 |[],_=>by rw[bO,mapR,aQ c];rfl
 |x::xs,st=>by
  rw[aK,mapR,aQ c,st x aP];show(mapR _ f (xs.map g) h).bind _=_;rw[ayu g F c λy hy=>st y (ai _ hy)];rfl
theorem axm{fi:SI}{t:D->Option Sd}{fe:SE}{ix:List Nat}{τ:Sd}{h:Hd}{α:Type}{ck:Hd->Prop}(g F:α->D)(xs:List α)(c:ck h)(e:fi τ h=.ok ⟨xs.map g,ck⟩ h)(z:xs.length<=LINE)
  (st:∀x∈xs,a5t t fe (frs' ix τ) (g x) h=.ok (F x) h):jo fi t fe ix τ h=.ok (.ref h.length) (h++[.lst (xs.map F)]):=by
 unfold jo;rw[e,aq];dsimp only;rw[aQ (by rw[a9];exact z),ayu g F c st]
 rfl
abbrev cst(l:List Nat):List Int:=l.map λx:Nat=>(x:Int)
theorem a1f(l:List Nat):l.map ak=(cst l).map D.int:=by unfold cst;rw[aV];rfl
end SRC
namespace PN
open L2 MI AT HND EVX
end PN
namespace PN
open L2 MI AT HND EVX
section
variable{g:Hd}{n tu:Nat}{tg:List Nat}{rows:List (List Nat)}{ks:List Int}
def Rch(rows:List (List Nat))(r:Nat):Prop:=∀Q:Nat->Prop,Q 0->(∀r,Q r->∀x∈(rows[r]?).getD [],Q x)->Q r
theorem Rch.zero(rows:List (List Nat)):Rch rows 0:=λ_ q _=>q
theorem Rch.step(h:Rch rows r)(hx:x∈(rows[r]?).getD []):Rch rows x:=λQ q0 qs=>qs r (h Q q0 qs) x hx
end
end PN
namespace HND
theorem aj7{n:Nat}{rows:List (List Int)}{G:List (List Nat)}{pl:List Nat}(lr:rows.length=n)(pm:List.Perm pl (List.range n))(p0:pl[0]? = some 0)
  (mp:∀(j q:Nat) (row:List Int),pl[j]? = some q->rows[j]? = some row->G[q]? = some (row.map λx=>(pl[x.toNat]?).getD 0))
  (tr:∀r,1<=r->r<n->∃(p:Nat) (row:List Int),p<r/\rows[p]? = some row/\((r:Nat):Int)∈row):∀r,r<n->PN.Rch G r:=by
 have pln:pl.length=n:=by rw[pm.length_eq,aO]
 have go:∀j q:Nat,pl[j]? = some q->PN.Rch G q:=by
  intro j
  induction j using Nat.strongRecOn with
  |_ j ih =>
   intro q hq
   by_cases j0:j=0
   ·subst j0;rw[p0]at hq;cases hq;exact PN.Rch.zero G
   have jn:j<n:=by have:=(a7.mp hq).1;omega
   obtain⟨p,row,pj,hr,hm⟩:=tr j (by omega) jn
   have hp:pl[p]? = some pl[p]:=a6 (by omega)
   have hG:=mp p _ row hp hr;refine(ih p pj _ hp).step (x:=q) ?_;rw[hG];exact aE.mpr ⟨_,hm,by rw[cP,hq];rfl⟩
 intro r hr
 have:r∈pl:=pm.mem_iff.mpr (aX.mpr hr)
 obtain⟨j,hj,e⟩:=bW this;exact go j r (by rw[a6 hj,e])
end HND
namespace K40
open L2 MI AT HND EVX
section
variable{τ:Sd}{h h1 h2:Hd}{c1 c2:ST}{f g k:SE}{p q:SS}
theorem ayv(x y:Int):hNe (.int x) (.int y) h=.ok (.bl (decide (x≠y))) h:=by
 by_cases c:x=y
 ·rw[axf c,aR (by simpa using c)]
 ·rw[axg c,aS c]
end
end K40
namespace MI
open L2 SRC HND
theorem aj8{x y:Nat}:y∈stepK l x↔y∈l\/y=x:=by
 unfold L2.stepK
 by_cases h:x∈l
 ·rw[aQ h];exact⟨.inl,λz=>z.elim id λe=>e ▸ h⟩
 ·rw[bg h,bB,aI]
theorem ur:∀{r l:List Nat},y∈r.foldl stepK l↔y∈l\/y∈r
 |[],l=>by simp
 |x::r,l=>by
  rw[bL,ur (r:=r),aj8,ay]
  constructor
  ·rintro((h|h)|h)
   ·exact .inl h
   ·exact .inr (.inl h)
   ·exact .inr (.inr h)
  ·rintro(h|h|h)
   ·exact .inl (.inl h)
   ·exact .inl (.inr h)
   ·exact .inr h
end MI
namespace RCH
open L2 MI AT HND EVX K40
def cnt(n:Nat)(p:Nat->Bool):Nat:=((List.range n).filter p).length
theorem a3z:∀{l:List Nat},(∀x∈l,p x=true->q x=true)->(∃x∈l,q x=true/\p x=false)->(l.filter p).length<(l.filter q).length
 |[],_,⟨_,h,_⟩=>by simp at h
 |x::l,h,⟨y,hy,q1,p1⟩=>by
  have le:(l.filter p).length<=(l.filter q).length:=by
   clear hy q1 p1 y
   induction l with
   |nil=>simp
   |cons z l ih =>
    have ih:=ih λy hy=>h y (by simp only[ay]at hy ⊢;rcases hy with e|e<;>simp[e])
    have hz:=h z (by simp)
    rw[eB,eB]
    cases e1:p z with
    |true=>rw[hz e1];simp only[cQ,aW];omega
    |false=>cases q z<;>simp<;>omega
  rw[eB,eB]
  rcases ay.mp hy with rfl|hy
  ·rw[q1,p1];simp only[cQ,bA,cM,aW];omega
  ·have lt:=a3z (l:=l) (λz hz=>h z (ai _ hz)) ⟨y,hy,q1,p1⟩
   cases e1:p x with
   |true=>rw[h x aP e1];simp only[cQ,aW];omega
   |false=>cases q x<;>simp<;>omega
theorem aG{n:Nat}{P:Nat->Nat->Bool}(anti:∀k x,x<n->P (k+1) x=true->P k x=true)(det:∀k,(∀x,x<n->P k x=P (k+1) x)->∀x,x<n->P (k+1) x=P (k+2) x):∀k x,x<n->P n x=true->P (n+k) x=true:=by
 have key:∀k,cnt n (P k)<=n-k\/∃j,j<=k/\∀x,x<n->P j x=P (j+1) x:=by
  intro k
  induction k with
  |zero=>exact .inl (by unfold cnt;exact c9 (fm _ _) (by simp))
  |succ k ih =>
   rcases ih with ih|⟨j,hj,e⟩
   ·by_cases c:∃x∈List.range n,P k x=true/\P (k+1) x=false
    ·have:=a3z (p:=P (k+1)) (q:=P k) (l:=List.range n) (λx hx=>anti k x (aX.mp hx)) c
     exact .inl (by unfold cnt at ih ⊢;omega)
    ·refine .inr ⟨k,Nat.le_succ _,λx hx=>?_⟩
     cases e1:P k x with
     |true =>
      cases e2:P (k+1) x with
      |true=>rfl
      |false=>exact(c ⟨x,aX.mpr hx,e1,e2⟩).elim
     |false =>
      cases e2:P (k+1) x with
      |true=>rw[anti k x hx e2]at e1;cases e1
      |false=>rfl
   ·exact .inr ⟨j,gF hj,e⟩
 have stay:∀j,(∀x,x<n->P j x=P (j+1) x)->∀k x,x<n->P (j+k) x=P j x:=by
  intro j e k
  have step:∀k x,x<n->P (j+k) x=P (j+k+1) x:=by
   intro k
   induction k with
   |zero=>exact e
   |succ k ih=>exact det _ ih
  induction k with
  |zero=>intro x _;rfl
  |succ k ih=>intro x hx;rw[<-ih x hx];exact(step k x hx).symm
 intro k x hx h
 rcases key n with z|⟨j,hj,e⟩
 ·have:x∈(List.range n).filter (P n):=dS.mpr ⟨aX.mpr hx,h⟩
  have:=eU this
  unfold cnt at z;omega
 ·have e1:=stay j e (n-j) x hx;have e2:=stay j e (n-j+k) x hx;rw[show j+(n-j)=n by omega]at e1
  rw[show j+(n-j+k)=n+k by omega]at e2
  rw[e2,<-e1];exact h
end RCH
namespace K30
open L2 MI AT HND EVX
open SRC (axk axl)
theorem au7{ck:Hd->Prop}{f:D->Hd->R (Option D)}{α:Type}(g:α->D)(F:α->Option D){h:Hd}(c:ck h):∀{xs:List α},(∀x∈xs,f (g x) h=.ok (F x) h)->aga ck f (xs.map g) h=.ok (xs.filterMap F) h
 |[],_=>by rw[bO,aga,aQ c];rfl
 |x::xs,st=>by
  rw[aK,aga,aQ c,st x aP];show(aga _ f (xs.map g) h).bind _=_;rw[au7 g F c λy hy=>st y (ai _ hy)];show R.ok ((F x).toList++_) h=_;rw[dM]
  cases F x<;>rfl
theorem au8{fi:SI}{t:D->Option Sd}{c:ST}{fe:SE}{ix:List Nat}{τ:Sd}{h:Hd}{α:Type}{ck:Hd->Prop}(g:α->D)(F:α->Option D)(xs:List α)(hc:ck h)(e:fi τ h=.ok ⟨xs.map g,ck⟩ h)(z:xs.length<=LINE)
  (st:∀x∈xs,a8r t c fe (frs' ix τ) (g x) h=.ok (F x) h):a4r fi t c fe ix τ h=.ok (.ref h.length) (h++[.lst (xs.filterMap F)]):=by
 unfold a4r;rw[e,aq];dsimp only;rw[aQ (by rw[a9];exact z),au7 g F hc st]
 rfl
abbrev au9(r:List Nat):O:=.lst (r.map ak)
def refs(k:Nat):List D:=(List.range k).map λj=>.ref (3+j)
def HS(u:O)(bs:List Nat)(k:Nat)(rs:List (List Nat)):Hd:=u::.lst (bs.map ak)::.lst (refs k)::rs.map au9
variable{u:O}{bs:List Nat}{rs:List (List Nat)}{cur:List Nat}{k n s:Nat}
theorem akp:(HS u bs k rs).length=3+rs.length:=by simp[HS];omega
theorem ap3:(HS u bs k rs)[1]? = some (.lst (bs.map ak)):=rfl
theorem ayw:(HS u bs k rs)[2]? = some (.lst (refs k)):=rfl
theorem afq:(HS u bs k (rs++[cur]))[3+rs.length]? = some (au9 cur):=by
 unfold HS;rw[show 3+rs.length=rs.length+1+1+1 by omega]
 simp
theorem akq:isL (.ref (3+rs.length)) (HS u bs k (rs++[cur]))=true:=by unfold isL;simp only[afq]
theorem akr(c:List Nat):(HS u bs k (rs++[cur])).set (3+rs.length) (au9 c)=HS u bs k (rs++[c]):=by
 unfold HS;rw[show 3+rs.length=rs.length+1+1+1 by omega]
 simp only[bI,bC,aK,bO];rw[show rs.length=(rs.map au9).length by rw[a9],fq _ _ (ah _),gc]
 rfl
theorem aks(cu:a0g 0 u)(kl:k<=rs.length):∀o∈HS u bs k rs,a0g (HS u bs k rs).length o:=by
 intro o ho
 rw[akp];unfold HS at ho;simp only[ay]at ho
 rcases ho with rfl|rfl|rfl|ho
 ·exact vg (bU _) cu
 ·exact dg _
 ·exact vp.mpr λx hx=>by
   obtain⟨j,hj,rfl⟩:=aE.mp hx;have:=aX.mp hj;show 3+j<3+rs.length;omega
 ·obtain⟨r,_,rfl⟩:=aE.mp ho;exact dg _
def dist(n:Nat)(bs:List Nat):Nat:=RCH.cnt n λx=>decide (x∈bs)
structure Spl (n s:Nat) (bs:List Nat) (rs:List (List Nat)) (cur:List Nat):Prop where
 lt:∀b∈bs,b<n
 z:bs[0]? = some 0
 cn:bs.length+(n-dist n bs)<=32
 rw:∀r∈rs,aom s bs.length r
 cu:∀x∈cur,x<bs.length
 tr:∀r,1<=r->r<bs.length->∃p row,p<r/\(rs++[cur])[p]? = some row/\r∈row
theorem a94:dist n bs<=n:=by
 unfold dist RCH.cnt;have:=fm (λx=>decide (x∈bs)) (List.range n)
 rwa[aO]at this
theorem abu{t:Nat}(ht:t<n)(nt:t∉bs):dist n bs<dist n (bs++[t]):=by
 unfold dist RCH.cnt;refine RCH.a3z (λx _ h=>aS (cX _ (gJ h))) ⟨t,aX.mpr ht,aS (by simp),aR nt⟩
theorem aag{t:Nat}(ht:t<n)(h:t∈bs):0<dist n bs:=by
 unfold dist RCH.cnt;exact eU (dS.mpr ⟨aX.mpr ht,aS h⟩)
theorem Spl.len(P:Spl n s bs rs cur):bs.length<=32:=by have:=P.cn;omega
theorem Spl.new(P:Spl n s bs rs cur){t:Nat}(ht:t<n)(kb:rs.length<bs.length)(c:t∉bs\/bs.length+n<=32):Spl n s (bs++[t]) rs (cur++[bs.length]):=by
 have cn:=P.cn;have dl:=a94 (n:=n) (bs:=bs);refine⟨λb hb=>?_,?_,?_,λr hr=>⟨(P.rw r hr).1,λx hx=>?_⟩,λx hx=>?_,λr r1 r2=>?_⟩
 ·rcases bB.mp hb with h|h
  ·exact P.lt b h
  ·rw[aI.mp h];exact ht
 ·rw[ax (by omega)];exact P.z
 ·rw[ag,aM]
  by_cases nt:t∉bs
  ·have:=abu ht nt;have:=a94 (n:=n) (bs:=bs++[t]);omega
  ·have:=c.resolve_left nt
   have h0:=aag (bs:=bs++[t]) ht (by simp)
   omega
 ·have:=(P.rw r hr).2 x hx;rw[ag];omega
 ·rw[ag,aM]
  rcases bB.mp hx with h|h
  ·have:=P.cu x h;omega
  ·rw[aI.mp h];omega
 ·rw[ag,aM]at r2
  by_cases e:r=bs.length
  ·exact⟨rs.length,cur++[bs.length],by omega,by simp,by rw[e];simp⟩
  ·obtain⟨p,row,a,b,c⟩:=P.tr r r1 (by omega)
   by_cases ep:p<rs.length
   ·exact⟨p,row,a,by rw[ax ep]at b ⊢;exact b,c⟩
   ·have:p=rs.length:=by
     have:=(a7.mp b).1
     rw[ag,aM]at this;omega
    subst this;rw[aw (ah _),gc]at b;cases b
    exact⟨rs.length,cur++[bs.length],a,by simp,cX _ c⟩
theorem Spl.old(P:Spl n s bs rs cur){x:Nat}(hx:x<bs.length):Spl n s bs rs (cur++[x]):=by
 refine⟨P.lt,P.z,P.cn,P.rw,λy hy=>?_,λr r1 r2=>?_⟩
 ·rcases bB.mp hy with h|h
  ·exact P.cu y h
  ·rw[aI.mp h];exact hx
 ·obtain⟨p,row,a,b,c⟩:=P.tr r r1 r2
  by_cases ep:p<rs.length
  ·exact⟨p,row,a,by rw[ax ep]at b ⊢;exact b,c⟩
  ·have:p=rs.length:=by
    have:=(a7.mp b).1
    rw[ag,aM]at this;omega
   subst this;rw[aw (ah _),gc]at b;cases b
   exact⟨rs.length,cur++[x],a,by simp,cX _ c⟩
theorem Spl.done(P:Spl n s bs rs cur)(lc:cur.length=s):Spl n s bs (rs++[cur]) []:=by
 refine⟨P.lt,P.z,P.cn,λr hr=>?_,by simp,λr r1 r2=>?_⟩
 ·rcases bB.mp hr with h|h
  ·exact P.rw r h
  ·rw[aI.mp h];exact⟨lc,P.cu⟩
 ·obtain⟨p,row,a,b,c⟩:=P.tr r r1 r2;exact⟨p,row,a,by rw[ax (a7.mp b).1];exact b,c⟩
abbrev τP(rows:List (List Int))(ks:List Int)(a b c:Option D):Sd:=[some (.ref 0),some (.rol (rows.map a0r)),some (.rol (ks.map D.int)),some (.ref 1),some (.ref 2),a,b,c]
def smI(bs:List Nat)(t:Nat):List Nat:=(((List.range bs.length).zip bs).filter λp=>decide (p.2=t)).map (·.1)
theorem axn{t x:Nat}(h:x∈smI bs t):x<bs.length:=by
 obtain⟨p,hp,rfl⟩:=aE.mp h;exact aX.mp (eF (dS.mp hp).1).1
theorem aon{t:Nat}(h:smI bs t=[]):t∉bs:=λm=>by
 obtain⟨j,hj,e⟩:=bW m;have:(j,bs[j])∈(List.range bs.length).zip bs:=fB.mpr ⟨j,by simpa using hj,by simp⟩
 have:j∈smI bs t:=aE.mpr ⟨_,dS.mpr ⟨this,aS e⟩,rfl⟩
 rw[h]at this;cases this
theorem aua{t:Nat}:(smI bs t).length<=bs.length:=by
 unfold smI;rw[a9];have:=fm (λp:Nat×Nat=>decide (p.2=t)) ((List.range bs.length).zip bs);rw[de,aO,fZ]at this;exact this
theorem abv{N:Nat}{rows:List (List Int)}{ks:List Int}{c7:Option D}{t:Nat}(P:Hand u N)(hN:N<=999999000)(S':Spl n s bs rs cur)(lr:rows.length=n)(cl:cur.length<=6)(kb:rs.length<bs.length)(ht:t<n) :
  ∃(u':O) (bs':List Nat) (x:Nat) (c7':Option D),jt aa (τP rows ks (some (.ref (3+rs.length))) (some (ak t)) c7) (HS u bs rs.length (rs++[cur]))=.nx (τP rows ks (some (.ref (3+rs.length))) (some (ak t)) c7') (HS u' bs' rs.length (rs++[cur++[x]]))/\Hand u' (N+2)/\Spl n s bs' rs (cur++[x])/\bs.length<=bs'.length:=by
 have bl:=S'.len;have sl:=aua (bs:=bs) (t:=t);obtain⟨y,o1,e1,y0,y1,P1⟩:=qg (m:=4) P (by omega) (by omega) (by omega)
 have c1:j6 false 2 aa [.ref 0,.int 4] (HS u bs rs.length (rs++[cur]))=.ok (.int y) (HS o1 bs rs.length (rs++[cur])):=e1 0 _ rfl;have atg:∀{u:O} {τ:Sd},τ[3]? = some (some (.ref 1))->sA jx (aj (sV 3) bj) τ (HS u bs rs.length (rs++[cur]))=.ok (ak bs.length) (HS u bs rs.length (rs++[cur])):=λh3=>by
  refine qu (ao h3) ?_;rw[yq];show R.ok (D.int ((bs.map ak).length:Nat)) _=_;rw[a9]
 have cz:sZ (a4r (a1r (sV 3)) (tN 2) (p7 aa) (ym aa) [6]) (τP rows ks (some (.ref (3+rs.length))) (some (ak t)) c7) (HS u bs rs.length (rs++[cur]))=.ok (.rol ((smI bs t).map ak)) (HS u bs rs.length (rs++[cur])):=by
  have ef:(((List.range bs.length).zip bs).filterMap λp:Nat×Nat=>if p.2=t then some (ak p.1) else none)=(smI bs t).map ak:=by
   unfold smI;rw[aV]
   induction (List.range bs.length).zip bs with
   |nil=>rfl
   |cons p l ih =>
    rw[dM,eB]
    by_cases e:p.2=t
    ·simp only[e,dY,cQ,aK,ih];rfl
    ·simp only[e,dJ,cM,ih,bA]
  rw[<-ef];refine yj (au8 (ck:=λh=>h[1]? = some (.lst (bs.map ak))) (λp:Nat×Nat=>D.tup [.int (p.1:Nat),ak p.2]) (λp:Nat×Nat=>if p.2=t then some (ak p.1) else none) ((List.range bs.length).zip bs) ap3 ?_ (dq (by rw[de,aO,fZ];omega)) λp _=>?_) (by rw[ef];exact dg _) (aks P.clo (by simp))
  ·unfold a1r;rw[ao rfl,aq];unfold aej srcOf;simp only[ap3]
   congr 2
   rw[a9,List.zip_map_right,aV];rfl
  ·have q:∀h:Hd,hEq (ak p.2) (ak t) h=.ok (.bl (decide (p.2=t))) h:=λh=>by
    by_cases e:p.2=t
    ·rw[aS e,e];exact a91 rfl
    ·rw[aR e];exact a6f (by omega)
   unfold a8r;rw[show tN 2 (D.tup [.int (p.1:Nat),ak p.2])=some [some (.int (p.1:Nat)),some (ak p.2)] from rfl]
   show((p7 aa) [some (.int (p.1:Nat)),some (ak p.2),some (ak t)] _).bind _=_;rw[show(p7 aa) [some (.int (p.1:Nat)),some (ak p.2),some (ak t)] (HS u bs rs.length (rs++[cur]))=.ok (decide (p.2=t)) _ from t2s (ao rfl) (ao rfl) (q _),aq]
   by_cases e:p.2=t
   ·simp only[e,dY,cQ];rfl
   ·simp only[e,dJ,cM,bA]
 have len7:∀{u:O} {τ:Sd},τ[7]? = some (some (.rol ((smI bs t).map ak)))->sA jx (aj (sV 7) bj) τ (HS u bs rs.length (rs++[cur]))=.ok (ak (smI bs t).length) (HS u bs rs.length (rs++[cur])):=λh7=>qu (ao h7) (by rw[a1d,a9])
 have mk:∀{o:O},(t∉bs\/bs.length+n<=32)->Hand o (N+2)->∃(u':O) (bs':List Nat) (x:Nat) (c7':Option D),di (vm (sML a2a (sV 5) (aj (sA jx (aj (sV 3) bj)) bj))) (vm (sML a2a (sV 3) (aj (sV 6) bj))) (τP rows ks (some (.ref (3+rs.length))) (some (ak t)) (some (.rol ((smI bs t).map ak)))) (HS o bs rs.length (rs++[cur]))=.nx (τP rows ks (some (.ref (3+rs.length))) (some (ak t)) c7') (HS u' bs' rs.length (rs++[cur++[x]]))/\Hand u' (N+2)/\Spl n s bs' rs (cur++[x])/\bs.length<=bs'.length:=λ{o} c Po=>by
  refine⟨o,bs++[t],bs.length,some (.rol ((smI bs t).map ak)),?_,Po,S'.new ht kb c,by simp⟩
  refine b6 (zg (zj (ao rfl) akq (arg1 (atg rfl)) (a0v afq (by rw[a9];exact yg (by omega))))) ?_
  rw[show(cur.map ak++[ak bs.length])=(cur++[bs.length]).map ak by simp,akr]
  refine(zj (ao rfl) rfl (arg1 (ao rfl)) (a0v ap3 (by rw[a9];exact yg (by omega)))).trans ?_
  rw[show(bs.map ak++[ak t])=(bs++[t]).map ak by simp]
  rfl
 unfold jt
 by_cases e0:smI bs t=[]
 ·obtain⟨u',bs',x,c',e,r⟩:=mk (o:=u) (.inl (aon e0)) (P.up (by omega))
  refine⟨u',bs',x,c',b6 (jy cz) (b6 (ifT (orT (t2s (len7 rfl) ckk (a91 (by rw[e0];rfl))))) e),r⟩
 have l0:(smI bs t).length≠0:=λz=>e0 (eK.mp z);have le1:∀{u:O} {τ:Sd},τ[3]? = some (some (.ref 1))->τ[1]? = some (some (.rol (rows.map a0r)))->s2 lq (sA jx (aj (sV 3) bj)) (sA jx (aj (sV 1) bj)) τ (HS u bs rs.length (rs++[cur]))=.ok (ak (bs.length+n)) (HS u bs rs.length (rs++[cur])):=λh3 h1=>(u5 (atg h3) (qu (ao h1) (a1d.trans (by rw[a9,lr]))) a0u).trans rfl
 have ol:∀{o:O} {M:Nat},Hand o M->M+1<=N+2->∃(u':O) (bs':List Nat) (x:Nat) (c7':Option D),vm (sML a2a (sV 5) (aj (s2 gIx (sV 7) (sA (j6 false 2 aa) (aj (sV 0) (aj (sA jx (aj (sV 7) bj)) bj)))) bj)) (τP rows ks (some (.ref (3+rs.length))) (some (ak t)) (some (.rol ((smI bs t).map ak)))) (HS o bs rs.length (rs++[cur]))=.nx (τP rows ks (some (.ref (3+rs.length))) (some (ak t)) c7') (HS u' bs' rs.length (rs++[cur++[x]]))/\Hand u' (N+2)/\Spl n s bs' rs (cur++[x])/\bs.length<=bs'.length:=λ{o M} Po hM=>by
  obtain⟨z,o2,e2,z0,z1,P2⟩:=qg (m:=((smI bs t).length:Nat)) Po (by omega) (by omega) (by omega)
  obtain⟨z,rfl⟩:=cL z0;have hz:z<(smI bs t).length:=by omega
  have c2:j6 false 2 aa [.ref 0,ak (smI bs t).length] (HS o bs rs.length (rs++[cur]))=.ok (ak z) (HS o2 bs rs.length (rs++[cur])):=e2 0 _ rfl;refine⟨o2,bs,(smI bs t)[z],some (.rol ((smI bs t).map ak)),?_,P2.up hM,S'.old (axn (br hz)),ah _⟩;refine(zj (ao rfl) akq (arg1 (u5 (ao rfl) (a0p (ao rfl) (len7 rfl) c2) (ap2 (by rw[ar,a6 hz];rfl)))) (a0v afq (by rw[a9];exact yg (by omega)))).trans ?_
  rw[show(cur.map ak++[ak (smI bs t)[z]])=(cur++[(smI bs t)[z]]).map ak by simp,akr]
 have n0:∀{u:O} {τ:Sd},τ[7]? = some (some (.rol ((smI bs t).map ak)))->sT (s2 hEq (sA jx (aj (sV 7) bj)) (sI 0)) τ (HS u bs rs.length (rs++[cur]))=.ok false (HS u bs rs.length (rs++[cur])):=λh7=>t2s (len7 h7) ckk (a6f (by omega))
 by_cases e32:bs.length+n<=32
 ·have t32:∀{τ:Sd},τ[3]? = some (some (.ref 1))->τ[1]? = some (some (.rol (rows.map a0r)))->sT (s2 gLe (s2 lq (sA jx (aj (sV 3) bj)) (sA jx (aj (sV 1) bj))) (sI 32)) τ (HS u bs rs.length (rs++[cur]))=.ok true (HS u bs rs.length (rs++[cur])):=λh3 h1=>t2s (le1 h3 h1) ckk (axk (by omega))
  by_cases hy:y=0
  ·obtain⟨u',bs',x,c',e,r⟩:=mk (o:=o1) (.inr e32) (P1.up (by omega))
   exact⟨u',bs',x,c',b6 (jy cz) (b6 (ifT (orF (n0 rfl) (avh (t32 rfl rfl) (t2s (a0p (ao rfl) ckk c1) ckk (a91 hy))))) e),r⟩
  ·obtain⟨u',bs',x,c',e,r⟩:=ol (o:=o1) P1 (by omega)
   exact⟨u',bs',x,c',b6 (jy cz) (b6 (ifF (orF (n0 rfl) (avh (t32 rfl rfl) (t2s (a0p (ao rfl) ckk c1) ckk (a6f hy))))) e),r⟩
 ·obtain⟨u',bs',x,c',e,r⟩:=ol (o:=u) P (by omega)
  exact⟨u',bs',x,c',b6 (jy cz) (b6 (ifF (orF (n0 rfl) (axb (t2s (le1 rfl rfl) ckk (axl (by omega)))))) e),r⟩
end K30
namespace K30
open L2 MI AT HND EVX
open SRC (axk axl cst a1f)
section
variable{u:O}{bs:List Nat}{rs:List (List Nat)}{cur:List Nat}{k n s:Nat}
noncomputable def m8:SF:=qt (wy aa) 8
theorem aub:a01 1 (HS u bs rs.length rs) 19 (.ref 2)=some (.rol (rs.map λr=>.rol (r.map ak))):=by
 have one:∀(i:Nat) (r:List Nat),1<=i->(HS u bs rs.length rs)[i]? = some (au9 r)->a01 1 (HS u bs rs.length rs) 18 (.ref i)=some (.rol (r.map ak)):=λi r hi e=>a65 hi e (dg _);have all:v4 (a01 1 (HS u bs rs.length rs) 18) (refs rs.length)=some (rs.map λr=>.rol (r.map ak)):=by
  have go:∀(k:Nat) (xs:List (List Nat)),(∀j r,xs[j]? = some r->rs[k+j]? = some r)->v4 (a01 1 (HS u bs rs.length rs) 18) ((List.range' k xs.length).map λj=>D.ref (3+j))=some (xs.map λr=>.rol (r.map ak)):=by
   intro k xs
   induction xs generalizing k with
   |nil=>intro _;rfl
   |cons r xs ih =>
    intro hk
    rw[aW,gQ,aK,aK];refine a0c (one (3+k) r (by omega) ?_) (ih (k+1) λj r' e=>?_)
    ·have:=hk 0 r rfl
     unfold HS;rw[show 3+k=k+1+1+1 by omega]
     simp only[b9,ar];rw[show k+0=k by omega]at this
     rw[this];rfl
    ·have:=hk (j+1) r' (by simpa using e)
     rw[show k+1+j=k+(j+1) by omega];exact this
  have:=go 0 rs (λj r e=>by simpa using e)
  rw[<-List.range_eq_range']at this;exact this
 unfold a01;rw[bg (by simp only[MI.clo];omega)]
 simp only[ayw,all,cB]
theorem aoo{N:Nat}{rows:List (List Int)}{ks:List Int}{b c:Option D}(P:Hand u N)(hN:N<=999999000-12)(S0:Spl n s bs rs [])(lr:rows.length=n)(s6:s<=6)(kb:rs.length<bs.length){row:List Nat}(ls:row.length=s)(rn:∀x∈row,x<n) :
  ∃(u':O) (bs' cur':List Nat) (b' c':Option D),forL (λ_=>True) (kN 6) (jt aa) (row.map ak) (τP rows ks (some (.ref (3+rs.length))) b c) (HS u bs rs.length (rs++[[]]))=.nx (τP rows ks (some (.ref (3+rs.length))) b' c') (HS u' bs' rs.length (rs++[cur']))/\Hand u' (N+12)/\Spl n s bs' rs cur'/\cur'.length=s/\bs.length<=bs'.length:=by
 have lp:=um (g:=kN 6) (b:=jt aa) ak
  (λpre τ hh=>∃(u':O) (bs' cur':List Nat) (b' c':Option D),τ=τP rows ks (some (.ref (3+rs.length))) b' c'/\hh=HS u' bs' rs.length (rs++[cur'])/\Hand u' (N+2*pre.length)/\Spl n s bs' rs cur'/\cur'.length=pre.length/\bs.length<=bs'.length) row (τP rows ks (some (.ref (3+rs.length))) b c) (HS u bs rs.length (rs++[[]])) ?_
  ⟨u,bs,[],b,c,rfl,rfl,P,S0,rfl,ah _⟩
 ·obtain⟨τ',h',e,u',bs',cur',b',c',rfl,rfl,P',S',lc,bb⟩:=lp;exact⟨u',bs',cur',b',c',e,P'.up (by omega),S',by omega,bb⟩
 ·rintro pre t post τ hh all ⟨u1,bs1,cur1,b1,c1,rfl,rfl,P1,S1,lc,bb⟩
  have tn:t<n:=rn t (by rw[all];simp)
  have pl:pre.length<s:=by rw[<-ls,all];simp
  obtain⟨u2,bs2,x,c2,e,P2,S2,b2⟩:=abv (ks:=ks) (c7:=c1) P1 (by omega) S1 lr (by omega) (by omega) tn
  exact⟨_,_,rfl,_,_,e,u2,bs2,cur1++[x],_,_,rfl,rfl,P2.up (by rw[ag,aM];omega),S2,by rw[ag,ag,lc];rfl,by omega⟩
def ayx(m:Nat)(rs:List (List Int)):Prop:=∀r,1<=r->r<m->∃(p:Nat) (row:List Int),p<r/\rs[p]? = some row/\((r:Nat):Int)∈row
theorem aj9{o:O}{N:Nat}{rows:List (List Int)}{ks:List Int}(P:Hand o N)(hN:N<=999990000)(n1:1<=n)(n32:n<=32)(s6:s<=6)(lr:rows.length=n)(qr:∀r∈rows,zy s n r)(lk:ks.length=n)(k0:ks[0]? = some (-1))(kk:∀k∈ks,KOk k) :
  ∃(m:Nat) (rs:List (List Int)) (ts:List Int) (o':O),1<=m/\m<=32/\rs.length=m/\(∀r∈rs,zy s m r)/\ts.length=m/\ts[0]? = some (-1)/\(∀k∈ts,KOk k)/\ayx m rs/\Dr m8 3 [.rol (rows.map a0r),.rol (ks.map D.int)] o (.tup [.rol (rs.map a0r),.rol (ts.map D.int)]) o'/\Hand o' (N+400):=by
 have S0:Spl n s [0] [] []:=⟨by simp;omega,rfl,by
  have:=aag (n:=n) (bs:=[0]) (t:=0) (by omega) (by simp)
  have:=a94 (n:=n) (bs:=[0])
  simp only[aM];omega,by simp,by simp,λr r1 r2=>by simp at r2;omega⟩
 have w:=abe (c:=uo aa) (f:=uq aa)
  (λm τ hh=>∃(u:O) (bs:List Nat) (rs:List (List Nat)) (a b c:Option D),τ=τP rows ks a b c/\hh=HS u bs rs.length rs/\Hand u (N+12*rs.length)/\Spl n s bs rs []/\rs.length<=bs.length/\m=33-rs.length)
  (λτ hh=>∃(u:O) (bs:List Nat) (rs:List (List Nat)) (a b c:Option D),τ=τP rows ks a b c/\hh=HS u bs rs.length rs/\Hand u (N+12*rs.length)/\Spl n s bs rs []/\rs.length=bs.length)
  (λ_ _=>False) ?_ 33 100000 (τP rows ks none none none) (HS o [0] 0 []) (by omega) ⟨o,[0],[],none,none,none,rfl,rfl,P,S0,by simp,rfl⟩
 ·rcases w with⟨τ',h',e,u,bs,rs,a,b,c,rfl,rfl,Pu,Sp,le⟩|⟨_,_,_,z⟩
  ·have bl:=Sp.len;have b1:1<=bs.length:=by have:=(a7.mp Sp.z).1;omega
   have kg:∀b∈bs,∃k,ks[b]? = some k/\KOk k:=λb hb=>by
    have:=Sp.lt b hb
    have hl:b<ks.length:=by omega
    exact⟨ks[b],a6 hl,kk _ (br hl)⟩
   let ts:List Int:=bs.map λb=>(ks[b]?).getD 0
   have cl:∀x∈[D.rol (rows.map a0r),.rol (ks.map D.int)],MI.clo 0 x:=λx hx=>by
    simp only[ay,bq,cK]at hx
    rcases hx with rfl|rfl
    ·exact j7 (bc λx _=>j7 (bc λy _=>bf y))
    ·exact j7 (bc λy _=>bf y)
   have cr:MI.clo 0 (.tup [.rol ((rs.map cst).map a0r),.rol (ts.map D.int)]):=du (bz (j7 (bc λx _=>j7 (bc λy _=>bf y))) (bz (j7 (bc λy _=>bf y)) kh));refine⟨bs.length,rs.map cst,ts,u,b1,bl,by rw[a9,le],λr hr=>?_,a9 _,?_,λk hk=>?_,λr r1 r2=>?_,Dr.of rfl cl P.clo (r:=.ok (.tup [.ref 2,.rol (ts.map D.int)]) (HS u bs rs.length rs)) ?_ ?_ cr Pu.clo,Pu.up (by omega)⟩
   ·obtain⟨r',hr',rfl⟩:=aE.mp hr;obtain⟨z1,z2⟩:=Sp.rw r' hr';refine⟨by rw[a9,z1],λx hx=>?_⟩
    obtain⟨y,hy,rfl⟩:=aE.mp hx;have:=z2 y hy;omega
   ·show(bs.map _)[0]? = _;rw[ar,Sp.z];show some ((ks[0]?).getD 0)=_;rw[k0];rfl
   ·obtain⟨b,hb,rfl⟩:=aE.mp hk;obtain⟨k,e,q⟩:=kg b hb;rw[e];exact q
   ·obtain⟨p,row,h1,h2,h3⟩:=Sp.tr r r1 r2;rw[ax (by omega)]at h2
    exact⟨p,cst row,h1,by rw[ar,h2];rfl,aE.mpr ⟨r,h3,rfl⟩⟩
   ·unfold m8;rw[dm];show toR (wy aa [some (.ref 0),some (.rol (rows.map a0r)),some (.rol (ks.map D.int)),none,none,none,none,none] [o])=_;unfold wy;refine etr (jy (d:=.ref 1) (h1:=[o,.lst [.int 0]]) rfl) ?_;refine etr (jy (d:=.ref 2) (h1:=HS o [0] 0 []) rfl) ?_;refine etr (zg e) ?_;have cz:sZ (jo (sIt (sV 3)) t1 (yo aa) [2]) (τP rows ks a b c) (HS u bs rs.length rs)=.ok (.rol (ts.map D.int)) (HS u bs rs.length rs):=by
     have em:ts.map D.int=bs.map λb=>D.int ((ks[b]?).getD 0):=aV ..;rw[em];refine yj (SRC.axm (ck:=λh=>h[1]? = some (.lst (bs.map ak))) ak (λb=>D.int ((ks[b]?).getD 0)) bs ap3 (a88 (ao rfl) (by unfold ah9;simp only[ap3])) (dq (by omega)) λb hb=>?_) (bc λy _=>bf _) (aks Pu.clo (ah _))
     obtain⟨k,e,_⟩:=kg b hb;rw[a6d];refine(u5 (ao rfl) (ao rfl) (ap2 (y:=.int k) (by rw[ar,e];rfl))).trans ?_
     rw[e];rfl
    exact aZ toR (a03 (a0p (ao rfl) cz avi))
   ·have ef:a01 1 (HS u bs rs.length rs) FU (.tup [.ref 2,.rol (ts.map D.int)])=some (.tup [.rol ((rs.map cst).map a0r),.rol (ts.map D.int)]):=by
     have er:(rs.map cst).map a0r=rs.map λr=>D.rol (r.map ak):=by
      rw[aV];exact bV λr _=>by show D.rol ((cst r).map D.int)=_;rw[<-a1f]
     rw[er];refine ai0 (k:=19) (a0c aub (a0c (a2t (j7 (bc λy _=>bf y))) rfl)) ?_
     intro z
     have:=vp.mp z (.ref 2) aP
     simp only[MI.clo]at this;omega
    exact a3s ef (by intro x hx;rw[show List.take 1 (HS u bs rs.length rs)=[u] from rfl,aI]at hx;subst hx;exact vg (by omega) Pu.clo)
  ·exact z.elim
 ·rintro m τ hh ⟨u,bs,rs,a,b,c,rfl,rfl,Pu,Sp,le,rfl⟩
  have bl:=Sp.len;have tc:uo aa (τP rows ks a b c) (HS u bs rs.length rs)=.ok (decide (rs.length<bs.length)) (HS u bs rs.length rs):=by
   have l4:sA jx (aj (sV 4) bj) (τP rows ks a b c) (HS u bs rs.length rs)=.ok (ak rs.length) (HS u bs rs.length rs):=qu (ao rfl) (by rw[yq];show R.ok (D.int ((refs rs.length).length:Nat)) _=_;unfold refs;rw[a9,aO])
   have l3:sA jx (aj (sV 3) bj) (τP rows ks a b c) (HS u bs rs.length rs)=.ok (ak bs.length) (HS u bs rs.length rs):=qu (ao rfl) (by rw[yq];show R.ok (D.int ((bs.map ak).length:Nat)) _=_;rw[a9])
   refine(t2s l4 l3 rfl).trans ?_
   congr 1
   exact decide_eq_decide.mpr (by omega)
  by_cases q:rs.length<bs.length
  ·rw[aS q]at tc;refine .inr ⟨_,tc,.inl ?_⟩;obtain⟨b0,hb0⟩:∃x,bs[rs.length]? = some x:=⟨_,a6 q⟩;have bn:b0<n:=Sp.lt b0 (aN hb0);obtain⟨row,hrow⟩:∃x,rows[b0]? = some x:=⟨_,a6 (by omega)⟩
   obtain⟨q1,q2⟩:=qr row (aN hrow)
   let rn:List Nat:=row.map Int.toNat
   have en:row.map D.int=rn.map ak:=by
    show _=(row.map Int.toNat).map ak;rw[aV];exact bV λx hx=>by have:=(q2 x hx).1;show D.int x=D.int ((x.toNat:Nat):Int);rw[Int.toNat_of_nonneg this]
   obtain⟨u',bs',cur',b',c',e,P',S',lc,bb⟩:=aoo (ks:=ks) (b:=b) (c:=c) Pu (by omega) Sp lr s6 q (row:=rn) (by show(row.map Int.toNat).length=s;rw[a9,q1]) (λx hx=>by
    obtain⟨y,hy,rfl⟩:=aE.mp hx;have:=q2 y hy;omega)
   refine⟨τP rows ks (some (.ref (3+rs.length))) b' c',HS u' bs' (rs++[cur']).length (rs++[cur']),33-(rs++[cur']).length,?_,?_,u',bs',rs++[cur'],_,_,_,rfl,rfl,P'.up (by rw[ag,aM];omega),S'.done lc,by rw[ag,aM];omega,rfl⟩
   ·unfold uq;have h5:j4 5 (sA MI.a1h bj) (τP rows ks a b c) (HS u bs rs.length rs)=.nx (τP rows ks (some (.ref (3+rs.length))) b c) (HS u bs rs.length (rs++[[]])):=by
     refine(avf (d:=.ref (3+rs.length)) (h1:=HS u bs rs.length (rs++[[]])) ?_).trans rfl;show R.ok (D.ref (HS u bs rs.length rs).length) (HS u bs rs.length rs++[.lst []])=_;rw[akp];unfold HS;simp
    refine b6 (zg h5) ?_;have l4:sA jx (aj (sV 4) bj) (τP rows ks (some (.ref (3+rs.length))) b c) (HS u bs rs.length (rs++[[]]))=.ok (ak rs.length) (HS u bs rs.length (rs++[[]])):=qu (ao rfl) (by rw[yq];show R.ok (D.int ((refs rs.length).length:Nat)) _=_;unfold refs;rw[a9,aO])
    have it:sIt (s2 gIx (sV 1) (s2 gIx (sV 3) (sA jx (aj (sV 4) bj)))) (τP rows ks (some (.ref (3+rs.length))) b c) (HS u bs rs.length (rs++[[]]))=.ok ⟨rn.map ak,λ_=>True⟩ (HS u bs rs.length (rs++[[]])) :=
     a88 (u5 (ao rfl) (u5 (ao rfl) l4 (a3w ap3 (by rw[ar,hb0];rfl))) (ap2 (y:=.rol (rn.map ak)) (by rw[ar,hrow];show some (D.rol (row.map D.int))=_;rw[en]))) rfl
    refine b6 (a3v it) ?_;rw[e,ql];refine(zj (ao rfl) rfl (arg1 (ao rfl)) (a0v ayw (by unfold refs;rw[a9,aO];exact yg (by omega)))).trans ?_
    rw[show refs rs.length++[D.ref (3+rs.length)]=refs (rs++[cur']).length by
     unfold refs;rw[ag,aM,fN,bC];rfl]
    rfl
   ·rw[ag,aM];omega
  ·rw[aR q]at tc;exact .inl ⟨_,tc,u,bs,rs,a,b,c,rfl,rfl,Pu,Sp,by omega⟩
theorem aja{l:List Nat}{G:List (List Nat)}{ts:List Int}{pl:List Nat}{rows:List (List Int)}(Tl:Tongue l)(n1:1<=n)(n32:n<=32)(l7:G.length=n)(q7:∀r∈G,aom l.length n r)(lt:ts.length=n)(t0:ts[0]? = some (-1))(tk:∀k∈ts,KOk k)(lr:rows.length=n)(pm:List.Perm pl (List.range n))(p0:pl[0]? = some 0)
  (mp:∀(j q:Nat) (row:List Int),pl[j]? = some q->rows[j]? = some row->G[q]? = some (row.map λx=>(pl[x.toNat]?).getD 0)) (tr:ayx n rows):Table.Ok ⟨l,G,ts⟩/\∀r,r<G.length->PN.Rch G r :=
 ⟨⟨Tl,(by omega:1<=G.length),(by omega:G.length<=32),by rw[l7];exact q7,(by omega:ts.length=G.length),t0,tk⟩,λr hr=>aj7 lr pm p0 mp tr r (by omega)⟩
noncomputable def gm:SF:=qt (ut o9 m7 gh m8 aa jg) 7
theorem a82{o:O}{N:Nat}(P:Hand o N)(hN:N<=999900000):∃(T:Table) (o':O),T.Ok/\(∀r,r<T.go.length->PN.Rch T.go r)/\Dr gm 1 [] o T.d o'/\Hand o' (N+4000):=by
 obtain⟨l,o1,T1,e1,P1⟩:=afe P (by omega)
 obtain⟨x,o2,e2,x0,x1,P2⟩:=qg (m:=5) P1 (by omega) (by omega) (by omega)
 obtain⟨y,o3,e3,y0,y1,P3⟩:=qg (m:=6) P2 (by omega) (by omega) (by omega)
 obtain⟨z,o4,e4,z0,z1,P4⟩:=qg (m:=32) P3 (by omega) (by omega) (by omega)
 obtain⟨n,u,n1,n32,Pu,eu⟩:∃(n:Nat) (u:O),1<=n/\n<=32/\Hand u (N+10)/\∀g:SS,di (j4 2 (s2 lq (sI 1) (sA (j6 false 2 aa) (aj (sV 0) (aj (sI 5) bj)))))
   (di (sIf (sT (s2 hEq (sA (j6 false 2 aa) (aj (sV 0) (aj (sI 6) bj))) (sI 0)))
    (j4 2 (s2 lq (sI 1) (sA (j6 false 2 aa) (aj (sV 0) (aj (sI 32) bj)))))
    sNx) g) [some (.ref 0),some (.str (S l)),none,none,none,none,none] [o1]=g [some (.ref 0),some (.str (S l)),some (.int (n:Nat)),none,none,none,none] [u]:=by
  have c2:j6 false 2 aa [.ref 0,.int 5] [o1]=.ok (.int x) [o2]:=e2 0 _ rfl;have c3:j6 false 2 aa [.ref 0,.int 6] [o2]=.ok (.int y) [o3]:=e3 0 _ rfl;have c4:j6 false 2 aa [.ref 0,.int 32] [o3]=.ok (.int z) [o4]:=e4 0 _ rfl
  by_cases hy:y=0
  ·refine⟨(1+z).toNat,o4,by omega,by omega,P4,λg=>?_⟩
   rw[show(((1+z).toNat:Nat):Int)=1+z by omega]
   refine b6 (jy (u5 ckk (a0p (ao rfl) ckk c2) a0u)) ?_;exact zg (b6 (ifT (t2s (a0p (ao rfl) ckk c3) ckk (a91 hy))) (avf (u5 ckk (a0p (ao rfl) ckk c4) a0u)))
  ·refine⟨(1+x).toNat,o3,by omega,by omega,P3.up (by omega),λg=>?_⟩
   rw[show(((1+x).toNat:Nat):Int)=1+x by omega]
   refine b6 (jy (u5 ckk (a0p (ao rfl) ckk c2) a0u)) ?_;exact ifN (t2s (a0p (ao rfl) ckk c3) ckk (a6f hy))
 obtain⟨rows,o5,l5,q5,e5,P5⟩:=aok Pu (by omega) T1.lo T1.hi n1 n32
 obtain⟨ks,o6,l6,k0,kk,e6,P6⟩:=kinds_ok P5 (by omega) n1 n32
 obtain⟨m,rs,us,o7,m1,m32,lr,qr,lu,u0,uk,tr,e7,P7⟩:=aj9 P6 (by omega) n1 n32 T1.hi l5 q5 l6 k0 kk
 obtain⟨G,ts,o8,l8,q8,lt,t0,tk,e8,P8,pl,pm,p0,mp⟩:=a81 P7 (by omega) m1 m32 T1.hi lr qr lu u0 uk
 obtain⟨ok,rc⟩:=aja T1 m1 m32 l8 q8 lt t0 tk lr pm p0 mp tr;refine⟨⟨l,G,ts⟩,o8,ok,rc,?_,P8.up (by omega)⟩
 refine Dr.of rfl (by simp) P.clo (r:=.ok (Table.d ⟨l,G,ts⟩) [o8]) ?_ (j5 (aa5 (by omega) Table.clo) (by simpa using vg (by omega) P8.clo)) Table.clo P8.clo
 unfold gm;rw[dm];show toR (ut o9 m7 gh m8 aa jg [some (.ref 0),none,none,none,none,none,none] [o])=_;unfold ut;have c1:j6 false 1 jg [.ref 0] [o]=.ok (.str (S l)) [o1]:=e1 0 _ rfl;refine ets (qu (ao rfl) c1) ?_;refine etr (eu _) ?_;have c5:j6 false 3 o9 [.ref 0,.int (l.length:Nat),.int (n:Nat)] [u]=.ok (.rol (rows.map a0r)) [o5]:=e5 0 _ rfl;have c6:j6 false 2 m7 [.ref 0,.int (n:Nat)] [o5]=.ok (.rol (ks.map D.int)) [o6]:=e6 0 _ rfl;have c7:j6 false 3 m8 [.ref 0,.rol (rows.map a0r),.rol (ks.map D.int)] [o6]=.ok (.tup [.rol (rs.map a0r),.rol (us.map D.int)]) [o7]:=e7 0 _ rfl
 have c8:j6 false 3 gh [.ref 0,.rol (rs.map a0r),.rol (us.map D.int)] [o7]=.ok (.tup [.tup (G.map fj),.tup (ts.map D.int)]) [o8]:=e8 0 _ rfl;refine etr (zg (afb (ap1 (ao rfl) (ap1 (ao rfl) (qu (ao rfl) (ao9 (dq (by have:=T1.hi;omega)))) (ao rfl) c5) (a0p (ao rfl) (ao rfl) c6) c7) rfl)) ?_
 refine etr (zg (afb (ap1 (ao (i:=0) rfl) (ao (i:=3) rfl) (ao (i:=4) rfl) c8) rfl)) ?_;refine etr (a03 (ap1 (ao (i:=1) rfl) (ao (i:=5) rfl) (ao (i:=6) rfl) ayr)) ?_;rfl
end
end K30
namespace STP
open L2 MI AT HND EVX RCH
open K40
section
variable{T:Table}
abbrev Ent:=Nat×List Nat
variable{ps:Nat->Bool}{s:Nat}{es:List Ent}
theorem aop(hi:n<=i)(e:h[i]? = some (.dK kvs))(c:clos n (kvs.map (·.2))):a01 n h (k+2) (.ref i)=some (.rod (kvs.map (·.1)) (kvs.map (·.2))):=by
 unfold a01;rw[bg (by simp only[MI.clo];omega)]
 simp only[e];rw[a5z λx hx=>a2t (vp.mp c x hx)];rfl
end
end STP
namespace PRS
open L2 MI AT HND EVX
section
section
variable{α:Type}(f:α->D)
end
variable{T:Table}
end
end PRS
namespace K31
open L2 MI AT HND EVX NB
noncomputable def az:SF:=qt zc 3
theorem one{d:D}(h:clo 0 d):∀x∈[d],clo 0 x:=λx hx=>by rw[aI]at hx;subst hx;exact h
theorem a1g{α:Type}[DecidableEq α]{kd:α->D}{ob:List α->O}(Y:Kys kd ob){l:List α}{d:D}(ll:l.length<=1000)(cd:clo 0 d)(it:∀h,ah9 d h=.ok ⟨l.map kd,λ_=>True⟩ h):Pu az 1 [d] (.rol ((nb l).map ak)):=by
 have lp:=um (g:=kN 2) (b:=vz) kd (λpre τ h=>∃t:Option D,τ=[some d,some (.ref 0),t]/\h=[ob pre]) l [some d,some (.ref 0),none] [ob []] (λpre x post τ h all ⟨t,e1,e2⟩=>?_) ⟨none,rfl,rfl⟩
 ·obtain⟨τ',h',e,t,rfl,rfl⟩:=lp;refine Pu.of rfl (one cd) (r:=.ok (.ref 1) ([ob l]++[.lst ((nb l).map ak)])) ?_ (a2u (bU _) rfl (dg _) (by simp)) (j7 (dg _))
  unfold az;rw[dm];show toR (zc [some d,none,none] [])=_;unfold zc;refine etr (jy (d:=.ref 0) (h1:=[ob []]) (by rw[Y.nil];rfl)) ?_
  refine etr (a3v (a88 (ao rfl) (it _))) ?_;refine etr (aZ (λz=>MI.thn z _) e) ?_;rw[ql];refine etr (a03 (ig kd (λx=>ak (ix l x)) l (a88 (ao rfl) (it _)) (dq (by omega)) λx hx=>?_)) ?_
  ·show w6 [some (kd x),some (.ref 0)] [ob l]=_;unfold w6;exact u5 (ao rfl) (ao rfl) (Y.get l x hx)
  ·rw[a3r];unfold nb;rw[aV];rfl
 ·subst e1 e2;refine⟨_,_,rfl,[some d,some (.ref 0),some (kd x)],[ob (pre++[x])],?_,_,rfl,rfl⟩;unfold vz
  by_cases q:x∈pre
  ·refine b6 (ifF (t2s (ao rfl) (ao rfl) ((Y.out pre x).trans (by rw[aS q];rfl)))) ?_
   rw[Y.same pre x q];rfl
  ·refine b6 (ifT (t2s (ao rfl) (ao rfl) ((Y.out pre x).trans (by rw[aR q];rfl)))) ?_
   have lt:(bw pre).length<LINE:=yg (by
    have:=af6 pre
    have:=aZ List.length all
    rw[ag]at this;omega)
   exact aac (qu (ao rfl) (Y.len pre)) (ao rfl) (ao rfl) (Y.put pre x q lt)
theorem a1f(l:List Nat):l.map ak=(l.map Int.ofNat).map D.int:=by rw[aV];rfl
theorem auc{l:List Nat}{m:Nat}(h1:∀x∈l,x<m)(h2:m-1∈l):mxI (l.map Int.ofNat)=((m-1:Nat):Int):=by
 refine(aeo (aE.mpr ⟨_,h2,rfl⟩) λx hx=>?_).symm;obtain⟨y,hy,rfl⟩:=aE.mp hx;have:=h1 y hy;show(y:Int)<=((m-1:Nat):Int);omega
theorem axo{α:Type}[DecidableEq α]{l:List α}(h:l≠[]){hh:Hd}:a7o [.rol ((nb l).map ak)] hh=.ok (ak (cnt (nb l)-1)) hh:=by
 have p:=ake h;rw[a1f,asp (by unfold nb;cases l with|nil=>exact absurd rfl h|cons _ _=>simp),auc (m:=cnt (nb l)) (λx hx=>by rw[a7v];exact atj hx) (akf (by rw[a7v];omega))]
theorem aoq{f g k:SE}{τ:Sd}{h:Hd}{a x b:Int}(e1:f τ h=.ok (.int a) h)(e2:g τ h=.ok (.int x) h)(e3:k τ h=.ok (.int b) h):sCh gLe gLt f g k τ h=.ok (.bl (decide (a<=x) && decide (x<b))) h:=by
 unfold sCh;rw[e1,aq,e2,aq];show(R.ok (D.bl (decide (a<=x))) h).bind _=_;rw[aq]
 by_cases h1:a<=x
 ·rw[aS h1];dsimp only;rw[e3,aq];show R.ok (D.bl (decide (x<b))) h=_;rw[eO]
 ·rw[aR h1];rfl
section
variable{G:List (List Nat)}{ks:List Int}
structure Gt (G:List (List Nat)) (ks:List Int):Prop where
 n1:1<=G.length
 n32:G.length<=32
 rg:∀r∈G,∀x∈r,x<G.length
 w:∀r∈G,r.length<=6
 lk:ks.length=G.length
theorem b07(lk:ks.length=G.length)(n1:1<=G.length):∀t,(∃(α:Type) (_:DecidableEq α) (l:List α),l≠[]/\C G ks t=nb l)
 |0=>⟨Int,inferInstance,ks,λz=>by rw[z]at lk;simp at lk;omega,rfl⟩
 |t+1=>⟨_,inferInstance,key G (C G ks t),λz=>by have:=a8y (a0e lk t);rw[z]at this;simp at this;omega,rfl⟩
theorem ayy(g:Gt G ks)(t:Nat){hh:Hd}:a7o [.rol ((C G ks t).map ak)] hh=.ok (ak (cnt (C G ks t)-1)) hh/\1<=cnt (C G ks t)/\cnt (C G ks t)<=G.length:=by
 obtain⟨α,_,l,ne,e⟩:=b07 g.lk g.n1 t;have len:=a0e g.lk t;rw[e]at len ⊢;rw[a4v]at len;refine⟨axo ne,?_,?_⟩
 ·rw[a7v];exact ake ne
 ·rw[a7v,<-len];exact af6 l
theorem axp:Kys D.int (obI (λi:Int=>(.inl i:Key))):=afo (λ_ _ e=>fH e) (λ_=>rfl) λ_=>rfl
theorem axq:Kys ak (obI (λi:Nat=>(.inl (i:Int):Key))):=afo (λa b e=>by have:=fH e;omega) (λ_=>rfl) λ_=>rfl
def prK(p:Nat×List Nat):D:=.tup [ak p.1,fj p.2]
theorem a95:∀l:List Nat,a0n (l.map ak)=some (l.map Int.ofNat)
 |[]=>rfl
 |a::l=>by
  rw[aK];show(a0n (l.map ak)).map _=_;rw[a95 l];rfl
theorem axr:Kys prK (obN λp:Nat×List Nat=>((p.1:Int),p.2.map Int.ofNat)):=aj5 (λa b e=>by
  have e1:=aZ Prod.fst e;have e2:=aZ Prod.snd e;dsimp only at e1 e2;exact hW (by omega) ((g9 λx y h=>by have:=Int.ofNat.inj h;exact this).mp e2)) λp=>by
 show(a0n (p.2.map ak)).map _=_;rw[a95];rfl
theorem aah:clo 0 (.tup (G.map fj)):=du (bc λx _=>du (dg _))
theorem aai:clo 0 (.tup (ks.map D.int)):=du (bc λx _=>bf x)
theorem aud{c:List Nat}(l:c.length=G.length){f g:SE}{τ:Sd}{hh:Hd}(e1:f τ hh=.ok (.rol (c.map ak)) hh)(e2:g τ hh=.ok (.tup (G.map fj)) hh):agc f g τ hh=.ok ⟨(c.zip G).map λp=>.tup [ak p.1,fj p.2],λ_=>True⟩ hh:=by
 unfold agc;rw[e1,aq,e2,aq];unfold aoz;simp only[srcOf,h9];rw[List.zip_map,aV];rfl
theorem akt{c:List Nat}{x:Nat}(h:x<c.length){hh:Hd}:gIx (.rol (c.map ak)) (ak x) hh=.ok (ak (at' c x)) hh:=ap2 (by rw[ar,a3t h];rfl)
theorem aku{c:List Nat}{r:List Nat}{fe:SE}{τ:Sd}{hh:Hd}{ix:List Nat}{f:SE}(e:f τ hh=.ok (fj r) hh)(st:∀x∈r,fe (some (ak x)::frs' ix τ) hh=.ok (ak (at' c x)) hh)(rl:r.length<=100)(ch:∀o∈hh,a0g hh.length o) :
  sA jf (aj (sZ (jo (sIt f) t1 fe ix)) bj) τ hh=.ok (fj (r.map (at' c))) hh:=by
 refine qu (yj (ig ak (λx=>ak (at' c x)) r (a88 e rfl) (dq (by omega)) λx hx=>st x hx) (bc λx _=>bf _) ch) ?_
 show R.ok (D.tup (r.map λx=>ak (at' c x))) hh=R.ok (D.tup ((r.map (at' c)).map ak)) hh;rw[aV];rfl
theorem afr(g:Gt G ks){t:Nat}{k:D}:sZ (jo (agc (sV 2) (sV 0)) (tN 2) (wz az) [2]) [some (.tup (G.map fj)),some (.tup (ks.map D.int)),some (.rol ((C G ks t).map ak)),some k] []=.ok (.rol ((key G (C G ks t)).map prK)) []:=by
 have l:=a0e g.lk t
 generalize C G ks t=c at l
 have rl:∀p∈c.zip G,p.2.length<=6/\∀x∈p.2,x<c.length:=λp hp=>by
  have:=(eF hp).2
  exact⟨g.w _ this,λx hx=>by rw[l];exact g.rg _ this x hx⟩
 have zi:=aud (f:=sV 2) (g:=sV 0) (τ:=[some (.tup (G.map fj)),some (.tup (ks.map D.int)),some (.rol (c.map ak)),some k]) (hh:=[]) l (ao rfl) (ao rfl);refine b6 (yj (ig (h:=[]) (λp:Nat×List Nat=>D.tup [ak p.1,fj p.2]) (λp=>prK (p.1,p.2.map (at' c))) (c.zip G) zi (dq (by rw[de,l];have:=g.n32;omega)) λp hp=>?_) (bc λp _=>du (bz (bf _) (bz (du (dg _)) kh))) (by simp)) ?_
 ·show wz az [some (ak p.1),some (fj p.2),some (.rol (c.map ak))] []=_;obtain⟨r6,rx⟩:=rl p hp;unfold wz;refine a0p (ao rfl) (aku (c:=c) (r:=p.2) (ao rfl) (λx hx=>?_) (by omega) (by simp)) avi
  show zq az [some (ak x),some (.rol (c.map ak))] []=_;unfold zq;exact u5 (ao rfl) (ao rfl) (akt (rx x hx))
 ·unfold key;rw[aV];rfl
noncomputable def kj:SF:=qt (a1u az) 4
structure Last (G:List (List Nat)) (ks:List Int) (u:Nat):Prop where
 more:∀v,v<u->cnt (C G ks v)<cnt (C G ks (v+1))
 stop:cnt (C G ks (u+1))<=cnt (C G ks u)
theorem afs(g:Gt G ks):∃u,Last G ks u/\Pu kj 2 [.tup (G.map fj),.tup (ks.map D.int)] (.rol ((C G ks (u+1)).map ak)):=by
 have n32:=g.n32;have num0:Pu az 1 [.tup (ks.map D.int)] (.rol ((C G ks 0).map ak)):=a1g axp (by rw[g.lk];omega) aai λh=>rfl
 have numt:∀t,Pu az 1 [.rol ((key G (C G ks t)).map prK)] (.rol ((C G ks (t+1)).map ak)):=λt =>
  a1g axr (by rw[a8y (a0e g.lk t)];omega) (j7 (bc λp _=>du (bz (bf _) (bz (du (dg _)) kh)))) λh=>rfl
 have w:=abe (c:=xf az) (f:=zu az)
  (λm τ h=>∃(t k:Nat),τ=[some (.tup (G.map fj)),some (.tup (ks.map D.int)),some (.rol ((C G ks t).map ak)),some (ak k)]/\h=[]/\k+m=G.length+1/\((t=0/\k=0)\/∃u,t=u+1/\k=cnt (C G ks u)/\∀v,v<u->cnt (C G ks v)<cnt (C G ks (v+1))))
  (λτ h=>∃(u k:Nat),τ=[some (.tup (G.map fj)),some (.tup (ks.map D.int)),some (.rol ((C G ks (u+1)).map ak)),some (ak k)]/\h=[]/\Last G ks u)
  (λ_ _=>False) ?_ (G.length+1) 100000 [some (.tup (G.map fj)),some (.tup (ks.map D.int)),some (.rol ((C G ks 0).map ak)),some (ak 0)] [] (by omega) ⟨0,0,rfl,rfl,by omega,.inl ⟨rfl,rfl⟩⟩
 ·rcases w with⟨τ',h',e,u,k,rfl,rfl,la⟩|⟨_,_,_,z⟩
  ·refine⟨u,la,Pu.of rfl (λx hx=>?_) (r:=.ok (.rol ((C G ks (u+1)).map ak)) []) ?_ (j5 (j7 (dg _)) (by simp)) (j7 (dg _))⟩
   ·simp only[ay,bq,cK]at hx
    rcases hx with rfl|rfl
    ·exact aah
    ·exact aai
   ·unfold kj;rw[dm];show toR (a1u az [some (.tup (G.map fj)),some (.tup (ks.map D.int)),none,none] [])=_;unfold a1u;refine ets (qu (ao rfl) (num0 _)) ?_;refine etr (jy ckk) ?_;refine etr (zg e) ?_;exact aZ toR (a03 (ao rfl))
  ·exact z.elim
 ·rintro m τ h ⟨t,k,rfl,rfl,km,st⟩
  obtain⟨mx,c1,cn⟩:=ayy g t (hh:=[]);have tst:xf az [some (.tup (G.map fj)),some (.tup (ks.map D.int)),some (.rol ((C G ks t).map ak)),some (ak k)] []=.ok (decide (k<cnt (C G ks t))) []:=by
   unfold xf;refine tof ((aoq (ao rfl) (qu (ao rfl) mx) ckk).trans ?_)
   congr 2
   by_cases q:k<cnt (C G ks t)
   ·rw[aS q,cv,eR,eR]
    constructor
    ·show(k:Int)<=((cnt (C G ks t)-1:Nat):Int);omega
    ·show((cnt (C G ks t)-1:Nat):Int)<32;omega
   ·rw[aR q,Bool.and_eq_false_iff]
    left
    rw[decide_eq_false_iff_not];show ¬ (k:Int)<=((cnt (C G ks t)-1:Nat):Int);omega
  by_cases q:k<cnt (C G ks t)
  ·refine .inr ⟨_,tst.trans (by rw[aS q]),.inl ⟨[some (.tup (G.map fj)),some (.tup (ks.map D.int)),some (.rol ((C G ks (t+1)).map ak)),some (ak (cnt (C G ks t)))],[],G.length+1-cnt (C G ks t),?_,by omega,t+1,_,rfl,rfl,by omega,.inr ⟨t,rfl,rfl,λv hv=>?_⟩⟩⟩
   ·unfold zu;refine b6 (jy (u5 (qu (ao rfl) mx) ckk (a0u (i:=((cnt (C G ks t)-1:Nat):Int)) (j:=1)))) ?_;rw[show(((cnt (C G ks t)-1:Nat):Int)+1)=((cnt (C G ks t):Nat):Int) by omega]
    show j4 2 _ [some (.tup (G.map fj)),some (.tup (ks.map D.int)),some (.rol ((C G ks t).map ak)),some (ak (cnt (C G ks t)))] []=_;unfold j4;rw[qu (afr g) (numt t _)];rfl
   ·rcases st with⟨rfl,_⟩|⟨u,rfl,rfl,mo⟩
    ·omega
    ·by_cases e:v=u
     ·subst e;exact q
     ·exact mo v (by omega)
  ·refine .inl ⟨_,tst.trans (by rw[aR q]),?_⟩
   rcases st with⟨_,rfl⟩|⟨u,rfl,rfl,mo⟩
   ·omega
   ·exact⟨u,_,rfl,rfl,mo,by omega⟩
end
theorem akv:∀{ps qs:List (Key×D)},(qs.map (·.1)++ps.map (·.1)).Nodup->ps.foldl (λa p=>putD a p.1 p.2) qs=qs++ps
 |[],qs,_=>by simp
 |p::ps,qs,nd=>by
  have no:∀kv∈qs,¬ decide (kv.1=p.1)=true:=λkv hk z=>by
   rw[bD]at nd;exact nd.2.2 kv.1 (aE.mpr ⟨kv,hk,rfl⟩) p.1 (by simp) (gJ z)
  have e:putD qs p.1 p.2=qs++[p]:=by
   unfold putD;rw[bg λz=>by obtain⟨kv,hk,e⟩:=dQ.mp z;exact no kv hk e]
  rw[bL,e,akv (by simpa using nd)]
  simp
theorem aue{ps:List (Key×D)}(nd:(ps.map (·.1)).Nodup){p:Key×D}(h:p∈ps):a0b ps p.1=some p.2:=by
 induction ps with
 |nil=>cases h
 |cons a ps ih =>
  rw[aK,bX]at nd;unfold a0b;rw[cp]
  rcases ay.mp h with rfl|h
  ·simp
  ·have ne:¬ a.1=p.1:=λz=>nd.1 (z ▸ aE.mpr ⟨p,h,rfl⟩);rw[aR ne];exact ih nd.2 h
section
variable{T:Table}{c L:List Nat}
structure Ord (n:Nat) (L:List Nat):Prop where
 nd:L.Nodup
 all:∀r,r∈L↔r<n
 z:L[0]? = some 0
theorem Ord.len(o:Ord n L):L.length=n:=by
 have a:L.length<=(List.range n).length:=o.nd.length_le_of_subset λx hx=>aX.mpr ((o.all x).mp hx);have b:(List.range n).length<=L.length:=dA.length_le_of_subset λx hx=>(o.all x).mpr (aX.mp hx);rw[aO]at a b;omega
def agi(r:Nat):Key:=.inl (r:Int)
theorem aaj{a b:Nat}(e:agi a=agi b):a=b:=by have:=fH e;omega
theorem a83:∀L:List Nat,v4 a3p (L.map ak)=some (L.map agi)
 |[]=>rfl
 |a::L=>by
  rw[aK];unfold v4;rw[a83 L];rfl
def nums(L c:List Nat):List (Key×D):=L.map λr=>(agi r,ak (F L c r))
theorem aft:(nums L c).map (·.1)=L.map agi:=by unfold nums;rw[aV];rfl
theorem afu(nd:L.Nodup):((nums L c).map (·.1)).Nodup:=by
 rw[aft,List.nodup_iff_pairwise_ne,List.pairwise_map];exact nd.imp λh e=>h (aaj e)
theorem aor(nd:L.Nodup)(ll:L.length<=100){f g:SE}{τ:Sd}(e1:f τ []=.ok (.rol (L.map ak)) [])(e2:g τ []=.ok (.rol ((nb (L.map (at' c))).map ak)) []) :
  sZ (s2 abo f g) τ []=.ok (.rod ((nums L c).map (·.1)) ((nums L c).map (·.2))) []:=by
 have zp:(L.map agi).zip ((nb (L.map (at' c))).map ak)=nums L c:=by
  unfold nums nb F;rw[aV,aV,hV];rfl
 have e:s2 abo f g τ []=.ok (.ref 0) [.dK (nums L c)]:=by
  refine u5 e1 e2 ?_;unfold abo;simp only[srcOf,a83];rw[zp,aQ (dq (by unfold nums;rw[a9];omega))]
  unfold a8x;rw[akv (by simpa using afu nd)]
  rfl
 unfold sZ;rw[e];exact a3s (STP.aop (bU _) rfl (by unfold nums;rw[aV];exact bc λx _=>bf _)) (by simp)
theorem ajb(nd:L.Nodup){r:Nat}(h:r∈L){hh:Hd}:a2k (.rod ((nums L c).map (·.1)) ((nums L c).map (·.2))) (ak r) hh=.ok (ak (F L c r)) hh:=by
 unfold a2k;have e:age (.rod ((nums L c).map (·.1)) ((nums L c).map (·.2))) (ak r) hh=some (some (ak (F L c r))):=by
  show some (a0b (((nums L c).map (·.1)).zip ((nums L c).map (·.2))) (agi r))=_;rw[hV,show((nums L c).map λa=>(a.1,a.2))=nums L c from List.map_id _]
  exact aZ some (aue (afu nd) (p:=(agi r,ak (F L c r))) (aE.mpr ⟨r,h,rfl⟩))
 rw[e]
end
theorem ajc{ms:List Nat}{a:Nat}(nd:ms.Nodup):(L2.stepK ms a).Nodup:=by
 unfold L2.stepK
 split
 ·exact nd
 ·rename_i h;rw[bD];refine⟨nd,by simp,λx hx y hy e=>h ?_⟩
  rw[aI]at hy;rw[<-hy,<-e];exact hx
theorem a4a:∀(r ms:List Nat),ms.Nodup->(r.foldl L2.stepK ms).Nodup
 |[],_,nd=>nd
 |a::r,ms,nd=>by rw[bL];exact a4a r _ (ajc nd)
theorem ajd{G:List (List Nat)}(rg:∀r∈G,∀x∈r,x<G.length):∀(f:Nat) (ms:List Nat) (i:Nat),ms.Nodup->(∀x∈ms,x<G.length)->(∀j,j<i->∀r,ms[j]? = some r->∀x∈row G r,x∈ms)->G.length+1<=i+f->
  (K20.grow G f ms i).Nodup/\(∀x∈K20.grow G f ms i,x<G.length)/\(∃m,K20.grow G f ms i=ms++m)/\∀r∈K20.grow G f ms i,∀x∈row G r,x∈K20.grow G f ms i:=by
 intro f
 induction f with
 |zero =>
  intro ms i nd lt cl hi
  have ml:ms.length<=G.length:=BF.sr G.length ms nd lt;refine⟨nd,lt,⟨[],by simp[K20.grow]⟩,λr hr x hx=>?_⟩
  have hr:r∈ms:=hr;obtain⟨j,hj,rfl⟩:=bW hr;exact cl j (aY hj (by omega)) _ (a6 hj) x hx
 |succ f ih =>
  intro ms i nd lt cl hi
  unfold K20.grow
  cases e:ms[i]? with
  |none =>
   have ml:ms.length<=i:=gz.mp e;refine⟨nd,lt,⟨[],by simp⟩,λr hr x hx=>?_⟩
   have hr:r∈ms:=hr;obtain⟨j,hj,rfl⟩:=bW hr;exact cl j (aY hj (by omega)) _ (a6 hj) x hx
  |some y =>
   dsimp only;obtain⟨add,s2⟩:=a1v (row G y) ms;have il:i<ms.length:=(a7.mp e).1;obtain⟨q1,q2,⟨m,q3⟩,q4⟩:=ih ((row G y).foldl L2.stepK ms) (i+1) (a4a _ _ nd) (λx hx=>((ur _ _ x).mp hx).elim (lt x) (a4w rg)) (λj hj r hr x hx=>by
    rw[ur]
    by_cases je:j=i
    ·subst je;rw[s2,ax il,e]at hr;cases hr
     exact .inr hx
    ·rw[s2,ax (by omega)]at hr
     exact .inl (cl j (by omega) r hr x hx)) (by omega)
   exact⟨q1,q2,⟨add++m,by rw[<-d0,<-s2];exact q3⟩,q4⟩
theorem aos{G:List (List Nat)}(n1:1<=G.length)(rg:∀r∈G,∀x∈r,x<G.length)(rc:∀r,r<G.length->PN.Rch G r):Ord G.length (K20.met G):=by
 obtain⟨q1,q2,⟨m,q3⟩,q4⟩:=ajd rg (G.length+1) [0] 0 (by simp) (by intro x hx;rw[aI]at hx;omega) (λj hj=>absurd hj (gX j)) (by omega)
 have z:(0:Nat)∈K20.met G:=by unfold K20.met;rw[q3];simp
 refine⟨q1,λr=>⟨q2 r,λhr=>rc r hr (λx=>x∈K20.met G) z λa ha x hx=>q4 a ha x hx⟩,?_⟩;unfold K20.met;rw[q3];rfl
section
variable{T:Table}
theorem auf(h:T.Ok):Gt T.go T.ks:=⟨h.n1,h.n32,λr hr=>(h.row r hr).2,λr hr=>by rw[(h.row r hr).1];exact h.tong.hi,h.kl⟩
theorem aot(h:T.Ok):K20.Gd T.go:=⟨h.n1,h.n32,λr hr=>(h.row r hr).2⟩
theorem afv(h:T.Ok)(rc:∀r,r<T.go.length->PN.Rch T.go r):Ord T.go.length (K20.met T.go):=aos h.n1 (λr hr=>(h.row r hr).2) rc
noncomputable def uy:SF:=qt (a0d kj az K20.bx) 7
def fol(T:Table)(u r:Nat):Nat:=F (K20.met T.go) (C T.go T.ks (u+1)) r
def avl(T:Table)(u:Nat):D:=.tup ((List.range T.go.length).map λr=>ak (fol T u r))
theorem a5b(h:T.Ok)(rc:∀r,r<T.go.length->PN.Rch T.go r):∃u,Last T.go T.ks u/\Pu uy 1 [T.d] (avl T u):=by
 have g:=auf h;have n32:=g.n32;have o:=afv h rc;obtain⟨u,la,pm⟩:=afs g;refine⟨u,la,?_⟩;have led:=K20.au6 (aot h);have lc:=a0e g.lk (u+1);unfold avl fol
 generalize C T.go T.ks (u+1)=c at pm lc
 generalize K20.met T.go=L at o led
 have ll:=o.len;have numb:Pu az 1 [.rol ((L.map (at' c)).map ak)] (.rol ((nb (L.map (at' c))).map ak)):=a1g axq (by rw[a9];omega) (j7 (dg _)) λh=>rfl
 refine Pu.of rfl (one T.clo) (r:=.ok (.tup ((List.range T.go.length).map λr=>ak (F L c r))) []) ?_ (j5 (du (bc λx _=>bf _)) (by simp)) (du (bc λx _=>bf _))
 unfold uy;rw[dm];show toR (a0d kj az K20.bx [some T.d,none,none,none,none,none,none] [])=_;unfold a0d;refine etr (zg (afb (ao rfl) rfl)) ?_;refine ets (a0p (ao rfl) (ao rfl) (pm _)) ?_;refine ets (qu (ao rfl) (led _)) ?_;have z1:sZ (jo (sIt (sV 5)) t1 (uw kj az K20.bx) [4]) [some T.d,some (.str (S T.tg)),some (.tup (T.go.map fj)),some (.tup (T.ks.map D.int)),some (.rol (c.map ak)),some (.rol (L.map ak)),none] []=.ok (.rol ((L.map (at' c)).map ak)) []:=by
  refine b6 (yj (ig ak (λx=>ak (at' c x)) L (a88 (ao rfl) rfl) (dq (by omega)) λx hx=>?_) (bc λx _=>bf _) (by simp)) (by rw[aV];rfl)
  show uw kj az K20.bx [some (ak x),some (.rol (c.map ak))] []=_;unfold uw;exact u5 (ao rfl) (ao rfl) (akt (by rw[lc];exact(o.all x).mp hx))
 refine ets (aor (c:=c) o.nd (by omega) (ao rfl) (qu z1 (numb _))) ?_
 have lg:jx [.tup (T.go.map fj)] []=.ok (ak T.go.length) []:=yp.trans (by rw[a9])
 refine etr (a03 (qu (yj (ig (λi:Nat=>D.int (i:Nat)) (λr=>ak (F L c r)) (List.range T.go.length) (a3u (qu (ao rfl) lg) (dq (by omega))) (dq (by rw[aO];omega)) λx hx=>?_) (bc λx _=>bf _) (by simp)) (show jf [.rol ((List.range T.go.length).map λr=>ak (F L c r))] []=.ok (.tup ((List.range T.go.length).map λr=>ak (F L c r))) [] from rfl))) ?_
 ·show yf kj az K20.bx [some (ak x),some (.rod ((nums L c).map (·.1)) ((nums L c).map (·.2)))] []=_;unfold yf;exact u5 (ao rfl) (ao rfl) (ajb o.nd ((o.all x).mpr (aX.mp hx)))
 ·rw[a3r]
end
theorem afw{k:Nat}:∀{l:List Nat},k∈l->ixI (k:Int) (l.map Int.ofNat)=some (l.idxOf k)
 |a::l,h=>by
  rw[aK,List.idxOf_cons];unfold ixI
  by_cases e:a=k
  ·subst e;rw[aQ (show Int.ofNat a=(a:Int) from rfl),cD];rfl
  ·have ne:¬ Int.ofNat a=(k:Int):=λz=>e (Int.ofNat.inj z);rw[bg ne,afw ((ay.mp h).resolve_left λz=>e z.symm),show(a == k)=false from bT.mpr e];rfl
section
variable{T:Table}{f:Nat->Nat}{m:Nat}
structure Nu (n m:Nat) (f:Nat->Nat):Prop where
 lt:∀r,r<n->f r<m
 on:∀k,k<m->∃r,r<n/\f r=k
 m1:1<=m
def fl(n:Nat)(f:Nat->Nat):List Nat:=(List.range n).map f
def fs(n:Nat)(f:Nat->Nat)(k:Nat):Nat:=(fl n f).idxOf k
theorem afx(N:Nu n m f){k:Nat}(h:k<m):k∈fl n f:=by
 obtain⟨r,hr,e⟩:=N.on k h;exact aE.mpr ⟨r,aX.mpr hr,e⟩
theorem a4i(N:Nu n m f){k:Nat}(h:k<m):fs n f k<n:=by
 have:=gG.mpr (afx N h)
 unfold fl at this
 rwa[a9,aO]at this
theorem axs(N:Nu n m f){k:Nat}(h:k<m):f (fs n f k)=k:=by
 have lt:=a4i N h;have:=List.getElem_idxOf (xs:=fl n f) (x:=k) (by unfold fl;rw[a9,aO];exact lt)
 unfold fl at this;rw[List.getElem_map,gs]at this;exact this
theorem axt{r:Nat}(h:r<n):(fl n f)[r]? = some (f r):=by unfold fl;rw[ar,bN h];rfl
theorem akx:(fl n f).length=n:=by unfold fl;rw[a9,aO]
theorem axu{r:Nat}(h:r<n):at' (fl n f) r=f r:=by unfold at';rw[axt h];rfl
def ki(ks:List Int)(r:Nat):Int:=(ks[r]?).getD 0
def qT(T:Table)(m:Nat)(f:Nat->Nat):Table:=⟨T.tg,(List.range m).map λk=>(row T.go (fs T.go.length f k)).map f,(List.range m).map λk=>ki T.ks (fs T.go.length f k)⟩
noncomputable def iw:SF:=qt ph 6
theorem aky{r:Nat}(h:r<T.go.length){hh:Hd}:gIx (.tup (T.go.map fj)) (ak r) hh=.ok (fj (row T.go r)) hh:=aad (by rw[ar];unfold row;rw[a6 h];rfl)
theorem aou(h:T.Ok){r:Nat}(hr:r<T.go.length){hh:Hd}:gIx (.tup (T.ks.map D.int)) (ak r) hh=.ok (.int (ki T.ks r)) hh:=aad (by
 rw[ar];unfold ki;rw[a6 (show r<T.ks.length by rw[h.kl];exact hr)];rfl)
theorem qj(h:T.Ok){r x:Nat}(hx:x∈row T.go r):x<T.go.length:=a4w (λr hr=>(h.row r hr).2) hx
theorem a96(h:T.Ok){r:Nat}(hr:r<T.go.length):(row T.go r).length=T.tg.length:=by
 unfold row;rw[a6 hr];exact(h.row _ (br hr)).1
theorem a4b(h:T.Ok)(N:Nu T.go.length m f)(m32:m<=32):Pu iw 4 [.str (S T.tg),.tup (T.go.map fj),.tup (T.ks.map D.int),.tup ((fl T.go.length f).map ak)] (qT T m f).d:=by
 have n32:=h.n32;have mx:a7q [.tup ((fl T.go.length f).map ak)] []=.ok (ak (m-1)) []:=by
  have ne:fl T.go.length f≠[]:=λz=>by have:=aZ List.length z;rw[akx,bH]at this;have:=h.n1;omega
  rw[a1f,asx (λz=>ne (fM.mp z)),auc (m:=m) (λx hx=>by
   obtain⟨r,hr,rfl⟩:=aE.mp hx;exact N.lt r (aX.mp hr)) (afx N (by have:=N.m1;omega))]
 have cl4:∀x∈[D.str (S T.tg),.tup (T.go.map fj),.tup (T.ks.map D.int),.tup ((fl T.go.length f).map ak)],clo 0 x:=λx hx=>by
  simp only[ay,bq,cK]at hx
  rcases hx with rfl|rfl|rfl|rfl
  ·exact a1b _
  ·exact aah
  ·exact aai
  ·exact du (dg _)
 refine Pu.of rfl cl4 (r:=.ok (qT T m f).d []) ?_ (j5 Table.clo (by simp)) Table.clo
 unfold iw;rw[dm];show toR (ph [some (.str (S T.tg)),some (.tup (T.go.map fj)),some (.tup (T.ks.map D.int)),some (.tup ((fl T.go.length f).map ak)),none,none] [])=_;unfold ph;have r1:sRg a09 (aj (s2 lq (sA a7q (aj (sV 3) bj)) (sI 1)) bj) [some (.str (S T.tg)),some (.tup (T.go.map fj)),some (.tup (T.ks.map D.int)),some (.tup ((fl T.go.length f).map ak)),none,none] []=.ok ⟨(List.range m).map λi:Nat=>D.int (i:Nat),λ_=>True⟩ []:=by
  refine a3u (u5 (qu (ao rfl) mx) ckk (a0u.trans ?_)) (dq (by omega))
  have:=N.m1
  rw[show(((m-1:Nat):Int)+1)=(m:Int) by omega]
 have z1:sZ (jo (sRg a09 (aj (s2 lq (sA a7q (aj (sV 3) bj)) (sI 1)) bj)) t1 jb [3]) [some (.str (S T.tg)),some (.tup (T.go.map fj)),some (.tup (T.ks.map D.int)),some (.tup ((fl T.go.length f).map ak)),none,none] []=.ok (.rol ((List.range m).map λk=>ak (fs T.go.length f k))) []:=by
  refine yj (ig (λi:Nat=>D.int (i:Nat)) (λk=>ak (fs T.go.length f k)) (List.range m) r1 (dq (by rw[aO];omega)) λk hk=>?_) (bc λx _=>bf _) (by simp)
  show jb [some (ak k),some (.tup ((fl T.go.length f).map ak))] []=_;unfold jb sMT;rw[ao rfl,aq];dsimp only;rw[arg1 (ao rfl),aq];show(match a0n ((fl T.go.length f).map ak) with|some ns=>(match ixI (k:Int) ns with|some j=>R.ok (D.int (j:Nat)) []|none=>.no)|none=>.no)=_
  rw[a95];dsimp only;rw[afw (afx N (aX.mp hk))];rfl
 refine etr (jy z1) ?_;have z2:sZ (jo (sIt (sV 4)) t1 jc [1,3]) [some (.str (S T.tg)),some (.tup (T.go.map fj)),some (.tup (T.ks.map D.int)),some (.tup ((fl T.go.length f).map ak)),some (.rol ((List.range m).map λk=>ak (fs T.go.length f k))),none] []=.ok (.rol (((List.range m).map λk=>(row T.go (fs T.go.length f k)).map f).map fj)) []:=by
  refine b6 (yj (ig (λk=>ak (fs T.go.length f k)) (λk=>fj ((row T.go (fs T.go.length f k)).map f)) (List.range m) (a88 (ao rfl) rfl) (dq (by rw[aO];omega)) λk hk=>?_) (bc λx _=>du (dg _)) (by simp)) (by rw[aV];rfl)
  have kl:=a4i N (aX.mp hk);show jc [some (ak (fs T.go.length f k)),some (.tup (T.go.map fj)),some (.tup ((fl T.go.length f).map ak))] []=_;unfold jc;refine(aku (c:=fl T.go.length f) (r:=row T.go (fs T.go.length f k)) (u5 (ao rfl) (ao rfl) (aky kl)) (λx hx=>?_) (by have:=a96 h kl;have:=h.tong.hi;omega) (by simp)).trans ?_
  ·show n6 [some (ak x),some (.tup ((fl T.go.length f).map ak))] []=_;unfold n6;exact u5 (ao rfl) (ao rfl) (aad (by rw[ar,a3t (by rw[akx];exact qj h hx)];rfl))
  ·rw[bV λx hx=>axu (f:=f) (qj h hx)]
 refine etr (jy z2) ?_;have z3:sZ (jo (sIt (sV 4)) t1 jd [2]) [some (.str (S T.tg)),some (.tup (T.go.map fj)),some (.tup (T.ks.map D.int)),some (.tup ((fl T.go.length f).map ak)),some (.rol ((List.range m).map λk=>ak (fs T.go.length f k))),some (.rol (((List.range m).map λk=>(row T.go (fs T.go.length f k)).map f).map fj))] []=.ok (.rol (((List.range m).map λk=>ki T.ks (fs T.go.length f k)).map D.int)) []:=by
  refine b6 (yj (ig (λk=>ak (fs T.go.length f k)) (λk=>D.int (ki T.ks (fs T.go.length f k))) (List.range m) (a88 (ao rfl) rfl) (dq (by rw[aO];omega)) λk hk=>?_) (bc λx _=>bf _) (by simp)) (by rw[aV];rfl)
  show jd [some (ak (fs T.go.length f k)),some (.tup (T.ks.map D.int))] []=_;unfold jd;exact u5 (ao rfl) (ao rfl) (aou h (a4i N (aX.mp hk)))
 exact aZ toR (a03 (ap1 (ao rfl) (qu (ao rfl) (show jf [.rol _] []=.ok (.tup _) [] from rfl)) (qu z3 (show jf [.rol _] []=.ok (.tup _) [] from rfl)) ayr))
end
section
variable{T:Table}{f:Nat->Nat}{m:Nat}
structure Fd (T:Table) (m:Nat) (f:Nat->Nat):Prop where
 nu:Nu T.go.length m f
 mn:m<=T.go.length
 z:f 0=0
 kd:∀r,r<T.go.length->ki T.ks (fs T.go.length f (f r))=ki T.ks r
 rw:∀r,r<T.go.length->(row T.go (fs T.go.length f (f r))).map f=(row T.go r).map f
theorem auh(h:T.Ok)(rc:∀r,r<T.go.length->PN.Rch T.go r){u:Nat}(la:Last T.go T.ks u):Fd T (many (K20.met T.go) (C T.go T.ks (u+1))) (fol T u):=by
 have o:=afv h rc;have S:=ayk h.kl (λr hr=>(h.row r hr).2) la.stop;unfold fol
 generalize C T.go T.ks (u+1)=c at S
 generalize K20.met T.go=L at o
 have N:Nu T.go.length (many L c) (F L c):=⟨λr hr=>aym ((o.all r).mpr hr),λk hk=>by
  obtain⟨r,hr,e⟩:=atm hk;exact⟨r,(o.all r).mp hr,e⟩,ais ((o.all 0).mpr h.n1)⟩
 have eq:∀r,r<T.go.length->at' c (fs T.go.length (F L c) (F L c r))=at' c r:=λr hr=>(ayl ((o.all _).mpr (a4i N (N.lt r hr))) ((o.all r).mpr hr)).mp (axs N (N.lt r hr));refine⟨N,by have:=ao5 (L:=L) (c:=c);rw[o.len]at this;exact this,atn o.z,λr hr=>?_,λr hr=>?_⟩
 ·unfold ki;rw[S.kind _ _ (a4i N (N.lt r hr)) hr (eq r hr)]
 ·have a:=S.row _ _ (a4i N (N.lt r hr)) hr (eq r hr);have b:=aZ (List.map (ix (L.map (at' c)))) a;rw[aV,aV]at b;exact b
theorem u9:(qT T m f).go.length=m:=by show((List.range m).map _).length=m;rw[a9,aO]
theorem a6i(d:Fd T m f){r:Nat}(hr:r<T.go.length):row (qT T m f).go (f r)=(row T.go r).map f:=by
 have lt:=d.nu.lt r hr;unfold row;show(((List.range m).map λk=>(row T.go (fs T.go.length f k)).map f)[f r]?).getD []=_;rw[ar,bN lt];exact d.rw r hr
theorem aui(d:Fd T m f){r:Nat}(hr:r<T.go.length):ki (qT T m f).ks (f r)=ki T.ks r:=by
 have lt:=d.nu.lt r hr;unfold ki;show(((List.range m).map λk=>ki T.ks (fs T.go.length f k))[f r]?).getD 0=_;rw[ar,bN lt];exact d.kd r hr
theorem auj(h:T.Ok){r:Nat}(hr:r<T.go.length):ki T.ks r∈T.ks:=by
 unfold ki;rw[a6 (show r<T.ks.length by rw[h.kl];exact hr)]
 exact br _
theorem ap4(h:T.Ok)(d:Fd T m f):(qT T m f).Ok:=by
 have n32:=h.n32;have mn:=d.mn;refine⟨h.tong,by rw[u9];exact d.nu.m1,by rw[u9];omega,λr hr=>?_,?_,?_,λk hk=>?_⟩
 ·obtain⟨k,hk,rfl⟩:=aE.mp hr;have kl:=a4i d.nu (aX.mp hk);refine⟨by rw[a9];exact a96 h kl,λx hx=>?_⟩
  obtain⟨y,hy,rfl⟩:=aE.mp hx;rw[u9];exact d.nu.lt y (qj h hy)
 ·rw[u9];show((List.range m).map _).length=m;rw[a9,aO]
 ·have k0:ki T.ks 0 = -1:=by unfold ki;rw[h.k0];rfl
  have:=d.kd 0 h.n1
  rw[d.z,k0]at this;show((List.range m).map λk=>ki T.ks (fs T.go.length f k))[0]? = _;rw[ar,bN d.nu.m1,cB,this]
 ·obtain⟨j,hj,rfl⟩:=aE.mp hk;exact h.kk _ (auj h (a4i d.nu (aX.mp hj)))
noncomputable def qp:SF:=qt (zf uy iw) 4
theorem aov:D.tup ((List.range T.go.length).map λr=>ak (f r))=.tup ((fl T.go.length f).map ak):=by unfold fl;rw[aV];rfl
theorem a4c(h:T.Ok)(d:Fd T m f)(pf:Pu uy 1 [T.d] (.tup ((List.range T.go.length).map λr=>ak (f r)))):Pu qp 1 [T.d] (qT T m f).d:=by
 refine Pu.of rfl (one T.clo) (r:=.ok (qT T m f).d []) ?_ (j5 Table.clo (by simp)) Table.clo
 unfold qp;rw[dm];show toR (zf uy iw [some T.d,none,none,none] [])=_;unfold zf;rw[aov]at pf;refine etr (zg (afb (ao rfl) rfl)) ?_;exact aZ toR (a03 (axi (ao rfl) (ao rfl) (ao rfl) (qu (ao rfl) (pf _)) (a4b h d.nu (by have:=h.n32;have:=d.mn;omega) _)))
end
theorem afy{fi:SI}{t:D->Option Sd}{fe:SE}{ix:List Nat}{τ:Sd}{α:Type}(g:α->D)(ws:List α)(wl:ws.length<=1000)(e:fi τ []=.ok ⟨ws.map g,λ_=>True⟩ [])(st:∀w∈ws,a5t t fe (frs' ix τ) (g w) []=.ok (.bl true) []) :
  sA amz (aj (sZ (jo fi t fe ix)) bj) τ []=.ok (.bl true) []:=by
 refine qu (yj (ig g (λ_=>D.bl true) ws e (dq (by omega)) st) (bc λy _=>wu _) (by simp)) ?_
 have:=PAP.atz (ws.map λ_=>true) []
 rw[aV]at this;refine this.trans ?_;rw[show(ws.map λ_=>true).all id=true by rw[bQ];intro x hx;obtain⟨_,_,rfl⟩:=aE.mp hx;rfl]
theorem abw(i a b:Int):Pu K32.gj 3 [.int i,.int a,.int b] (.bl (decide (a<=i) && decide (i<=b))):=by
 refine Pu.of rfl (K32.au3 (bf _) (bf _) (bf _)) (r:=.ok (.bl (decide (a<=i) && decide (i<=b))) []) ?_ (j5 (wu _) (by simp)) (wu _)
 unfold K32.gj;rw[dm];show toR (K32.uv [some (.int i),some (.int a),some (.int b)] [])=_;unfold K32.uv;have i1:sA a02 (aj (sV 0) (aj (sC (.ty "int")) bj)) [some (.int i),some (.int a),some (.int b)] []=.ok (.bl true) []:=a0p (ao rfl) ckk (by simp[a02,ajy,tyD,agb])
 have i2:a5q (sA a02 (aj (sV 0) (aj (sC (.ty "bool")) bj))) [some (.int i),some (.int a),some (.int b)] []=.ok (.bl (!false)) []:=K32.au1 (a0p (ao rfl) ckk (by simp[a02,ajy,tyD,agb]))
 exact aZ toR (a03 (aix i1 (aix i2 (K32.au2 (ao rfl) (ao rfl) (ao rfl)))))
noncomputable def fu:SF:=qt (ux K32.gj) 4
theorem a84{l:List Int}{a b:Int}(ll:l.length<=100)(al:∀x∈l,a<=x/\x<=b):Pu fu 4 [.tup (l.map D.int),ak l.length,.int a,.int b] (.bl true):=by
 have cl:∀x∈[D.tup (l.map D.int),ak l.length,.int a,.int b],clo 0 x:=λx hx=>by
  simp only[ay,bq,cK]at hx
  rcases hx with rfl|rfl|rfl|rfl
  ·exact du (bc λx _=>bf _)
  ·exact bf _
  ·exact bf _
  ·exact bf _
 refine Pu.of rfl cl (r:=.ok (.bl true) []) ?_ (j5 (wu _) (by simp)) (wu _)
 unfold fu;rw[dm];show toR (ux K32.gj [some (.tup (l.map D.int)),some (ak l.length),some (.int a),some (.int b)] [])=_;unfold ux;have it:a02 [.tup (l.map D.int),.ty "tuple"] []=.ok (.bl true) []:=by simp[a02,ajy,tyD,agb]
 have ln:hNe (ak l.length) (ak l.length) []=.ok (.bl false) []:=by
  refine(K40.ayv _ _).trans ?_;rw[aR (λz=>z rfl)]
 have l1:jx [.tup (l.map D.int)] []=.ok (ak l.length) []:=yp.trans (by rw[a9])
 refine eti (orF (agg (a6e (a0p (ao rfl) ckk it) (xm _))) (t2s (qu (ao rfl) l1) (ao rfl) ln)) ?_;refine aZ toR (a03 (afy D.int l (by omega) (a88 (ao rfl) rfl) λx hx=>?_))
 show rz K32.gj [some (.int x),some (.int a),some (.int b)] []=_;unfold rz;refine ap1 (ao rfl) (ao rfl) (ao rfl) ?_;have:=abw x a b [];rw[this,aS (al x hx).1,aS (al x hx).2];rfl
noncomputable def iy:SF:=qt (pq fu) 3
theorem a97{Q:Table}(h:Q.Ok):Pu iy 2 [Q.d,.str (S Q.tg)] (.bl true):=by
 have n1:=h.n1;have n32:=h.n32;have t6:=h.tong.hi;have cl:∀x∈[Q.d,D.str (S Q.tg)],clo 0 x:=λx hx=>by
  simp only[ay,bq,cK]at hx
  rcases hx with rfl|rfl
  ·exact Table.clo
  ·exact a1b _
 refine Pu.of rfl cl (r:=.ok (.bl true) []) ?_ (j5 (wu _) (by simp)) (wu _)
 unfold iy;rw[dm];show toR (pq fu [some Q.d,some (.str (S Q.tg)),none] [])=_;unfold pq;have it:∀xs:List D,a02 [.tup xs,.ty "tuple"] []=.ok (.bl true) []:=λxs=>by simp[a02,ajy,tyD,agb]
 have is:a02 [.str (S Q.tg),.ty "str"] []=.ok (.bl true) []:=by simp[a02,ajy,tyD,agb]
 have ln:∀n:Nat,hNe (ak n) (ak n) []=.ok (.bl false) []:=λn=>by
  refine(K40.ayv _ _).trans ?_;rw[aR (λz=>z rfl)]
 have l3:jx [Q.d] []=.ok (ak 3) []:=yp.trans (by rfl)
 have i0:gIx Q.d (.int 0) []=.ok (.str (S Q.tg)) []:=aad (j:=0) rfl;have i1:gIx Q.d (.int 1) []=.ok (.tup (Q.go.map fj)) []:=aad (j:=1) rfl;have i2:gIx Q.d (.int 2) []=.ok (.tup (Q.ks.map D.int)) []:=aad (j:=2) rfl;have tn:hNe (.str (S Q.tg)) (.str (S Q.tg)) []=.ok (.bl false) []:=(K32.axj _ _).trans (by simp)
 have lg:jx [.tup (Q.go.map fj)] []=.ok (ak Q.go.length) []:=yp.trans (by rw[a9])
 refine eti (orF (agg (a6e (a0p (ao rfl) ckk (it _)) (xm _))) (orF (t2s (qu (ao rfl) l3) ckk (ln 3)) (orF (agg (a6e (a0p (atv rfl i0) ckk is) (xm _))) (t2s (atv rfl i0) (ao rfl) tn)))) ?_;refine ets (atv rfl i1) ?_;have kr:=a84 (l:=Q.ks) (a := -1) (b:=5) (by rw[h.kl];omega) λx hx=>by
  have:=h.kk x hx
  exact this
 rw[h.kl]at kr;have ng:adt (.int 1) []=.ok (.int (-1)) []:=rfl;refine eti (orF (agg (a6e (a0p (ao rfl) ckk (it _)) (xm _))) (orF (agg (tof ((K32.au2 ckk (qu (ao rfl) lg) ckk).trans (by rw[aS (by omega),aS (by omega)];rfl)))) (agg (a6e (axi (atv rfl i2) (qu (ao rfl) lg) (ayo ckk ng) ckk (kr _)) (xm _))))) ?_
 refine aZ toR (a03 (afy fj Q.go (by omega) (a88 (ao rfl) rfl) λr hr=>?_))
 show n8 fu [some (fj r),some (.str (S Q.tg)),some (.tup (Q.go.map fj))] []=_;unfold n8;obtain⟨r1,r2⟩:=h.row r hr;have rr:=a84 (l:=r.map Int.ofNat) (a:=0) (b:=(Q.go.length:Int)-1) (by rw[a9];omega) λx hx=>by
  obtain⟨y,hy,rfl⟩:=aE.mp hx;have:=r2 y hy;exact⟨Int.natCast_nonneg y,by show(y:Int)<=_;omega⟩
 rw[a9,r1,<-a1f]at rr;exact axi (ao rfl) (qu (ao rfl) (ao9 (dq (by omega)))) ckk (u5 (qu (ao rfl) lg) ckk (a7y _ _)) (rr _)
section
variable{T:Table}{f:Nat->Nat}{m:Nat}
theorem aow(r:List Nat):((r.map ak).zip ((r.map f).map ak)).map (λp=>D.tup [p.1,p.2])=r.map λx=>D.tup [ak x,ak (f x)]:=by
 rw[aV,hV,aV];rfl
end
end K31
namespace K29
open L2 MI AT HND EVX NB K31
theorem afz{α:Type}[DecidableEq α](l:List α)(x:α):nb (l++[x])=nb l++[if x∈l then ix l x else (bw l).length]:=by
 have e:bw (l++[x])=L2.stepK (bw l) x:=xj l x;unfold nb;rw[bC];have two:∀{a b a' b':List Nat},a=a'->b=b'->a++b=a'++b':=λe1 e2=>by rw[e1,e2]
 refine two (bV λy hy=>?_) ?_
 ·unfold ix;rw[e];unfold L2.stepK
  split
  ·rfl
  ·rw[e9,aQ (ik.mpr hy)]
 ·rw[aK,bO];unfold ix;rw[e];unfold L2.stepK
  by_cases h:x∈l
  ·rw[aQ (ik.mpr h),aQ h]
  ·rw[bg (λz=>h (ik.mp z)),bg h,e9,bg (λz=>h (ik.mp z))];simp
theorem aak{α:Type}[DecidableEq α]:∀(r l:List α),bw (nb l)=List.range (bw l).length->bw (nb (l++r))=List.range (bw (l++r)).length
 |[],l,ih=>by rw[cc];exact ih
 |x::r,l,ih=>by
  have:=aak r (l++[x]) (by
   rw[afz,xj,ih,xj];unfold L2.stepK
   by_cases h:x∈l
   ·rw[aQ h,aQ (ik.mpr h),aQ (aX.mpr (af7 h))]
   ·rw[bg h,bg (λz=>h (ik.mp z)),bg (by simp),ag,aM,fN])
  rwa[d0]at this
theorem axv{α:Type}[DecidableEq α](l:List α):bw (nb l)=List.range (bw l).length:=aak l [] rfl
theorem ag0{f:Nat->Nat}:∀(r ms:List Nat),bw ((r.foldl L2.stepK ms).map f)=(r.map f).foldl L2.stepK (bw (ms.map f))
 |[],ms=>rfl
 |a::r,ms=>by
  rw[bL,ag0 r,aK,bL]
  congr 1
  unfold L2.stepK
  by_cases h:a∈ms
  ·rw[aQ h,aQ (ik.mpr (aE.mpr ⟨a,h,rfl⟩))]
  ·rw[bg h,bC,aK,bO,xj];rfl
theorem ag1:∀{r ms:List Nat},(∀x∈r,x∈ms)->r.foldl L2.stepK ms=ms
 |[],_,_=>rfl
 |a::r,ms,h=>by
  rw[bL,show L2.stepK ms a=ms from aQ (h a aP)]
  exact ag1 λx hx=>h x (ai _ hx)
theorem auk{α:Type}[DecidableEq α](a b:List α):∃m,bw (a++b)=bw a++m:=by
 unfold bw;rw[dI];exact a1v b _
section
variable{T:Table}{f:Nat->Nat}{m:Nat}
theorem aul(h:T.Ok)(d:Fd T m f):∀(k:Nat) (ms:List Nat) (i k':Nat),ms.Nodup->(∀x∈ms,x<T.go.length)->(∀j,j<i->∀r,ms[j]? = some r->∀x∈row T.go r,x∈ms)->T.go.length+1<=i+k->m+1<=(bw ((ms.take i).map f)).length+k'->
  K20.grow (qT T m f).go k' (bw (ms.map f)) (bw ((ms.take i).map f)).length=bw ((K20.grow T.go k ms i).map f):=by
 intro k
 induction k with
 |zero =>
  intro ms i k' nd lt cl hi _
  have ml:ms.length<=T.go.length:=BF.sr T.go.length ms nd lt;show _=bw (ms.map f);rw[bZ (by omega)]
  exact K20.a1x (bt (ah _))
 |succ k ih =>
  intro ms i k' nd lt cl hi hk
  cases e:ms[i]? with
  |none =>
   rw[K20.a1x e,bZ (gz.mp e)];exact K20.a1x (bt (ah _))
  |some x =>
   have xl:x<T.go.length:=lt x (aN e);have er:T.go[x]? = some (row T.go x):=by unfold row;rw[a6 xl];rfl
   have il:i<ms.length:=(a7.mp e).1;have tk:(ms.take (i+1)).map f=(ms.take i).map f++[f x]:=by rw[gu,e,Option.toList_some,bC];rfl
   obtain⟨add,s2⟩:=a1v (row T.go x) ms;have nd2:=a4a (row T.go x) ms nd;have lt2:∀y∈(row T.go x).foldl L2.stepK ms,y<T.go.length:=λy hy=>((ur _ _ y).mp hy).elim (lt y) λz=>qj h z;have cl2:∀j,j<i+1->∀r,((row T.go x).foldl L2.stepK ms)[j]? = some r->∀y∈row T.go r,y∈(row T.go x).foldl L2.stepK ms:=λj hj r hr y hy=>by
    rw[ur]
    by_cases je:j=i
    ·subst je;rw[s2,ax il,e]at hr;cases hr
     exact .inr hy
    ·rw[s2,ax (by omega)]at hr
     exact .inl (cl j (by omega) r hr y hy)
   have tk2:(((row T.go x).foldl L2.stepK ms).take (i+1))=ms.take (i+1):=by rw[s2,List.take_append_of_le_length (by omega)]
   rw[K20.a3y e er];have step:=ih ((row T.go x).foldl L2.stepK ms) (i+1);rw[tk2,tk,xj,ag0]at step
   by_cases q:f x∈(ms.take i).map f
   ·have st:L2.stepK (bw ((ms.take i).map f)) (f x)=bw ((ms.take i).map f):=aQ (ik.mpr q);rw[st]at step;obtain⟨y,hy,ey⟩:=aE.mp q;obtain⟨j,hj,rfl⟩:=bW hy;rw[cU]at hj;rw[List.getElem_take]at ey;have ej:ms[j]? = some (ms[j]'(by omega)):=a6 _
    have jl:=lt _ (aN ej);have same:(row T.go x).map f=(row T.go (ms[j]'(by omega))).map f:=by rw[<-a6i d xl,<-a6i d jl,ey]
    have sub:∀z∈(row T.go x).map f,z∈bw (ms.map f):=λz hz=>by
     rw[same]at hz;obtain⟨w,hw,rfl⟩:=aE.mp hz;exact ik.mpr (aE.mpr ⟨w,cl j (by omega) _ ej w hw,rfl⟩)
    rw[ag1 sub]at step;exact step k' nd2 lt2 cl2 (by omega) hk
   ·have st:L2.stepK (bw ((ms.take i).map f)) (f x)=bw ((ms.take i).map f)++[f x]:=bg λz=>q (ik.mp z);rw[st,ag,aM]at step;have at':(bw (ms.map f))[(bw ((ms.take i).map f)).length]? = some (f x):=by
     obtain⟨b,eb⟩:=auk ((ms.take (i+1)).map f) ((ms.drop (i+1)).map f);rw[<-bC,List.take_append_drop]at eb;rw[eb,tk,xj,st];simp
    have fl:(bw (ms.map f)).length<=m:=BF.sr m _ (af5 _) λz hz=>by
     obtain⟨w,hw,rfl⟩:=aE.mp (ik.mp hz);exact d.nu.lt w (lt w hw)
    have il':=(a7.mp at').1;obtain⟨k'',rfl⟩:∃k'',k'=k''+1:=⟨k'-1,by omega⟩
    have er':(qT T m f).go[f x]? = some ((row T.go x).map f):=by
     have:=a6i d xl
     unfold row at this;rw[a6 (show f x<(qT T m f).go.length by rw[u9];exact d.nu.lt x xl)]at this ⊢
     exact aZ some this
    rw[K20.a3y at' er'];exact step k'' nd2 lt2 cl2 (by omega) (by omega)
theorem aum(h:T.Ok)(d:Fd T m f)(e:bw ((K20.met T.go).map f)=List.range m):K20.met (qT T m f).go=List.range m:=by
 have n1:=h.n1;have:=aul h d (T.go.length+1) [0] 0 (m+1) (by simp) (by intro x hx;rw[aI]at hx;omega) (λj hj=>absurd hj (gX j)) (by omega) (by omega)
 rw[show bw (([0]:List Nat).map f)=[0] by rw[aK,bO,d.z];rfl]at this
 unfold K20.met;rw[u9];exact this.trans e
end
section
variable{G:List (List Nat)}{ks:List Int}
theorem ag2(lk:ks.length=G.length)(g:∀r∈G,∀x∈r,x<G.length){c:List Nat}(S:Stab G ks c):∀(t:Nat) {r s:Nat},r<G.length->s<G.length->at' c r=at' c s->at' (C G ks t) r=at' (C G ks t) s
 |0,r,s,hr,hs,e=>by
  have k:=S.kind r s hr hs e;unfold C at';have a:ks[r]? = some (ks[r]'(by omega)):=a6 _
  have b:ks[s]? = some (ks[s]'(by omega)):=a6 _
  rw[a,b]at k;rw[a4h a,a4h b,bp k]
 |t+1,r,s,hr,hs,e=>(a8z (a0e lk t) hr hs).mpr ⟨ag2 lk g S t hr hs e,zx (at' c) _ (λx hx y hy e=>ag2 lk g S t (a4w g hx) (a4w g hy) e) (S.row r s hr hs e)⟩
end
section
variable{T:Table}{f:Nat->Nat}{m u:Nat}
structure Pt (T:Table) (u m:Nat) (f:Nat->Nat):Prop extends Fd T m f where
 la:Last T.go T.ks u
 eq:∀r s,r<T.go.length->s<T.go.length->(f r=f s↔at' (C T.go T.ks (u+1)) r=at' (C T.go T.ks (u+1)) s)
 dd:bw ((K20.met T.go).map f)=List.range m
theorem axw(h:T.Ok)(rc:∀r,r<T.go.length->PN.Rch T.go r)(la:Last T.go T.ks u):Pt T u (many (K20.met T.go) (C T.go T.ks (u+1))) (fol T u):=by
 have o:=afv h rc;refine {auh h rc la with la:=la,eq:=λr s hr hs=>ayl ((o.all r).mpr hr) ((o.all s).mpr hs),dd:=?_}
 have e:(K20.met T.go).map (fol T u)=nb ((K20.met T.go).map (at' (C T.go T.ks (u+1)))):=by
  unfold nb;rw[aV];rfl
 rw[e,axv];rfl
theorem C_q(h:T.Ok)(d:Fd T m f):∀(t:Nat) {r s:Nat},r<T.go.length->s<T.go.length->(at' (C (qT T m f).go (qT T m f).ks t) (f r)=at' (C (qT T m f).go (qT T m f).ks t) (f s)↔at' (C T.go T.ks t) r=at' (C T.go T.ks t) s)
 |0,r,s,hr,hs=>by
  have qo:=ap4 h d;have at0:∀{Q:Table},Q.Ok->∀x,x<Q.go.length->Q.ks[x]? = some (ki Q.ks x):=λ{Q} hq x hx=>by
   unfold ki;rw[a6 (show x<Q.ks.length by rw[hq.kl];exact hx)];rfl
  have one:∀{Q:Table},Q.Ok->∀x y,x<Q.go.length->y<Q.go.length->(at' (C Q.go Q.ks 0) x=at' (C Q.go Q.ks 0) y↔ki Q.ks x=ki Q.ks y):=λ{Q} hq x y hx hy=>by
   unfold C at';rw[a4h (at0 hq x hx),a4h (at0 hq y hy)];exact⟨λe=>a4u (aN (at0 hq x hx)) (aN (at0 hq y hy)) e,λe=>by rw[e]⟩
  rw[one qo _ _ (by rw[u9];exact d.nu.lt r hr) (by rw[u9];exact d.nu.lt s hs),one h _ _ hr hs,aui d hr,aui d hs]
 |t+1,r,s,hr,hs=>by
  have qo:=ap4 h d;have lr:f r<(qT T m f).go.length:=by rw[u9];exact d.nu.lt r hr
  have ls:f s<(qT T m f).go.length:=by rw[u9];exact d.nu.lt s hs
  have a:=a8z (a0e (ks:=(qT T m f).ks) qo.kl t) lr ls;have b:=a8z (a0e (ks:=T.ks) h.kl t) hr hs;rw[show C (qT T m f).go (qT T m f).ks (t+1)=rf (qT T m f).go (C (qT T m f).go (qT T m f).ks t) from rfl,show C T.go T.ks (t+1)=rf T.go (C T.go T.ks t) from rfl,a,b,C_q h d t hr hs,a6i d hr,a6i d hs,aV,aV]
  refine⟨λ⟨x,y⟩=>⟨x,zx _ _ (λp hp q hq e=>(C_q h d t (qj h hp) (qj h hq)).mp e) y⟩,λ⟨x,y⟩=>⟨x,zx _ _ (λp hp q hq e=>(C_q h d t (qj h hp) (qj h hq)).mpr e) y⟩⟩
theorem axx(h:T.Ok)(rc:∀r,r<T.go.length->PN.Rch T.go r)(d:Fd T m f):∀k,k<(qT T m f).go.length->PN.Rch (qT T m f).go k:=λk hk=>by
 rw[u9]at hk;obtain⟨r,hr,rfl⟩:=d.nu.on k hk;have:=rc r hr (λx=>x<T.go.length/\PN.Rch (qT T m f).go (f x)) ⟨h.n1,by rw[d.z];exact PN.Rch.zero _⟩ λx ⟨xl,hx⟩ y hy=>by
  have yl:=qj h hy;refine⟨yl,hx.step ?_⟩;have:=a6i d xl;unfold row at this;rw[this];exact aE.mpr ⟨y,hy,rfl⟩
 exact this.2
theorem axy(h:T.Ok)(d:Pt T u m f){v:Nat}(lv:Last (qT T m f).go (qT T m f).ks v){x y:Nat}(hx:x<m)(hy:y<m)(e:at' (C (qT T m f).go (qT T m f).ks (v+1)) x=at' (C (qT T m f).go (qT T m f).ks (v+1)) y):x=y:=by
 have qo:=ap4 h d.toFd;obtain⟨r,hr,rfl⟩:=d.nu.on x hx;obtain⟨s,hs,rfl⟩:=d.nu.on y hy;have lr:f r<(qT T m f).go.length:=by rw[u9];exact hx
 have ls:f s<(qT T m f).go.length:=by rw[u9];exact hy
 have S:=ayk qo.kl (λr hr=>(qo.row r hr).2) lv.stop;have:=ag2 qo.kl (λr hr=>(qo.row r hr).2) S (u+1) lr ls e;exact(d.eq r s hr hs).mpr ((C_q h d.toFd (u+1) hr hs).mp this)
theorem a85{g:Nat->Nat}:∀{l:List Nat},l.Nodup->(∀x∈l,∀y∈l,g x=g y->x=y)->(l.map g).Nodup
 |[],_,_=>cG
 |a::l,nd,inj=>by
  obtain⟨n1,n2⟩:=bX.mp nd;rw[aK,bX];refine⟨λz=>?_,a85 n2 λx hx y hy=>inj x (ai _ hx) y (ai _ hy)⟩;obtain⟨b,hb,e⟩:=aE.mp z;exact n1 (inj b (ai _ hb) a aP e ▸ hb)
theorem ag3{α:Type}[DecidableEq α]:∀(l acc:List α),(acc++l).Nodup->l.foldl L2.stepK acc=acc++l
 |[],acc,_=>by simp
 |a::l,acc,nd=>by
  have na:a∉acc:=λz=>by
   rw[bD]at nd;exact nd.2.2 a z a aP rfl
  rw[bL,show L2.stepK acc a=acc++[a] from bg na,ag3 l (acc++[a]) (by simpa using nd)]
  simp
theorem axz(h:T.Ok)(d:Pt T u m f){v:Nat}(lv:Last (qT T m f).go (qT T m f).ks v):(∀k,k<m->fol (qT T m f) v k=k)/\many (K20.met (qT T m f).go) (C (qT T m f).go (qT T m f).ks (v+1))=m:=by
 have mq:=aum h d.toFd d.dd;unfold fol F many ix;rw[mq];have inj:=λx y hx hy=>axy h d lv (x:=x) (y:=y) hx hy
 generalize at' (C (qT T m f).go (qT T m f).ks (v+1))=g at inj
 have nd:((List.range m).map g).Nodup:=a85 dA λx hx y hy e=>inj x y (aX.mp hx) (aX.mp hy) e;have dd:bw ((List.range m).map g)=(List.range m).map g:=by
  have:=ag3 ((List.range m).map g) [] nd
  exact this
 rw[dd];refine⟨λk hk=>?_,by rw[a9,aO]⟩
 have e:((List.range m).map g)[k]'(by rw[a9,aO];exact hk)=g k:=by rw[List.getElem_map,gs]
 rw[<-e];exact nd.idxOf_getElem k _
theorem qq(h:T.Ok)(d:Pt T u m f){g:Nat->Nat}(hg:∀k,k<m->g k=k):qT (qT T m f) m g=qT T m f:=by
 have qo:=ap4 h d.toFd;have N:Nu m m g:=⟨λr hr=>by rw[hg r hr];exact hr,λk hk=>⟨k,hk,hg k hk⟩,d.nu.m1⟩
 have fk:∀k,k<m->fs m g k=k:=λk hk=>by
  have:=axs N hk
  rwa[hg _ (a4i N hk)]at this
 have e1:(List.range m).map (λk=>(row (qT T m f).go (fs (qT T m f).go.length g k)).map g)=(qT T m f).go:=by
  refine gI λi=>?_
  by_cases hi:i<m
  ·rw[ar,bN hi,cB,u9,fk i hi];have il:i<(qT T m f).go.length:=by rw[u9];exact hi
   rw[a6 il];have:row (qT T m f).go i=(qT T m f).go[i]:=by unfold row;rw[a6 il];rfl
   rw[this];refine aZ some ((bV λx hx=>hg x ?_).trans (List.map_id _));have:=(qo.row _ (br il)).2 x hx
   rwa[u9]at this
  ·rw[bt (by rw[a9,aO];omega),bt (by rw[u9];omega)]
 have e2:(List.range m).map (λk=>ki (qT T m f).ks (fs (qT T m f).go.length g k))=(qT T m f).ks:=by
  have kl:(qT T m f).ks.length=m:=qo.kl.trans u9;refine gI λi=>?_
  by_cases hi:i<m
  ·rw[ar,bN hi,cB,u9,fk i hi];unfold ki;rw[a6 (show i<(qT T m f).ks.length by omega)];rfl
  ·rw[bt (by rw[a9,aO];omega),bt (by omega)]
 show Table.mk T.tg ((List.range m).map λk=>(row (qT T m f).go (fs (qT T m f).go.length g k)).map g) ((List.range m).map λk=>ki (qT T m f).ks (fs (qT T m f).go.length g k))=qT T m f;rw[e1,e2];rfl
end
section
variable{f:Nat->Nat}
def twD(f:Nat->Nat)(ms:List Nat):List D:=ms.map λx=>D.tup [ak x,ak (f x)]
def twK(f:Nat->Nat)(x:Nat):List Key:=[agi x,agi (f x)]
theorem aox{a b:Nat}(e:twK f a=twK f b):a=b:=aaj (List.cons.inj e).1
def twT(f:Nat->Nat)(ms:List Nat):List (List Key×D):=ms.map λx=>(twK f x,.bl true)
theorem ag4{ms:List Nat}{x:Nat}(h:x∉ms):∀kv∈twT f ms,¬ decide (kv.1=twK f x)=true:=λkv hk z=>by
 obtain⟨y,hy,rfl⟩:=aE.mp hk;exact h (aox (gJ z) ▸ hy)
theorem aun{ms:List Nat}(x:Nat){l:O}:aa1 true (.tup [ak x,ak (f x)]) (.ref 1) [l,.dT (twT f ms)]=.ok (.bl (!decide (x∈ms))) [l,.dT (twT f ms)]:=by
 show(match (some (a0b (twT f ms) (twK f x)):Option (Option D)) with|some r=>R.ok (D.bl (if true then !r.isSome else r.isSome)) [l,.dT (twT f ms)]|none=>.no)=_
 by_cases h:x∈ms
 ·have:∃d,a0b (twT f ms) (twK f x)=some d:=by
   unfold a0b
   cases e:(twT f ms).find? λkv=>decide (kv.1=twK f x) with
   |some kv=>exact⟨kv.2,rfl⟩
   |none =>
    rw[dR]at e;exact absurd (aS rfl) (e _ (aE.mpr ⟨x,h,rfl⟩))
  obtain⟨d,e⟩:=this;rw[e,aS h];rfl
 ·rw[show a0b (twT f ms) (twK f x)=none by unfold a0b;rw[dR.mpr (ag4 h)];rfl,aR h];rfl
theorem auo{ms:List Nat}{x:Nat}(h:x∉ms)(l:ms.length<=1000){o:O}:agf (.ref 1) (.tup [ak x,ak (f x)]) (.bl true) [o,.dT (twT f ms)]=some [o,.dT (twT f (ms++[x]))]:=by
 have lt:(twT f ms).length<LINE:=yg (by unfold twT;rw[a9];omega)
 show(if (twT f ms).length<LINE then some [o,O.dT (putD (twT f ms) (twK f x) (.bl true))] else none)=_
 have e:putD (twT f ms) (twK f x) (.bl true)=twT f (ms++[x]):=by
  unfold putD;rw[bg λz=>by obtain⟨kv,hk,e⟩:=dQ.mp z;exact ag4 h kv hk e]
  unfold twT;rw[bC];rfl
 rw[aQ lt,e]
end
section
variable{T:Table}{f:Nat->Nat}{m:Nat}
noncomputable def g8:SF:=qt jq 8
theorem a6j(h:T.Ok)(d:Fd T m f):Pu g8 2 [T.d,(qT T m f).d] (.bl true):=by
 have g:=aot h;have n32:=h.n32;have qo:=ap4 h d;have cl:∀x∈[T.d,(qT T m f).d],clo 0 x:=λx hx=>by
  simp only[ay,bq,cK]at hx
  rcases hx with rfl|rfl<;>exact Table.clo
 have i1:∀(Q:Table) (hh:Hd),gIx Q.d (.int 1) hh=.ok (.tup (Q.go.map fj)) hh:=λQ hh=>aad (j:=1) rfl;have i2:∀(Q:Table) (hh:Hd),gIx Q.d (.int 2) hh=.ok (.tup (Q.ks.map D.int)) hh:=λQ hh=>aad (j:=2) rfl;have w:=abe (c:=qd) (f:=jk)
  (λk τ hh=>∃(ms:List Nat) (i:Nat) (t5 t6 t7:Option D),τ=[some T.d,some (qT T m f).d,some (.ref 0),some (.ref 1),some (ak i),t5,t6,t7]/\hh=[.lst (twD f ms),.dT (twT f ms)]/\K20.Inv T.go k i ms)
  (λτ hh=>∃τ',τ=τ'/\True)
  (λ_ _=>False) ?_ (T.go.length+1) 100000 [some T.d,some (qT T m f).d,some (.ref 0),some (.ref 1),some (ak 0),none,none,none] [.lst (twD f [0]),.dT (twT f [0])] (by omega)
  ⟨[0],0,none,none,none,rfl,rfl,by simp,by intro x hx;rw[aI]at hx;subst hx;exact g.n1,by omega,rfl⟩
 ·rcases w with⟨τ',h',e,_⟩|⟨_,_,_,z⟩
  ·refine Pu.of rfl cl (r:=.ok (.bl true) h') ?_ (j5 (wu _) (by simp)) (wu _)
   unfold g8;rw[dm];show toR (jq [some T.d,some (qT T m f).d,none,none,none,none,none,none] [])=_;unfold jq;have z0:D.tup [ak 0,ak (f 0)]=D.tup [.int 0,.int 0]:=by rw[d.z];rfl
   refine etr (jy (d:=.ref 0) (h1:=[.lst (twD f [0])]) (by unfold twD;rw[aK,z0];rfl)) ?_
   refine etr (jy (d:=.ref 1) (h1:=[.lst (twD f [0]),.dT (twT f [0])]) (u5 (a0p ckk ckk avi) ckk (show ava (.tup [.int 0,.int 0]) (.bl true) [.lst (twD f [0])]=.ok (.ref 1) [.lst (twD f [0]),.dT (twT f [0])] by unfold twT twK;rw[aK,d.z];rfl))) ?_
   refine etr (jy ckk) ?_;refine etr (zg e) ?_;exact aZ toR (a03 ckk)
  ·exact z.elim
 ·rintro k τ hh ⟨ms,i,t5,t6,t7,rfl,rfl,inv⟩
  have lm:jx [.ref 0] [.lst (twD f ms),.dT (twT f ms)]=.ok (ak ms.length) [.lst (twD f ms),.dT (twT f ms)]:=by rw[a2g (xs:=twD f ms) rfl];unfold twD;rw[a9]
  by_cases lt:i<ms.length
  ·refine .inr ⟨_,t2s (ao rfl) (qu (ao rfl) lm) (axd (by omega)),.inl ?_⟩
   have ex:ms[i]? = some ms[i]:=a6 lt;have xl:=inv.2.1 _ (br lt)
   generalize ms[i]=x at ex xl
   have er:T.go[x]? = some (row T.go x):=by unfold row;rw[a6 xl];rfl
   obtain⟨m1,inv'⟩:=inv.step g ex er;have small:=BF.sr T.go.length ms inv.1 inv.2.1;have rlt:∀y∈row T.go x,y<T.go.length:=λy hy=>qj h hy;have qr:=a6i d xl;have fx:=d.nu.lt x xl;have kq:∀hh:Hd,gIx (.tup ((qT T m f).ks.map D.int)) (ak (f x)) hh=.ok (.int (ki T.ks x)) hh:=λhh=>by
    rw[aou qo (by rw[u9];exact fx),aui d xl]
   have gi:∀hh:Hd,gIx (.tup ((qT T m f).go.map fj)) (ak (f x)) hh=.ok (fj ((row T.go x).map f)) hh:=λhh=>by
    rw[aky (T:=qT T m f) (by rw[u9];exact fx),qr]
   have kt:=λhh:Hd=>aou h xl (hh:=hh)
   generalize row T.go x=r at er rlt inv' gi
   have lp:=um (g:=kN 7) (b:=jj) (λy=>D.tup [ak y,ak (f y)])
    (λpre τ hh=>∃t7:Option D,τ=[some T.d,some (qT T m f).d,some (.ref 0),some (.ref 1),some (ak i),some (ak x),some (ak (f x)),t7]/\hh=[.lst (twD f (pre.foldl L2.stepK ms)),.dT (twT f (pre.foldl L2.stepK ms))])
    r [some T.d,some (qT T m f).d,some (.ref 0),some (.ref 1),some (ak i),some (ak x),some (ak (f x)),t7] [.lst (twD f ms),.dT (twT f ms)] ?_ ⟨t7,rfl,rfl⟩
   ·obtain⟨τ',h',e,u7,rfl,rfl⟩:=lp;refine⟨[some T.d,some (qT T m f).d,some (.ref 0),some (.ref 1),some (ak (i+1)),some (ak x),some (ak (f x)),u7],[.lst (twD f (r.foldl L2.stepK ms)),.dT (twT f (r.foldl L2.stepK ms))],k-1,?_,by omega,_,i+1,_,_,u7,rfl,rfl,inv'⟩
    unfold jk;refine b6 (zg (afb (u5 (ao rfl) (ao rfl) (a3w (xs:=twD f ms) rfl (y:=.tup [ak x,ak (f x)]) (by unfold twD;rw[ar,ex];rfl))) rfl)) ?_
    have ne:hNe (.int (ki T.ks x)) (.int (ki T.ks x)) [.lst (twD f ms),.dT (twT f ms)]=.ok (.bl false) [.lst (twD f ms),.dT (twT f ms)]:=by
     show R.ok (D.bl (!eqD (.int (ki T.ks x)) (.int (ki T.ks x)))) _=_;rw[show eqD (.int (ki T.ks x)) (.int (ki T.ks x))=true by simp[eqD]];rfl
    refine b6 (ifN (t2s (u5 (u5 (ao (i:=0) rfl) ckk (i2 T _)) (ao (i:=5) rfl) (kt _)) (u5 (u5 (ao (i:=1) rfl) ckk (i2 (qT T m f) _)) (ao (i:=6) rfl) (kq _)) ne)) ?_;have zi:agc (s2 gIx (s2 gIx (sV 0) (sI 1)) (sV 5)) (s2 gIx (s2 gIx (sV 1) (sI 1)) (sV 6)) [some T.d,some (qT T m f).d,some (.ref 0),some (.ref 1),some (ak i),some (ak x),some (ak (f x)),t7] [.lst (twD f ms),.dT (twT f ms)]=.ok ⟨r.map λy=>D.tup [ak y,ak (f y)],λ_=>True⟩ [.lst (twD f ms),.dT (twT f ms)]:=by
     unfold agc;rw[u5 (u5 (ao (i:=0) rfl) ckk (i1 T _)) (ao (i:=5) rfl) (aad (y:=fj r) (by rw[ar,er];rfl)),aq,u5 (u5 (ao (i:=1) rfl) ckk (i1 (qT T m f) _)) (ao (i:=6) rfl) (gi _),aq]
     unfold aoz;simp only[srcOf,h9];rw[aow]
    refine b6 (a3v zi) ?_;refine b6 (aZ (λz=>MI.thn z _) e) ?_;rw[ql];exact aob rfl ckk (show a2j (ak i) (.int 1) _=.ok (ak (i+1)) _ from rfl)
   ·rintro pre y post τ hh all ⟨u7,rfl,rfl⟩
    have nd:(pre.foldl L2.stepK ms).Nodup:=a4a pre ms inv.1;have fl:(pre.foldl L2.stepK ms).length<=T.go.length:=BF.sr _ _ nd λz hz=>((ur pre ms z).mp hz).elim (inv.2.1 z) λhz=>rlt z (by rw[all];simp[hz])
    refine⟨[some T.d,some (qT T m f).d,some (.ref 0),some (.ref 1),some (ak i),some (ak x),some (ak (f x)),some (.tup [ak y,ak (f y)])],_,rfl,[some T.d,some (qT T m f).d,some (.ref 0),some (.ref 1),some (ak i),some (ak x),some (ak (f x)),some (.tup [ak y,ak (f y)])],[.lst (twD f ((pre++[y]).foldl L2.stepK ms)),.dT (twT f ((pre++[y]).foldl L2.stepK ms))],?_,_,rfl,rfl⟩;rw[dI,bL,hJ]
    generalize pre.foldl L2.stepK ms=u at nd fl
    unfold jj
    by_cases q:y∈u
    ·refine b6 (ifF (t2s (ao (i:=7) rfl) (ao (i:=3) rfl) ((aun y).trans (by rw[aS q];rfl)))) ?_
     rw[show L2.stepK u y=u from aQ q]
     rfl
    ·refine b6 (ifT (t2s (ao (i:=7) rfl) (ao (i:=3) rfl) ((aun y).trans (by rw[aR q];rfl)))) ?_
     rw[show L2.stepK u y=u++[y] from bg q]
     refine b6 (zg (aac ckk (ao (i:=3) rfl) (ao (i:=7) rfl) (auo q (by omega)))) ?_
     unfold twD;rw[bC];exact zj (ao (i:=2) rfl) rfl (arg1 (ao (i:=7) rfl)) (a0v (xs:=u.map λx=>D.tup [ak x,ak (f x)]) rfl (by rw[a9];exact yg (by omega)))
  ·exact .inl ⟨_,t2s (ao rfl) (qu (ao rfl) lm) (axe (by omega)),_,rfl,True.intro⟩
noncomputable def iz:SF:=qt qb 4
theorem a98{G:List (List Nat)}(g:K20.Gd G)(e:K20.met G=List.range G.length):Pu iz 1 [.tup (G.map fj)] (.bl true):=by
 have n32:=g.n32;have w:=abe (c:=ul) (f:=nq)
  (λm τ h=>∃(ms:List Nat) (i:Nat) (t3:Option D),τ=[some (.tup (G.map fj)),some (.ref 0),some (ak i),t3]/\h=[.lst (K20.ns ms)]/\K20.Inv G m i ms)
  (λτ h=>∃(i:Nat) (t3:Option D),τ=[some (.tup (G.map fj)),some (.ref 0),some (ak i),t3]/\h=[.lst (K20.ns (K20.met G))])
  (λ_ _=>False) ?_ (G.length+1) 100000 [some (.tup (G.map fj)),some (.ref 0),some (ak 0),none] [.lst (K20.ns [0])] (by omega)
  ⟨[0],0,none,rfl,rfl,by simp,by intro x hx;rw[aI]at hx;subst hx;exact g.n1,by omega,rfl⟩
 ·rcases w with⟨τ',h',ew,i,t3,rfl,rfl⟩|⟨_,_,_,z⟩
  ·refine Pu.of rfl (one aah) (r:=.ok (.bl true) [.lst (K20.ns (K20.met G))]) ?_ (j5 (wu _) (by simp)) (wu _)
   unfold iz;rw[dm];show toR (qb [some (.tup (G.map fj)),none,none,none] [])=_;unfold qb;refine etr (jy (d:=.ref 0) (h1:=[.lst (K20.ns [0])]) rfl) ?_;refine etr (jy ckk) ?_;refine etr (zg ew) ?_;have lg:jx [.tup (G.map fj)] [.lst (K20.ns (K20.met G))]=.ok (ak G.length) [.lst (K20.ns (K20.met G))]:=yp.trans (by rw[a9])
   have z2:sZ (sA a7m (aj (sA jx (aj (sV 0) bj)) bj)) [some (.tup (G.map fj)),some (.ref 0),some (ak i),t3] [.lst (K20.ns (K20.met G))]=.ok (.rol ((List.range G.length).map ak)) [.lst (K20.ns (K20.met G))]:=by
    refine yj (qu (qu (ao (i:=0) rfl) lg) ?_) (dg _) (λo ho=>by rw[aI]at ho;subst ho;exact dg _)
    unfold a7m;show(if B62 (G.length:Int)/\(G.length:Int).toNat<=LINE then R.ok (D.ref 1) [.lst (K20.ns (K20.met G)),O.lst (rng 0 (G.length:Int).toNat)] else R.no)=_
    rw[aQ ⟨aoa (by omega) (by omega),by show G.length<=LINE;exact dq (by omega)⟩]
    show R.ok (D.ref 1) [.lst (K20.ns (K20.met G)),O.lst (rng 0 G.length)]=_;unfold rng
    congr 5
    funext i
    show D.int (0+(i:Int))=D.int i;rw[Int.zero_add]
   have pu:∀l:List Nat,(l.map ak).all (pur 59)=true:=λl=>by
    rw[bQ]
    intro x hx
    obtain⟨y,_,rfl⟩:=aE.mp hx;rfl
   have eq:av9 false (.ref 0) (.rol ((List.range G.length).map ak)) [.lst (K20.ns (K20.met G))]=.ok (.bl true) [.lst (K20.ns (K20.met G))]:=by
    show(if (K20.ns (K20.met G)).all (pur 59)=true/\((List.range G.length).map ak).all (pur 59)=true then R.ok (D.bl (a4f (K20.ns (K20.met G)) ((List.range G.length).map ak))) _ else .no)=_
    rw[aQ ⟨pu _,pu _⟩,e,K32.akn,aS rfl]
   exact aZ toR (a03 (u5 (ao (i:=1) rfl) z2 eq))
  ·exact z.elim
 ·rintro m τ h ⟨ms,i,t3,rfl,rfl,inv⟩
  have lm:jx [.ref 0] [.lst (K20.ns ms)]=.ok (ak ms.length) [.lst (K20.ns ms)]:=by rw[a2g (xs:=K20.ns ms) rfl,a9]
  by_cases lt:i<ms.length
  ·refine .inr ⟨_,t2s (ao rfl) (qu (ao rfl) lm) (axd (by omega)),.inl ?_⟩
   have ex:ms[i]? = some ms[i]:=a6 lt;have xl:=inv.2.1 _ (br lt)
   generalize ms[i]=x at ex xl
   have er:G[x]? = some G[x]:=a6 xl
   generalize G[x]=r at er
   obtain⟨m1,inv'⟩:=inv.step g ex er;have small:=BF.sr G.length ms inv.1 inv.2.1;have lp:=um (g:=kN 3) (b:=nj) ak
    (λpre τ h=>∃t3:Option D,τ=[some (.tup (G.map fj)),some (.ref 0),some (ak i),t3]/\h=[.lst (K20.ns (pre.foldl L2.stepK ms))])
    r [some (.tup (G.map fj)),some (.ref 0),some (ak i),t3] [.lst (K20.ns ms)] ?_ ⟨t3,rfl,rfl⟩
   ·obtain⟨τ',h',e,t3',rfl,rfl⟩:=lp;refine⟨[some (.tup (G.map fj)),some (.ref 0),some (ak (i+1)),t3'],[.lst (K20.ns (r.foldl L2.stepK ms))],m-1,?_,by omega,_,i+1,t3',rfl,rfl,inv'⟩
    unfold nq;have i1:sIt (s2 gIx (sV 0) (s2 gIx (sV 1) (sV 2))) [some (.tup (G.map fj)),some (.ref 0),some (ak i),t3] [.lst (K20.ns ms)]=.ok ⟨K20.ns r,λ_=>True⟩ [.lst (K20.ns ms)]:=a88 (u5 (ao rfl) (u5 (ao rfl) (ao rfl) (a3w (xs:=K20.ns ms) rfl (y:=ak x) (by rw[ar,ex];rfl))) (aad (y:=fj r) (by rw[ar,er];rfl))) rfl
    refine b6 (a3v i1) ?_;refine b6 (aZ (λz=>MI.thn z _) e) ?_;rw[ql];exact aob rfl ckk (show a2j (ak i) (.int 1) _=.ok (ak (i+1)) _ from rfl)
   ·rintro pre y post τ h all ⟨t3,rfl,rfl⟩
    have nd:=a4a pre ms inv.1;have fl:(pre.foldl L2.stepK ms).length<=G.length:=BF.sr _ _ nd λz hz=>((ur pre ms z).mp hz).elim (inv.2.1 z) λhz=>g.rg r (aN er) z (by rw[all];simp[hz])
    refine⟨_,_,rfl,[some (.tup (G.map fj)),some (.ref 0),some (ak i),some (ak y)],[.lst (K20.ns ((pre++[y]).foldl L2.stepK ms))],?_,_,rfl,rfl⟩;rw[dI,bL,hJ]
    generalize pre.foldl L2.stepK ms=u at nd fl
    unfold nj
    by_cases q:y∈u
    ·refine b6 (ifF (t2s (ao rfl) (ao rfl) ((K20.aaf rfl).trans (by rw[aS q];rfl)))) ?_
     rw[show L2.stepK u y=u from aQ q]
     rfl
    ·refine b6 (ifT (t2s (ao rfl) (ao rfl) ((K20.aaf rfl).trans (by rw[aR q];rfl)))) ?_
     rw[show L2.stepK u y=u++[y] from bg q]
     unfold K20.ns;rw[bC];exact zj (ao rfl) rfl (arg1 (ao rfl)) (a0v (xs:=u.map ak) rfl (by rw[a9];exact yg (by omega)))
  ·refine .inl ⟨_,t2s (ao rfl) (qu (ao rfl) lm) (axe (by omega)),i,t3,rfl,?_⟩
   rw[<-inv.2.2.2,K20.a1x (bt (by omega))]
end
def kk(G:List (List Nat))(M:List Int)(r:Nat):List Int:=ki M r::(row G r).map (ki M)
def kys(G:List (List Nat))(M:List Int):List (List Int):=(List.range G.length).map (kk G M)
def Mt(Q:Table):Nat->List Int
 |0=>Q.ks
 |t+1=>(nb (kys Q.go (Mt Q t))).map Int.ofNat
theorem kys_len(G:List (List Nat))(M:List Int):(kys G M).length=G.length:=by unfold kys;rw[a9,aO]
theorem akz{G:List (List Nat)}{M:List Int}{r:Nat}(h:r<G.length):(kys G M)[r]? = some (kk G M r):=by unfold kys;rw[ar,bN h];rfl
theorem al0{β:Type}{g:Nat->β}:∀{l:List Nat},l.Nodup->(∀x∈l,∀y∈l,g x=g y->x=y)->(l.map g).Nodup
 |[],_,_=>cG
 |a::l,nd,inj=>by
  obtain⟨n1,n2⟩:=bX.mp nd;rw[aK,bX];refine⟨λz=>?_,al0 n2 λx hx y hy=>inj x (ai _ hx) y (ai _ hy)⟩;obtain⟨b,hb,e⟩:=aE.mp z;exact n1 (inj b (ai _ hb) a aP e ▸ hb)
theorem aup(Q:Table)(t:Nat){r:Nat}(h:r<Q.go.length):ki (Mt Q (t+1)) r=(ix (kys Q.go (Mt Q t)) (kk Q.go (Mt Q t) r):Nat):=by
 unfold ki;show(((nb (kys Q.go (Mt Q t))).map Int.ofNat)[r]?).getD 0=_;rw[ar,a4h (akz h)];rfl
theorem kys_in{G:List (List Nat)}{M:List Int}{r:Nat}(h:r<G.length):kk G M r∈kys G M:=aN (akz h)
theorem ay0{Q:Table}(hq:Q.Ok){x y:Nat}(hx:x<Q.go.length)(hy:y<Q.go.length):at' (C Q.go Q.ks 0) x=at' (C Q.go Q.ks 0) y↔ki Q.ks x=ki Q.ks y:=by
 have at0:∀x,x<Q.go.length->Q.ks[x]? = some (ki Q.ks x):=λx hx=>by
  unfold ki;rw[a6 (show x<Q.ks.length by rw[hq.kl];exact hx)];rfl
 unfold C at';rw[a4h (at0 x hx),a4h (at0 y hy)];exact⟨λe=>a4u (aN (at0 x hx)) (aN (at0 y hy)) e,λe=>by rw[e]⟩
section
variable{T:Table}{f:Nat->Nat}{m u:Nat}
theorem auq(h:T.Ok)(d:Fd T m f){t:Nat}(M:List Int)(ih:∀r s,r<T.go.length->s<T.go.length->(ki M (f r)=ki M (f s)↔at' (C T.go T.ks t) r=at' (C T.go T.ks t) s)){r s:Nat}(hr:r<T.go.length)(hs:s<T.go.length) :
  kk (qT T m f).go M (f r)=kk (qT T m f).go M (f s)↔at' (C T.go T.ks (t+1)) r=at' (C T.go T.ks (t+1)) s:=by
 rw[show C T.go T.ks (t+1)=rf T.go (C T.go T.ks t) from rfl,a8z (a0e h.kl t) hr hs]
 unfold kk;rw[fP,ih r s hr hs,a6i d hr,a6i d hs,aV,aV];exact⟨λ⟨x,y⟩=>⟨x,zx _ _ (λp hp q hq e=>(ih p q (qj h hp) (qj h hq)).mp e) y⟩,λ⟨x,y⟩=>⟨x,zx _ _ (λp hp q hq e=>(ih p q (qj h hp) (qj h hq)).mpr e) y⟩⟩
theorem ayz(h:T.Ok)(d:Fd T m f):∀(t:Nat) (r s:Nat),r<T.go.length->s<T.go.length->(ki (Mt (qT T m f) t) (f r)=ki (Mt (qT T m f) t) (f s)↔at' (C T.go T.ks t) r=at' (C T.go T.ks t) s)
 |0,r,s,hr,hs=>by
  rw[ay0 h hr hs];show ki (qT T m f).ks (f r)=ki (qT T m f).ks (f s)↔_;rw[aui d hr,aui d hs]
 |t+1,r,s,hr,hs=>by
  have lr:f r<(qT T m f).go.length:=by rw[u9];exact d.nu.lt r hr
  have ls:f s<(qT T m f).go.length:=by rw[u9];exact d.nu.lt s hs
  rw[<-auq h d (Mt (qT T m f) t) (ayz h d t) hr hs,aup _ _ lr,aup _ _ ls];exact⟨λe=>a4u (kys_in lr) (kys_in ls) (by omega),λe=>by rw[e]⟩
theorem ag5(h:T.Ok)(d:Pt T u m f):(bw (kys (qT T m f).go (Mt (qT T m f) (u-1)))).length=m/\u-1<m:=by
 have g:=auf h
 constructor
 ·have nd:(kys (qT T m f).go (Mt (qT T m f) (u-1))).Nodup:=by
   unfold kys;rw[u9];refine al0 dA λx hx y hy e=>?_;obtain⟨r,hr,rfl⟩:=d.nu.on x (aX.mp hx);obtain⟨s,hs,rfl⟩:=d.nu.on y (aX.mp hy);have e:=(auq h d.toFd _ (ayz h d.toFd (u-1)) hr hs).mp e;refine(d.eq r s hr hs).mpr ?_
   cases u with
   |zero=>exact e
   |succ u =>
    rw[show u+1-1+1=u+1 by omega]at e
    exact(still (a0e h.kl (u+1)) d.la.stop hr hs).mpr e
  rw[(a3i _).mpr nd,kys_len,u9]
 ·have up:∀v,v<=u->v+1<=cnt (C T.go T.ks v):=λv=>by
   induction v with
   |zero=>intro _;exact(ayy g 0 (hh:=[])).2.1
   |succ v ih=>intro hv;have:=ih (by omega);have:=d.la.more v (by omega);omega
  have le:cnt (C T.go T.ks u)<=m:=by
   have:(bw (C T.go T.ks u)).length<=((List.range m).map λk=>at' (C T.go T.ks u) (fs T.go.length f k)).length:=(af5 _).length_le_of_subset λx hx=>by
    obtain⟨i,hi,rfl⟩:=bW (ik.mp hx);have hi':i<T.go.length:=by rw[a0e h.kl u]at hi;exact hi
    have e0:(C T.go T.ks u)[i]=at' (C T.go T.ks u) i:=by have:=a3t hi;rw[a6 hi]at this;exact bp this
    rw[e0];refine aE.mpr ⟨f i,aX.mpr (d.nu.lt i hi'),?_⟩;have fl:=a4i d.nu (d.nu.lt i hi');have e1:=(d.eq _ i fl hi').mp (axs d.nu (d.nu.lt i hi'));exact(still (a0e h.kl u) d.la.stop fl hi').mp e1
   rw[a9,aO]at this;exact this
  have:=up u (ah _)
  have:=d.nu.m1
  omega
end
def kyK(l:List Int):List Key:=l.map λi=>(.inl i:Key)
theorem a6k{a b:List Int}(e:kyK a=kyK b):a=b:=(g9 λx y h=>fH h).mp e
theorem ag6:∀l:List Int,aht (.tup (l.map D.int))=some (kyK l):=λl=>by
 show v4 a3p (l.map D.int)=some (kyK l)
 induction l with
 |nil=>rfl
 |cons a l ih =>
  rw[aK];unfold v4;rw[ih];rfl
section
variable{H0:Hd}{ks:List (List Int)}{l:O}
theorem hp0(a b:O):(H0++[a,b])[H0.length]? = some a:=by rw[aw (ah _)];simp
theorem hp1(a b:O):(H0++[a,b])[H0.length+1]? = some b:=by rw[aw (by omega)];simp
theorem al1(k:List Int):age (.ref H0.length) (.tup (k.map D.int)) (H0++[.dT (dct kyK ks),l])=some (a0b (dct kyK ks) (kyK k)):=by
 unfold age;simp only[hp0,ag6];rfl
theorem aur(k:List Int):aa1 true (.tup (k.map D.int)) (.ref H0.length) (H0++[.dT (dct kyK ks),l])=.ok (.bl (!decide (k∈ks))) (H0++[.dT (dct kyK ks),l]):=by
 unfold aa1;rw[al1]
 by_cases q:k∈ks
 ·rw[a4z (λ_ _=>a6k) q];simp[q]
 ·rw[a93 (λ_ _=>a6k) q];simp[q]
theorem al2{k:List Int}(q:k∈ks):a2k (.ref H0.length) (.tup (k.map D.int)) (H0++[.dT (dct kyK ks),l])=.ok (ak (ix ks k)) (H0++[.dT (dct kyK ks),l]):=by
 unfold a2k;rw[al1,a4z (λ_ _=>a6k) q]
theorem aa7:a2f [.ref H0.length] (H0++[.dT (dct kyK ks),l])=.ok (ak (bw ks).length) (H0++[.dT (dct kyK ks),l]):=by
 rw[asw (kvs:=dct kyK ks) (hp0 _ _),a1e]
theorem aus{k:List Int}(q:k∉ks)(lt:(bw ks).length<LINE):agf (.ref H0.length) (.tup (k.map D.int)) (ak (bw ks).length) (H0++[.dT (dct kyK ks),l])=some (H0++[.dT (dct kyK (ks++[k])),l]):=by
 unfold agf;simp only[hp0,ag6];rw[aQ (by rw[a1e];exact lt),a6g (λ_ _=>a6k) q,fq _ _ (ah _),gc]
 rfl
end
theorem ag7{α:Type}[DecidableEq α](ks:List α)(k:α):nb (ks++[k])=nb ks++[ix (ks++[k]) k]:=by
 rw[afz]
 congr 2
 by_cases h:k∈ks
 ·rw[aQ h];unfold ix;rw[xj,show L2.stepK (bw ks) k=bw ks from aQ (ik.mpr h)]
 ·rw[bg h];unfold ix;rw[xj,show L2.stepK (bw ks) k=bw ks++[k] from bg λz=>h (ik.mp z),e9,bg λz=>h (ik.mp z)]
  simp
theorem aut{α:Type}[DecidableEq α]{ks:List α}{k:α}(q:k∈ks):ix (ks++[k]) k=ix ks k:=by
 unfold ix;rw[xj,show L2.stepK (bw ks) k=bw ks from aQ (ik.mpr q)]
def Mk(M:List Int)(mk:D)(hh:Hd):Prop:=mk=.rol (M.map D.int)\/∃j,mk=.ref j/\hh[j]? = some (.lst (M.map D.int))
theorem Mk.ix{M:List Int}{mk:D}{hh:Hd}(h:Mk M mk hh){r:Nat}(hr:r<M.length):gIx mk (ak r) hh=.ok (.int (ki M r)) hh:=by
 have e:(M.map D.int)[r]? = some (.int (ki M r)):=by unfold ki;rw[ar,a6 hr];rfl
 rcases h with rfl|⟨j,rfl,e2⟩
 ·exact ap2 e
 ·exact a3w e2 e
theorem Mk.more{M:List Int}{mk:D}{H0:Hd}(h:Mk M mk H0)(m:Hd):Mk M mk (H0++m):=by
 rcases h with rfl|⟨j,rfl,e⟩
 ·exact .inl rfl
 ·exact .inr ⟨j,rfl,by rw[ax (a7.mp e).1];exact e⟩
theorem al3{H0:Hd}{ks:List (List Int)}{l:List Nat}(c0:∀o∈H0,a0g 0 o)(n:Nat):∀o∈H0++[.dT (dct kyK ks),.lst (l.map ak)],a0g n o:=λo ho=>by
 rcases bB.mp ho with h|h
 ·exact vg (bU _) (c0 o h)
 ·simp only[ay,bq,cK]at h
  rcases h with rfl|rfl
  ·show clos n ((dct kyK ks).map (·.2));unfold dct;rw[aV];exact bc λx _=>bf _
  ·exact dg _
section
variable{Q:Table}
theorem aje(h:Q.Ok){M:List Int}(lm:M.length=Q.go.length){mk:D}{H0:Hd}(hm:Mk M mk H0)(c0:∀o∈H0,a0g 0 o){pre:List (List Int)}{y t:Nat}(hy:y<Q.go.length)(lp:pre.length<=1000){t8:Option D}{b:D} :
  dw [some (.tup (Q.go.map fj)),some b,some mk,some (ak t),some (.ref H0.length),some (.ref (H0.length+1)),some (ak y),some (fj (row Q.go y)),t8] (H0++[.dT (dct kyK pre),.lst ((nb pre).map ak)]) =
   .nx [some (.tup (Q.go.map fj)),some b,some mk,some (ak t),some (.ref H0.length),some (.ref (H0.length+1)),some (ak y),some (fj (row Q.go y)),some (.tup ((kk Q.go M y).map D.int))] (H0++[.dT (dct kyK (pre++[kk Q.go M y])),.lst ((nb (pre++[kk Q.go M y])).map ak)]):=by
 have hm':=hm.more [O.dT (dct kyK pre),O.lst ((nb pre).map ak)];have c1:=al3 (ks:=pre) (l:=nb pre) c0 (H0++[O.dT (dct kyK pre),O.lst ((nb pre).map ak)]).length;have t6:=h.tong.hi;have rl:=a96 h hy;unfold dw;have z1:∀τ:Sd,τ[2]? = some (some mk)->τ[6]? = some (some (ak y))->sZ (sA a1h (aj (s2 gIx (sV 2) (sV 6)) bj)) τ (H0++[.dT (dct kyK pre),.lst ((nb pre).map ak)])=.ok (.rol [.int (ki M y)]) (H0++[.dT (dct kyK pre),.lst ((nb pre).map ak)]):=λτ e2 e6 =>
  yj (qu (u5 (ao e2) (ao e6) (hm'.ix (by rw[lm];exact hy))) (by unfold a1h;rw[aQ (dq (by simp))])) (bz (bf _) kh) c1
 have z2:∀τ:Sd,τ[2]? = some (some mk)->τ[7]? = some (some (fj (row Q.go y)))->sZ (jo (sIt (sV 7)) t1 ie [2]) τ (H0++[.dT (dct kyK pre),.lst ((nb pre).map ak)])=.ok (.rol (((row Q.go y).map (ki M)).map D.int)) (H0++[.dT (dct kyK pre),.lst ((nb pre).map ak)]):=λτ e2 e7=>by
  refine b6 (yj (ig ak (λx=>D.int (ki M x)) (row Q.go y) (a88 (ao e7) rfl) (dq (by omega)) λx hx=>?_) (bc λx _=>bf _) c1) (by rw[aV];rfl)
  have fr:frs' [2] τ=[some mk]:=by simp[frs',e2]
  show ie (some (ak x)::frs' [2] τ) _=_;rw[fr];unfold ie;exact u5 (ao rfl) (ao rfl) (hm'.ix (by rw[lm];exact qj h hx))
 have ad:lq (.rol [.int (ki M y)]) (.rol (((row Q.go y).map (ki M)).map D.int)) (H0++[.dT (dct kyK pre),.lst ((nb pre).map ak)])=.ok (.ref (H0++[O.dT (dct kyK pre),O.lst ((nb pre).map ak)]).length) ((H0++[.dT (dct kyK pre),.lst ((nb pre).map ak)])++[.lst ((kk Q.go M y).map D.int)]):=by
  rw[aea rfl rfl,aQ (dq (by rw[a9,a9,aM];omega))]
  rfl
 refine b6 (jy (qu (yj (u5 (z1 _ rfl rfl) (z2 _ rfl rfl) ad) (bc λx _=>bf _) c1) (show jf [.rol ((kk Q.go M y).map D.int)] _=.ok (.tup ((kk Q.go M y).map D.int)) _ from rfl))) ?_
 have ap:∀{ks:List (List Int)} {x:Nat} {l:List Nat},l.length<=1000->a2a (.ref (H0.length+1)) [ak x] (H0++[.dT (dct kyK ks),.lst (l.map ak)])=.ok .non (H0++[.dT (dct kyK ks),.lst ((l++[x]).map ak)]):=λ{ks x l} ll=>by
  rw[a0v (xs:=l.map ak) (hp1 _ _) (by rw[a9];exact yg (by omega)),fq _ _ (by omega),show H0.length+1-H0.length=1 by omega,bC]
  rfl
 have il:∀{a b:O} {xs:List D},b=.lst xs->isL (.ref (H0.length+1)) (H0++[a,b])=true:=λ{a b xs} e=>by unfold isL;simp only[hp1,e]
 by_cases q:kk Q.go M y∈pre
 ·refine b6 (ifN (t2s (ao (i:=8) rfl) (ao (i:=4) rfl) ((aur _).trans (by rw[aS q];rfl)))) ?_
  have e1:dct kyK (pre++[kk Q.go M y])=dct kyK pre:=a6h q;rw[ag7,e1,aut q];exact zj (ao (i:=5) rfl) (il rfl) (arg1 (u5 (ao (i:=4) rfl) (ao (i:=8) rfl) (al2 q))) (ap (by rw[a4v];exact lp))
 ·refine b6 (zg (ifT (t2s (ao (i:=8) rfl) (ao (i:=4) rfl) ((aur _).trans (by rw[aR q];rfl))) |>.trans (aac (qu (ao (i:=4) rfl) aa7) (ao (i:=4) rfl) (ao (i:=8) rfl) (aus q (yg (by have:=af6 pre;omega)))))) ?_
  rw[ag7];exact zj (ao (i:=5) rfl) (il rfl) (arg1 (u5 (ao (i:=4) rfl) (ao (i:=8) rfl) (al2 (by simp)))) (ap (by rw[a4v];exact lp))
end
theorem ajf:∀(n:Nat) (d:D),pur n d=true->eqD d d=true:=by
 intro n
 induction n with
 |zero=>intro d h;cases d<;>first|(simp[eqD];done)|(cases h;done)
 |succ n ih =>
  intro d h
  cases d with
  |tup xs =>
   simp only[pur,bQ]at h;simp only[eqD]
   induction xs with
   |nil=>rfl
   |cons x xs ih2 =>
    simp only[a4f,cv];exact⟨ih x (h x (aP ..)),ih2 λy hy=>h y (ai _ hy)⟩
  |_=>first|(simp[eqD];done)|(cases h;done)
theorem a6l{n:Nat}{xs:List D}(h:∀x∈xs,pur n x=true):pur (n+1) (.tup xs)=true:=by
 show xs.all (pur n)=true;rw[bQ];exact h
theorem a99(Q:Table):pur 60 Q.d=true:=by
 refine a6l λx hx=>?_;simp only[ay,bq,cK]at hx
 rcases hx with rfl|rfl|rfl
 ·rfl
 ·refine a6l λy hy=>?_;obtain⟨r,_,rfl⟩:=aE.mp hy;refine a6l λz hz=>?_;obtain⟨k,_,rfl⟩:=aE.mp hz;rfl
 ·refine a6l λy hy=>?_;obtain⟨k,_,rfl⟩:=aE.mp hy;rfl
theorem auu(Q:Table)(h:Hd):hEq Q.d Q.d h=.ok (.bl true) h:=by
 unfold hEq;rw[aQ ⟨a99 Q,a99 Q⟩,ajf 60 _ (a99 Q)]
theorem auv(a b:Nat)(h:Hd):hEq (ak a) (ak b) h=.ok (.bl (decide (a=b))) h:=by
 show R.ok (D.bl ((a:Int) == (b:Int))) h=_
 by_cases e:a=b
 ·subst e;simp
 ·rw[aR e,bT.mpr (λz=>e (by omega))]
section
variable{Q:Table}
noncomputable def gf:SF:=qt jr 9
theorem auw(h:Q.Ok):∀t,(Mt Q t).length=Q.go.length
 |0=>h.kl
 |t+1=>by
  show((nb (kys Q.go (Mt Q t))).map Int.ofNat).length=_;rw[a9,a4v,kys_len]
theorem a6m(h:Q.Ok){t0:Nat}(e0:(bw (kys Q.go (Mt Q t0))).length=Q.go.length)(lt0:t0<Q.go.length):Pu gf 2 [.tup (Q.go.map fj),.tup (Q.ks.map D.int)] (.bl true):=by
 have n32:=h.n32;have cl:∀x∈[D.tup (Q.go.map fj),.tup (Q.ks.map D.int)],clo 0 x:=λx hx=>by
  simp only[ay,bq,cK]at hx
  rcases hx with rfl|rfl
  ·exact aah
  ·exact aai
 have lg:∀hh:Hd,jx [.tup (Q.go.map fj)] hh=.ok (ak Q.go.length) hh:=λhh=>yp.trans (by rw[a9])
 have lp:=a66 (g:=kN 3) (b:=dz) (λi:Nat=>D.int (i:Nat))
  (λpre τ hh=>pre.length<=t0/\∃(mk:D) (t3 t4 t5 t6 t7 t8:Option D),τ=[some (.tup (Q.go.map fj)),some (.tup (Q.ks.map D.int)),some mk,t3,t4,t5,t6,t7,t8]/\(∀o∈hh,a0g 0 o)/\Mk (Mt Q pre.length) mk hh)
  (λd hh=>d=.bl true) (List.range Q.go.length) [] [some (.tup (Q.go.map fj)),some (.tup (Q.ks.map D.int)),some (.rol (Q.ks.map D.int)),none,none,none,none,none,none] [] ?_ ⟨bU _,_,none,none,none,none,none,none,rfl,by simp,.inl rfl⟩
 ·have fin:∃h',forL (λ_=>True) (kN 3) dz ((List.range Q.go.length).map λi:Nat=>D.int (i:Nat)) [some (.tup (Q.go.map fj)),some (.tup (Q.ks.map D.int)),some (.rol (Q.ks.map D.int)),none,none,none,none,none,none] []=.rt (.bl true) h':=by
   rcases lp with⟨τ',h',_,le,_⟩|⟨d,h',e,rfl⟩
   ·rw[cq,aO]at le;omega
   ·exact⟨h',e⟩
  obtain⟨h',e⟩:=fin;refine Pu.of rfl cl (r:=.ok (.bl true) h') ?_ (j5 (wu _) (by simp)) (wu _)
  unfold gf;rw[dm];show toR (jr [some (.tup (Q.go.map fj)),some (.tup (Q.ks.map D.int)),none,none,none,none,none,none,none] [])=_;unfold jr;refine ets (yj (xs:=Q.ks.map D.int) (qu (ao (i:=1) rfl) (show a1o [.tup (Q.ks.map D.int)] []=.ok (.ref 0) [.lst (Q.ks.map D.int)] from rfl)) (bc λx _=>bf _) (by simp)) ?_
  refine etr (a3v (a3u (qu (ao (i:=0) rfl) (lg _)) (dq (by omega)))) ?_
  refine etr (aZ (λz=>MI.thn z _) e) ?_;rfl
 ·rintro pre x post τ hh all ⟨le,mk,t3,t4,t5,t6,t7,t8,rfl,c0,hm⟩
  have xe:x=pre.length:=by
   have e1:=aZ (λl=>l[pre.length]?) all;simp only[cq]at e1;rw[aw (ah _),gc,bE]at e1;have:=a7.mp e1;obtain⟨h1,h2⟩:=this;rw[gs]at h2;exact h2.symm
  subst xe;have lm:=auw h pre.length;refine⟨_,_,rfl,?_⟩;have inner:=um (g:=a4q 2 (jw (kN 6) (jw (kN 7) a5s))) (b:=dw) (λr=>D.tup [ak r,fj (row Q.go r)])
   (λp2 τ h2=>∃t6 t7 t8:Option D,τ=[some (.tup (Q.go.map fj)),some (.tup (Q.ks.map D.int)),some mk,some (ak pre.length),some (.ref hh.length),some (.ref (hh.length+1)),t6,t7,t8]/\h2=hh++[.dT (dct kyK (p2.map (kk Q.go (Mt Q pre.length)))),.lst ((nb (p2.map (kk Q.go (Mt Q pre.length)))).map ak)])
   (List.range Q.go.length) [some (.tup (Q.go.map fj)),some (.tup (Q.ks.map D.int)),some mk,some (ak pre.length),some (.ref hh.length),some (.ref (hh.length+1)),t6,t7,t8] (hh++[.dT (dct kyK ([].map (kk Q.go (Mt Q pre.length)))),.lst ((nb ([].map (kk Q.go (Mt Q pre.length)))).map ak)]) ?_ ⟨t6,t7,t8,rfl,rfl⟩
  ·obtain⟨τ',h',e,u6,u7,u8,rfl,rfl⟩:=inner;have en:a1r (sV 0) [some (.tup (Q.go.map fj)),some (.tup (Q.ks.map D.int)),some mk,some (ak pre.length),some (.ref hh.length),some (.ref (hh.length+1)),t6,t7,t8] (hh++[.dT [],.lst []])=.ok ⟨(List.range Q.go.length).map λr=>D.tup [ak r,fj (row Q.go r)],λ_=>True⟩ (hh++[.dT [],.lst []]):=by
    refine(K32.au4 (ao (i:=0) rfl)).trans ?_
    congr 2
    rw[a9];refine bV λr hr=>?_;have hr:=aX.mp hr;rw[ar];unfold row;rw[a6 hr];rfl
   have kq:(List.range Q.go.length).map (kk Q.go (Mt Q pre.length))=kys Q.go (Mt Q pre.length):=rfl;have pre0:∀g:SS,di (j4 4 aeu) (di (j4 5 (sA a1h bj)) (di (a6p (a1r (sV 0)) (a4q 2 (jw (kN 6) (jw (kN 7) a5s))) dw) g)) [some (.tup (Q.go.map fj)),some (.tup (Q.ks.map D.int)),some mk,some (ak pre.length),t4,t5,t6,t7,t8] hh=g [some (.tup (Q.go.map fj)),some (.tup (Q.ks.map D.int)),some mk,some (ak pre.length),some (.ref hh.length),some (.ref (hh.length+1)),u6,u7,u8] (hh++[.dT (dct kyK (kys Q.go (Mt Q pre.length))),.lst ((nb (kys Q.go (Mt Q pre.length))).map ak)]):=λg=>by
    refine b6 (jy (d:=.ref hh.length) (h1:=hh++[.dT []]) rfl) ?_;refine b6 (jy (d:=.ref (hh.length+1)) (h1:=hh++[.dT [],.lst []]) ?_) ?_
    ·show sA a1h bj _ (hh++[.dT []])=_;unfold sA bj;rw[aq];unfold a1h;rw[aQ (dq (by simp)),ag,aM,d0];rfl
    refine b6 (a3v en) ?_;refine b6 (aZ (λz=>MI.thn z _) e) ?_;rw[ql,kq]
   have lt:sT (s2 hEq (sA a2f (aj (sV 4) bj)) (sA jx (aj (sV 0) bj))) [some (.tup (Q.go.map fj)),some (.tup (Q.ks.map D.int)),some (.ref (hh.length+1)),some (ak pre.length),some (.ref hh.length),some (.ref (hh.length+1)),u6,u7,u8] (hh++[.dT (dct kyK (kys Q.go (Mt Q pre.length))),.lst ((nb (kys Q.go (Mt Q pre.length))).map ak)])=.ok (decide ((bw (kys Q.go (Mt Q pre.length))).length=Q.go.length)) (hh++[.dT (dct kyK (kys Q.go (Mt Q pre.length))),.lst ((nb (kys Q.go (Mt Q pre.length))).map ak)]) :=
    t2s (qu (ao (i:=4) rfl) aa7) (qu (ao (i:=0) rfl) (lg _)) (auv _ _ _)
   have body:dz [some (.tup (Q.go.map fj)),some (.tup (Q.ks.map D.int)),some mk,some (ak pre.length),t4,t5,t6,t7,t8] hh=sIf (sT (s2 hEq (sA a2f (aj (sV 4) bj)) (sA jx (aj (sV 0) bj)))) (a04 (sC (.bl true))) sNx [some (.tup (Q.go.map fj)),some (.tup (Q.ks.map D.int)),some (.ref (hh.length+1)),some (ak pre.length),some (.ref hh.length),some (.ref (hh.length+1)),u6,u7,u8] (hh++[.dT (dct kyK (kys Q.go (Mt Q pre.length))),.lst ((nb (kys Q.go (Mt Q pre.length))).map ak)]):=by
    unfold dz;rw[pre0];exact jy (ao (i:=5) rfl)
   by_cases q:(bw (kys Q.go (Mt Q pre.length))).length=Q.go.length
   ·exact .inr ⟨.bl true,_,body.trans ((ifT (lt.trans (by rw[aS q]))).trans (a03 ckk)),rfl⟩
   ·refine .inl ⟨_,_,body.trans ((ifF (lt.trans (by rw[aR q]))).trans rfl),?_,.ref (hh.length+1),_,_,_,_,_,_,rfl,al3 c0 0,.inr ⟨hh.length+1,rfl,?_⟩⟩
    ·rw[ag,aM]
     by_cases z:pre.length=t0
     ·rw[z]at q;exact absurd e0 q
     ·omega
    ·rw[hp1,ag,aM];show some (O.lst ((nb (kys Q.go (Mt Q pre.length))).map ak))=some (.lst (((nb (kys Q.go (Mt Q pre.length))).map Int.ofNat).map D.int));rw[a1f]
  ·rintro p2 y po τ h2 all2 ⟨v6,v7,v8,rfl,rfl⟩
   have hy:y<Q.go.length:=aX.mp (by rw[all2];simp)
   have pl:p2.length<=1000:=by have:=aZ List.length all2;rw[aO,ag]at this;omega
   refine⟨[some (.tup (Q.go.map fj)),some (.tup (Q.ks.map D.int)),some mk,some (ak pre.length),some (.ref hh.length),some (.ref (hh.length+1)),some (ak y),some (fj (row Q.go y)),v8],_,rfl,_,_,aje h lm hm c0 hy (by rw[a9];exact pl),_,_,_,rfl,?_⟩
   rw[bC];rfl
end
section
variable{T:Table}
noncomputable def jm:SF:=qt (xg gf iz K31.iy g8 K31.qp) 2
theorem aal(h:T.Ok)(rc:∀r,r<T.go.length->PN.Rch T.go r):Pu jm 1 [T.d] (.bl true):=by
 obtain⟨u,la,pf⟩:=a5b h rc;have d:=axw h rc la;unfold avl at pf
 generalize fol T u=f at d pf
 generalize many (K20.met T.go) (C T.go T.ks (u+1))=m at d
 have lo:=a4c h d.toFd pf;have qo:=ap4 h d.toFd;have qr:=axx h rc d.toFd;have tb:=a97 qo;have sk:=a6j h d.toFd;have io:=a98 (aot qo) (by rw[u9];exact aum h d.toFd d.dd)
 obtain⟨a1,a2⟩:=ag5 h d;have au:=a6m qo (t0:=u-1) (by rw[u9];exact a1) (by rw[u9];exact a2)
 obtain⟨v,lv,pf2⟩:=a5b qo qr;have d2:=auh qo qr lv;obtain⟨f1,f2⟩:=axz h d lv;unfold avl at pf2;rw[f2]at d2;have lo2:=a4c qo d2 pf2;rw[qq h d f1]at lo2;refine Pu.of rfl (one T.clo) (r:=.ok (.bl true) []) ?_ (j5 (wu _) (by simp)) (wu _)
 unfold jm;rw[dm];show toR (xg gf iz K31.iy g8 K31.qp [some T.d,none] [])=_;unfold xg;refine ets (qu (ao (i:=0) rfl) (lo _)) ?_;have i0:gIx T.d (.int 0) []=.ok (.str (S T.tg)) []:=aad (j:=0) rfl;have i1:gIx (qT T m f).d (.int 1) []=.ok (.tup ((qT T m f).go.map fj)) []:=aad (j:=1) rfl;have i2:gIx (qT T m f).d (.int 2) []=.ok (.tup ((qT T m f).ks.map D.int)) []:=aad (j:=2) rfl;refine eti (orF (agg (a6e (a0p (ao (i:=1) rfl) (u5 (ao (i:=0) rfl) ckk i0) (tb _)) (xm _))) (agg (a6e (a0p (ao (i:=0) rfl) (ao (i:=1) rfl) (sk _)) (xm _)))) ?_
 refine eti (orF (agg (a6e (qu (u5 (ao (i:=1) rfl) ckk i1) (io _)) (xm _))) (agg (a6e (a0p (u5 (ao (i:=1) rfl) ckk i1) (u5 (ao (i:=1) rfl) ckk i2) (au _)) (xm _)))) ?_;exact aZ toR (a03 (u5 (qu (ao (i:=1) rfl) (lo2 _)) (ao (i:=1) rfl) (auu _ _)))
end
noncomputable def ajg:SF:=qt (af4 K30.gm qm jm) 4
theorem auy(ns:List Int):∃h',ajg [.scr (ns.map D.int)] []=.ok (.bl true) h':=by
 obtain⟨o,P,e0⟩:=aod ns [];obtain⟨T1,o1,h1,r1,e1,P1⟩:=K30.a82 P (by omega)
 obtain⟨T2,o2,h2,r2,e2,P2⟩:=K30.a82 P1 (by omega)
 have k1:j6 false 1 K30.gm [.ref 0] [o]=.ok T1.d [o1]:=e1 0 _ rfl;have k2:j6 false 1 K30.gm [.ref 0] [o1]=.ok T2.d [o2]:=e2 0 _ rfl;have q1:=aal h1 r1;have q2:=aal h2 r2;refine⟨[o2],?_⟩;unfold ajg;rw[dm];show toR (af4 K30.gm qm jm [some (.scr (ns.map D.int)),none,none,none] [])=_;unfold af4;refine ets (qu (ao (i:=0) rfl) e0) ?_;refine ets (qu (ao (i:=1) rfl) k1) ?_;refine ets (qu (ao (i:=1) rfl) k2) ?_;exact aZ toR (a03 (aix (qu (ao (i:=2) rfl) (q1 _)) (aix (qu (ao (i:=3) rfl) (q2 _)) (qu (ao (i:=2) rfl) (q1 _)))))
end K29
namespace K29
open L2 MI
def ajh(K:Fg):Sp:=λvs H Q _=>∃(a:Addr) (ns:List Int),vs=[.ref a]/\SqF K H a (ns.map V.int)/\ns.length<=63/\∀H',Q (.bl true) H'
theorem a86{K:Fg}{ι:List Addr}{H:Hp}:∀ns:List Int,Reps K ι H (ns.map V.int) (ns.map D.int)
 |[]=>.nil
 |n::ns=>.cons (.int n) (a86 ns)
theorem auz{K:Fg}(vs:List V)(H:Hp)(Q:VK)(E:XK)(h:ajh K vs H Q E):a9s K 1 K29.ajg vs H Q E:=by
 obtain⟨a,ns,rfl,hS,hl,q⟩:=h;obtain⟨h',e⟩:=K29.auy ns;refine⟨rfl,[],[.scr (ns.map D.int)],[],.cons (.scr hS (a86 ns)) .nil,⟨cG,rfl,λi a o z=>by simp at z⟩,?_⟩
 rw[e]
 intro ι' H' b g r hr
 cases r
 exact q H'
theorem av0{K:Fg}{H:Hp}{a:Addr}{vs:List V}(hO:Only H)(hS:SqL K H a vs):SqF K H a vs:=by
 rcases hS with r|r
 ·rcases r with r|⟨o,r⟩
  ·rcases hO a with z|⟨o,xs,z⟩<;>rw[z]at r<;>cases r
  ·exact .inl ⟨o,r⟩
 ·exact .inr (.inr r)
abbrev fo(x:Str)(t:Stmt)(kV dc pm:Value)(an:Option Addr)(cd ct:Value):=PySem.W.fnOf x x (a0x t) (v5 t) (dj t) .none kV dc pm an cd ct
def Df(K:Fg)(f:Addr)(nm:Str)(i:Nat):Prop:=∃oc od kV dc pm an cd ct sl,PySem.W.nsIn K mainGlobals nm=some (some (.ref f))/\K.lookup f=some ⟨oc,od,.func (fo nm (top i) kV dc pm an cd ct),sl⟩/\PySem.W.codeIn K cd nm=true/\PySem.W.keepIn K (.ref f)=true
theorem df{K:Fg}{f:Addr}{nm:Str}{i:Nat}(d:Df K f nm i):∃e,PySem.W.nsIn K mainGlobals nm=some (some (.ref f))/\Fun K nm nm (top i) f e:=by
 obtain⟨_,_,_,_,_,_,_,_,_,a,l,c,k⟩:=d;exact⟨_,a,aqb l c k⟩
theorem al4{P:Program}{w:World}{K:Fg}{mg:Str->Option Value}{base:Heap}{f:Addr}{k:Nat}{N ps:List Str}{x:Str}{t:Stmt}{b:SS}{fd:FuncData}(Fu:Fun K x x t f fd)(m:MD P w K mg base f k N ps x t b):FnOk P w K mg base CX0 (k+1) f fd ps (a9s K ps.length (qt b N.length)):=ase Fu m.1 m.2
theorem xq{P:Program}{w:World}{K:Fg}{mg:Str->Option Value}{base h:Heap}{f:Addr}{nm:Str}{i k:Nat}{F:SF}{N ps:List Str}{b:SS}(d:Df K f nm i)(X:K.In h)(G:h.Ns mainGlobals mg)(m:MD P w K mg base f k N ps nm (top i) b)
  (h:∀(kV doc pm:Value) (an:Option Addr) (cdv ct:Value) (us:List Value),us.length=ps.length->bindArgs (PySem.W.fnOf nm nm (a0x (top i)) (v5 (top i)) (dj (top i)) .none kV doc pm an cdv ct) ⟨us,[]⟩=pure (ps.zip us)) (e:F=qt b N.length:=by rfl) :
  ∃fd,Dn P w K mg base (k+1) nm ps (a9s K ps.length F) f fd:=by
 obtain⟨_,a,Fu⟩:=df d;rw[e];exact⟨_,al4 Fu m,gM X G a,Fu.kp,Fu.binds h⟩
local macro_rules|`(tactic|walk_at "b") => `(tactic|(intro _ _ _ _ _ _ us hl;first|(apply ayg hl;intro _;exact rfl)|(apply ayh hl;intro _ _;exact rfl)|(apply atg hl;intro _ _ _;exact rfl)|(apply ayi hl;intro _ _ _ _;exact rfl)|(apply ayj hl;intro _ _ _ _ _;exact rfl)|(apply azq hl;intro _ _ _ _ _ _;exact rfl)|(apply len0 hl;exact rfl)))
theorem av1{l:PySem.W.OpenLaw}{w:World}{K:Fg}{h:Heap}{mg:Str->Option Value}{fa f1 f2 f3 f4 f5 f6 f7 f8 f9 f10 f11 f12 f13 f14 f15 f16 f17 f18 f19 f20 f21 f22 f23:Addr}(X:K.In h)(G:h.Ns mainGlobals mg)(hfa:mg "law" = some (.ref fa))
  (d1:Df K f1 "rooms_led_to" 2)
  (d2:Df K f2 "numbered" 4)
  (d3:Df K f3 "merged" 5)
  (d4:Df K f4 "merged_table" 6)
  (d5:Df K f5 "folding" 8)
  (d6:Df K f6 "least_of" 10)
  (d7:Df K f7 "_law_hand" 12)
  (d8:Df K f8 "_law_take" 13)
  (d9:Df K f9 "_law_signs" 14)
  (d10:Df K f10 "_law_tongue" 15)
  (d11:Df K f11 "_law_goes" 16)
  (d12:Df K f12 "_law_kinds" 17)
  (d13:Df K f13 "_law_shuffled" 18)
  (d14:Df K f14 "_law_split" 19)
  (d15:Df K f15 "_law_copied" 20)
  (d16:Df K f16 "_law_number" 21)
  (d17:Df K f17 "_law_is_row" 22)
  (d18:Df K f18 "_law_is_table" 23)
  (d19:Df K f19 "_law_in_order" 24)
  (d20:Df K f20 "_law_same_kinds" 25)
  (d21:Df K f21 "_law_all_unlike" 26)
  (d22:Df K f22 "_law_right" 27)
  (d23:Df K f23 "law" 28)
  (z1:PySem.W.nsIn K mainGlobals "abs" = some none) (z2:PySem.W.nsIn K mainGlobals "all" = some none) (z3:PySem.W.nsIn K mainGlobals "bool" = some none) (z4:PySem.W.nsIn K mainGlobals "dict" = some none) (z5:PySem.W.nsIn K mainGlobals "enumerate" = some none) (z6:PySem.W.nsIn K mainGlobals "int" = some none) (z7:PySem.W.nsIn K mainGlobals "isinstance" = some none) (z8:PySem.W.nsIn K mainGlobals "len" = some none) (z9:PySem.W.nsIn K mainGlobals "list" = some none) (z10:PySem.W.nsIn K mainGlobals "max" = some none) (z11:PySem.W.nsIn K mainGlobals "range" = some none) (z12:PySem.W.nsIn K mainGlobals "str" = some none) (z13:PySem.W.nsIn K mainGlobals "tuple" = some none) (z14:PySem.W.nsIn K mainGlobals "zip" = some none) {ty1:Tok} (y1:PySem.W.nsIn K mainGlobals "MOST_ROOMS" = some (some (.int 32 ty1))) :
  ∃fd:FuncData,(∀(s:Shared) (v:Value),BindsTo s fd ⟨[v],[]⟩ [("_law_script",v)])/\∀base:Heap,K.In base->base.Ns mainGlobals mg->FnOk l.prog w K mg base CX0 6 fa fd ["_law_script"] (ajh K):=by
 obtain⟨_,a23,F23⟩:=df d23;have e:=hfa.symm.trans (gM X G a23);cases e
 obtain⟨oc,od,kV23,dc23,pm23,an23,cd23,ct23,sl,rfl,lk,hc⟩:=id F23.ex;have b23:=F23.binds (ps:=["_law_script"]) (by walk_at "b")
 have M:Nm mg:=⟨bJ X G z1,bJ X G z2,bJ X G z3,bJ X G z4,bJ X G z5,bJ X G z6,bJ X G z7,bJ X G z8,bJ X G z9,bJ X G z10,bJ X G z11,bJ X G z12,bJ X G z13,bJ X G z14⟩;have C:Cn mg:=⟨⟨_,gM X G y1⟩⟩;refine⟨PySem.W.fnOf "law" "law" (a0x (top 28)) (v5 (top 28)) (dj (top 28)) .none kV23 dc23 pm23 an23 cd23 ct23,λs v=>.of_eq rfl,λbase _ _=>?_⟩
 obtain⟨_,D_0⟩:=xq (F:=K20.bx) (k:=0) d1 X G (m_0 M) (by walk_at "b")
 obtain⟨_,D_1⟩:=xq (F:=K31.az) (k:=0) d2 X G (m_1 M) (by walk_at "b")
 obtain⟨_,D_2⟩:=xq (F:=K31.kj) (k:=1) d3 X G (m_2 M C (dk D_1)) (by walk_at "b")
 obtain⟨_,D_3⟩:=xq (F:=K31.iw) (k:=0) d4 X G (m_3 M) (by walk_at "b")
 obtain⟨_,D_4⟩:=xq (F:=K31.uy) (k:=2) d5 X G (m_4 M (dk D_2) (dk D_1) (dk D_0)) (by walk_at "b")
 obtain⟨_,D_5⟩:=xq (F:=K31.qp) (k:=3) d6 X G (m_5 (dk D_4) (dk D_3)) (by walk_at "b")
 obtain⟨_,D_6⟩:=xq (F:=HND.qm) (k:=0) d7 X G (m_6 M) (by walk_at "b")
 obtain⟨_,D_7⟩:=xq (F:=HND.aa) (k:=0) d8 X G (m_7 M) (by walk_at "b")
 obtain⟨_,D_8⟩:=xq (F:=HND.iu) (k:=0) d9 X G (m_8 ) (by walk_at "b")
 obtain⟨_,D_9⟩:=xq (F:=HND.jg) (k:=1) d10 X G (m_9 M D_8 (by decide) (dk D_7)) (by walk_at "b")
 obtain⟨_,D_10⟩:=xq (F:=HND.o9) (k:=1) d11 X G (azr M (dk D_7)) (by walk_at "b")
 obtain⟨_,D_11⟩:=xq (F:=HND.m7) (k:=1) d12 X G (azs M (dk D_7)) (by walk_at "b")
 obtain⟨_,D_12⟩:=xq (F:=HND.gh) (k:=1) d13 X G (azt M (dk D_7)) (by walk_at "b")
 obtain⟨_,D_13⟩:=xq (F:=K30.m8) (k:=1) d14 X G (azu M (dk D_7)) (by walk_at "b")
 obtain⟨_,D_14⟩:=xq (F:=K30.gm) (k:=2) d15 X G (azv M (dk D_10) (dk D_11) (dk D_12) (dk D_13) (dk D_7) (dk D_9)) (by walk_at "b")
 obtain⟨_,D_15⟩:=xq (F:=K32.gj) (k:=0) d16 X G (azw M) (by walk_at "b")
 obtain⟨_,D_16⟩:=xq (F:=K31.fu) (k:=1) d17 X G (azx M (dk D_15)) (by walk_at "b")
 obtain⟨_,D_17⟩:=xq (F:=K31.iy) (k:=2) d18 X G (azy M (dk D_16)) (by walk_at "b")
 obtain⟨_,D_18⟩:=xq (F:=K29.iz) (k:=0) d19 X G (azz M) (by walk_at "b")
 obtain⟨_,D_19⟩:=xq (F:=K29.g8) (k:=0) d20 X G (b00 M) (by walk_at "b")
 obtain⟨_,D_20⟩:=xq (F:=K29.gf) (k:=0) d21 X G (b01 M) (by walk_at "b")
 obtain⟨_,D_21⟩:=xq (F:=K29.jm) (k:=4) d22 X G (b02 (dk D_20) (dk D_18) (dk D_17) (dk D_19) (dk D_5)) (by walk_at "b")
 have D_22:Dn l.prog w K mg base 6 "law" ["_law_script"] (a9s K 1 (K29.ajg)) _ _:=⟨al4 F23 (b03 (dk D_14) D_6 (by decide) (dk D_21)),gM X G a23,F23.kp,b23⟩
 exact D_22.ok.imp auz
theorem walk{l:PySem.W.OpenLaw}{q:Program}{loose:List Str}{XP:(Str->Option Value)->Heap->Prop}{YP:World->Heap->Prop}{d:DefRec}{K:Params->Fg}(hn:l.most=some 63)(hdf:d.params.defaults=[])
  (hY:∀(w:World) (h:Heap),YP w h->(K w.params).In h)
  (F:∀(w:World) (mg:Str->Option Value) (fa:Addr) (h:Heap),(K w.params).In h->h.Ns mainGlobals mg->mg d.name=some (.ref fa)->
   ∃fd:FuncData,(∀(s:Shared) (u:Value),BindsTo s fd ⟨[u],[]⟩ [("_law_script",u)])/\∀base:Heap,(K w.params).In base->base.Ns mainGlobals mg->FnOk l.prog w (K w.params) mg base CX0 6 fa fd ["_law_script"] (ajh (K w.params))) :
  PySem.W.WalkO q loose XP YP l.row.toRowW d [] (λf vs=>PySem.call f vs) :=
 L2.als (n:=63) (k:=6) (x := "_law_script") (CX:=λ_=>CX0) (sp:=λw=>ajh (K w.params)) hn (by decide) hdf ⟨rfl,by decide,by decide,rfl⟩ hY F (λ_ _ a ns hl hO hS=>⟨a,ns,rfl,av0 hO hS,hl,λ_=>rfl⟩) λ_ _ _ _ _ z=>z
end K29
open PySem.W PyProof.Rows
local macro_rules|`(tactic|o_head $H) => `(tactic|refine PySem.W.holds_open (q:=K29.hq) (loose:=K29.hl) (Xt:=fun _=>true) (XP:=fun _ _=>True) (Yf:=Hook.obs $H) (Ya:=Hook.val $H) (YP:=Hook.says $H) (N:=20000) ?hl (Hook.of $H) (Hook.keeps $H) (fun _ _=>trivial) (fun _ _ _ _ _=>trivial) (by rfl) (by rfl) (by rfl) (fun _ _=>recFacts_nil rfl) (by rfl) (by assumption) (by decide +kernel) ⟨rfl,rfl,rfl,rfl,rfl,by decide +kernel⟩ ?hw ?hc)
set_option maxRecDepth 100000 in
set_option maxHeartbeats 0 in
theorem PySem.Challenge.cw_nearreach_k29_least_tables_holds : PySem.Challenge.rw_nearreach_k29_least_tables.Holds := by
 w_on;refine holds_law K29.said fun said=>?_;o_head (kHook K29.A.heap_1 [2,3,15,17,18,20,21,22,25,26,27,30,31,32,35,36,37,40,41,42,44,45,47,48,49,51,52,54,55,56,58,59,61,62,63,65,66,68,69,70,72,73,75,76,77,80,81,82,84,85,87,88,89,92,93,94,97,98,99,101,102,104,105,106,108,109,111,112,113,116,117,118,121,122,123,125,126,128,129,130,132,133,135,136,137,140,141,142,144,145,147,148,149,151,152,154,155] (fun _=>by kernel_rfl))
 (case hw=>w_witness2)
 (case hl=>exact K29.hlok)
 k_fill
 refine K29.walk (l:=PySem.Challenge.rw_nearreach_k29_least_tables) rfl rfl (fun w h Y=>PySem.W.kIn_of Y) ?F
 case F =>
  intro w mg fa h KX G hmg
  refine' K29.av1 KX G hmg ?_ ?_ ?_ ?_ ?_ ?_ ?_ ?_ ?_ ?_ ?_ ?_ ?_ ?_ ?_ ?_ ?_ ?_ ?_ ?_ ?_ ?_ ?_ ?_ ?_ ?_ ?_ ?_ ?_ ?_ ?_ ?_ ?_ ?_ ?_ ?_ ?_ ?y1
  all_goals first | k_is | exact ⟨_,_,_,_,_,_,_,_,_,by k_is,by k_is,by k_is,by k_is⟩ | skip
  try (case y1=>k_is)
