import PyProof.Rows.All
import Wide.All
import OpenK.AllK
import Wide.FinOn
import Lean
import PyProof.EqAt
import PyProof.EqKinds
import PyProof.TupleCall
import PyProof.ListStr
import PyProof.TupleOfStr
import PyProof.ConsumeWalk
import PyProof.SliceStr2
import PyProof.CompUse
import PyProof.Rows.SetFrom
import PyProof.SetRoads
import PyProof.StrLawsIn
import PyProof.Rows.StrIndexOr
import PyProof.Rows.StrJoin2
import PyProof.Rows.SumAny
import PyProof.WalkInts
import PyProof.SeqI3
import PyProof.Draws
import PyProof.ZipIter
import PyProof.EnumMake
import Wide.Txt2
import PyProof.Rows.SortWalk
import PyProof.ListRange
import PyProof.Rows.Range3
import KE.KStateDown
import PyProof.ReprRoads
import PyProof.CallFns
import KE.KTryDeep
import PyProof.ExcBaseAll.ValueError
import KE.KTryMore
import KE.KIsNot
import PyProof.ExcAttrAll.ValueError
import PyProof.NsDelKeeps
import PySem.SetOps
import PyProof.SetScanFacts
import PyProof.Walks
import PyProof.CollectWalk
import KE.KRevIter
import PyProof.CollectIter
import PyProof.WalksS
import PyProof.WalksMore
import PySem.Challenge.RW_nearreach_k41_steps_as_long_as_the_reach
set_option Elab.async false
set_option linter.all false
set_option maxRecDepth 100000
def af:=@List.getElem?_eq_getElem
def ag:=@PySem.wpAny_bind
def ah:=@List.getElem?_eq_some_iff
def ai:=@List.mem_singleton
def am:=@PySem.Heap.get?_push_of_some
def ar:=@Eq.trans
def av:=@congrArg
def aw:=@List.length_append
def ax:=@Nat.le_refl
def ay:=@List.length_singleton
def aA:=@List.length_map
def aB:=@PySem.wpAny_pure
def aC:=@List.getElem?_append_left
def aD:=@List.mem_cons
def aE:=@List.getElem?_map
def aF:=@List.getElem?_append_right
def aG:=@List.mem_cons_of_mem
def aH:=@PySem.Heap.lt_size
def aI:=@List.size_toArray
def aJ:=@PySem.Heap.get?_push_size
def aK:=@List.mem_cons_self
def aL:=@if_pos
def aM:=@List.mem_of_getElem?
def aN:=@List.not_mem_nil
def aO:=@Option.map_eq_some_iff
def aP:=@List.mem_range
def aQ:=@decide_eq_true
def aR:=@Nat.lt_of_lt_of_le
def aS:=@List.mem_append
def aT:=@List.length_range
def aU:=@decide_eq_false
def aV:=@List.mem_append_right
def aW:=@PySem.W.mg_of
def aX:=@Bool.and_eq_true
def aY:=@if_neg
def aZ:=@List.map_cons
def ba:=@List.length_cons
def bb:=@List.map_append
def bi:=@PySem.PassesOwn.never
def bn:=@List.all_eq_true
def bp:=@Nat.ne_of_lt
def bq:=@PySem.wpAny_mono
def br:=@Array.length_toList
def bv:=@List.pairwise_iff_getElem
def bA:=@List.mem_map
def bB:=@of_decide_eq_true
def bC:=@List.length_take
def bD:=@List.any_eq_true
def bE:=@Bool.false_ne_true
def bF:=@PySem.W.mg_none_of
def bG:=@List.mem_append_left
def bH:=@List.mem_filter
def bI:=@List.take_of_length_le
def bJ:=@List.getElem_mem
def bK:=@PySem.F.slot_list_append
def bL:=@Nat.zero_le
def bM:=@Option.some.inj
def bN:=@Int.eq_ofNat_of_zero_le
def bO:=@Array.getElem?_eq_getElem
def bP:=@List.length_drop
def bQ:=@Nat.lt_irrefl
def bR:=@List.getElem?_of_mem
def bS:=@List.getElem?_eq_none
def bT:=@or_false
def bU:=@PySem.wpAny_call_entry
def bV:=@PyProof.Rows.callWith_type1
def bW:=@List.append_nil
def bX:=@PyProof.Rows.slot_tuple_getitem
def bY:=@List.nodup_append
def bZ:=@PySem.F.type_list_append
def cb:=@Bool.false_eq_true
def cc:=@PySem.wpAny_callSpecial?_slot
def ci:=@List.getElem?_range
def cn:=@PySem.wpAny_newObj_type
def cp:=@List.map_map
def cq:=@Nat.mul_le_mul_right
def cr:=@List.drop_eq_nil_of_le
def cy:=@PySem.W.kia_one
def cA:=@PySem.mem_of_lookup
def cB:=@Nat.not_lt_zero
def cC:=@PySem.Heap.size_push
def cD:=@PySem.wpAny_holding
def cE:=@List.getElem?_set_self
def cF:=@List.nil_append
def cG:=@beq_eq_false_iff_ne
def cH:=@Nat.le_trans
def cI:=@PySem.wpAny_standAt
def cJ:=@List.reverse_reverse
def cK:=@Option.getD_some
def cL:=@PySem.Heap.get?_update_other
def cM:=@List.filterMap_cons
def cN:=@List.replicate_succ
def cO:=@PySem.Heap.SameBut.update
def cQ:=@PySem.wpAny_setState_of
def cR:=@List.getElem?_zip_eq_some
def cS:=@List.drop_eq_getElem_cons
def cT:=@Classical.byContradiction
def cU:=@List.nodup_cons
def cV:=@PySem.Heap.get?_update_self
def cW:=@List.find?_cons
def cX:=@Nat.succ_pos
def cY:=@List.find?_eq_none
def cZ:=@decide_eq_true_iff
def d0:=@List.getElem?_set_ne
def da:=@List.getElem?_replicate
def db:=@List.map_nil
def de:=@Nat.le_of_lt_succ
def dk:=@List.reverse_cons
def dl:=@List.map_congr_left
def dv:=@if_true
def dA:=@PySem.F.slot_tuple_iterator_next
def dB:=@PySem.wpAny_Call_Name_kw
def dC:=@Int.emod_lt_of_pos
def dD:=@List.map_singleton
def dE:=@PySem.wpAny_field
def dF:=@PySem.wpAny_passesOwn
def dG:=@Int.toNat_natCast
def dH:=@List.flatten_cons
def dI:=@not_true_eq_false
def dJ:=@Nat.lt_trichotomy
def dL:=@List.find?_range_eq_some
def dM:=@List.length_reverse
def dN:=@Bool.true_and
def dO:=@List.take_append_of_le_length
def dP:=@if_false
def dQ:=@PySem.wpAny_setField_rec
def dR:=@Nat.le_of_lt
def dS:=@PySem.sizeLine_eq
def dU:=@List.length_replicate
def dW:=@List.length_nil
def dX:=@List.range_succ
def dY:=@Nat.zero_add
def dZ:=@Int.emod_nonneg
def eA:=@PySem.wpAny_truthy_bool
def eC:=@PySem.wpAny_pyIter_list
def eD:=@List.any_cons
def eE:=@Nat.lt_succ_of_lt
def eF:=@List.ext_getElem?
def eG:=@List.mem_iff_getElem
def eI:=@PySem.wpAny_seqItems
def eJ:=@List.mem_of_find?_eq_some
def eK:=@Nat.le_of_not_lt
def eM:=@PySem.wpAny_askSetting
def eO:=@List.filter_cons
def eP:=@decide_eq_decide
def eQ:=@Ne.symm
def eR:=@List.getElem_of_mem
def eS:=@PySem.wpAny_comprehension_free
def eT:=@PySem.wpAny_rule
def eU:=@List.filterMap_cons_none
def eV:=@List.filterMap_cons_some
def eX:=@List.all_cons
def eY:=@Bool.or_eq_true
def eZ:=@List.getElem?_take
def ff:=@Bool.eq_iff_iff
def fg:=@PySem.wpAny_pyIter_rangeiter
def fh:=@List.range_succ_eq_map
def fk:=@Nat.lt_of_succ_lt_succ
def fm:=@PySem.wpAny_assign_Name
def fq:=@List.append_assoc
def fv:=@PySem.call_meets
def fz:=@PySem.wpAny_of_eq
def fA:=@Nat.mod_lt
def fB:=@Array.mem_iff_getElem
def fD:=@PySem.F.slot_range_reversed
def fE:=@List.ext_getElem
def fF:=@Nat.lt_succ_self
def fG:=@beq_self_eq_true
def fH:=@PySem.F.args_list_append_2
def fI:=@PySem.wpAny_newFunctionEnv
def fJ:=@List.pairwise_append
def fK:=@Array.getElem_toList
def fL:=@PySem.Around.under_plainId
def fM:=@Bool.or_eq_false_iff
def fN:=@PySem.F.args_tuple_iterator_next_1
def fO:=@PySem.wpAny_execs_nil
def fP:=@List.length_set
def fQ:=@List.foldl_cons
def fR:=@PySem.F.entry_list_append
def fS:=@PySem.wpAny_specialOf
def fT:=@PySem.F.entry_tuple_iterator_next
def fU:=@PySem.F.slot_zip_next
def fV:=@Int.fdiv_eq_ediv_of_nonneg
def fW:=@Array.getElem?_eq_some_iff
def fX:=@List.mem_filterMap
def fY:=@PySem.wpAny_typeOf
def fZ:=@Nat.add_comm
def g7:=@PySem.tupleKind_room_in1
def g9:=@List.all_map
def gc:=@Nat.lt_or_gt_of_ne
def gi:=@List.any_map
def gu:=@PySem.W.sortI_perm
def gy:=@List.pairwise_cons
def gz:=@Nat.pow_succ
def gA:=@of_decide_eq_false
def gB:=@Nat.lt_or_eq_of_le
def gC:=@List.nodup_nil
def gD:=@Option.isNone_iff_eq_none
def gE:=@PySem.isSubtype_type
def gF:=@List.any_eq_false
def gG:=@PySem.W.kitx_dict
def gH:=@Option.isSome_iff_exists
def gI:=@List.take_sublist
def gJ:=@PySem.F.args_tuple_add_2
def gK:=@PySem.list_append
def gL:=@beq_iff_eq
def gM:=@PySem.StrLaws.found_one
def gN:=@Option.some.injEq
def gO:=@Array.getElem_mem
def gP:=@PySem.Paired.length
def gQ:=@PySem.F.entry_tuple_add
def gR:=@List.getElem?_cons_zero
def gS:=@PySem.wpAny_onRaise
def gT:=@PySem.wpAny_attempt
def gU:=@Nat.le_succ
def gV:=@Nat.add_mul
def gW:=@List.length_eq_zero_iff
def gX:=@List.filter_cons_of_neg
def gY:=@List.filter_cons_of_pos
def gZ:=@PySem.noFill_tuple_add
def hG:=@Option.getD_none
def hJ:=@PySem.IsL.update
def hR:=@PySem.Around.in1_units
def hU:=@Nat.ne_of_gt
def hV:=@PySem.codeAny_mono
def hX:=@List.of_mem_zip
def hZ:=@PySem.seqIndex_neg
def i3:=@PySem.codeAny_loop
def i4:=@Option.map_some
def i5:=@decide_false
def i6:=@List.find?_some
def i7:=@PySem.codeAny_builtin
def i8:=@PySem.codeAny_of_tree
def i9:=@PySem.typeIs_str
def ia:=@List.drop_zero
def ib:=@Bool.and_false
def ic:=@Bool.not_false
def ii:=@Sum.inl.inj
def ij:=@PySem.seqIndex_of
def io:=@PySem.wpAny_noted
def ip:=@Nat.mod_mul
def iq:=@Bool.and_true
namespace L2
open PySem PySem.Spec PyProof.Rows
abbrev Key:=Sum Int Str
def age:Key->Value->Bool
 | .inl k,v=>Value.isInt k v
 | .inr x,v=>Value.isStrOf x v
def b3b(w:World):Key->Int
 | .inl k=>hashInt k
 | .inr x=>hashStr w x
theorem rm:∀ {k:Key} {v:Value},age k v=true->(∃ i t,k=Sum.inl i/\v=Value.int i t)\/(∃ x t,k=Sum.inr x/\v=Value.str x t)
 | .inl i,v,h=>by
  obtain ⟨t,e⟩:=Value.isInt_shape (k:=i) (v:=v) h;exact .inl ⟨i,t,rfl,e⟩
 | .inr x,v,h=>by
  obtain ⟨t,e⟩:=Value.isStrOf_shape (x:=x) (v:=v) h;exact .inr ⟨x,t,rfl,e⟩
theorem ahz(i:Int)(t:Tok):age (.inl i) (.int i t)=true:=by simp [age,Value.isInt]
theorem ai0(x:Str)(t:Tok):age (.inr x) (.str x t)=true:=by simp [age,Value.isStrOf]
theorem av6(a b:Int):decide ((Sum.inl a:Key)=Sum.inl b)=(a == b):=by
 by_cases e:a=b
 ·subst e;simp
 ·have h:¬ (Sum.inl a:Key)=Sum.inl b:=λq=>e (ii q);rw [aU h];exact (cG.mpr e).symm
theorem av7(a b:Str):decide ((Sum.inr a:Key)=Sum.inr b)=decide (a=b):=by
 by_cases e:a=b
 ·subst e;simp
 ·have h:¬ (Sum.inr a:Key)=Sum.inr b:=λq=>e (Sum.inr.inj q);rw [aU h,aU e]
theorem av8(a:Int)(b:Str):decide ((Sum.inl a:Key)=Sum.inr b)=false:=aU (λq=>nomatch q)
theorem av9(a:Str)(b:Int):decide ((Sum.inr a:Key)=Sum.inl b)=false:=aU (λq=>nomatch q)
def uh(prog:Program)(w:World):PySem.KeyKind prog w Key where
 is:=age
 hash:=b3b w
 inj:=λv a b ha hb=>by
  rcases rm ha with ⟨i,t,rfl,rfl⟩ | ⟨x,t,rfl,rfl⟩
  ·rcases rm hb with ⟨j,u,rfl,e⟩ | ⟨y,u,rfl,e⟩
   ·injection e with e1 _;rw [e1]
   ·exact nomatch e
  ·rcases rm hb with ⟨j,u,rfl,e⟩ | ⟨y,u,rfl,e⟩
   ·exact nomatch e
   ·injection e with e1 _;rw [e1]
 byValue:=λk v h=>by
  rcases rm h with ⟨i,t,rfl,rfl⟩ | ⟨x,t,rfl,rfl⟩<;>rfl
 pyHash:=λhv h=>by
  rcases rm hv with ⟨i,t,rfl,rfl⟩ | ⟨x,t,rfl,rfl⟩
  ·exact wpAny_pyHash_int h
  ·exact wpAny_pyHash_str h
 eqBool:=λhu hv h=>by
  rcases rm hu with ⟨i,t,rfl,rfl⟩ | ⟨x,t,rfl,rfl⟩
  ·rcases rm hv with ⟨j,u,rfl,rfl⟩ | ⟨y,u,rfl,rfl⟩
   ·rw [av6] at h;exact wpAny_eqBool_int h
   ·rw [av8] at h;exact SeqAt.EqAt.int_str i t y u _ _ _ _ h
  ·rcases rm hv with ⟨j,u,rfl,rfl⟩ | ⟨y,u,rfl,rfl⟩
   ·rw [av9] at h;exact SeqAt.EqAt.str_int x t j u _ _ _ _ h
   ·rw [av7] at h;exact wpAny_eqBool_str h
 «strs»:=λk x t v h=>by
  rcases rm h with ⟨i,u,rfl,e⟩ | ⟨y,u,rfl,e⟩
  ·exact nomatch e
  ·injection e with e1 _
   subst e1
   cases v<;>rfl
theorem adt(prog:Program)(w:World)(i:Int)(t:Tok):(uh prog w).is (.inl i) (.int i t)=true:=ahz i t
theorem adu(prog:Program)(w:World)(x:Str)(t:Tok):(uh prog w).is (.inr x) (.str x t)=true:=ai0 x t
inductive V where
 | non | bl (b:Bool) | int (i:Int) | str (x:Str) | byt (b:Array UInt8) | flt (b:UInt64) | ref (a:Addr) | ty (n:String)
 deriving DecidableEq
def RelV:V->Value->Prop
 | .non,u=>u=Value.none
 | .bl b,u=>u=Value.bool b
 | .int i,u=>∃ t,u=Value.int i t
 | .str x,u=>∃ t,u=Value.str x t
 | .byt b,u=>∃ t,u=Value.bytes b t
 | .flt b,u=>∃ t,u=Value.float b t
 | .ref a,u=>u=Value.ref a
 | .ty n,u=>u=Value.type n
abbrev Vals:List V->List Value->Prop:=Paired RelV
theorem Vals.length(r:Vals xs us):xs.length=us.length:=gP r
theorem Vals.get:∀ {xs:List V} {us:List Value} {i:Nat} {x:V},Vals xs us->xs[i]? = some x->∃ u,us[i]? = some u/\RelV x u
 | _,_,_,_, .nil,e=>by simp at e
 | _,_,0,_, .cons r _,e=>by simp at e;subst e;exact ⟨_,rfl,r⟩
 | _,_,i+1,x, .cons _ t,e=>by
  obtain ⟨u,h1,h2⟩:=Vals.get (i:=i) (x:=x) t (by simpa using e)
  exact ⟨u,by simpa using h1,h2⟩
theorem Vals.set(r:RelV x u):∀ {xs:List V} {us:List Value} (i:Nat),Vals xs us->Vals (xs.set i x) (us.set i u)
 | _,_,_, .nil=>.nil
 | _,_,0, .cons _ t=>.cons r t
 | _,_,i+1, .cons q t=>.cons q (Vals.set r i t)
theorem Vals.append:∀ {xs ys:List V} {us ws:List Value},Vals xs us->Vals ys ws->Vals (xs++ys) (us++ws)
 | _,_,_,_, .nil,s=>s
 | _,_,_,_, .cons r t,s=>.cons r (Vals.append t s)
theorem Vals.take:∀ {xs:List V} {us:List Value} (n:Nat),Vals xs us->Vals (xs.take n) (us.take n)
 | _,_,0,_=>.nil
 | _,_,_+1, .nil=>.nil
 | _,_,n+1, .cons r t=>.cons r (Vals.take n t)
theorem Vals.drop:∀ {xs:List V} {us:List Value} (n:Nat),Vals xs us->Vals (xs.drop n) (us.drop n)
 | _,_,0,r=>r
 | _,_,_+1, .nil=>.nil
 | _,_,n+1, .cons _ t=>Vals.drop n t
def RelO:Option V->Option Value->Prop
 | some v,some u=>RelV v u
 | none,none=>True
 | _,_=>False
def KV{κ:Type}:List (κ × V)->List (κ × Value)->Prop:=Paired λ(p:κ × V) (q:κ × Value)=>p.1=q.1/\RelV p.2 q.2
def kV:Key->V
 | .inl i=>.int i
 | .inr x=>.str x
inductive HO where
 | lst (xs:List V)
 | tup (xs:List V)
 | dK (kvs:List (Key × V)) | dT (kvs:List (List Key × V))
 | set (S:Int->Bool) (n:Nat)
 | ins (C dx:Addr) (fs:List (Str × V))
 | own (x:Addr)
 | xd (fs:List (Str × V))
 | met (f x:Addr)
 | rng (lo hi:Int)
 | frz (o:Obj) (u:HO)
 | tbl (ps:Array Value)
 | ext (φ:Heap->Prop)
abbrev Hp:=Addr->Option HO
def upd(H:Hp)(a:Addr)(o:HO):Hp:=λb=>if b=a then some o else H b
theorem qd:upd H a o a=some o:=by unfold upd;rw [aL rfl]
theorem jj(h:b≠a):upd H a o b=H b:=by unfold upd;rw [aY h]
theorem azv{H:Hp}{a b:Addr}{o u:HO}(h:H a=some o)(h':H b=some u)(d:o≠u):a≠b:=by
 intro e;subst e;rw [h] at h';exact d (bM h')
theorem jf{H:Hp}{a b:Addr}{o:HO}(h:H a=some o)(h':H b=none):a≠b:=by
 intro e;subst e;rw [h] at h';cases h'
section
variable(P:Program)(w:World)
def ObjOk(H:Hp)(h:Heap)(a:Addr):HO->Prop
 | .lst xs=>xs.length<=sizeLine/\∃ (its:List Value) (n:Nat),Vals xs its/\h.get? a=some { cls:=.type "list",data:=.seq its.toArray n }
 | .tup xs=>xs.length<=sizeLine/\∃ its:List Value,Vals xs its/\IsTup h a its.toArray
 | .dK kvs=>kvs.length<=sizeLine/\(a == sysModules)=false/\∃ vs,KV kvs vs/\h.DictOf (uh P w) a vs
 | .dT kvs=>kvs.length<=sizeLine/\(a == sysModules)=false/\∃ xs:List (List Key × Addr × Value),
   Paired (λ(p:List Key × V) (q:List Key × Addr × Value)=>p.1=q.1/\H q.2.1=some (.tup (p.1.map kV))/\RelV p.2 q.2.2) kvs xs /\
   ∃ o es ep,h.get? a=some o/\o.ExactDict/\o.data = .dict es ep/\es.toList=xs.map (entryOfKey (tupleKind (uh P w)))/\(xs.map (·.1)).Nodup
 | .set S n=>h.SetOf (intKind P w) a S n
 | .ins C dx fs=>H dx=some (.own a)/\fs.length<=1000/\dx≠a/\h.get? a=some (PySem.W.instObj C dx) /\
   ∃ mA,h.Ns1 dx mA/\(∀ f,RelO (fs.lookup f) (mA f))/\PySem.Within mA (fs.map (·.1))
 | .own _=>∃ o,h.get? a=some o
 | .xd fs=>∃ mA,h.Ns1 a mA/\∀ f,RelO (fs.lookup f) (mA f)
 | .rng lo hi=>∃ t u v,h.get? a=some { cls:=.type "range",data:=.fields #[.int lo t, .int hi u, .int 1 v] }
 | .frz o u=>h.get? a=some o/\ObjOk H h a u
 | .tbl ps=>h.get? a=some { cls:=.none,data:=.fields ps }
 | .met f x=>h.get? a=some (PySem.W.methodObj (.ref f) (.ref x))
 | .ext φ=>φ h/\(∃ o,h.get? a=some o)/\∀ h1 h2:Heap,φ h1->(∀ o,h1.get? a=some o->h2.get? a=some o)->φ h2
def HOk(H:Hp)(h:Heap):Prop:=∀ a o,H a=some o->ObjOk P w H h a o
end
section
variable{P:Program}{w:World}{H H':Hp}{h h':Heap}{a:Addr}{o:HO}
theorem ObjOk.lt(x:ObjOk P w H h a o):a<h.objs.size:=by
 cases o with
 | lst xs=>obtain ⟨_,_,_,_,e⟩:=x;exact aH e
 | tup xs=>obtain ⟨_,_,_,p⟩:=x;exact p.lt
 | dK kvs=>obtain ⟨_,_,_,_,o,_,_,e,_⟩:=x;exact aH e
 | dT kvs=>obtain ⟨_,_,_,_,o,_,_,e,_⟩:=x;exact aH e
 | set S n=>obtain ⟨o,_,_,_,e,_⟩:=x;exact aH e
 | ins C dx fs=>obtain ⟨_,_,_,e,_⟩:=x;exact aH e
 | own y=>obtain ⟨_,e⟩:=x;exact aH e
 | xd fs=>obtain ⟨_,⟨_,_,_,e,_⟩,_⟩:=x;exact aH e
 | rng lo hi=>obtain ⟨_,_,_,e⟩:=x;exact aH e
 | frz ob u=>obtain ⟨e,_⟩:=x;exact aH e
 | tbl ps=>exact aH (show h.get? a=some _ from x)
 | met f y=>exact aH (show h.get? a=some _ from x)
 | ext φ=>obtain ⟨_,⟨_,e⟩,_⟩:=x;exact aH e
theorem Paired.mapP{α β:Type}{F G:α->β->Prop}:∀ {l₁:List α} {l₂:List β},Paired F l₁ l₂->(∀ a b,F a b->G a b)->Paired G l₁ l₂
 | _,_, .nil,_=>.nil
 | _,_, .cons r t,f=>.cons (f _ _ r) (Paired.mapP t f)
theorem ObjOk.stay(x:ObjOk P w H h a o)(k:∀ b u,(b=a\/H b=some (.own a))->h.get? b=some u->h'.get? b=some u)
  (ho:∀ b,H b=some (.own a)->H' b=some (.own a)) (ht:∀ b xs,H b=some (.tup xs)->H' b=some (.tup xs)):ObjOk P w H' h' a o:=by
 induction o with
 | lst xs=>obtain ⟨z,its,n,r,e⟩:=x;exact ⟨z,its,n,r,k _ _ (.inl rfl) e⟩
 | tup xs=>obtain ⟨z,its,r,ob,e,c⟩:=x;exact ⟨z,its,r,ob,k _ _ (.inl rfl) e,c⟩
 | dK kvs=>obtain ⟨z,y,vs,r,ob,es,ep,e,c⟩:=x;exact ⟨z,y,vs,r,ob,es,ep,k _ _ (.inl rfl) e,c⟩
 | dT kvs =>
  obtain ⟨z,y,xs,r,ob,es,ep,e,c⟩:=x;exact ⟨z,y,xs,Paired.mapP r λp q z=>⟨z.1,ht _ _ z.2.1,z.2.2⟩,ob,es,ep,k _ _ (.inl rfl) e,c⟩
 | set S n=>obtain ⟨ob,es,ep,t,e,c⟩:=x;exact ⟨ob,es,ep,t,k _ _ (.inl rfl) e,c⟩
 | ins C dx fs =>
  obtain ⟨d,z,ne,e,mA,⟨od,es,ep,e2,c⟩,r⟩:=x;exact ⟨ho _ d,z,ne,k _ _ (.inl rfl) e,mA,⟨od,es,ep,k _ _ (.inr d) e2,c⟩,r⟩
 | own y=>obtain ⟨ob,e⟩:=x;exact ⟨ob,k _ _ (.inl rfl) e⟩
 | xd fs=>obtain ⟨mA,⟨od,es,ep,e,c⟩,r⟩:=x;exact ⟨mA,⟨od,es,ep,k _ _ (.inl rfl) e,c⟩,r⟩
 | rng lo hi=>obtain ⟨t,u,v,e⟩:=x;exact ⟨t,u,v,k _ _ (.inl rfl) e⟩
 | frz ob u ih=>obtain ⟨e,q⟩:=x;exact ⟨k _ _ (.inl rfl) e,ih q⟩
 | tbl ps =>
  have e:h.get? a=some { cls:=.none,data:=.fields ps }:=x;show h'.get? a=some { cls:=.none,data:=.fields ps };exact k a _ (.inl rfl) e
 | met f y =>
  have e:h.get? a=some (PySem.W.methodObj (.ref f) (.ref y)):=x;show h'.get? a=some (PySem.W.methodObj (.ref f) (.ref y));exact k a _ (.inl rfl) e
 | ext φ=>obtain ⟨p,⟨o,e⟩,st⟩:=x;exact ⟨st _ _ p λo q=>k _ _ (.inl rfl) q,⟨o,k _ _ (.inl rfl) e⟩,st⟩
theorem HOk.lt(x:HOk P w H h)(e:H a=some o):a<h.objs.size:=(x a o e).lt
theorem HOk.fresh(x:HOk P w H h)(e:h.objs.size<=a):H a=none:=by
 cases q:H a with
 | none=>rfl
 | some u=>exact absurd (aR (x.lt q) e) (bQ _)
theorem HOk.kept(x:HOk P w H h)(k:∀ b u,h.get? b=some u->h'.get? b=some u):HOk P w H h':=λa o e =>
 (x a o e).stay (λb u _ q=>k b u q) (λ_ q=>q) λ_ _ q=>q
theorem HOk.laid(x:HOk P w H h)(k:∀ b u,h.get? b=some u->h'.get? b=some u)(hp:h.objs.size<=a)(new:ObjOk P w (upd H a o) h' a o):HOk P w (upd H a o) h':=λb u e=>by
 have hn:=x.fresh hp
 by_cases hb:b=a
 ·subst hb;rw [qd] at e;cases e;exact new
 ·rw [jj hb] at e;exact (x b u e).stay (λc v _ q=>k c v q) (λc q=>by rw [jj (jf q hn)];exact q) λc xs q=>by rw [jj (jf q hn)];exact q
end
def Rd(H:Hp)(a:Addr)(u:HO):Prop:=H a=some u\/∃ o,H a=some (.frz o u)
theorem Rd.of(h:H a=some u):Rd H a u:=.inl h
theorem Rd.ok(r:Rd H a u)(x:HOk P w H h):ObjOk P w H h a u:=by
 rcases r with r | ⟨o,r⟩
 ·exact x a u r
 ·obtain ⟨_,q⟩:=x a _ r;exact q
def Mut:Option HO->Prop
 | some (.lst _)=>True
 | some (.dK _)=>True
 | some (.dT _)=>True
 | some (.set _ _)=>True
 | some (.ins _ _ _)=>True
 | some (.ext _)=>True
 | _=>False
section
variable{P:Program}{w:World}{H:Hp}{h h':Heap}{x e:Addr}{o':HO}
theorem HOk.write(ok:HOk P w H h)(mu:Mut (H x))(he:e=x\/H e=some (.own x))(k:∀ b u,b≠e->h.get? b=some u->h'.get? b=some u)(heo:∃ u,h'.get? e=some u)
  (new:ObjOk P w (upd H x o') h' x o'):HOk P w (upd H x o') h':=λb u q=>by
 have nown:∀ c y,H c=some (.own y)->c≠x:=λc y r z=>by subst z;rw [r] at mu;exact mu
 have ntup:∀ c xs,H c=some (.tup xs)->c≠x:=λc xs r z=>by subst z;rw [r] at mu;exact mu
 by_cases hb:b=x
 ·subst hb;rw [qd] at q;cases q;exact new
 ·rw [jj hb] at q
  by_cases hbe:b=e
  ·have q':H b=some (.own x):=by
    rcases he with z | z
    ·exact absurd (hbe.trans z) hb
    ·rw [hbe];exact z
   rw [q] at q';cases q'
   obtain ⟨v,hv⟩:=heo;exact ⟨v,by rw [hbe];exact hv⟩
  ·refine (ok b u q).stay (λc v hc r=>k c v ?_ r) (λc r=>by rw [jj (nown c b r)];exact r) λc xs r=>by rw [jj (ntup c xs r)];exact r
   rcases hc with rfl | hc
   ·exact hbe
   ·rintro rfl
    rcases he with z | z
    ·exact nown c b hc z
    ·rw [hc] at z;cases z;exact hb rfl
end
structure Un (fs ex:List Addr) (H H':Hp) (h h':Heap):Prop where
 keep:∀ b o,h.get? b=some o->H b=none->b ∉ fs->b ∉ ex->h'.get? b=some o
 slot:∀ b o,h.get? b=some o->H b=none->b∈fs->b ∉ ex->∃ sl,h'.get? b=some { o with slots:=sl }
 free:∀ b o,h.get? b=some o->H b=none->b ∉ ex->H' b=none
 there:∀ b o,h.get? b=some o->b ∉ ex->∃ o',h'.get? b=some o'
 tups:∀ b xs,H b=some (.tup xs)->H' b=some (.tup xs)
 frzs:∀ b o u,H b=some (.frz o u)->H' b=some (.frz o u)
 tbls:∀ b ps,H b=some (.tbl ps)->∃ more,H' b=some (.tbl (ps++more))
section
variable{fs fs' ex ex':List Addr}{H H1 H2:Hp}{h h1 h2 h':Heap}{a x e:Addr}{o:HO}
theorem Un.any(u:Un fs ex H H1 h h1)(q:h.get? b=some ob)(n:H b=none)(hx:b ∉ ex):∃ sl,h1.get? b=some { ob with slots:=sl }:=by
 by_cases hb:b∈fs
 ·exact u.slot b ob q n hb hx
 ·exact ⟨ob.slots,u.keep b ob q n hb hx⟩
theorem Un.kept(k:∀ b u,h.get? b=some u->h'.get? b=some u):Un fs ex H H h h' :=
 ⟨λb ob q _ _ _=>k b ob q,λb ob q _ _ _=>⟨ob.slots,k b ob q⟩,λ_ _ _ n _=>n,λb ob q _=>⟨ob,k b ob q⟩,λ_ _ q=>q,λ_ _ _ q=>q,λ_ ps q=>⟨#[],by rw [q];simp⟩⟩
theorem Un.refl:Un fs ex H H h h:=Un.kept λ_ _ q=>q
theorem Un.laid(k:∀ b u,h.get? b=some u->h'.get? b=some u)(hp:h.objs.size<=a)(hn:H a=none):Un fs ex H (upd H a o) h h' where
 keep:=λb u q _ _ _=>k b u q
 slot:=λb u q _ _ _=>⟨u.slots,k b u q⟩
 free:=λb u q n _=>by rw [jj (bp (aR (aH q) hp))];exact n
 there:=λb u q _=>⟨u,k b u q⟩
 tups:=λb xs q=>by rw [jj (jf q hn)];exact q
 frzs:=λb u xs q=>by rw [jj (jf q hn)];exact q
 tbls:=λb ps q=>⟨#[],by rw [jj (jf q hn),q];simp⟩
theorem Un.write(mu:Mut (H x))(he:e=x\/H e=some (.own x))(k:∀ b u,b≠e->h.get? b=some u->h'.get? b=some u)(heo:∃ u,h'.get? e=some u):Un fs ex H (upd H x o) h h':=by
 have hx:∀ b,H b=none->b≠x:=λb n z=>by subst z;rw [n] at mu;exact mu
 have hb:∀ b,H b=none->b≠e:=λb n z=>by
  subst z
  rcases he with r | r
  ·exact hx b n r
  ·rw [n] at r;cases r
 have hm:∀ b u,H b=some u->¬ Mut (some u)->b≠x:=λb u q nm z=>by subst z;rw [q] at mu;exact nm mu
 refine ⟨λb u q n _ _=>k b u (hb b n) q,λb u q n _ _=>⟨u.slots,k b u (hb b n) q⟩,λb u q n _=>by rw [jj (hx b n)];exact n,λb u q _=>?_,
  λb xs q=>by rw [jj (hm b _ q λz=>z)];exact q,λb u xs q=>by rw [jj (hm b _ q λz=>z)];exact q,λb ps q=>⟨#[],by rw [jj (hm b _ q λz=>z),q];simp⟩⟩
 by_cases hbe:b=e
 ·subst hbe;exact heo
 ·exact ⟨u,k b u hbe q⟩
end
def trk(h:Heap)(H:Hp):List Addr:=(List.range h.objs.size).filter λa=>(H a).isSome
def am7(h:Heap)(H:Hp):Heap:=PySem.W.hideAll h (trk h H)
theorem ai1(h:Heap)(H:Hp):(am7 h H).objs.size=h.objs.size:=PySem.W.hideAll_size _ _
theorem am8{h:Heap}(e:h.get? b=some o)(n:H b=none):(am7 h H).get? b=some o :=
 PySem.W.hideAll_get _ e λhm=>by
  have q:(H b).isSome=true:=(bH.mp hm).2;rw [n] at q;simp at q
theorem aqs(e:(am7 h H).get? b=some o):h.get? b=some o/\H b=none:=by
 have e':h.get? b=some o:=PySem.W.of_hideAll (trk h H) e;refine ⟨e',?_⟩
 cases q:H b with
 | none=>rfl
 | some x =>
  have hm:b∈trk h H:=bH.mpr ⟨aP.mpr (aH e'),by simp [q]⟩
  have z:(am7 h H).get? b=none:=PySem.W.hideAll_none (trk h H) hm;rw [z] at e;cases e
structure Mod (K:PySem.W.Frag) (mg:Str->Option Value) (base:Heap):Prop where
 kin:K.In base
 glob:base.Ns mainGlobals mg
 blt:∃ mb,base.Ns builtinsNs mb/\∀ x:Str,x ≠ "__name__"->mb x=bootBuiltins x
 nolimit:base.NoLimit
structure Cx where
 prog:Program
 w:World
 K:PySem.W.Frag
 mg:Str->Option Value
 base:Heap
 A:Around
 N:List Str
 s₀:Shared
 H₀:Hp
 env:Env
 outer:List Env
 stack:List Env
 ex:List Addr
 fn:Str->Bool
 calm:Bool
 pn:List (Addr × Obj)
 xe:Value->Shared->Prop
def frs(l:List Env):List Addr:=l.filterMap (·.frame)
abbrev Cx.fs(X:Cx):List Addr:=frs X.outer
def Vis(sc:Scope)(x:Str):Prop:=sc.names.lookup x=some .local\/sc.names.lookup x=some .cell\/sc.names.lookup x=some .free
def Loc(sc:Scope)(x:Str):Prop:=sc.names.lookup x=some .local\/sc.names.lookup x=some .cell
def Look(env:Env)(h:Heap)(m:Str->Option Value)(x:Str)(u:Value):Prop :=
 (env.kindOf x=some .local/\m x=some u)\/((env.kindOf x=some .cell\/env.kindOf x=some .free)/\∃ c,env.cells.lookup x=some c/\h.IsCell c (some u))
structure Cx.Ok (X:Cx):Prop where
 mod:Mod X.K X.mg X.base
 kind:X.env.scope.kind = .function
 glob:X.env.globals=mainGlobals
 blt:X.env.builtins=builtinsNs
 above:X.s₀.heap.objs.size<=X.env.locals
 inj:∀ x y c,X.env.cells.lookup x=some c->X.env.cells.lookup y=some c->x=y
 has:∀ x,(X.env.kindOf x=some .cell\/X.env.kindOf x=some .free)->∃ c,X.env.cells.lookup x=some c
 cab:∀ x c,X.fn x=true->X.env.cells.lookup x=some c->X.s₀.heap.objs.size<=c
 hd:X.calm=true->X.A.handled=none
 frames:X.A.frames=some X.stack
 stk:X.stack=X.outer\/(X.stack=X.env::X.outer/\X.env.frame=some X.env.locals)
 exf:∀ b∈X.ex,b≠X.env.locals/\∀ x c,X.env.cells.lookup x=some c->c≠b
 bs:∀ b o,X.base.get? b=some o->X.s₀.heap.get? b=some o/\X.H₀ b=none
 bsz:X.base.objs.size<=X.s₀.heap.objs.size
 noex:∀ b o,X.base.get? b=some o->b ∉ X.ex
 exfs:∀ b∈X.ex,b ∉ X.fs
 funs:X.s₀.heap.FunFrames X.base X.outer
 frf:∀ b∈X.fs,X.H₀ b=none
structure Inv (X:Cx) (pins:List (Addr × Obj)) (σ:List (Option V)) (H:Hp) (s:Shared):Prop where
 ok:X.Ok
 os:s.os=X.s₀.os
 bare:AllBare s.gens
 base:Un X.fs X.ex X.H₀ H X.s₀.heap s.heap
 loc:∃ m,s.heap.Ns X.env.locals m/\∀ (i:Nat) (x:Str) (v:V),X.N[i]? = some x->σ[i]? = some (some v)->Vis X.env.scope x->∃ u,RelV v u/\Look X.env s.heap m x u
 cell:∀ x c,X.env.cells.lookup x=some c->∃ v,s.heap.IsCell c v
 free:H X.env.locals=none
 freeC:∀ x c,X.env.cells.lookup x=some c->H c=none
 pin:∀ p∈X.pn++pins,s.heap.get? p.1=some p.2/\H p.1=none/\p.1≠X.env.locals/\p.1 ∉ X.fs/\∀ v,p.2.data≠.cell v
 hok:HOk X.prog X.w H s.heap
 len:σ.length=X.N.length
section
variable{X:Cx}{pins:List (Addr × Obj)}{σ:List (Option V)}{H H':Hp}{s:Shared}{h':Heap}
theorem Cx.Ok.nofr(ok:X.Ok)(e:X.base.get? b=some o):b ∉ X.fs:=λhb=>by
 have:=(ok.funs.mem hb).1
 rw [e] at this;cases this
theorem Inv.bs(I:Inv X pins σ H s):∀ b o,X.base.get? b=some o->s.heap.get? b=some o/\H b=none:=λb o e =>
 ⟨I.base.keep b o (I.ok.bs b o e).1 (I.ok.bs b o e).2 (I.ok.nofr e) (I.ok.noex b o e),I.base.free b o (I.ok.bs b o e).1 (I.ok.bs b o e).2 (I.ok.noex b o e)⟩
theorem Inv.bk(I:Inv X pins σ H s):∀ b o,X.base.get? b=some o->s.heap.get? b=some o:=λb o e=>(I.bs b o e).1
theorem Inv.mod(I:Inv X pins σ H s):Mod X.K X.mg X.base:=I.ok.mod
theorem Inv.kIn(I:Inv X pins σ H s):X.K.In s.heap:=I.ok.mod.kin.keeps I.bk
theorem Inv.fr(I:Inv X pins σ H s):∃ m,Fr X.base X.env.locals s.heap m :=
 let ⟨m,hn,_⟩:=I.loc
 ⟨m,hn,I.bk,cH I.ok.bsz I.ok.above⟩
theorem Inv.lt(I:Inv X pins σ H s):X.env.locals<s.heap.objs.size:=let ⟨_,hn,_⟩:=I.loc;hn.lt
theorem Inv.sz(I:Inv X pins σ H s):X.s₀.heap.objs.size<=s.heap.objs.size:=cH I.ok.above (dR I.lt)
theorem Inv.nofs(I:Inv X pins σ H s)(h:s.heap.objs.size<=a):a ∉ X.fs:=λhb=>by
 obtain ⟨_,o,ho,_⟩:=I.ok.funs.mem hb;exact absurd (aR (aH ho) (cH I.sz h)) (bQ _)
theorem Inv.cne(I:Inv X pins σ H s):∀ x c,X.env.cells.lookup x=some c->c≠X.env.locals:=λx c e z=>by
 obtain ⟨v,o,ho,hd⟩:=I.cell x c e;obtain ⟨m,⟨o',es,ep,ho',hd',_⟩,_⟩:=I.loc;rw [z,ho'] at ho;cases ho;rw [hd'] at hd;cases hd
theorem Inv.funs(I:Inv X pins σ H s):s.heap.FunFrames X.base X.outer:=by
 have all:∀ (l:List Env),(∀ b∈frs l,b∈X.fs)->X.s₀.heap.FunFrames X.base l->s.heap.FunFrames X.base l:=by
  intro l
  induction l with
  | nil=>intro _ _;trivial
  | cons env r ih =>
   intro hs hl
   obtain ⟨hk,⟨L,o,hf,hn,ho,hd⟩,hr⟩:=hl;have hL:L∈X.fs:=hs L (by unfold frs;rw [cM,hf];exact aK)
   obtain ⟨sl,e⟩:=I.base.slot L o ho (I.ok.frf L hL) hL λz=>I.ok.exfs L z hL;exact ⟨hk,⟨L,_,hf,hn,e,hd⟩,ih (λb hb=>hs b (by unfold frs;rw [cM,hf];exact aG _ hb)) hr⟩
 exact all X.outer (λ_ hb=>hb) I.ok.funs
theorem Inv.stack(I:Inv X pins σ H s):s.heap.FunFrames X.base X.stack:=by
 rcases I.ok.stk with e | ⟨e,hf⟩
 ·rw [e];exact I.funs
 ·rw [e];obtain ⟨m,hn,_⟩:=I.loc;refine .cons (by rw [I.ok.kind];decide) hf hn ?_ I.funs
  exact Heap.get?_none_of_le (cH I.ok.bsz I.ok.above)
theorem Inv.stkSub(I:Inv X pins σ H s):∀ b∈frs X.stack,b∈X.env.locals::X.fs:=λb hb=>by
 rcases I.ok.stk with e | ⟨e,hf⟩
 ·rw [e] at hb;exact aG _ hb
 ·rw [e] at hb;unfold frs at hb;rw [cM,hf] at hb;exact hb
theorem Inv.stkFree(I:Inv X pins σ H s):∀ b∈frs X.stack,H b=none:=λb hb=>by
 rcases aD.mp (I.stkSub b hb) with e | hb
 ·rw [e];exact I.free
 ·obtain ⟨_,o,ho,_⟩:=I.ok.funs.mem hb;exact I.base.free b o ho (I.ok.frf b hb) λz=>I.ok.exfs b z hb
theorem Inv.step{g':Array GenState}{t':Nat}{d':Drawn}{ch:List Addr}(I:Inv X pins σ H s)
  (hch:∀ b∈ch,(b∈X.ex\/X.s₀.heap.objs.size<=b)/\b≠X.env.locals/\(∀ x c,X.env.cells.lookup x=some c->c≠b)/\∀ p∈X.pn++pins,p.1≠b)
  (keep:∀ b o,b≠X.env.locals->b ∉ X.fs->b ∉ ch->s.heap.get? b=some o->H b=none->h'.get? b=some o)
  (slot:∀ b o,b≠X.env.locals->b∈X.fs->b ∉ ch->s.heap.get? b=some o->H b=none->∃ sl,h'.get? b=some { o with slots:=sl }) (free:∀ b o,b ∉ ch->s.heap.get? b=some o->H b=none->H' b=none)
  (there:∀ b o,b ∉ ch->s.heap.get? b=some o->∃ o',h'.get? b=some o')
  (tups:∀ b xs,H b=some (.tup xs)->H' b=some (.tup xs)) (frzs:∀ b o u,H b=some (.frz o u)->H' b=some (.frz o u)) (tbls:∀ b ps,H b=some (.tbl ps)->∃ more,H' b=some (.tbl (ps++more)))
  (ns:∀ m,s.heap.Ns X.env.locals m->h'.Ns X.env.locals m) (hok:HOk X.prog X.w H' h') (hg:AllBare g') :
  Inv X pins σ H' { s with heap:=h',gens:=g',drawn:=d',toks:=t' }:=by
 have neL:∀ b o,X.s₀.heap.get? b=some o->b≠X.env.locals:=λb o e=>bp (aR (aH e) I.ok.above);have neC:∀ b o,X.s₀.heap.get? b=some o->b ∉ X.ex->b ∉ ch:=λb o e hx hb=>by
  rcases (hch b hb).1 with z | z
  ·exact hx z
  ·exact absurd (aR (aH e) z) (bQ _)
 have cellK:∀ x c,X.env.cells.lookup x=some c->∀ v,s.heap.IsCell c v->h'.IsCell c v:=λx c e v ⟨o,ho,hd⟩=>by
  have nch:c ∉ ch:=λz=>(hch c z).2.2.1 x c e rfl
  by_cases hc:c∈X.fs
  ·obtain ⟨sl,q⟩:=slot c o (I.cne x c e) hc nch ho (I.freeC x c e);exact ⟨_,q,hd⟩
  ·exact ⟨o,keep c o (I.cne x c e) hc nch ho (I.freeC x c e),hd⟩
 refine ⟨I.ok,I.os,hg,⟨λb o e n hb hx=>?_,λb o e n hb hx=>?_,λb o e n hx=>?_,λb o e hx=>?_,λb xs e=>tups b xs (I.base.tups b xs e),λb o xs e=>frzs b o xs (I.base.frzs b o xs e),λb ps e=>?_⟩,?_,λx c e=>?_,?_,λx c e=>?_,λp hp=>?_,hok,I.len⟩
 ·exact keep b o (neL b o e) hb (neC b o e hx) (I.base.keep b o e n hb hx) (I.base.free b o e n hx)
 ·obtain ⟨sl,e1⟩:=I.base.slot b o e n hb hx;obtain ⟨sl',e2⟩:=slot b _ (neL b o e) hb (neC b o e hx) e1 (I.base.free b o e n hx);exact ⟨sl',e2⟩
 ·obtain ⟨o',e1⟩:=I.base.there b o e hx;exact free b o' (neC b o e hx) e1 (I.base.free b o e n hx)
 ·obtain ⟨o',e1⟩:=I.base.there b o e hx;exact there b o' (neC b o e hx) e1
 ·obtain ⟨m1,e1⟩:=I.base.tbls b ps e;obtain ⟨m2,e2⟩:=tbls b _ e1;exact ⟨m1++m2,by rw [e2,Array.append_assoc]⟩
 ·obtain ⟨m,hn,hl⟩:=I.loc;refine ⟨m,ns m hn,λi x v e1 e2 e3=>?_⟩;obtain ⟨u,r,l⟩:=hl i x v e1 e2 e3;refine ⟨u,r,?_⟩
  rcases l with l | ⟨k,c,e,z⟩
  ·exact .inl l
  ·exact .inr ⟨k,c,e,cellK x c e _ z⟩
 ·obtain ⟨v,z⟩:=I.cell x c e;exact ⟨v,cellK x c e v z⟩
 ·obtain ⟨m,⟨o,_,_,ho,_⟩,_⟩:=I.loc;exact free _ o (λz=>(hch _ z).2.1 rfl) ho I.free
 ·obtain ⟨v,o,ho,hd⟩:=I.cell x c e;exact free c o (λz=>(hch c z).2.2.1 x c e rfl) ho (I.freeC x c e)
 ·obtain ⟨e,n,ne,nf,d⟩:=I.pin p hp;have nch:p.1 ∉ ch:=λz=>(hch p.1 z).2.2.2 p hp rfl;exact ⟨keep p.1 p.2 ne nf nch e n,free p.1 p.2 nch e n,ne,nf,d⟩
theorem Inv.un{t':Nat}(I:Inv X pins σ H s)(u:Un X.fs [] H H' s.heap h')(hok:HOk X.prog X.w H' h'):Inv X pins σ H' { s with heap:=h',toks:=t' }:=by
 obtain ⟨m,⟨o,es,ep,ho,r⟩,_⟩:=id I.loc;obtain ⟨sl,hL⟩:=u.any ho I.free (by simp)
 exact I.step (g':=s.gens) (d':=s.drawn) (ch:=[]) (λ_ z=>nomatch z) (λb o _ hb _ e n=>u.keep b o e n hb (by simp)) (λb o _ hb _ e n=>u.slot b o e n hb (by simp)) (λb o _ e n=>u.free b o e n (by simp)) (λb o _ e=>u.there b o e (by simp)) u.tups u.frzs u.tbls (λm' hm=>by
  obtain ⟨o',es',ep',ho',r'⟩:=hm;rw [ho] at ho';cases ho'
  exact ⟨_,es',ep',hL,r'⟩) hok I.bare
theorem Inv.call{g':Array GenState}{t':Nat}{d':Drawn}{ch:List Addr}(I:Inv X pins σ H s)(u:Un (frs X.stack) ch H H' s.heap h')(hok:HOk X.prog X.w H' h')(hg:AllBare g')
  (hch:∀ b∈ch,(b∈X.ex\/X.s₀.heap.objs.size<=b)/\b≠X.env.locals/\(∀ x c,X.env.cells.lookup x=some c->c≠b)/\∀ p∈X.pn++pins,p.1≠b) :
  Inv X pins σ H' { s with heap:=h',gens:=g',drawn:=d',toks:=t' }:=by
 obtain ⟨m,⟨o,es,ep,ho,r⟩,_⟩:=id I.loc;obtain ⟨sl,hL⟩:=u.any ho I.free λz=>(hch _ z).2.1 rfl;exact I.step (ch:=ch) hch (λb o hL hb hc e n=>u.keep b o e n (λz=>(aD.mp (I.stkSub b z)).elim hL hb) hc) (λb o _ _ hc e n=>u.any e n hc) (λb o hc e n=>u.free b o e n hc) (λb o hc e=>u.there b o e hc) u.tups u.frzs u.tbls (λm' hm=>by
  obtain ⟨o',es',ep',ho',r'⟩:=hm;rw [ho] at ho';cases ho'
  exact ⟨_,es',ep',hL,r'⟩) hok hg
theorem Inv.turned{t':Nat}{it:Addr}(I:Inv X pins σ H s)(k:∀ b o,b≠it->s.heap.get? b=some o->h'.get? b=some o)(hn:H it=none)(hL:it≠X.env.locals)
  (h1:it∈X.ex\/X.s₀.heap.objs.size<=it) (h2:∀ x c,X.env.cells.lookup x=some c->c≠it) (h3:∀ p∈X.pn++pins,p.1≠it):Inv X pins σ H { s with heap:=h',toks:=t' }:=by
 have nit:∀ b u,H b=some u->b≠it:=λb u e z=>by rw [z,hn] at e;cases e
 refine I.step (g':=s.gens) (d':=s.drawn) (ch:=[it]) (λb hb=>?_) (λb o _ _ hc e _=>k b o (λz=>hc (by simp [z])) e) (λb o _ _ hc e _=>⟨o.slots,k b o (λz=>hc (by simp [z])) e⟩) (λ_ _ _ _ n=>n)
  (λb o hc e=>⟨o,k b o (λz=>hc (by simp [z])) e⟩) (λ_ _ e=>e) (λ_ _ _ e=>e) (λb ps e=>⟨#[],by rw [e];simp⟩) (λm hm=>?_) (λb u e=>?_) I.bare
 ·have e:b=it:=by simpa using hb
  subst e;exact ⟨h1,hL,h2,h3⟩
 ·obtain ⟨o,es,ep,ho,r⟩:=hm;exact ⟨o,es,ep,k _ o (eQ hL) ho,r⟩
 ·refine (I.hok b u e).stay (λc v hc q=>k c v ?_ q) (λ_ q=>q) λ_ _ q=>q
  rcases hc with z | z
  ·rw [z];exact nit b u e
  ·exact nit c _ z
theorem Inv.tok(I:Inv X pins σ H s)(t:Nat):Inv X pins σ H { s with toks:=t }:=I.un (h':=s.heap) (t':=t) Un.refl I.hok
theorem Inv.kept(I:Inv X pins σ H s)(k:∀ b u,s.heap.get? b=some u->h'.get? b=some u):Inv X pins σ H { s with heap:=h',toks:=t' }:=I.un (Un.kept k) (I.hok.kept k)
theorem Inv.laid(I:Inv X pins σ H s)(k:∀ b u,s.heap.get? b=some u->h'.get? b=some u)(hp:s.heap.objs.size<=a)(new:ObjOk X.prog X.w (upd H a o) h' a o) :
  Inv X pins σ (upd H a o) { s with heap:=h',toks:=t' }:=I.un (Un.laid k hp (I.hok.fresh hp)) (I.hok.laid k hp new)
theorem Inv.write(I:Inv X pins σ H s)(mu:Mut (H x))(he:e=x\/H e=some (.own x))(k:∀ b u,b≠e->s.heap.get? b=some u->h'.get? b=some u)(heo:∃ u,h'.get? e=some u)
  (new:ObjOk X.prog X.w (upd H x o) h' x o):Inv X pins σ (upd H x o) { s with heap:=h',toks:=t' }:=I.un (Un.write mu he k heo) (I.hok.write mu he k heo new)
theorem Inv.weak{σ':List (Option V)}(I:Inv X pins σ H s)(hl:σ'.length=σ.length)(w:∀ (i:Nat) v,σ'[i]? = some (some v)->σ[i]? = some (some v)):Inv X pins σ' H s :=
 ⟨I.ok,I.os,I.bare,I.base,let ⟨m,hn,hl'⟩:=I.loc; ⟨m,hn,λi x v e1 e2 e3=>hl' i x v e1 (w i v e2) e3⟩,I.cell,I.free,I.freeC,I.pin,I.hok,hl.trans I.len⟩
theorem Inv.pins_of(I:Inv X pins σ H s)(h:∀ p∈pins',s.heap.get? p.1=some p.2/\H p.1=none/\p.1≠X.env.locals/\p.1 ∉ X.fs/\∀ v,p.2.data≠.cell v):Inv X pins' σ H s :=
 ⟨I.ok,I.os,I.bare,I.base,I.loc,I.cell,I.free,I.freeC,λp hp=>(aS.mp hp).elim (λz=>I.pin p (bG _ z)) (h p),I.hok,I.len⟩
theorem aet{N:List Str}(hN:N.Nodup){i j:Nat}(a:N[i]? = some x)(b:N[j]? = some x):i=j:=by
 obtain ⟨h1,e1⟩:=ah.mp a;obtain ⟨h2,e2⟩:=ah.mp b;exact (List.getElem_inj hN).mp (e1.trans e2.symm)
theorem abv{i:Nat}(I:Inv X pins σ H s)(hN:X.N.Nodup)(hi:X.N[i]? = some x)(hx:Loc X.env.scope x)(r:RelV v u)
  (h:∀ s',Inv X pins (σ.set i (some v)) H s'->(∃ a,Heap.SameBut a s.heap s'.heap/\(a=X.env.locals\/X.env.cells.lookup x=some a))->Q () s') (hf:X.fn x=true\/X.env.scope.names.lookup x=some .local:=by first | exact .inl rfl | exact .inr rfl | assumption):wpAny M A (storeName X.env x u) Q E s:=by
 obtain ⟨m,hn,hl⟩:=id I.loc;have hcls:(X.env.scope.kind == .class || (X.env.scope.kind == .module && X.env.locals != X.env.globals))=false:=by rw [I.ok.kind];rfl
 have hiσ:i<σ.length:=by rw [I.len];exact (ah.mp hi).1
 have cne:=I.cne;have tracked:∀ {a:Addr} {h':Heap},(∃ o,s.heap.get? a=some o/\H a=none)->Heap.SameBut a s.heap h'->HOk X.prog X.w H h':=λ{a h'} ha hs b ob e=>by
  obtain ⟨_,_,hfree⟩:=ha;refine (I.hok b ob e).stay (λc w' hc q=>(hs.2 c ?_).trans q) (λ_ q=>q) λ_ _ q=>q
  rintro rfl
  rcases hc with rfl | hc
  ·rw [hfree] at e;cases e
  ·rw [hfree] at hc;cases hc
 rcases hx with hk | hk
 ·refine wpAny_storeName_local hk hn (λh' hn' hs=>?_) hcls;obtain ⟨oL,_,_,hoL,_⟩:=id hn;refine h _ ⟨I.ok,I.os,I.bare,⟨λb o e n hb hx=>?_,λb o e n hb hx=>?_,I.base.free,λb o e hx=>?_,I.base.tups,I.base.frzs,I.base.tbls⟩,⟨_,hn',λj y v' e1 e2 e3=>?_⟩,λy c e=>?_,I.free,I.freeC,λp hp=>?_,tracked ⟨oL,hoL,I.free⟩ hs,by simpa using I.len⟩ ⟨_,hs, .inl rfl⟩
  ·exact (hs.2 b (bp (aR (aH e) I.ok.above))).trans (I.base.keep b o e n hb hx)
  ·obtain ⟨sl,e1⟩:=I.base.slot b o e n hb hx;exact ⟨sl,(hs.2 b (bp (aR (aH e) I.ok.above))).trans e1⟩
  ·obtain ⟨o',e1⟩:=I.base.there b o e hx;exact ⟨o',(hs.2 b (bp (aR (aH e) I.ok.above))).trans e1⟩
  ·by_cases hj:j=i
   ·subst hj;rw [hi] at e1;cases e1
    rw [cE hiσ] at e2;cases e2
    exact ⟨u,r, .inl ⟨hk,by simp⟩⟩
   ·rw [d0 (eQ hj)] at e2;obtain ⟨u',r',q⟩:=hl j y v' e1 e2 e3;refine ⟨u',r',?_⟩
    rcases q with ⟨k,e⟩ | ⟨k,c,e,z⟩
    ·refine .inl ⟨k,?_⟩;have:y≠x:=λe=>hj (aet hN e1 (e ▸ hi));simp [this,e]
    ·exact .inr ⟨k,c,e,z.sameBut hs (cne y c e)⟩
  ·obtain ⟨w',z⟩:=I.cell y c e;exact ⟨w',z.sameBut hs (cne y c e)⟩
  ·obtain ⟨e,n,ne,nf,d⟩:=I.pin p hp;exact ⟨(hs.2 p.1 ne).trans e,n,ne,nf,d⟩
 ·have hfn:X.fn x=true:=by
   rcases hf with z | z
   ·exact z
   ·rw [z] at hk;cases hk
  obtain ⟨c,hc⟩:=I.ok.has x (.inl hk);obtain ⟨w',z⟩:=I.cell x c hc;refine wpAny_storeName_cell I.ok.kind hk hc z (λh' hc' hs=>?_);obtain ⟨oc,hoc,hocd⟩:=id z;refine h { s with heap:=h' } ⟨I.ok,I.os,I.bare,⟨λb o e n hb hx=>?_,λb o e n hb hx=>?_,I.base.free,λb o e hx=>?_,I.base.tups,I.base.frzs,I.base.tbls⟩,⟨m,hn.sameBut hs (eQ (cne x c hc)),λj y v' e1 e2 e3=>?_⟩,λy c' e=>?_,I.free,I.freeC,λp hp=>?_,tracked ⟨oc,hoc,I.freeC x c hc⟩ hs,by simpa using I.len⟩ ⟨c,hs, .inr hc⟩
  ·exact (hs.2 b (bp (aR (aH e) (I.ok.cab x c hfn hc)))).trans (I.base.keep b o e n hb hx)
  ·obtain ⟨sl,e1⟩:=I.base.slot b o e n hb hx;exact ⟨sl,(hs.2 b (bp (aR (aH e) (I.ok.cab x c hfn hc)))).trans e1⟩
  ·obtain ⟨o',e1⟩:=I.base.there b o e hx;exact ⟨o',(hs.2 b (bp (aR (aH e) (I.ok.cab x c hfn hc)))).trans e1⟩
  ·by_cases hj:j=i
   ·subst hj;rw [hi] at e1;cases e1
    rw [cE hiσ] at e2;cases e2
    exact ⟨u,r, .inr ⟨.inl hk,c,hc,hc'⟩⟩
   ·rw [d0 (eQ hj)] at e2;obtain ⟨u',r',q⟩:=hl j y v' e1 e2 e3;refine ⟨u',r',?_⟩
    rcases q with q | ⟨k,c',e,z'⟩
    ·exact .inl q
    ·refine .inr ⟨k,c',e,z'.sameBut hs ?_⟩
     rintro rfl
     exact hj (aet hN e1 (I.ok.inj _ _ _ e hc ▸ hi))
  ·by_cases hcc:c'=c
   ·subst hcc;exact ⟨_,hc'⟩
   ·obtain ⟨w2,z2⟩:=I.cell y c' e;exact ⟨w2,z2.sameBut hs hcc⟩
  ·obtain ⟨e,n,ne,nf,d⟩:=I.pin p hp;refine ⟨(hs.2 p.1 ?_).trans e,n,ne,nf,d⟩
   intro q
   rw [q,hoc] at e;have q':oc=p.2:=bM e;exact d w' (by rw [<-q'];exact hocd)
theorem a5g(I:Inv X pins σ H s)(hN:X.N.Nodup)(hi:X.N[i]? = some x)(hx:Loc X.env.scope x)(r:RelV v u)
  (h:∀ s',Inv X pins (σ.set i (some v)) H s'->Q () s') (hf:X.fn x=true\/X.env.scope.names.lookup x=some .local:=by first | exact .inl rfl | exact .inr rfl | assumption):wpAny M A (storeName X.env x u) Q E s :=
 abv I hN hi hx r (λs' I' _=>h s' I') hf
end
abbrev XK:=Value->Option Addr->Hp->Prop
abbrev St:=List (Option V)
abbrev VK:=V->Hp->Prop
abbrev TE:=St->Hp->VK->Prop
abbrev TT:=St->Hp->(Bool->Hp->Prop)->Prop
abbrev TA:=St->Hp->(List V->Hp->Prop)->Prop
structure Ends where
 nx:St->Hp->Prop
 rt:VK
 bk:St->Hp->Prop:=λ_ _=>False
 ct:St->Hp->Prop:=λ_ _=>False
abbrev TS:=Ends->St->Hp->Prop
def EP(X:Cx)(pins:List (Addr × Obj))(σ:St)(Q:VK)(u:Value)(s':Shared):Prop:=∃ v H',Inv X pins σ H' s'/\RelV v u/\Q v H'
def TP(X:Cx)(pins:List (Addr × Obj))(σ:St)(Q:Bool->Hp->Prop)(b:Bool)(s':Shared):Prop:=∃ H',Inv X pins σ H' s'/\Q b H'
def AP(X:Cx)(pins:List (Addr × Obj))(σ:St)(Q:List V->Hp->Prop)(us:List Value)(s':Shared):Prop:=∃ vs H',Inv X pins σ H' s'/\Vals vs us/\Q vs H'
def SP(X:Cx)(pins:List (Addr × Obj))(D:Ends)(f:Flow)(s':Shared):Prop :=
 match f with
 | .next=>∃ σ' H',Inv X pins σ' H' s'/\D.nx σ' H'
 | .brk=>∃ σ' H',Inv X pins σ' H' s'/\D.bk σ' H'
 | .cont=>∃ σ' H',Inv X pins σ' H' s'/\D.ct σ' H'
 | .ret u=>∃ v σ' H',Inv X pins σ' H' s'/\RelV v u/\D.rt v H'
def PE(X:Cx)(e:Expr)(t:TE):Prop :=
 ∀ (pins:List (Addr × Obj)) (s:Shared) (σ:St) (H:Hp) (Q:VK),Inv X pins σ H s->t σ H Q->wpAny (model X.prog X.w) X.A (eval e X.env) (EP X pins σ Q) X.xe s
def PT(X:Cx)(e:Expr)(t:TT):Prop :=
 ∀ (pins:List (Addr × Obj)) (s:Shared) (σ:St) (H:Hp) (Q:Bool->Hp->Prop),Inv X pins σ H s->t σ H Q->wpAny (model X.prog X.w) X.A (isTrue e X.env (eval e X.env)) (TP X pins σ Q) X.xe s
def PW(X:Cx)(e:Expr)(t:TT):Prop :=
 ∀ (whole:Sem Value) (pins:List (Addr × Obj)) (s:Shared) (σ:St) (H:Hp) (Q:Bool->Hp->Prop),Inv X pins σ H s->t σ H Q->wpAny (model X.prog X.w) X.A (isTrue e X.env whole) (TP X pins σ Q) X.xe s
theorem PW.pt(h:PW X e t):PT X e t:=h _
def PA(X:Cx)(es:List Expr)(t:TA):Prop :=
 ∀ (pos:Pos) (pins:List (Addr × Obj)) (s:Shared) (σ:St) (H:Hp) (Q:List V->Hp->Prop),Inv X pins σ H s->t σ H Q->wpAny (model X.prog X.w) X.A (spliced (backTo pos (starEach es X.env))) (AP X pins σ Q) X.xe s
def PS(X:Cx)(st:Stmt)(t:TS):Prop :=
 ∀ (pins:List (Addr × Obj)) (s:Shared) (σ:St) (H:Hp) (D:Ends),Inv X pins σ H s->t D σ H->wpAny (model X.prog X.w) X.A (exec st X.env) (SP X pins D) X.xe s
def PSs(X:Cx)(st:List Stmt)(t:TS):Prop :=
 ∀ (pins:List (Addr × Obj)) (s:Shared) (σ:St) (H:Hp) (D:Ends),Inv X pins σ H s->t D σ H->wpAny (model X.prog X.w) X.A (execs st X.env) (SP X pins D) X.xe s
theorem thn{α:Type}{t:Sem α}{Q Q':α->Shared->Prop}{M:Model}{A:Around}{E:Value->Shared->Prop}{s:Shared}(h:wpAny M A t Q E s)(hQ:∀ a s,Q a s->Q' a s):wpAny M A t Q' E s:=bq h hQ λ_ _ x=>x
section
variable{X:Cx}
def b3c(i:Nat):TE:=λσ H Q=>∃ v,σ[i]? = some (some v)/\Q v H
def tC(v:V):TE:=λ_ H Q=>Q v H
theorem ava(hN:X.N[i]? = some x)(hv:Vis X.env.scope x)(hd:(x == ("__debug__" : Str))=false:=by decide)(hcd:(x == ("__classdict__" : Str))=false:=by decide):PE X (.Name x pos) (b3c i):=by
 intro pins s σ H Q I h
 obtain ⟨v,e,h⟩:=h;obtain ⟨m,hn,hl⟩:=I.loc;obtain ⟨u,r,l⟩:=hl i x v hN e hv;have fin:EP X pins σ Q u s:=⟨v,H,I,r,h⟩
 rcases l with ⟨hk,hm⟩ | ⟨hk,c,hc,hcell⟩
 ·exact wpAny_Name (wpAny_loadName_local I.ok.kind hk hn hm fin) hd
 ·rcases hk with hk | hk
  ·exact wpAny_Name (wpAny_loadName_cell I.ok.kind hk hc hcell fin) hd
  ·exact wpAny_Name (wpAny_loadName_free I.ok.kind hk hc hcell fin hcd) hd
theorem avb{i j pos}:PE X (.Constant (.int i) j pos) (tC (.int i)):=λ_ _ _ H _ I h=>wpAny_Constant_int ⟨.int i,H,I.tok _,⟨_,rfl⟩,h⟩
theorem azw{b j pos}:PE X (.Constant (.bool b) j pos) (tC (.bl b)):=λ_ _ _ H _ I h=>Constant_bool ⟨.bl b,H,I,rfl,h⟩
theorem avc{j pos}:PE X (.Constant .none j pos) (tC .non):=λ_ _ _ H _ I h=>Constant_none ⟨.non,H,I,rfl,h⟩
theorem avd{x j pos}:PE X (.Constant (.str x) j pos) (tC (.str x)):=λ_ _ _ H _ I h=>Calls.Constant_str ⟨.str x,H,I.tok _,⟨_,rfl⟩,h⟩
def Gl(X:Cx)(x:Str):Prop:=X.env.kindOf x=some .globalImplicit
theorem ai2(I:Inv X pins σ H s)(hg:Gl X x)(hm:X.mg x=some u)(h:Q u s)
  (hd:(x == ("__debug__" : Str))=false:=by decide):wpAny (model X.prog X.w) X.A (eval (.Name x pos) X.env) Q E s :=
 Calls.Name_function_global I.ok.kind hg (Calls.loadGlobal_global (by rw [I.ok.glob];exact I.mod.glob.keeps I.bk) hm h) hd
theorem a5h(I:Inv X pins σ H s)(hg:Gl X x)(hm:X.mg x=none)(hv:bootBuiltins x=some u)(h:Q u s)
  (hn:x ≠ "__name__":=by decide) (hd:(x == ("__debug__" : Str))=false:=by decide):wpAny (model X.prog X.w) X.A (eval (.Name x pos) X.env) Q E s:=by
 obtain ⟨mb,h1,h2⟩:=I.mod.blt;exact Calls.Name_function_global I.ok.kind hg (Calls.loadGlobal_builtin (by rw [I.ok.glob];exact I.mod.glob.keeps I.bk) hm (by rw [I.ok.blt];exact h1.keeps I.bk) ((h2 x hn).trans hv) h) hd
theorem aqt(hg:Gl X x)(hm:X.mg x=none)(hv:bootBuiltins x=some u)(r:RelV v u)(hn:x ≠ "__name__":=by decide)(hd:(x == ("__debug__" : Str))=false:=by decide):PE X (.Name x pos) (tC v) :=
 λ_ _ _ H _ I h=>a5h I hg hm hv ⟨v,H,I,r,h⟩ hn hd
variable{a b:Expr}{ta tb:TE}{pos:Pos}
variable{tA tB':TT}{rest:List Expr}
def b3d(t u:TT):TT:=λσ H Q=>t σ H λc H1=>if c=true then u σ H1 Q else Q false H1
def tOr(t u:TT):TT:=λσ H Q=>t σ H λc H1=>if c=true then Q true H1 else u σ H1 Q
def b3e(t:TT):TT:=λσ H Q=>t σ H λc H1=>Q (!c) H1
theorem aqu(ha:PT X a tA):PW X (.BoolOp .And [a] pos) tA:=by
 intro wh pins s σ H Q I h
 refine isTrue_and (thn (ha pins s σ H Q I h) λc s1 e=>?_)
 cases c with
 | true=>exact isTrue_and_nil e
 | false=>exact e
theorem ave(ha:PT X a tA):PW X (.BoolOp .Or [a] pos) tA:=by
 intro wh pins s σ H Q I h
 refine isTrue_or (thn (ha pins s σ H Q I h) λc s1 e=>?_)
 cases c with
 | false=>exact isTrue_or_nil e
 | true=>exact e
theorem avf(ha:PT X a tA)(hb:PW X (.BoolOp .And (b::rest) pos) tB'):PW X (.BoolOp .And (a::b::rest) pos) (b3d tA tB'):=by
 intro wh pins s σ H Q I h
 refine isTrue_and (thn (ha pins s σ H _ I h) λc s1 ⟨H1,I1,q1⟩=>?_)
 cases c with
 | true=>exact hb wh pins s1 σ H1 Q I1 q1
 | false=>exact ⟨H1,I1,q1⟩
theorem azx(ha:PT X a tA)(hb:PW X (.BoolOp .Or (b::rest) pos) tB'):PW X (.BoolOp .Or (a::b::rest) pos) (tOr tA tB'):=by
 intro wh pins s σ H Q I h
 refine isTrue_or (thn (ha pins s σ H _ I h) λc s1 ⟨H1,I1,q1⟩=>?_)
 cases c with
 | true=>exact ⟨H1,I1,q1⟩
 | false=>exact hb wh pins s1 σ H1 Q I1 q1
theorem avh(ha:PT X a tA):PT X (.UnaryOp .Not a pos) (b3e tA):=by
 intro pins s σ H Q I h
 exact isTrue_not (ha pins s σ H (λc H1=>Q (!c) H1) I h)
def azy(ta tb:TE):TE:=λσ H Q=>ta σ H λx H1=>∃ c,x = .bl c/\if c=true then tb σ H1 Q else Q (.bl false) H1
theorem avi{op}(h:PE X a t):PE X (.BoolOp op [a] pos) t:=λpins s σ H Q I hw=>BoolOp_one (h pins s σ H Q I hw)
theorem avj(ha:PE X a ta)(hb:PE X (.BoolOp .And (b::rest) pos) tb):PE X (.BoolOp .And (a::b::rest) pos) (azy ta tb):=by
 intro pins s σ H Q I h
 refine BoolOp_and (thn (ha pins s σ H _ I h) λv s1 ⟨x,H1,I1,r1,q1⟩=>?_);obtain ⟨c,rfl,q1⟩:=q1;cases r1
 refine eA ?_
 cases c with
 | true=>exact hb pins s1 σ H1 Q I1 q1
 | false=>exact ⟨.bl false,H1,I1,rfl,q1⟩
def tIf(t:TT)(ta tb:TE):TE:=λσ H Q=>t σ H λc H1=>if c=true then ta σ H1 Q else tb σ H1 Q
theorem am9{c:Expr}(hc:PT X c tA)(ha:PE X a ta)(hb:PE X b tb):PE X (.IfExp c a b pos) (tIf tA ta tb):=by
 intro pins s σ H Q I h
 refine wpAny_IfExp (thn (hc pins s σ H _ I h) λd s1 ⟨H1,I1,q1⟩=>?_)
 cases d with
 | true=>exact ha pins s1 σ H1 Q I1 q1
 | false=>exact hb pins s1 σ H1 Q I1 q1
end
def SqL(K:PySem.W.Frag)(H:Hp)(a:Addr)(xs:List V):Prop :=
 Rd H a (.lst xs) \/
  ∃ (o:Obj) (its:Array Value) (n:Nat),K.lookup a=some o/\o.cls = .type "list"/\o.dict=none/\o.data = .seq its n/\its.size<=sizeLine/\Vals xs its.toList
def SqT(K:PySem.W.Frag)(H:Hp)(a:Addr)(xs:List V):Prop :=
 Rd H a (.tup xs) \/
  ∃ (o:Obj) (its:Array Value) (n:Nat),K.lookup a=some o/\o.cls = .type "tuple"/\o.data = .seq its n/\its.size<=sizeLine/\Vals xs its.toList
def b3f:Value->Option V
 | .none=>some .non
 | .bool b=>some (.bl b)
 | .int i _=>some (.int i)
 | .str x _=>some (.str x)
 | .bytes b _=>some (.byt b)
 | .float b _=>some (.flt b)
 | .ref a=>some (.ref a)
 | .type n=>some (.ty n)
 | _=>none
theorem RelV.abs(r:RelV x u):b3f u=some x:=by
 cases x with
 | non=>cases r;rfl
 | bl _=>cases r;rfl
 | int _=>obtain ⟨t,rfl⟩:=r;rfl
 | str _=>obtain ⟨t,rfl⟩:=r;rfl
 | byt _=>obtain ⟨t,rfl⟩:=r;rfl
 | flt _=>obtain ⟨t,rfl⟩:=r;rfl
 | ref _=>cases r;rfl
 | ty _=>cases r;rfl
theorem RelV.inj(r:RelV x u)(q:RelV y u):x=y:=bM (r.abs.symm.trans q.abs)
theorem Vals.inj:∀ {xs ys:List V} {us:List Value},Vals xs us->Vals ys us->xs=ys
 | _,_,_, .nil, .nil=>rfl
 | _,_,_, .cons r t, .cons r' t'=>by rw [r.inj r',Vals.inj t t']
section
variable{X:Cx}{pins:List (Addr × Obj)}{σ:St}{H:Hp}{s:Shared}{a:Addr}{xs ys:List V}
theorem SqL.of{K:PySem.W.Frag}(h:H a=some (.lst xs)):SqL K H a xs:=.inl (.inl h)
theorem SqT.of{K:PySem.W.Frag}(h:H a=some (.tup xs)):SqT K H a xs:=.inl (.inl h)
theorem Inv.list(I:Inv X pins σ H s)(h:SqL X.K H a xs):∃ its:List Value,Vals xs its/\PlainL s.heap a its.toArray/\xs.length<=sizeLine:=by
 rcases h with h | ⟨o,its,n,hk,hc,hd,hs,hz,r⟩
 ·obtain ⟨z,its,n,r,e⟩:=h.ok I.hok;exact ⟨its,r,⟨_,n,e,rfl,rfl,rfl⟩,z⟩
 ·refine ⟨its.toList,r,⟨o,n,I.kIn a o hk,hc,hd,by simpa using hs⟩,?_⟩
  have e:=r.length;simp only [br] at e;omega
theorem Inv.tuple(I:Inv X pins σ H s)(h:SqT X.K H a xs):∃ its:List Value,Vals xs its/\IsTup s.heap a its.toArray/\xs.length<=sizeLine:=by
 rcases h with h | ⟨o,its,n,hk,hc,hs,hz,r⟩
 ·obtain ⟨z,its,r,p⟩:=h.ok I.hok;exact ⟨its,r,p,z⟩
 ·refine ⟨its.toList,r,⟨o,I.kIn a o hk,hc,n,by simpa using hs⟩,?_⟩
  have e:=r.length;simp only [br] at e;omega
theorem Inv.list_inj(I:Inv X pins σ H s)(h:SqL X.K H a xs)(h':SqL X.K H a ys):xs=ys:=by
 obtain ⟨its,r,⟨o,n,e,_,_,d⟩,_⟩:=I.list h;obtain ⟨its',r',⟨o',n',e',_,_,d'⟩,_⟩:=I.list h';rw [e] at e';cases e'
 rw [d] at d'
 injection d' with d1 _
 have:its=its':=by simpa using av Array.toList d1
 subst this;exact r.inj r'
theorem Inv.tuple_inj(I:Inv X pins σ H s)(h:SqT X.K H a xs)(h':SqT X.K H a ys):xs=ys:=by
 obtain ⟨its,r,⟨o,e,_,n,d⟩,_⟩:=I.tuple h;obtain ⟨its',r',⟨o',e',_,n',d'⟩,_⟩:=I.tuple h';rw [e] at e';cases e'
 rw [d] at d'
 injection d' with d1 _
 have:its=its':=by simpa using av Array.toList d1
 subst this;exact r.inj r'
end
abbrev Cx.wish(X:Cx)(E:Value->Shared->Prop):Cx:={ X with xe:=E }
abbrev Cx.nox(X:Cx):Cx:=X.wish λ_ _=>False
theorem Cx.Ok.wish{X:Cx}(ok:X.Ok)(E:Value->Shared->Prop):(X.wish E).Ok :=
 ⟨ok.mod,ok.kind,ok.glob,ok.blt,ok.above,ok.inj,ok.has,ok.cab,ok.hd,ok.frames,ok.stk,ok.exf,ok.bs,ok.bsz,ok.noex,ok.exfs,ok.funs,ok.frf⟩
theorem Cx.Ok.unwish{X:Cx}(ok:(X.wish E).Ok):X.Ok :=
 ⟨ok.mod,ok.kind,ok.glob,ok.blt,ok.above,ok.inj,ok.has,ok.cab,ok.hd,ok.frames,ok.stk,ok.exf,ok.bs,ok.bsz,ok.noex,ok.exfs,ok.funs,ok.frf⟩
section
variable{X:Cx}{pins:List (Addr × Obj)}{σ:St}{H:Hp}{s:Shared}{E:Value->Shared->Prop}
theorem Inv.wish(I:Inv X pins σ H s)(E:Value->Shared->Prop):Inv (X.wish E) pins σ H s:=⟨I.ok.wish E,I.os,I.bare,I.base,I.loc,I.cell,I.free,I.freeC,I.pin,I.hok,I.len⟩
theorem Inv.unwish(I:Inv (X.wish E) pins σ H s):Inv X pins σ H s:=⟨I.ok.unwish,I.os,I.bare,I.base,I.loc,I.cell,I.free,I.freeC,I.pin,I.hok,I.len⟩
theorem SP.unwish(h:SP (X.wish E) pins D f s'):SP X pins D f s':=by
 cases f with
 | next=>obtain ⟨σ',H',I,q⟩:=h;exact ⟨σ',H',I.unwish,q⟩
 | brk=>obtain ⟨σ',H',I,q⟩:=h;exact ⟨σ',H',I.unwish,q⟩
 | cont=>obtain ⟨σ',H',I,q⟩:=h;exact ⟨σ',H',I.unwish,q⟩
 | ret u=>obtain ⟨v,σ',H',I,r,q⟩:=h;exact ⟨v,σ',H',I.unwish,r,q⟩
theorem PSs.nox{st:List Stmt}{t:TS}(h:PSs X.nox st t):PSs X st t:=λpins s σ H D I hw =>
 bq (h pins s σ H D (I.wish _) hw) (λ_ _ q=>q.unwish) λ_ _ z=>False.elim z
end
section
variable{X:Cx}{st:Stmt}{rest:List Stmt}{t u:TS}{e:Expr}{te:TE}{pos:Pos}
def azz:TS:=λD σ H=>D.nx σ H
def b3g(t u:TS):TS:=λD σ H=>t { D with nx:=u D } σ H
theorem aqv:PSs X [] azz:=λ_ _ σ H _ I h=>fO ⟨σ,H,I,h⟩
theorem ama(h1:PS X st t)(h2:PSs X rest u):PSs X (st::rest) (b3g t u):=by
 intro pins s σ H D I h
 refine wpAny_execs_cons (thn (h1 pins s σ H { D with nx:=u D } I h) λf s1 q=>?_)
 cases f with
 | next =>
  obtain ⟨σ',H',I',q⟩:=q;exact h2 pins s1 σ' H' D I' q
 | ret v=>exact q
 | brk=>exact q
 | cont=>exact q
theorem aqw(h1:PS X st t):PSs X [st] t:=by
 intro pins s σ H D I h
 refine wpAny_execs_cons (thn (h1 pins s σ H D I h) λf s1 q=>?_)
 cases f with
 | next=>exact fO q
 | ret v=>exact q
 | brk=>exact q
 | cont=>exact q
theorem Inv.quiet(I:Inv X pins σ H s):interactive X.env=false:=by simp [interactive,I.ok.kind]
def b00(te:TE):TS:=λD σ H=>te σ H λ_ H1=>D.nx σ H1
theorem aqx(he:PE X e te)(hs:swapsWith e none pos.line X.env=pure false:=by rfl):PS X (.Expr e pos) (b00 te):=by
 intro pins s σ H D I h
 exact wpAny_Expr_any (thn (he pins s σ H _ I h) λv s1 ⟨x,H1,I1,r1,q1⟩=>⟨σ,H1,I1,q1⟩) I.quiet hs
def b3h(te:TE):TS:=λD σ H=>te σ H D.rt
theorem avk(he:PE X e te):PS X (.Return (some e) pos) (b3h te):=by
 intro pins s σ H D I h
 exact wpAny_Return_some (thn (he pins s σ H _ I h) λv s1 ⟨x,H1,I1,r1,q1⟩=>⟨x,σ,H1,I1,r1,q1⟩)
def b3i(c:TT)(t u:TS):TS:=λD σ H=>c σ H λb H1=>if b=true then t D σ H1 else u D σ H1
theorem b01{c:Expr}{a b:List Stmt}{tc:TT}(hc:PT X c tc)(ha:PSs X a t)(hb:PSs X b u):PS X (.If c a b pos) (b3i tc t u):=by
 intro pins s σ H D I h
 refine wpAny_If (thn (hc pins s σ H _ I h) λd s1 ⟨H1,I1,q1⟩=>?_)
 cases d with
 | true=>exact ha pins s1 σ H1 D I1 q1
 | false=>exact hb pins s1 σ H1 D I1 q1
end
abbrev TG:=V->St->Hp->(St->Hp->Prop)->Prop
abbrev TGs:=List V->St->Hp->(St->Hp->Prop)->Prop
def PG(X:Cx)(target:Expr)(t:TG):Prop :=
 ∀ (pins:List (Addr × Obj)) (s:Shared) (σ:St) (H:Hp) (v:V) (u:Value) (Q:St->Hp->Prop),Inv X pins σ H s->RelV v u->t v σ H Q->
  wpAny (model X.prog X.w) X.A (assign target X.env u) (λ_ s'=>∃ σ' H',Inv X pins σ' H' s'/\Q σ' H') X.xe s
def PGs(X:Cx)(ts:List Expr)(t:TGs):Prop :=
 ∀ (pins:List (Addr × Obj)) (s:Shared) (σ:St) (H:Hp) (vs:List V) (us:List Value) (Q:St->Hp->Prop),Inv X pins σ H s->Vals vs us->t vs σ H Q->
  wpAny (model X.prog X.w) X.A (assignInOrder ((assignEach ts X.env).map (·.2)) us) (λ_ s'=>∃ σ' H',Inv X pins σ' H' s'/\Q σ' H') X.xe s
abbrev avl:=V->V->V->Hp->(Hp->Prop)->Prop
def b02(X:Cx)(t:avl):Prop :=
 ∀ (pins:List (Addr × Obj)) (s:Shared) (σ:St) (H:Hp) (o i v:V) (ov iv u:Value) (Q:Hp->Prop),Inv X pins σ H s->RelV o ov->RelV i iv->RelV v u->t o i v H Q->
  wpAny (model X.prog X.w) X.A (setItem ov iv u) (λ_ s'=>∃ H',Inv X pins σ H' s'/\Q H') X.xe s
abbrev TIp:=V->V->Hp->VK->Prop
def PIp(X:Cx)(op:Operator)(t:TIp):Prop :=
 ∀ (pins:List (Addr × Obj)) (s:Shared) (σ:St) (H:Hp) (x y:V) (v u:Value) (Q:VK),Inv X pins σ H s->RelV x v->RelV y u->t x y H Q->
  wpAny (model X.prog X.w) X.A (inplaceOp op v u) (EP X pins σ Q) X.xe s
section
variable{X:Cx}{pos:Pos}
def a6h(i:Nat):TG:=λv σ H Q=>Q (σ.set i (some v)) H
theorem jw(hN:X.N.Nodup)(hi:X.N[i]? = some x)(hx:Loc X.env.scope x)(hf:X.fn x=true\/X.env.scope.names.lookup x=some .local:=by first | exact .inl rfl | exact .inr rfl | assumption):PG X (.Name x pos) (a6h i):=by
 intro pins s σ H v u Q I r h
 exact fm (a5g I hN hi hx r (λs' I'=>⟨_,H,I',h⟩) hf)
def b1t:TGs:=λvs σ H Q=>vs=[]/\Q σ H
def amb(t:TG)(u:TGs):TGs:=λvs σ H Q=>∃ v r,vs=v::r/\t v σ H λσ' H'=>u r σ' H' Q
theorem a7p:PGs X [] b1t:=by
 intro pins s σ H vs us Q I r h
 obtain ⟨e,h⟩:=h;subst e;cases r
 exact assignInOrder_nil ⟨σ,H,I,h⟩
theorem a09{e:Expr}{es:List Expr}{t:TG}{u:TGs}(h1:PG X e t)(h2:PGs X es u)
  (hs:(assignEach (e::es) X.env).map (·.2)=assign e X.env::(assignEach es X.env).map (·.2):=by rfl):PGs X (e::es) (amb t u):=by
 intro pins s σ H vs us Q I r h
 obtain ⟨v,vr,e1,h⟩:=h;subst e1
 cases r with
 | cons r rr =>
  rw [hs];refine assignInOrder_cons (thn (h1 pins s σ H _ _ _ I r h) λ_ s1 ⟨σ1,H1,I1,q1⟩=>?_);exact h2 pins s1 σ1 H1 _ _ Q I1 rr q1
def a4d(K:PySem.W.Frag)(n:Nat)(t:TGs):TG:=λv σ H Q=>∃ a xs,v = .ref a/\SqT K H a xs/\xs.length=n/\t xs σ H Q
theorem abw(hc:X.calm=true)(h:PGs X es t)
  (hn:(assignEach es X.env).length=n:=by rfl) (hst:(assignEach es X.env).findIdx? (·.1)=none:=by rfl):PG X (.Tuple es k pos) (a4d X.K n t):=by
 intro pins s σ H v u Q I r hw
 obtain ⟨a,xs,e1,hq,hl,hw⟩:=hw;subst e1;cases r
 obtain ⟨its,rv,ht,hz⟩:=I.tuple hq;refine assign_Tuple_tuple (I.ok.hd hc) ht (by simp [hn,<-hl,rv.length]) hst λh' hx=>?_
 have I1:Inv X pins σ H { s with heap:=h' }:=I.kept (t':=s.toks) λb o e=>hx b o (bp (aH e)) e
 exact h pins _ σ H xs _ Q I1 (by simpa using rv) hw
def abu(to ti:TE)(t:avl):TG:=λv σ H Q=>to σ H λo H1=>ti σ H1 λi H2=>t o i v H2 λH3=>Q σ H3
theorem avm{o i:Expr}{to ti:TE}{t:avl}(ho:PE X o to)(hi:PE X i ti)(hs:b02 X t)
  (ha:∀ v,assign (.Subscript o i pos) X.env v=(do
   let ov <-holding [v] (eval o X.env)
   let iv <-holding [v,ov] (eval i X.env)
   standAt pos
   holding [v,ov,iv] (setItem ov iv v)
   release [v,ov,iv] []):=by intro _;rfl):PG X (.Subscript o i pos) (abu to ti t):=by
 intro pins s σ H v u Q I r h
 rw [ha];refine ag (cD (thn (ho pins s σ H _ I h) λov s1 ⟨x,H1,I1,r1,q1⟩=>?_));refine ag (cD (thn (hi pins s1 σ H1 _ I1 q1) λiv s2 ⟨y,H2,I2,r2,q2⟩=>?_));refine ag (cI (ag (cD (thn (hs pins s2 σ H2 x y v ov iv u _ I2 r1 r2 r q2) λ_ s3 ⟨H3,I3,q3⟩=>?_))));exact wpAny_release ⟨σ,H3,I3,q3⟩
def aze(te:TE)(g:TG):TS:=λD σ H=>te σ H λx H1=>g x σ H1 D.nx
theorem apb{tg e:Expr}{te:TE}{g:TG}(he:PE X e te)(hg:PG X tg g)(hs:swapsWithSole [tg] e pos.line X.env=pure false:=by rfl)(hw:swappedStores [tg] e X.env=pure none:=by rfl)
  (h1:(assignEach [tg] X.env).map (·.2)=[assign tg X.env]:=by rfl):PS X (.Assign [tg] e pos) (aze te g):=by
 intro pins s σ H D I h
 refine wpAny_Assign_stores (thn (he pins s σ H _ I h) λv s1 ⟨x,H1,I1,r1,q1⟩=>?_) hs hw;rw [h1];exact thn (hg pins s1 σ H1 x v _ I1 r1 q1) λ_ s2 q=>q
theorem avn{i:Nat}{x:Str}{e:Expr}{te:TE}{pos':Pos}(hN:X.N.Nodup)(hi:X.N[i]? = some x)(hx:Loc X.env.scope x)(he:PE X e te)(hs:swapsWith e (some (.Name x pos')) pos.line X.env=pure false:=by rfl)(hf:X.fn x=true\/X.env.scope.names.lookup x=some .local:=by first | exact .inl rfl | exact .inr rfl | assumption) :
  PS X (.Assign [.Name x pos'] e pos) (aze te (a6h i)):=by
 intro pins s σ H D I h
 refine wpAny_Assign_Name (thn (he pins s σ H _ I h) λv s1 ⟨y,H1,I1,r1,q1⟩=>?_) hs;exact a5g I1 hN hi hx r1 (λs2 I2=>⟨_,H1,I2,q1⟩) hf
def b3j(i:Nat)(te:TE)(ti:TIp):TS:=λD σ H=>∃ x,σ[i]? = some (some x)/\te σ H λy H1=>ti x y H1 λz H2=>D.nx (σ.set i (some z)) H2
theorem avo{i:Nat}{x:Str}{e:Expr}{te:TE}{op:Operator}{ti:TIp}{pos':Pos}(hN:X.N.Nodup)(hi:X.N[i]? = some x)(hx:Loc X.env.scope x)(he:PE X e te)(ho:PIp X op ti)(hf:X.fn x=true\/X.env.scope.names.lookup x=some .local:=by first | exact .inl rfl | exact .inr rfl | assumption) :
  PS X (.AugAssign (.Name x pos') op e pos) (b3j i te ti):=by
 intro pins s σ H D I h
 obtain ⟨v,e1,h⟩:=h;obtain ⟨m,hn,hl⟩:=I.loc;have vis:Vis X.env.scope x:=by rcases hx with k | k;exact .inl k;exact .inr (.inl k)
 obtain ⟨u,r,l⟩:=hl i x v hi e1 vis;refine wpAny_AugAssign_Name ?_;have go:wpAny (model X.prog X.w) X.A (eval e X.env) (λw s₂=>wpAny (model X.prog X.w) X.A (inplaceOp op u w) (λr s₃=>wpAny (model X.prog X.w) X.A (storeName X.env x r) (λ_=>SP X pins D .next) X.xe s₃) X.xe s₂) X.xe s:=by
  refine thn (he pins s σ H _ I h) λw s1 ⟨y,H1,I1,r1,q1⟩=>?_;refine thn (ho pins s1 σ H1 v y u w _ I1 r r1 q1) λz s2 ⟨zv,H2,I2,r2,q2⟩=>?_;exact a5g I2 hN hi hx r2 (λs3 I3=>⟨_,H2,I3,q2⟩) hf
 rcases l with ⟨hk,hm⟩ | ⟨hk,c,hc,hcell⟩
 ·exact wpAny_loadName_local I.ok.kind hk hn hm go
 ·rcases hk with hk | hk
  ·exact wpAny_loadName_cell I.ok.kind hk hc hcell go
  ·rcases hx with k | k
   ·have:X.env.scope.names.lookup x=some .free:=hk
    rw [k] at this;cases this
   ·have:X.env.scope.names.lookup x=some .free:=hk
    rw [k] at this;cases this
def b03(to ti te:TE)(tget:V->V->Hp->VK->Prop)(tip:TIp)(tset:avl):TS:=λD σ H=>to σ H λo H1=>ti σ H1 λi H2=>tget o i H2 λx H3=>te σ H3 λy H4=>tip x y H4 λz H5=>tset o i z H5 λH6=>D.nx σ H6
def b1u(X:Cx)(t:V->V->Hp->VK->Prop):Prop :=
 ∀ (pins:List (Addr × Obj)) (s:Shared) (σ:St) (H:Hp) (o i:V) (ov iv:Value) (Q:VK),Inv X pins σ H s->RelV o ov->RelV i iv->t o i H Q->
  wpAny (model X.prog X.w) X.A (getItem ov iv) (EP X pins σ Q) X.xe s
theorem aqy{o i e:Expr}{to ti te:TE}{tget:V->V->Hp->VK->Prop}{tip:TIp}{tset:avl}{op:Operator}{tpos:Pos}(ho:PE X o to)(hi:PE X i ti)(hg:b1u X tget)(he:PE X e te)(hp:PIp X op tip)(hs:b02 X tset)
  (ha:∀ ov iv new,augStore i ov iv new=(do holding [new,ov,iv] (setItem ov iv new);release [new,ov,iv] [];pure .next):=by intros;rfl):PS X (.AugAssign (.Subscript o i tpos) op e pos) (b03 to ti te tget tip tset):=by
 intro pins s σ H D I h
 refine wpAny_AugAssign_SubscriptAny (thn (ho pins s σ H _ I h) λov s1 ⟨x1,H1,I1,r1,q1⟩=>?_) ha;refine thn (hi pins s1 σ H1 _ I1 q1) λiv s2 ⟨x2,H2,I2,r2,q2⟩=>?_;refine thn (hg pins s2 σ H2 x1 x2 ov iv _ I2 r1 r2 q2) λold s3 ⟨x3,H3,I3,r3,q3⟩=>?_;refine thn (he pins s3 σ H3 _ I3 q3) λv s4 ⟨x4,H4,I4,r4,q4⟩=>?_;refine thn (hp pins s4 σ H4 x3 x4 old v _ I4 r3 r4 q4) λnew s5 ⟨x5,H5,I5,r5,q5⟩=>?_;exact thn (hs pins s5 σ H5 x1 x2 x5 ov iv new _ I5 r1 r2 r5 q5) λ_ s6 ⟨H6,I6,q6⟩=>⟨σ,H6,I6,q6⟩
end
section
variable{X:Cx}{pos:Pos}
def avp(c:TT)(tb:TS):TS:=λD σ H=>∃ W:Nat->St->Hp->Prop,(∃ m,W m σ H)/\∀ m σ H,W m σ H->
 c σ H λb H1=>if b=true then ∃ N:St->Hp->Prop,(∀ σ' H',N σ' H'->∃ m',m'<m/\W m' σ' H')/\tb { D with nx:=N,ct:=N,bk:=D.nx } σ H1 else D.nx σ H1
theorem amc{c:Expr}{body:List Stmt}{tc:TT}{tb:TS}(hp:PassesOwn (model X.prog X.w) X.A X.env X.xe)(hc:PT X c tc)(hb:PSs X body tb):PS X (.While c body [] pos) (avp tc tb):=by
 intro pins s σ H D I h
 obtain ⟨W,⟨m0,w0⟩,turn⟩:=h;refine wpAny_While (codeAny_whileLoop (λn s'=>∃ σ' H',Inv X pins σ' H' s'/\W n σ' H') ?_ m0 ⟨σ,H,I,w0⟩)
 rintro n s1 ⟨σ1,H1,I1,w1⟩
 refine dF hp (thn (hc pins s1 σ1 H1 _ I1 (turn n σ1 H1 w1)) λb s2 ⟨H2,I2,q2⟩=>?_)
 cases b with
 | true =>
  obtain ⟨N,hN,q2⟩:=q2;rw [aL rfl];refine dF hp (thn (hb pins s2 σ1 H2 _ I2 q2) λf s3 q3=>?_)
  cases f with
  | next =>
   obtain ⟨σ3,H3,I3,n3⟩:=q3;obtain ⟨m',hm,w3⟩:=hN σ3 H3 n3;exact ⟨m',hm,σ3,H3,I3,w3⟩
  | cont =>
   obtain ⟨σ3,H3,I3,n3⟩:=q3;obtain ⟨m',hm,w3⟩:=hN σ3 H3 n3;exact ⟨m',hm,σ3,H3,I3,w3⟩
  | brk=>exact q3
  | ret v=>exact q3
 | false =>
  rw [aY bE];exact fO ⟨σ1,H2,I2,q2⟩
end
structure It where
 go:Nat->Hp->Prop
 yld:Nat->Hp->V->Hp->Prop
 stop:Nat->Hp->Prop
def FpOk(X:Cx)(pins:List (Addr × Obj))(H:Hp)(b:Addr):Prop :=
 H b=none/\b≠X.env.locals/\b ∉ X.fs/\(b∈X.ex\/X.s₀.heap.objs.size<=b)/\(∀ x c,X.env.cells.lookup x=some c->c≠b)/\∀ p∈X.pn++pins,p.1≠b
theorem Inv.fpOk(I:Inv X pins σ H s)(hb:s.heap.objs.size<=b)(hn:H' b=none):FpOk X pins H' b:=by
 refine ⟨hn,hU (aR I.lt hb),I.nofs hb, .inr (cH I.sz hb),λx c e z=>?_,λp hp z=>?_⟩
 ·obtain ⟨v,q⟩:=I.cell x c e;exact absurd (aR q.lt (by rw [z];exact hb)) (bQ _)
 ·exact absurd (aR (aH (I.pin p hp).1) (by rw [z];exact hb)) (bQ _)
structure Turn (P:Program) (w:World) (K:PySem.W.Frag) (tg:Expr) (J:It) (fp:List Addr) (it:Addr) (tn:Nat->Heap->Prop):Prop where
 mem:it∈fp
 obj:∀ i h,tn i h->∀ b∈fp,∃ o,h.get? b=some o/\∀ v,o.data≠.cell v
 keep:∀ i h h',tn i h->(∀ b∈fp,∀ o,h.get? b=some o->h'.get? b=some o)->tn i h'
 item:∀ (X:Cx),X.prog=P->X.w=w->X.K=K->X.calm=true->∀ (i:Nat) (pins:List (Addr × Obj)) (s:Shared) (σ:St) (H:Hp) (E:Value->Shared->Prop),Inv X pins σ H s->(∀ b∈fp,FpOk X pins H b)->tn i s.heap->J.go i H->
  wpAny (model P w) X.A (pyNext (.ref it)) (λr s1=>∃ u,r=some u /\
   wpAny (model P w) X.A (letOwnedTupleGo tg (.ref it) u) (λ_ s2=>∃ x H',Inv X pins σ H' s2/\RelV x u/\J.yld i H x H'/\tn (i+1) s2.heap/\∀ b∈fp,H' b=none) E s1) E s
 done:∀ (X:Cx),X.prog=P->X.w=w->X.K=K->X.calm=true->∀ (i:Nat) (pins:List (Addr × Obj)) (s:Shared) (σ:St) (H:Hp) (E:Value->Shared->Prop),Inv X pins σ H s->(∀ b∈fp,FpOk X pins H b)->tn i s.heap->J.stop i H->
  wpAny (model P w) X.A (pyNext (.ref it)) (λr s1=>r=none/\Inv X pins σ H s1) E s
 self:∀ (A:Around) (i:Nat) (s:Shared) (Q:Value->Shared->Prop) (E:Value->Shared->Prop),tn i s.heap->Q (.ref it) s->wpAny (model P w) A (pyIter (.ref it)) Q E s
abbrev TI:=St->Hp->(It->Hp->Prop)->Prop
def PIE(X:Cx)(pins:List (Addr × Obj))(σ:St)(tg:Expr)(R:It->Hp->Prop)(itv:Value)(s2:Shared):Prop :=
 ∃ (it:Addr) (fp:List Addr) (tn:Nat->Heap->Prop) (J:It) (H':Hp),itv = .ref it/\Inv X pins σ H' s2/\Turn X.prog X.w X.K tg J fp it tn/\tn 0 s2.heap/\(∀ b∈fp,FpOk X pins H' b)/\R J H'
def PI(X:Cx)(tg iter:Expr)(wi:TI):Prop :=
 ∀ (pins:List (Addr × Obj)) (s:Shared) (σ:St) (H:Hp) (R:It->Hp->Prop),Inv X pins σ H s->wi σ H R->
  wpAny (model X.prog X.w) X.A (eval iter X.env) (λv s1=>wpAny (model X.prog X.w) X.A (pyIter v) (PIE X pins σ tg R) X.xe s1) X.xe s
theorem ai3{s:Shared}(ho:s.heap.get? it=some o)(hc:o.cls = .type n)(hd:o.data = .fields vs)
  (hn:["enumerate", "zip", "dict_itemiterator", "dict_reverseitemiterator", "odict_iterator", "itertools.zip_longest", "itertools.pairwise"].contains n=false) (hQ:Q () s):wpAny M A (letOwnedTupleGo tg (.ref it) u) Q E s:=by
 unfold letOwnedTupleGo
 cases tg<;>first
  | exact aB hQ
  | (cases u<;>first
    | exact aB hQ
    | (refine ag (wpAny_load ho ?_)
       rw [hc,hd];show wpAny M A (if (["enumerate", "zip", "dict_itemiterator", "dict_reverseitemiterator", "odict_iterator", "itertools.zip_longest", "itertools.pairwise"].contains n && vs[0]? == some (rawInt _))=true then _ else _) Q E s
       rw [aY (by intro h;rw [hn,Bool.false_and] at h;cases h)]
       exact aB hQ))
def Itl(K:PySem.W.Frag)(a:Addr):It :=
 ⟨λi H=>∃ xs x,SqL K H a xs/\xs[i]? = some x,λi H x H'=>H'=H/\∀ xs,SqL K H a xs->xs[i]? = some x,λi H=>∃ xs,SqL K H a xs/\xs.length<=i⟩
def Itt(K:PySem.W.Frag)(a:Addr):It :=
 ⟨λi H=>∃ xs x,SqT K H a xs/\xs[i]? = some x,λi H x H'=>H'=H/\∀ xs,SqT K H a xs->xs[i]? = some x,λi H=>∃ xs,SqT K H a xs/\xs.length<=i⟩
def Itr(lo:Int)(n:Nat):It:=⟨λi _=>i<n,λi H x H'=>H'=H/\x = .int (lo+i),λi _=>n<=i⟩
theorem ai4{P:Program}{w:World}{K:PySem.W.Frag}{tg:Expr}(a it:Addr):Turn P w K tg (Itl K a) [it] it (λi h=>h.IsListIter it a i) where
 mem:=by simp
 obj:=λi h st b hb=>by
  have e:b=it:=by simpa using hb
  subst e;obtain ⟨o,e,c,d⟩:=st;exact ⟨o,e,λv z=>by rw [d] at z;cases z⟩
 keep:=λi h h' st k=>st.at λo e=>k it (by simp) o e
 item:=by
  intro X hP hw hK hc i pins s σ H E I hf st hg
  subst hP hw hK;obtain ⟨xs,x,hq,hx⟩:=hg;obtain ⟨its,rv,p,hz⟩:=I.list hq;obtain ⟨u,hu,ru⟩:=rv.get hx;obtain ⟨f0,f1,f2,f3,f4,f5⟩:=hf it (by simp)
  refine wpAny_pyNext_list_item st p.isList (x:=u) (by simpa using hu) λh' st' sb=>?_
  have I1:Inv X pins σ H { s with heap:=h' }:=I.turned (t':=s.toks) (λb o hb e=>(sb.2 b hb).trans e) f0 f1 f3 f4 f5
  obtain ⟨o,e,c,d⟩:=id st';exact ⟨u,rfl,ai3 (s:={ s with heap:=h' }) e c d (by decide) ⟨x,H,I1,ru,⟨rfl,λys hy=>by rw [I.list_inj hy hq];exact hx⟩,st',λb hb=>(hf b hb).1⟩⟩
 done:=by
  intro X hP hw hK hc i pins s σ H E I hf st hg
  subst hP hw hK;obtain ⟨xs,hq,hx⟩:=hg;obtain ⟨its,rv,p,hz⟩:=I.list hq;obtain ⟨f0,f1,f2,f3,f4,f5⟩:=hf it (by simp)
  have hl:=rv.length;exact wpAny_pyNext_list_end (I.ok.hd hc) st p.isList (by simp;omega) λh' eb=>⟨rfl,I.turned (t':=s.toks) (λb o hb e=>eb b o hb e) f0 f1 f3 f4 f5⟩
 self:=λ_ _ _ _ _ st h=>wpAny_pyIter_listiter st h
theorem agf{P:Program}{w:World}{K:PySem.W.Frag}{tg:Expr}(a it:Addr):Turn P w K tg (Itt K a) [it] it (λi h=>h.IsTupleIter it a i) where
 mem:=by simp
 obj:=λi h st b hb=>by
  have e:b=it:=by simpa using hb
  subst e;obtain ⟨o,e,c,d⟩:=st;exact ⟨o,e,λv z=>by rw [d] at z;cases z⟩
 keep:=λi h h' st k=>st.at λo e=>k it (by simp) o e
 item:=by
  intro X hP hw hK hc i pins s σ H E I hf st hg
  subst hP hw hK;obtain ⟨xs,x,hq,hx⟩:=hg;obtain ⟨its,rv,p,hz⟩:=I.tuple hq;obtain ⟨u,hu,ru⟩:=rv.get hx;obtain ⟨f0,f1,f2,f3,f4,f5⟩:=hf it (by simp)
  refine wpAny_pyNext_tuple_item st (show s.heap.IsTuple a its.toArray from p) (x:=u) (by simpa using hu) λh' st' sb=>?_
  have I1:Inv X pins σ H { s with heap:=h' }:=I.turned (t':=s.toks) (λb o hb e=>(sb.2 b hb).trans e) f0 f1 f3 f4 f5
  obtain ⟨o,e,c,d⟩:=id st';exact ⟨u,rfl,ai3 (s:={ s with heap:=h' }) e c d (by decide) ⟨x,H,I1,ru,⟨rfl,λys hy=>by rw [I.tuple_inj hy hq];exact hx⟩,st',λb hb=>(hf b hb).1⟩⟩
 done:=by
  intro X hP hw hK hc i pins s σ H E I hf st hg
  subst hP hw hK;obtain ⟨xs,hq,hx⟩:=hg;obtain ⟨its,rv,p,hz⟩:=I.tuple hq;obtain ⟨f0,f1,f2,f3,f4,f5⟩:=hf it (by simp)
  have hl:=rv.length;exact wpAny_pyNext_tuple_end (I.ok.hd hc) st (show s.heap.IsTuple a its.toArray from p) (by simp;omega) λh' eb=>⟨rfl,I.turned (t':=s.toks) (λb o hb e=>eb b o hb e) f0 f1 f3 f4 f5⟩
 self:=λ_ _ _ _ _ st h=>wpAny_pyIter_tupleiter st h
theorem agg{P:Program}{w:World}{K:PySem.W.Frag}{tg:Expr}(it:Addr)(lo:Int)(n:Nat):Turn P w K tg (Itr lo n) [it] it (λi h=>IsRangeIter h it (lo+(i:Nat)*1) ((n:Int) - (i:Nat)) 1) where
 mem:=by simp
 obj:=λi h st b hb=>by
  have e:b=it:=by simpa using hb
  subst e;exact ⟨_,st,λv z=>by
   have z':Data.fields _=Data.cell v:=z
   cases z'⟩
 keep:=λi h h' st k=>k it (by simp) _ st
 item:=by
  intro X hP hw hK hc i pins s σ H E I hf st hg
  subst hP hw hK;obtain ⟨f0,f1,f2,f3,f4,f5⟩:=hf it (by simp)
  have W:=Walks.range (prog:=X.prog) (w:=X.w) (I.ok.hd hc) it lo 1 n;refine W.item i s _ _ hg st λv h' tk hv st' kk=>?_;obtain ⟨t,rfl⟩:=hv;have I1:Inv X pins σ H { s with heap:=h',toks:=tk }:=I.turned (λb o hb e=>kk b o (by simpa using hb) e) f0 f1 f3 f4 f5
  refine ⟨_,rfl,ai3 (s:={ s with heap:=h',toks:=tk }) (n := "range_iterator") st' rfl rfl (by decide) ⟨.int (lo+i),H,I1,⟨t,?_⟩,⟨rfl,rfl⟩,st',λb hb=>(hf b hb).1⟩⟩
  rw [Int.mul_one]
 done:=by
  intro X hP hw hK hc i pins s σ H E I hf st hg
  subst hP hw hK;obtain ⟨f0,f1,f2,f3,f4,f5⟩:=hf it (by simp)
  exact wpAny_pyNext_range_end (I.ok.hd hc) st (by have:n<=i:=hg;omega) λh' eb=>⟨rfl,I.turned (t':=s.toks) (λb o hb e=>eb b o hb e) f0 f1 f3 f4 f5⟩
 self:=λ_ _ _ _ _ st h=>fg st h
section
variable{X:Cx}{tg:Expr}
def b04(K:PySem.W.Frag)(tl:TE):TI:=λσ H R=>tl σ H λx H1=>∃ a,x = .ref a/\(∃ xs,SqL K H1 a xs)/\R (Itl K a) H1
def b3k(K:PySem.W.Frag)(tl:TE):TI:=λσ H R=>tl σ H λx H1=>∃ a,x = .ref a/\(∃ xs,SqT K H1 a xs)/\R (Itt K a) H1
theorem ai5{l:Expr}{tl:TE}(hl:PE X l tl):PI X tg l (b04 X.K tl):=by
 intro pins s σ H R I h
 refine thn (hl pins s σ H _ I h) λv s1 ⟨x,H1,I1,r1,q1⟩=>?_;obtain ⟨a,e,⟨xs,hq⟩,q⟩:=q1;subst e;cases r1
 obtain ⟨its,rv,p,hz⟩:=I1.list hq;refine eC p.isList ?_;refine ⟨s1.heap.objs.size,[s1.heap.objs.size],_,_,H1,rfl,I1.kept (t':=s1.toks) λb o e=>am _ e,ai4 a _,⟨_,aJ _ rfl,rfl,rfl⟩,λb hb=>?_,q⟩;have e:b=s1.heap.objs.size:=by simpa using hb
 subst e;exact I1.fpOk (ax _) (I1.hok.fresh (ax _))
theorem avq{l:Expr}{tl:TE}(hl:PE X l tl):PI X tg l (b3k X.K tl):=by
 intro pins s σ H R I h
 refine thn (hl pins s σ H _ I h) λv s1 ⟨x,H1,I1,r1,q1⟩=>?_;obtain ⟨a,e,⟨xs,hq⟩,q⟩:=q1;subst e;cases r1
 obtain ⟨its,rv,p,hz⟩:=I1.tuple hq;refine wpAny_pyIter_tuple (show s1.heap.IsTuple a its.toArray from p) ?_
 refine ⟨s1.heap.objs.size,[s1.heap.objs.size],_,_,H1,rfl,I1.kept (t':=s1.toks) λb o e=>am _ e,agf a _,⟨_,aJ _ rfl,rfl,rfl⟩,λb hb=>?_,q⟩;have e:b=s1.heap.objs.size:=by simpa using hb
 subst e;exact I1.fpOk (ax _) (I1.hok.fresh (ax _))
theorem aeu{s:Shared}{lo hi:Int}{tk:Nat}(I:Inv X pins σ H s)(h1 : -(2 ^ 62)<=lo)(h2:lo<2 ^ 62)(h3 : -(2 ^ 62)<=hi)(h4:hi<2 ^ 62)
  (q:R (Itr lo (hi - lo).toNat) H):wpAny (model X.prog X.w) X.A (pyIter (.ref s.heap.objs.size)) (PIE X pins σ tg R) E { s with heap:=s.heap.push { cls:=.type "range",data:=.fields #[.int lo t, .int hi u, .int 1 v] },toks:=tk }:=by
 refine wpAny_pyIter_range (IsRange.new ..) (small_one h1 h2 h3 h4) ?_;have I1:Inv X pins σ H { s with heap:=s.heap.push { cls:=.type "range",data:=.fields #[.int lo t, .int hi u, .int 1 v] },toks:=tk }:=I.kept λb o e=>am _ e
 refine ⟨(s.heap.push { cls:=.type "range",data:=.fields #[.int lo t, .int hi u, .int 1 v] }).objs.size,[(s.heap.push { cls:=.type "range",data:=.fields #[.int lo t, .int hi u, .int 1 v] }).objs.size],_,_,H,rfl,
  I1.kept (t':=tk) λb o e=>am _ e,agg _ lo (hi - lo).toNat,?_,λb hb=>?_,q⟩
 ·have e1:lo+((0:Nat):Int)*1=lo:=by simp
  have e2:(((hi - lo).toNat:Nat):Int) - ((0:Nat):Int)=Builtin.Range.rangeSize lo hi 1:=by rw [rangeSize_one];split<;>omega
  show IsRangeIter _ _ (lo+((0:Nat):Int)*1) ((((hi - lo).toNat:Nat):Int) - ((0:Nat):Int)) 1;rw [e1,e2];exact aJ _ rfl
 ·have e:b=(s.heap.push { cls:=.type "range",data:=.fields #[.int lo t, .int hi u, .int 1 v] }).objs.size:=by simpa using hb
  subst e;exact I1.fpOk (ax _) (I1.hok.fresh (ax _))
def b05(ta:TA):TI:=λσ H R=>ta σ H λvs H1=>∃ j:Int,vs=[.int j] /\ -(2 ^ 62)<=j/\j<2 ^ 62/\R (Itr 0 j.toNat) H1
def b06(ta:TA):TI:=λσ H R=>ta σ H λvs H1=>∃ i j:Int,vs=[.int i, .int j]/\(-(2 ^ 62)<=i/\i<2 ^ 62 /\ -(2 ^ 62)<=j/\j<2 ^ 62)/\R (Itr i (j - i).toNat) H1
theorem ai6{a:Expr}{ta:TA}{p pos:Pos}(hg:Gl X "range")(hm:X.mg "range" = none)(ha:PA X [a] ta)(hs:starEach [a] X.env=[(false,eval a X.env)]:=by rfl):PI X tg (.Call (.Name "range" p) [a] [] pos) (b05 ta):=by
 intro pins s σ H R I h
 refine Call_ (a5h I hg hm boot_range (bV (thn (ha pos pins s σ H _ I h) λus s1 ⟨vs,H1,I1,r1,q1⟩=>?_) hs rfl));obtain ⟨j,e,q1,q2,q⟩:=q1;subst e
 cases r1 with
 | cons r rr =>
  cases rr
  obtain ⟨t,rfl⟩:=r;exact call_range_1 (aeu I1 (by omega) (by omega) q1 q2 (by simpa using q))
theorem ai7{a b:Expr}{ta:TA}{p pos:Pos}(hg:Gl X "range")(hm:X.mg "range" = none)(ha:PA X [a,b] ta)(hs:starEach [a,b] X.env=[(false,eval a X.env),(false,eval b X.env)]:=by rfl)(hs2:starEach [b] X.env=[(false,eval b X.env)]:=by rfl) :
  PI X tg (.Call (.Name "range" p) [a,b] [] pos) (b06 ta):=by
 intro pins s σ H R I h
 refine Call_ (a5h I hg hm boot_range (bV (thn (ha pos pins s σ H _ I h) λus s1 ⟨vs,H1,I1,r1,q1⟩=>?_) (by rw [hs,hs2]) (by rw [hs2];rfl)))
 obtain ⟨i,j,e,⟨q1,q2,q3,q4⟩,q⟩:=q1;subst e
 cases r1 with
 | cons r rr =>
  cases rr with
  | cons r' rr =>
   cases rr
   obtain ⟨t,rfl⟩:=r;obtain ⟨t',rfl⟩:=r';exact call_range_2 (aeu I1 q1 q2 q3 q4 q)
def b3l(wi:TI)(g:TG)(tb:TS):TS:=λD σ H=>wi σ H λJ H1=>∃ W:Nat->Nat->St->Hp->Prop,(∃ m,W 0 m σ H1)/\∀ i m σ H,W i m σ H->
 (J.stop i H/\D.nx σ H)\/(J.go i H/\∃ N:St->Hp->Prop,(∀ σ' H',N σ' H'->∃ m',m'<m/\W (i+1) m' σ' H')/\∀ x H',J.yld i H x H'->g x σ H' λσ2 H2=>tb { D with nx:=N,ct:=N,bk:=D.nx } σ2 H2)
def zq(fp:List Addr)(h:Heap):List (Addr × Obj):=fp.filterMap λb=>(h.get? b).map λo=>(b,o)
theorem my{h:Heap}(hb:b∈fp)(e:h.get? b=some o):(b,o)∈zq fp h:=fX.mpr ⟨b,hb,by rw [e];rfl⟩
theorem abx(hp:p∈zq fp h):p.1∈fp/\h.get? p.1=some p.2:=by
 obtain ⟨b,hb,e⟩:=fX.mp hp
 cases q:h.get? b with
 | none=>rw [q] at e;cases e
 | some o =>
  rw [q] at e;have e':(b,o)=p:=bM e;subst e';exact ⟨hb,q⟩
theorem Inv.pinned(I:Inv X pins σ H s)(hf:∀ b∈fp,FpOk X pins H b)(ho:∀ b∈fp,∃ o,s.heap.get? b=some o/\∀ v,o.data≠.cell v):Inv X (pins++zq fp s.heap) σ H s :=
 I.pins_of λp hp=>(aS.mp hp).elim (λz=>I.pin p (aV _ z)) λz=>by
  obtain ⟨hb,e⟩:=abx z;obtain ⟨f0,f1,f2,_⟩:=hf p.1 hb;obtain ⟨o,e',d⟩:=ho p.1 hb;rw [e] at e';cases e'
  exact ⟨e,f0,f1,f2,d⟩
theorem Inv.unpinned(I:Inv X (pins++pl) σ H s):Inv X pins σ H s:=I.pins_of λp hp=>I.pin p (aV _ (bG _ hp))
theorem avr{iter:Expr}{body:List Stmt}{wi:TI}{g:TG}{tb:TS}{pos:Pos}(hp:PassesOwn (model X.prog X.w) X.A X.env X.xe)(hc:X.calm=true)(hi:PI X tg iter wi)(hg:PG X tg g)(hb:PSs X body tb)
  (hs:∀ x,foldedSetIterable iter X.env x=pure x:=by intro _;rfl):PS X (.For tg iter body [] pos) (b3l wi g tb):=by
 intro pins s σ H D I h
 refine wpAny_For (thn (hi pins s σ H _ I h) λv s1 h1=>thn h1 λitv s2 h2=>?_) hs;obtain ⟨it,fp,tn,J,H2,e,I2,T,st2,f2,W,⟨m0,w0⟩,turn⟩:=h2;subst e;have stat:∀ {H':Hp},(∀ b∈fp,H' b=none)->∀ b∈fp,FpOk X pins H' b:=λhn b hb=>⟨hn b hb,(f2 b hb).2⟩;refine codeAny_forLoop_any (λn s'=>∃ i σ' H',Inv X pins σ' H' s'/\tn i s'.heap/\(∀ b∈fp,H' b=none)/\W i n σ' H') ?_ m0 ⟨0,σ,H2,I2,st2,λb hb=>(f2 b hb).1,w0⟩
 rintro n s3 ⟨i,σ3,H3,I3,st3,fr3,w3⟩
 rcases turn i n σ3 H3 w3 with ⟨stop,qn⟩ | ⟨go,N,hN,step⟩
 ·refine dF hp (thn (T.done X rfl rfl rfl hc i pins s3 σ3 H3 X.xe I3 (stat fr3) st3 stop) λr s4 ⟨hr,I4⟩=>?_);subst hr;exact fO ⟨σ3,H3,I4,qn⟩
 ·refine dF hp (thn (T.item X rfl rfl rfl hc i pins s3 σ3 H3 X.xe I3 (stat fr3) st3 go) λr s4 ⟨u,hr,h4⟩=>?_);subst hr;refine dF hp (thn h4 λ_ s5 ⟨x,H5,I5,r5,y5,st5,fr5⟩=>?_);have I5':=I5.pinned (stat fr5) (T.obj _ _ st5);refine dF hp (thn (hg _ s5 σ3 H5 x u _ I5' r5 (step x H5 y5)) λ_ s6 ⟨σ6,H6,I6,q6⟩=>?_);refine dF hp (thn (hb _ s6 σ6 H6 _ I6 q6) λf s7 q7=>?_);have again:∀ {σ7:St} {H7:Hp},Inv X (pins++zq fp s5.heap) σ7 H7 s7->N σ7 H7->∃ m,m<n/\∃ i σ' H',Inv X pins σ' H' s7/\tn i s7.heap/\(∀ b∈fp,H' b=none)/\W i m σ' H':=λ{σ7 H7} I7 n7=>by
   obtain ⟨m',hm,w7⟩:=hN σ7 H7 n7;refine ⟨m',hm,i+1,σ7,H7,I7.unpinned,T.keep _ _ _ st5 λb hb o e=>(I7.pin (b,o) (aV _ (aV _ (my hb e)))).1,λb hb=>?_,w7⟩;obtain ⟨o,e,d⟩:=T.obj _ _ st5 b hb;exact (I7.pin (b,o) (aV _ (aV _ (my hb e)))).2.1
  cases f with
  | next=>obtain ⟨σ7,H7,I7,n7⟩:=q7;exact again I7 n7
  | cont=>obtain ⟨σ7,H7,I7,n7⟩:=q7;exact again I7 n7
  | brk=>obtain ⟨σ7,H7,I7,q7⟩:=q7;exact ⟨σ7,H7,I7.unpinned,q7⟩
  | ret v=>obtain ⟨x7,σ7,H7,I7,r7,q7⟩:=q7;exact ⟨x7,σ7,H7,I7.unpinned,r7,q7⟩
end
abbrev R2:=V->V->Hp->VK->Prop
def OpR(X:Cx)(f:Value->Value->Sem Value)(r:R2):Prop :=
 ∀ (pins:List (Addr × Obj)) (s:Shared) (σ:St) (H:Hp) (x y:V) (v u:Value) (Q:VK),Inv X pins σ H s->RelV x v->RelV y u->r x y H Q->
  wpAny (model X.prog X.w) X.A (f v u) (EP X pins σ Q) X.xe s
def UnR(X:Cx)(f:Value->Sem Value)(r:V->Hp->VK->Prop):Prop :=
 ∀ (pins:List (Addr × Obj)) (s:Shared) (σ:St) (H:Hp) (x:V) (v:Value) (Q:VK),Inv X pins σ H s->RelV x v->r x H Q->
  wpAny (model X.prog X.w) X.A (f v) (EP X pins σ Q) X.xe s
def CallR(X:Cx)(f:Value)(r:List V->Hp->VK->Prop):Prop :=
 ∀ (pins:List (Addr × Obj)) (s:Shared) (σ:St) (H:Hp) (xs:List V) (us:List Value) (Q:VK),Inv X pins σ H s->Vals xs us->r xs H Q->
  wpAny (model X.prog X.w) X.A (call f us) (EP X pins σ Q) X.xe s
def b3m(X:Cx)(r:V->Hp->(Bool->Hp->Prop)->Prop):Prop :=
 ∀ (pins:List (Addr × Obj)) (s:Shared) (σ:St) (H:Hp) (x:V) (v:Value) (Q:Bool->Hp->Prop),Inv X pins σ H s->RelV x v->r x H Q->
  wpAny (model X.prog X.w) X.A (truthy v) (TP X pins σ Q) X.xe s
def tOp(r:R2)(ta tb:TE):TE:=λσ H Q=>ta σ H λx H1=>tb σ H1 λy H2=>r x y H2 Q
def tUn(r:V->Hp->VK->Prop)(ta:TE):TE:=λσ H Q=>ta σ H λx H1=>r x H1 Q
def rI(C:Int->Int->Prop)(g:Int->Int->V):R2:=λx y H Q=>∃ i j,x = .int i/\y = .int j/\C i j/\Q (g i j) H
def rI0(g:Int->Int->V):R2:=λx y H Q=>∃ i j,x = .int i/\y = .int j/\Q (g i j) H
def rU(g:Int->V):V->Hp->VK->Prop:=λx H Q=>∃ i,x = .int i/\Q (g i) H
section
variable{X:Cx}{a b c:Expr}{ta tb tc:TE}{pos:Pos}
theorem b07(ha:PE X a ta)(hb:PE X b tb){pins:List (Addr × Obj)}{s:Shared}{σ:St}{H:Hp}{R:V->V->Hp->Prop}(I:Inv X pins σ H s)
  (h:ta σ H λx H1=>tb σ H1 λy H2=>R x y H2) {Q:Value->Shared->Prop} {f:Value->Value->Sem Value}
  (hf:∀ v u s2 x y H2,Inv X pins σ H2 s2->RelV x v->RelV y u->R x y H2->wpAny (model X.prog X.w) X.A (f v u) Q X.xe s2) :
  wpAny (model X.prog X.w) X.A (eval a X.env) (λv s₁=>wpAny (model X.prog X.w) X.A (eval b X.env) (λu s₂=>wpAny (model X.prog X.w) X.A (f v u) Q X.xe s₂) X.xe s₁) X.xe s:=by
 refine thn (ha pins s σ H _ I h) λv s1 ⟨x,H1,I1,r1,q1⟩=>?_;refine thn (hb pins s1 σ H1 _ I1 q1) λu s2 ⟨y,H2,I2,r2,q2⟩=>?_;exact hf v u s2 x y H2 I2 r1 r2 q2
theorem b08{op:Operator}{r:R2}(ho:OpR X (binaryOp op) r)(ha:PE X a ta)(hb:PE X b tb):PE X (.BinOp a op b pos) (tOp r ta tb):=by
 intro pins s σ H Q I h
 exact wpAny_BinOp (b07 ha hb I h λv u s2 x y H2 I2 rx ry q=>ho pins s2 σ H2 x y v u Q I2 rx ry q)
theorem b09{op:UnaryOp}{r:V->Hp->VK->Prop}(ho:UnR X (unaryOp op) r)(ha:PE X a ta):PE X (.UnaryOp op a pos) (tUn r ta):=by
 intro pins s σ H Q I h
 exact UnaryOp_ (thn (ha pins s σ H _ I h) λv s1 ⟨x,H1,I1,r1,q1⟩=>ho pins s1 σ H1 x v Q I1 r1 q1)
theorem opI{f:Value->Value->Sem Value}{C:Int->Int->Prop}{g:Int->Int->Int}
  (rule:∀ (i j:Int) (t u:Tok) (s:Shared) (Q:Value->Shared->Prop) (E:Value->Shared->Prop),C i j->Q (.int (g i j) s.toks) { s with toks:=s.toks+1 }->wpAny (model X.prog X.w) X.A (f (.int i t) (.int j u)) Q E s) :
  OpR X f (rI C λi j=>.int (g i j)):=by
 intro pins s σ H x y v u Q I rx ry h
 obtain ⟨i,j,rfl,rfl,hc,q⟩:=h;obtain ⟨t,rfl⟩:=rx;obtain ⟨t',rfl⟩:=ry;exact rule i j t t' s _ _ hc ⟨.int (g i j),H,I.tok _,⟨_,rfl⟩,q⟩
theorem b0a{f:Value->Value->Sem Value}{g:Int->Int->Int}
  (rule:∀ (i j:Int) (t u:Tok) (s:Shared) (Q:Value->Shared->Prop) (E:Value->Shared->Prop),Q (.int (g i j) s.toks) { s with toks:=s.toks+1 }->wpAny (model X.prog X.w) X.A (f (.int i t) (.int j u)) Q E s) :
  OpR X f (rI0 λi j=>.int (g i j)):=by
 intro pins s σ H x y v u Q I rx ry h
 obtain ⟨i,j,rfl,rfl,q⟩:=h;obtain ⟨t,rfl⟩:=rx;obtain ⟨t',rfl⟩:=ry;exact rule i j t t' s _ _ ⟨.int (g i j),H,I.tok _,⟨_,rfl⟩,q⟩
theorem azf{f:Value->Value->Sem Value}{g:Int->Int->Bool}
  (rule:∀ (i j:Int) (t u:Tok) (s:Shared) (Q:Value->Shared->Prop) (E:Value->Shared->Prop),Q (.bool (g i j)) s->wpAny (model X.prog X.w) X.A (f (.int i t) (.int j u)) Q E s) :
  OpR X f (rI0 λi j=>.bl (g i j)):=by
 intro pins s σ H x y v u Q I rx ry h
 obtain ⟨i,j,rfl,rfl,q⟩:=h;obtain ⟨t,rfl⟩:=rx;obtain ⟨t',rfl⟩:=ry;exact rule i j t t' s _ _ ⟨.bl (g i j),H,I,rfl,q⟩
def b0b(i j:Int):Prop:=0<j/\j<1073741824
def b1v(i j:Int):Prop:=0<=j/\j<=1000000/\i.natAbs<2 ^ 64
def CMul(i j:Int):Prop:=(-(2 ^ 64)<i/\i<2 ^ 64)\/(-(2 ^ 64)<j/\j<2 ^ 64)
theorem CMul.ok(h:CMul i j):IntMulOk i j:=by
 rcases h with ⟨h1,h2⟩ | ⟨h1,h2⟩
 ·exact .of_left (intBits_le_64 h1 h2)
 ·exact .of_right (intBits_le_64 h1 h2)
theorem avs:OpR X (binaryOp .Add) (rI0 λi j=>.int (i+j)):=b0a λ_ _ _ _ _ _ _ q=>add_int q
theorem avt:OpR X (binaryOp .Sub) (rI0 λi j=>.int (i - j)):=b0a λ_ _ _ _ _ _ _ q=>sub_int q
theorem avu:OpR X (binaryOp .Mult) (rI CMul λi j=>.int (i*j)):=opI λ_ _ _ _ _ _ _ hc q=>mul_int q hc.ok
theorem aqz:OpR X (binaryOp .FloorDiv) (rI b0b λi j=>.int (i / j)):=opI λi j _ _ _ _ _ hc q=>by
 have h1:(0:Int)<j:=hc.1;have h2:j<1073741824:=hc.2;exact floordiv_int (by omega) (by rw [fV i (by omega)];exact q) (.inl (PyProof.noPylong_small (by omega)))
theorem avv:OpR X (binaryOp .Mod) (rI (λ_ j=>0<j) λi j=>.int (i % j)):=opI λi j _ _ _ _ _ hc q=>by
 have h1:(0:Int)<j:=hc;exact mod_int' (by omega) (by rw [Int.fmod_eq_emod_of_nonneg i (by omega)];exact q)
theorem avw:OpR X (binaryOp .Pow) (rI b1v λi j=>.int (i ^ j.toNat)):=opI λ_ _ _ _ _ _ _ hc q=>pow_int_small hc.1 hc.2.1 hc.2.2 q
theorem a3f:OpR X (inplaceOp .Add) (rI0 λi j=>.int (i+j)):=b0a λ_ _ _ _ _ _ _ q=>iadd_int q
theorem amd:OpR X (inplaceOp .FloorDiv) (rI b0b λi j=>.int (i / j)):=opI λi j _ _ _ _ _ hc q=>by
 have h1:(0:Int)<j:=hc.1;have h2:j<1073741824:=hc.2;exact ifloordiv_int (by omega) (by rw [fV i (by omega)];exact q) (.inl (PyProof.noPylong_small (by omega)))
theorem unI{f:Value->Sem Value}{g:Int->Int}
  (rule:∀ (i:Int) (t:Tok) (s:Shared) (Q:Value->Shared->Prop) (E:Value->Shared->Prop),Q (.int (g i) s.toks) { s with toks:=s.toks+1 }->wpAny (model X.prog X.w) X.A (f (.int i t)) Q E s) :
  UnR X f (rU λi=>.int (g i)):=by
 intro pins s σ H x v Q I rx h
 obtain ⟨i,rfl,q⟩:=h;obtain ⟨t,rfl⟩:=rx;exact rule i t s _ _ ⟨.int (g i),H,I.tok _,⟨_,rfl⟩,q⟩
theorem avx:UnR X (unaryOp .USub) (rU λi=>.int (-i)):=unI λ_ _ _ _ _ q=>neg_int q
end
section
variable{X:Cx}{a b c:Expr}{ta tb tc:TE}{pos:Pos}
theorem a71(I:Inv X pins σ H s)(q:Q (.bl k) H)(e:k=k'):EP X pins σ Q (.bool k') s:=by
 subst e;exact ⟨.bl k,H,I,rfl,q⟩
theorem a7q:OpR X (compareOp .Lt) (rI0 λi j=>.bl (decide (i<j))):=azf λ_ _ _ _ _ _ _ q=>lt_int q
theorem avy:OpR X (compareOp .LtE) (rI0 λi j=>.bl (decide (i<=j))):=azf λ_ _ _ _ _ _ _ q=>le_int q
theorem avz:OpR X (compareOp .Gt) (rI0 λi j=>.bl (decide (j<i))):=azf λ_ _ _ _ _ _ _ q=>gt_int q
theorem agh:OpR X (compareOp .GtE) (rI0 λi j=>.bl (decide (j<=i))):=azf λ_ _ _ _ _ _ _ q=>ge_int q
theorem ut:OpR X (compareOp .Lt) (λx y H Q=>∃ i j,x = .str i/\y = .str j/\Q (.bl (decide (i.cps.toList<j.cps.toList))) H):=by
 intro pins s σ H x y v u Q I rx ry h
 obtain ⟨i,j,rfl,rfl,q⟩:=h;obtain ⟨t,rfl⟩:=rx;obtain ⟨t',rfl⟩:=ry;exact lt_str (a71 I q rfl)
theorem ai8:OpR X (compareOp .In) (λx y H Q=>∃ i j,x = .str i/\y = .str j/\Q (.bl (!(Builtin.Str.occurrences j i 0 j.length 1).isEmpty)) H):=by
 intro pins s σ H x y v u Q I rx ry h
 obtain ⟨i,j,rfl,rfl,q⟩:=h;obtain ⟨t,rfl⟩:=rx;obtain ⟨t',rfl⟩:=ry;exact in_str (a71 I q rfl)
theorem a7r:OpR X (compareOp .Is) (λx y H Q=>y = .non/\Q (.bl (decide (x = .non))) H):=by
 intro pins s σ H x y v u Q I rx ry h
 obtain ⟨rfl,q⟩:=h;cases ry
 refine is_none_gen (a71 I q ?_)
 cases x<;>first
  | (cases rx;rfl)
  | (obtain ⟨t,rfl⟩:=rx;rfl)
theorem ai9:OpR X (compareOp .IsNot) (λx y H Q=>y = .non/\Q (.bl (!decide (x = .non))) H):=by
 intro pins s σ H x y v u Q I rx ry h
 obtain ⟨rfl,q⟩:=h;cases ry
 refine isnot_none_gen (a71 I q ?_)
 cases x<;>first
  | (cases rx;rfl)
  | (obtain ⟨t,rfl⟩:=rx;rfl)
theorem aby:OpR X (compareOp .NotIn) (λx y H Q=>∃ i j,x = .str i/\y = .str j/\Q (.bl (!(!(Builtin.Str.occurrences j i 0 j.length 1).isEmpty))) H):=by
 intro pins s σ H x y v u Q I rx ry h
 obtain ⟨i,j,rfl,rfl,q⟩:=h;obtain ⟨t,rfl⟩:=rx;obtain ⟨t',rfl⟩:=ry;exact notIn_str (a71 I q rfl)
theorem OpR.or(h:OpR X f r)(h':OpR X f r'):OpR X f (λx y H Q=>r x y H Q\/r' x y H Q):=by
 intro pins s σ H x y v u Q I rx ry q
 rcases q with q | q
 ·exact h pins s σ H x y v u Q I rx ry q
 ·exact h' pins s σ H x y v u Q I rx ry q
theorem jb(b:Expr)(h:op≠.In:=by decide)(h2:op≠.NotIn:=by decide):behindInMarks op b=false:=by
 have e1:(op == CmpOp.In)=false:=by cases op<;>first | rfl | exact absurd rfl h
 have e2:(op == CmpOp.NotIn)=false:=by cases op<;>first | rfl | exact absurd rfl h2
 cases b<;>simp [behindInMarks,e1,e2]
theorem ar0(ho:OpR X (compareOp op) r)(ha:PE X a ta)(hb:PE X b tb)(hm:behindInMarks op b=false):PE X (.Compare a [op] [b] pos) (tOp r ta tb):=by
 intro pins s σ H Q I h
 exact wpAny_Compare1 (b07 ha hb I h λv u s2 x y H2 I2 rx ry q=>ho pins s2 σ H2 x y v u Q I2 rx ry q) hm
def aw0(t:TE):TT:=λσ H Q=>t σ H λx H'=>∃ k,x = .bl k/\Q k H'
theorem ar3{op:CmpOp}{r:R2}(ho:OpR X (compareOp op) r)(ha:PE X a ta)(hb:PE X b tb)(hm:behindInMarks op b=false):PT X (.Compare a [op] [b] pos) (aw0 (tOp r ta tb)):=by
 intro pins s σ H Q I h
 refine wpAny_isTrue_Compare1 (thn (ha pins s σ H _ I h) λv s1 ⟨x,H1,I1,r1,q1⟩=>thn (hb pins s1 σ H1 _ I1 q1) λu s2 ⟨y,H2,I2,r2,q2⟩ =>
  thn (ho pins s2 σ H2 x y v u _ I2 r1 r2 q2) λc s3 ⟨z,H3,I3,r3,k,e,q3⟩=>?_) hm
 subst e;cases r3
 exact eA ⟨H3,I3,q3⟩
def b0c(K:PySem.W.Frag)(x:V)(H:Hp)(k:Bool):Prop :=
 match x with
 | .non=>k=false
 | .bl b=>k=b
 | .int i=>k=(i != 0)
 | .str y=>y.length<=sizeLine/\k=((y.length:Int) != 0)
 | .byt y=>y.size<=sizeLine/\k=((y.size:Int) != 0)
 | .ref p=>(∃ xs,SqL K H p xs/\k = !xs.isEmpty)\/(∃ xs,SqT K H p xs/\k = !xs.isEmpty)\/∃ kvs,H p=some (.dK kvs)/\k = !kvs.isEmpty
 | _=>False
theorem agi{κ:Type}{kvs:List (κ × V)}{vs:List (κ × Value)}(r:KV kvs vs):(!vs.isEmpty) = !kvs.isEmpty:=by
 cases r<;>rfl
theorem a97(r:Vals xs its):(!its.toArray.isEmpty) = !xs.isEmpty:=by
 cases r<;>simp
theorem a72:(sizeLine:Nat)<2 ^ 63:=by rw [dS];decide
theorem aw1:b3m X (λx H Q=>∃ k,b0c X.K x H k/\Q k H):=by
 intro pins s σ H x v Q I rx h
 obtain ⟨k,e,q⟩:=h;have hl:=a72;have hs:sizeLine=16777216:=dS
 cases x with
 | non =>
  cases rx
  have e':k=false:=e;subst e';exact truthy_none ⟨H,I,q⟩
 | bl b =>
  cases rx
  have e':k=b:=e;subst e';exact eA ⟨H,I,q⟩
 | int i =>
  obtain ⟨t,rfl⟩:=rx;have e':k=(i != 0):=e;subst e';exact PySem.P.truthy_int ⟨H,I,q⟩
 | str y =>
  obtain ⟨t,rfl⟩:=rx;obtain ⟨hy,e'⟩:y.length<=sizeLine/\k=((y.length:Int) != 0):=e;subst e';exact PySem.P.truthy_str (by omega) ⟨H,I.tok _,q⟩
 | byt y =>
  obtain ⟨t,rfl⟩:=rx;obtain ⟨hy,e'⟩:y.size<=sizeLine/\k=((y.size:Int) != 0):=e;subst e';exact PySem.W.truthy_bytes (by omega) ⟨H,I.tok _,q⟩
 | ref p =>
  cases rx
  have e':(∃ xs,SqL X.K H p xs/\k = !xs.isEmpty)\/(∃ xs,SqT X.K H p xs/\k = !xs.isEmpty)\/∃ kvs,H p=some (.dK kvs)/\k = !kvs.isEmpty:=e
  rcases e' with ⟨xs,hx,e'⟩ | ⟨xs,hx,e'⟩ | ⟨kvs,hx,e'⟩
  ·subst e';obtain ⟨its,r,pl,hz⟩:=I.list hx;have hlen:=r.length;exact wpAny_truthy_list pl.isList (by simp only [aI];omega) ⟨H,I.tok _,by rw [a97 r];exact q⟩
  ·subst e';obtain ⟨its,r,pl,hz⟩:=I.tuple hx;have hlen:=r.length;exact truthy_tuple pl (by simp only [aI];omega) ⟨H,I.tok _,by rw [a97 r];exact q⟩
  ·subst e';obtain ⟨hz,hS,vs,r,m⟩:kvs.length<=sizeLine/\(p == sysModules)=false/\∃ vs,KV kvs vs/\s.heap.DictOf (uh X.prog X.w) p vs:=I.hok p _ hx;have hlen:kvs.length=vs.length:=gP r;exact wpAny_truthy_dict hS m (by omega) ⟨H,I.tok _,by rw [agi r];exact q⟩
 | _=>exact (show False from e).elim
theorem ame(ha:PE X a ta)(he:∀ whole,isTrue a X.env whole=(do let v <-whole;standAt a.pos;holding [v] (truthy v))) :
  PT X a (λσ H Q=>ta σ H λx H'=>∃ k,b0c X.K x H' k/\Q k H'):=by
 intro pins s σ H Q I h
 exact isTrue_plain (thn (ha pins s σ H _ I h) λv s1 ⟨x,H1,I1,r1,q1⟩=>aw1 pins s1 σ H1 x v Q I1 r1 q1) (he _)
theorem agj:OpR X (binaryOp .Add) (λx y H Q=>∃ i j,x = .str i/\y = .str j/\i.length+j.length<=sizeLine/\Q (.str (i++j)) H):=by
 intro pins s σ H x y v u Q I rx ry h
 obtain ⟨i,j,rfl,rfl,hz,q⟩:=h;obtain ⟨t,rfl⟩:=rx;obtain ⟨t',rfl⟩:=ry;exact add_str (λt' tk=>⟨.str (i++j),H,I.tok _,⟨_,rfl⟩,q⟩) hz
theorem uv:OpR X (inplaceOp .Add) (λx y H Q=>∃ i j,x = .str i/\y = .str j/\i.length+j.length<=sizeLine/\Q (.str (i++j)) H):=by
 intro pins s σ H x y v u Q I rx ry h
 obtain ⟨i,j,rfl,rfl,hz,q⟩:=h;obtain ⟨t,rfl⟩:=rx;obtain ⟨t',rfl⟩:=ry;exact iadd_str (λt' tk=>⟨.str (i++j),H,I.tok _,⟨_,rfl⟩,q⟩) hz
theorem vals1(r:Vals [x] us):∃ u,us=[u]/\RelV x u:=by
 cases r with
 | cons r1 r2=>cases r2;exact ⟨_,rfl,r1⟩
theorem vals2(r:Vals [x,y] us):∃ u w',us=[u,w']/\RelV x u/\RelV y w':=by
 cases r with
 | cons r1 r2 =>
  cases r2 with
  | cons r3 r4=>cases r4;exact ⟨_,_,rfl,r1,r3⟩
theorem amf:CallR X (.builtin "abs") (λxs H Q=>∃ i,xs=[.int i]/\Q (.int (if i<0 then -i else i)) H):=by
 intro pins s σ H xs us Q I r h
 obtain ⟨i,rfl,q⟩:=h;obtain ⟨u,rfl,t,rfl⟩:=vals1 r;exact call_abs_int λu tk=>⟨.int (if i<0 then -i else i),H,I.tok _,⟨_,rfl⟩,q⟩
theorem aia(hc:X.calm=true):CallR X (.builtin "max") (λxs H Q=>∃ i j,xs=[.int i, .int j]/\Q (.int (if j > i then j else i)) H):=by
 intro pins s σ H xs us Q I r h
 obtain ⟨i,j,rfl,q⟩:=h;obtain ⟨u,w',rfl,⟨t,rfl⟩,⟨t',rfl⟩⟩:=vals2 r;refine max_two_ints (I.ok.hd hc) λh' tk k=>⟨_,H,I.kept k,?_,q⟩
 by_cases hj:j > i
 ·rw [aL hj,aL hj];exact ⟨_,rfl⟩
 ·rw [aY hj,aY hj];exact ⟨_,rfl⟩
theorem aib(hc:X.calm=true):CallR X (.builtin "min") (λxs H Q=>∃ i j,xs=[.int i, .int j]/\Q (.int (if j<i then j else i)) H):=by
 intro pins s σ H xs us Q I r h
 obtain ⟨i,j,rfl,q⟩:=h;obtain ⟨u,w',rfl,⟨t,rfl⟩,⟨t',rfl⟩⟩:=vals2 r;refine min_two_ints (I.ok.hd hc) λh' tk k=>⟨_,H,I.kept k,?_,q⟩
 by_cases hj:j<i
 ·rw [aL hj,aL hj];exact ⟨_,rfl⟩
 ·rw [aY hj,aY hj];exact ⟨_,rfl⟩
theorem aic:CallR X (.type "int") (λxs H Q=>(∃ i,xs=[.int i]/\Q (.int i) H)\/∃ k,xs=[.bl k]/\Q (.int (if k then 1 else 0)) H):=by
 intro pins s σ H xs us Q I r h
 rcases h with ⟨i,rfl,q⟩ | ⟨k,rfl,q⟩
 ·obtain ⟨u,rfl,t,rfl⟩:=vals1 r;exact call_int_int ⟨.int i,H,I,⟨_,rfl⟩,q⟩
 ·obtain ⟨u,rfl,r1⟩:=vals1 r;cases r1
  exact call_int_bool ⟨.int (if k then 1 else 0),H,I.tok _,⟨_,rfl⟩,q⟩
end
structure ObjM (h:Heap) (x dx C:Addr) (mA:Str->Option Value):Prop where
 obj:h.get? x=some (PySem.W.instObj C dx)
 ns:h.Ns1 dx mA
 ne:dx≠x
theorem aid{h:Heap}(n:h.Ns1 dx mA):∃ od,h.get? dx=some od/\∀ name,PySem.W.lookIn name od=some (mA name):=by
 obtain ⟨o,es,ep,ho,hd,hk,_,hm⟩:=n;refine ⟨o,ho,λname=>?_⟩;have e:=hm name;unfold nsFind findBy at e;rw [<-Array.find?_toList] at e;unfold PySem.W.lookIn;rw [hd];dsimp only
 split
 ·rename_i y q;rw [q] at e;exact av some e
 ·rename_i q;rw [q] at e;have a:es.toList.any (·.refKey)=false:=by
   rw [gF]
   intro y hy
   obtain ⟨z,t,hkey⟩:=hk y (Array.mem_toList_iff.mp hy);simp [DictEntry.refKey,hkey]
  have a':¬ es.toList.any (·.refKey)=true:=by rw [a];exact bE
  rw [aY a'];exact av some e
theorem ObjM.look(I:ObjM h x dx C mA):∃ od,PySem.W.InstAt h x (PySem.W.instObj C dx) C (some od)/\∀ name,PySem.W.lookIn name od=some (mA name) :=
 let ⟨od,ho,hl⟩:=aid I.ns
 ⟨od,⟨I.obj,rfl,rfl,ho⟩,hl⟩
theorem RelO.some_of(r:RelO (some v) o):∃ u,o=some u/\RelV v u:=by
 cases o with
 | none=>exact (show False from r).elim
 | some u=>exact ⟨u,rfl,r⟩
section
variable{P:Program}{w:World}{H H':Hp}{h h':Heap}{a C dx:Addr}{fs fs':List (Str × V)}
theorem ar4(hok:HOk P w H h)(e:H a=some (.ins C dx fs)):∃ mA,ObjM h a dx C mA/\(∀ f,RelO (fs.lookup f) (mA f))/\PySem.Within mA (fs.map (·.1))/\fs.length<=1000/\H dx=some (.own a):=by
 obtain ⟨d,z,ne,ob,mA,n,r,q⟩:=(show ObjOk P w H h a (.ins C dx fs) from hok a _ e)
 exact ⟨mA,⟨ob,n,ne⟩,r,q,z,d⟩
end
structure Cls (K:PySem.W.Frag) (C:Addr):Prop where
 pg:PySem.W.plainGet K C Str.empty=true
 hd:PySem.W.hasDictIn K C=true
 po:PySem.W.plainOver K C=true
 sa:PySem.W.findIn K (.ref C) "__setattr__" = some (some (.builtin "object.__setattr__"))
theorem Cls.get{K:PySem.W.Frag}{C:Addr}(c:Cls K C)(f:Str):PySem.W.plainGet K C f=true:=c.pg
section
variable{X:Cx}{pins:List (Addr × Obj)}{σ:St}{H:Hp}{s:Shared}{A:Around}{E:Value->Shared->Prop}{Q:Value->Shared->Prop}{c:Value}{b:Bool}
inductive TyOf (K:PySem.W.Frag) (H:Hp):V->Value->Prop where
 | non:TyOf K H .non (.type "NoneType")
 | bl (x:Bool):TyOf K H (.bl x) (.type "bool")
 | int (i:Int):TyOf K H (.int i) (.type "int")
 | str (x:Str):TyOf K H (.str x) (.type "str")
 | flt (x:UInt64):TyOf K H (.flt x) (.type "float")
 | lst {a:Addr} {xs:List V} (e:H a=some (.lst xs)):TyOf K H (.ref a) (.type "list")
 | frz {a:Addr} {o:Obj} {xs:List V} (e:H a=some (.frz o (.lst xs))):TyOf K H (.ref a) (.type "list")
 | tup {a:Addr} {xs:List V} (e:H a=some (.tup xs)):TyOf K H (.ref a) (.type "tuple")
 | dK {a:Addr} {kvs:List (Key × V)} (e:H a=some (.dK kvs)):TyOf K H (.ref a) (.type "dict")
 | dT {a:Addr} {kvs:List (List Key × V)} (e:H a=some (.dT kvs)):TyOf K H (.ref a) (.type "dict")
 | ins {a C dx:Addr} {fs:List (Str × V)} (e:H a=some (.ins C dx fs)) (cl:Cls K C) (ha:PySem.W.findIn K (.ref C) "__class__" = some (some (.builtin "object.__class__")))
   (hn:PySem.W.specialIn K (.builtin "object.__class__") "__get__" = some (some (.builtin "getset_descriptor.__get__"))) (htk:PySem.W.takesIn K (.builtin "object.__class__")=some true)
   (hm:PySem.W.mroIn K C (.type "object")=some true):TyOf K H (.ref a) (.ref C)
theorem aie(I:Inv X pins σ H s)(rx:RelV x u)(ty:TyOf X.K H x t)(e:PySem.W.kitOne X.K t c=some b)(h:∀ tk,Q (.bool b) { s with toks:=tk }) :
  wpAny (model X.prog X.w) A (call (.builtin "isinstance") [u,c]) Q E s:=by
 cases ty with
 | non=>cases (show u=Value.none from rx);exact cy PySem.W.kitx_none I.kIn True.intro e (λz=>nomatch z) h
 | bl y=>cases (show u=Value.bool y from rx);exact cy PySem.W.kitx_bool I.kIn True.intro e (λz=>nomatch z) h
 | int i=>obtain ⟨t,q⟩:=(show ∃ t,u=Value.int i t from rx);cases q;exact cy PySem.W.kitx_int I.kIn True.intro e (λz=>nomatch z) h
 | str y=>obtain ⟨t,q⟩:=(show ∃ t,u=Value.str y t from rx);cases q;exact cy PySem.W.kitx_str I.kIn True.intro e (λz=>nomatch z) h
 | flt y=>obtain ⟨t,q⟩:=(show ∃ t,u=Value.float y t from rx);cases q;exact cy PySem.W.kitx_float I.kIn True.intro e (λz=>nomatch z) h
 | @lst a xs ea =>
  cases (show u=Value.ref a from rx)
  obtain ⟨_,_,n,_,h1⟩:=(show ObjOk X.prog X.w H s.heap a (.lst xs) from I.hok a _ ea)
  exact cy PySem.W.kitx_list I.kIn ⟨_,h1,rfl⟩ e (λz=>nomatch z) h
 | @frz a ob xs ea =>
  cases (show u=Value.ref a from rx)
  obtain ⟨_,_,_,n,_,h1⟩:=(show ObjOk X.prog X.w H s.heap a (.frz ob (.lst xs)) from I.hok a _ ea)
  exact cy PySem.W.kitx_list I.kIn ⟨_,h1,rfl⟩ e (λz=>nomatch z) h
 | @tup a xs ea =>
  cases (show u=Value.ref a from rx)
  obtain ⟨_,_,_,p⟩:=(show ObjOk X.prog X.w H s.heap a (.tup xs) from I.hok a _ ea)
  obtain ⟨o,h1,h2,_⟩:=p;exact cy PySem.W.kitx_tuple I.kIn ⟨o,h1,h2⟩ e (λz=>nomatch z) h
 | @dK a kvs ea =>
  cases (show u=Value.ref a from rx)
  obtain ⟨_,_,vs,_,p⟩:=(show ObjOk X.prog X.w H s.heap a (.dK kvs) from I.hok a _ ea)
  obtain ⟨o,es,ep,h1,h2,_⟩:=p;exact cy gG I.kIn ⟨o,h1,h2.1⟩ e (λz=>nomatch z) h
 | @dT a kvs ea =>
  cases (show u=Value.ref a from rx)
  obtain ⟨_,_,xs,_,o,es,ep,h1,h2,_⟩:=(show ObjOk X.prog X.w H s.heap a (.dT kvs) from I.hok a _ ea)
  exact cy gG I.kIn ⟨o,h1,h2.1⟩ e (λz=>nomatch z) h
 | @ins a C dx fs ea cl ha hn htk hm =>
  cases (show u=Value.ref a from rx)
  obtain ⟨mA,O,_⟩:=ar4 I.hok ea;obtain ⟨od,J,_⟩:=O.look;exact cy (PySem.W.kitx_own (cl.get _) cl.hd ha hn htk hm) I.kIn J e (λz=>nomatch z) h
end
structure Room (k:Nat) (A:Around):Prop where
 hd:A.handled=none
 dp:A.depth+3*k+5<recursionLimit
 un:A.units+16*k+200<cLine
 gd:A.guards=some []
theorem Room.mono(r:Room k A)(h:j<=k):Room j A:=⟨r.hd,by have:=r.dp;omega,by have:=r.un;omega,r.gd⟩
theorem Room.deeper(r:Room (k+1) A)(env:Env):Room k (A.deeper env) :=
 ⟨r.hd,by have:=r.dp;show A.depth+1+3*k+5<_;omega,by have:=r.un;show A.units+3+16*k+200<_;omega,r.gd⟩
theorem Room.depth(r:Room k A):A.depth<recursionLimit:=by have:=r.dp;omega
theorem Room.units(r:Room k A):A.units+64<cLine:=by have:=r.un;omega
def b1w:TA:=λ_ H Q=>Q [] H
def b0d(ta:TE)(tr:TA):TA:=λσ H Q=>ta σ H λx H1=>tr σ H1 λxs H2=>Q (x::xs) H2
section
variable{X:Cx}{e:Expr}{es:List Expr}{te:TE}{t:TA}{pos:Pos}
theorem aev:PA X [] b1w:=λ_ _ _ _ H Q I h=>Calls.spliced_nil ⟨[],H,I, .nil,h⟩
theorem a7s(ha:PE X e te)(hr:PA X es t)(hs:starEach (e::es) X.env=(false,eval e X.env)::starEach es X.env:=by rfl):PA X (e::es) (b0d te t):=by
 intro pos pins s σ H Q I h
 rw [hs];show wpAny _ _ (spliced ((false,eval e X.env)::backTo pos (starEach es X.env))) _ _ s;refine Calls.spliced_cons (thn (ha pins s σ H _ I h) λu s1 ⟨x,H1,I1,r1,q1⟩=>?_);exact thn (hr pos pins s1 σ H1 _ I1 q1) λus s2 ⟨xs,H2,I2,r2,q2⟩=>⟨x::xs,H2,I2, .cons r1 r2,q2⟩
def b3n(t:TA):TE:=λσ H Q=>t σ H λxs H1=>xs.length<=sizeLine/\∀ p,H1 p=none->Q (.ref p) (upd H1 p (.tup xs))
def b3o(t:TA):TE:=λσ H Q=>t σ H λxs H1=>xs.length<=sizeLine/\∀ p,H1 p=none->Q (.ref p) (upd H1 p (.lst xs))
theorem aw2{x1}(h:PA X es t):PE X (.Tuple es x1 pos) (b3n t):=by
 intro pins s σ H Q I hq
 refine wpAny_Tuple_spliced (thn (h pos pins s σ H _ I hq) λus s1 ⟨xs,H1,I1,r,z,q⟩=>⟨by rw [<-r.length];exact z,?_⟩)
 have hf:H1 s1.heap.objs.size=none:=I1.hok.fresh (ax _);refine ⟨.ref s1.heap.objs.size,upd H1 s1.heap.objs.size (.tup xs),I1.laid (t':=s1.toks) (λb u e=>am _ e) (ax _) ?_,rfl,q _ hf⟩;exact ⟨z,us,r,⟨_,aJ _ rfl,rfl,_,rfl⟩⟩
theorem aw3(h:PA X es t):PE X (.List es pos) (b3o t):=by
 intro pins s σ H Q I hq
 refine wpAny_List_spliced (thn (h pos pins s σ H _ I hq) λus s1 ⟨xs,H1,I1,r,z,q⟩=>⟨by rw [<-r.length];exact z,?_⟩)
 have hf:H1 s1.heap.objs.size=none:=I1.hok.fresh (ax _);refine ⟨.ref s1.heap.objs.size,upd H1 s1.heap.objs.size (.lst xs),I1.laid (t':=s1.toks) (λb u e=>am _ e) (ax _) ?_,rfl,q _ hf⟩;exact ⟨z,us,0,r,aJ _ rfl⟩
end
abbrev Sp:=List V->Hp->VK->XK->Prop
abbrev CXT:=List Env->Hp->Shared->XK->Value->Shared->Prop
structure Env0 (P:Program) (w:World) (K:PySem.W.Frag) (mg:Str->Option Value) (base:Heap) (A:Around) (outer:List Env) (s:Shared) (H:Hp):Prop where
 frames:A.frames=some outer
 mod:Mod K mg base
 bs:∀ b o,base.get? b=some o->s.heap.get? b=some o/\H b=none
 bsz:base.objs.size<=s.heap.objs.size
 funs:s.heap.FunFrames base outer
 frf:∀ b∈frs outer,H b=none
 hok:HOk P w H s.heap
 bare:AllBare s.gens
def CE(outer:List Env)(P:Program)(w:World)(H:Hp)(s:Shared)(Q:VK)(u:Value)(s':Shared):Prop :=
 ∃ v H',s'.os=s.os/\AllBare s'.gens/\Un (frs outer) [] H H' s.heap s'.heap/\HOk P w H' s'.heap/\RelV v u/\Q v H'
def CR(CX:CXT)(outer:List Env)(P:Program)(w:World)(H:Hp)(s:Shared)(Q:VK)(E:XK)(r:Result)(s':Shared):Prop :=
 match r with
 | .ok (.ret u)=>CE outer P w H s Q u s'
 | .ok _=>False
 | .error e=>CX outer H s E e s'
structure FnOk (P:Program) (w:World) (K:PySem.W.Frag) (mg:Str->Option Value) (base:Heap) (CX:CXT) (k:Nat) (f:Addr) (fd:FuncData) (ps:List Str) (sp:Sp):Prop where
 len:∀ vs H Q E,sp vs H Q E->vs.length=ps.length
 run:∀ (A:Around) (outer:List Env) (s:Shared) (H:Hp) (args:Args) (us:List Value) (vs:List V) (Q:VK) (E:XK),Room k A->Env0 P w K mg base A outer s H->BindsTo s fd args (ps.zip us)->Vals vs us->sp vs H Q E->
  codeAny (model P w) A (.call (.ref f) args) (CR CX outer P w H s Q E) s
theorem FnOk.imp{P:Program}{w:World}{K:PySem.W.Frag}{mg:Str->Option Value}{base:Heap}{CX:CXT}{k:Nat}{f:Addr}{fd:FuncData}{ps:List Str}{sp sp':Sp}(F:FnOk P w K mg base CX k f fd ps sp)
  (h:∀ vs H Q E,sp' vs H Q E->sp vs H Q E):FnOk P w K mg base CX k f fd ps sp' :=
 ⟨λvs H Q E q=>F.len vs H Q E (h _ _ _ _ q),λA outer s H args us vs Q E hr he hb hv hs=>F.run A outer s H args us vs Q E hr he hb hv (h _ _ _ _ hs)⟩
section
variable{X:Cx}{pins:List (Addr × Obj)}{σ:St}{H:Hp}{s s':Shared}
theorem Inv.env0(I:Inv X pins σ H s):Env0 X.prog X.w X.K X.mg X.base X.A X.stack s H :=
 ⟨I.ok.frames,I.ok.mod,I.bs,cH I.ok.bsz I.sz,I.stack,I.stkFree,I.hok,I.bare⟩
theorem Inv.after(I:Inv X pins σ H s)(h:CE X.stack X.prog X.w H s Q u s'):EP X pins σ Q u s':=by
 obtain ⟨v,H',os,bare,un,hok,r,q⟩:=h;obtain ⟨hh,g,d,t,os'⟩:=s';obtain rfl:os'=s.os:=os;exact ⟨v,H',I.call (h':=hh) (g':=g) (d':=d) (t':=t) (ch:=[]) un hok bare (λb z=>absurd z (by simp)),r,q⟩
end
def aw4(sp:Sp)(dvs:List V)(E:XK)(t:TA):TE:=λσ H Q=>t σ H λvs H1=>sp (vs++dvs) H1 Q E
def Binds(K:PySem.W.Frag)(fd:FuncData)(ps:List Str)(ds:List Value):Prop :=
 ∀ (s:Shared) (us:List Value),K.In s.heap->(us++ds).length=ps.length->BindsTo s fd ⟨us,[]⟩ (ps.zip (us++ds))
theorem Binds.all{K:PySem.W.Frag}{fd:FuncData}{ps:List Str}(h:∀ us:List Value,us.length=ps.length->bindArgs fd ⟨us,[]⟩=pure (ps.zip us)):Binds K fd ps []:=λs us _ hl=>by
 rw [bW] at hl ⊢;exact .of_eq (h us hl)
def aew(CX:CXT)(X:Cx)(E:XK):Prop:=∀ (pins:List (Addr × Obj)) (σ:St) (H:Hp) (s:Shared) (e:Value) (s':Shared),Inv X pins σ H s->CX X.stack H s E e s'->X.xe e s'
section
variable{X:Cx}{CX:CXT}{k:Nat}{f C:Addr}{fd:FuncData}{ps:List Str}{sp:Sp}{dvs:List V}{ds:List Value}{E:XK}{x m:Str}{p pos apos:Pos}{e o:Expr}{es:List Expr}{ta:TE}{t:TA}
theorem apc(F:FnOk X.prog X.w X.K X.mg X.base CX k f fd ps sp)(hr:Room k X.A)(hb:Binds X.K fd ps ds)(hd:Vals dvs ds)(hx:aew CX X E)
  (I:Inv X pins σ H s) (r:Vals vs us) (h:sp (vs++dvs) H Q E):wpAny (model X.prog X.w) X.A (call (.ref f) us) (EP X pins σ Q) X.xe s:=by
 have r2:Vals (vs++dvs) (us++ds):=r.append hd;have hl:(us++ds).length=ps.length:=by rw [<-r2.length];exact F.len _ _ _ _ h
 refine wpAny_call (hV (F.run X.A X.stack s H ⟨us,[]⟩ (us++ds) (vs++dvs) Q E hr I.env0 (hb s us I.kIn hl) r2 h) λr s' hq=>?_)
 cases r with
 | error e=>exact hx pins σ H s e s' I hq
 | ok fl =>
  cases fl with
  | ret u=>exact I.after hq
  | next=>exact False.elim hq
  | brk=>exact False.elim hq
  | cont=>exact False.elim hq
theorem ar5(F:FnOk X.prog X.w X.K X.mg X.base CX k f fd ps sp)(hr:Room k X.A)(hg:Gl X x)(hm:X.mg x=some (.ref f))(hk:PySem.W.keepIn X.K (.ref f)=true)(hb:Binds X.K fd ps ds)(hd:Vals dvs ds)(hx:aew CX X E)
  (ha:PA X (e::es) t) (hdb:(x == ("__debug__" : Str))=false:=by decide) (he:starEach (e::es) X.env=(false,eval e X.env)::starEach es X.env:=by rfl) (hpl:(backTo pos (starEach es X.env)).any (·.1)=false:=by rfl) :
  PE X (.Call (.Name x p) (e::es) [] pos) (aw4 sp dvs E t):=by
 intro pins s σ H Q I h
 refine dB (ai2 I hg hm ?_ hdb);refine PySem.W.callWith_K (h₀:=X.base) I.ok.mod.kin hk (thn (ha pos pins s σ H _ I h) λus s1 ⟨vs,H1,I1,r,q⟩=>⟨I1.kIn,?_⟩) he hpl;exact apc F hr hb hd hx I1 r q
theorem amg(F:FnOk X.prog X.w X.K X.mg X.base CX k f fd ps sp)(hr:Room k X.A)(hg:Gl X x)(hm:X.mg x=some (.ref f))(hk:PySem.W.keepIn X.K (.ref f)=true)(hb:Binds X.K fd ps ds)(hd:Vals dvs ds)(hx:aew CX X E)
  (hdb:(x == ("__debug__" : Str))=false:=by decide):PE X (.Call (.Name x p) [] [] pos) (aw4 sp dvs E b1w):=by
 intro pins s σ H Q I h
 refine dB (ai2 I hg hm ?_ hdb);exact PySem.W.callWith_K0 I.kIn hk (apc (us:=[]) F hr hb hd hx I .nil h)
end
structure FnScope (N P:List Str) (sc:Scope):Prop where
 kind:sc.kind = .function
 co:sc.isCoroutine=false
 gen:sc.isGenerator=false
 nd:N.Nodup
 pre:N.take P.length=P
 par:∀ x∈P,sc.names.lookup x=some .local\/sc.names.lookup x=some .cell
 nofree:∀ y∈sc.names,y.2≠.free
theorem abz{kindOf:Str->Option NameKind}{x:Str}:∀ {binds:List (Str × Value)} {m:Str->Option Value},(∀ v,(x,v) ∉ binds)->bindL kindOf binds m x=m x
 | [],_,_=>rfl
 | (n,v)::r,m,h=>by
  unfold bindL;rw [abz λw hw=>h w (aG _ hw)]
  split
  ·have:x≠n:=by rintro rfl;exact h v aK
   simp [this]
  ·rfl
theorem ac0{kindOf:Str->Option NameKind}{x:Str}:∀ {binds:List (Str × Value)} {m:Str->Option Value},(∀ v,(x,v) ∉ binds)->bindC kindOf binds m x=m x
 | [],_,_=>rfl
 | (n,v)::r,m,h=>by
  unfold bindC;rw [ac0 λw hw=>h w (aG _ hw)]
  split
  ·rfl
  ·have:x≠n:=by rintro rfl;exact h v aK
   simp [this]
theorem ac1{kindOf:Str->Option NameKind}{x:Str}{v:Value}:∀ {P:List Str} {vs:List Value} {i:Nat} {m:Str->Option Value},P.Nodup->P[i]? = some x->vs[i]? = some v->kindOf x=some .local->
  bindL kindOf (P.zip vs) m x=some v
 | [],_,_,_,_,h,_,_=>by simp at h
 | _::_,[],_,_,_,_,h,_=>by simp at h
 | p::P,w::vs,0,m,nd,h1,h2,hk=>by
  simp at h1 h2;subst h1;subst h2
  show bindL kindOf ((p,w)::P.zip vs) m p=_;unfold bindL;rw [abz λv hv=>(cU.mp nd).1 (hX hv).1,aL hk];simp
 | p::P,w::vs,i+1,m,nd,h1,h2,hk=>by
  show bindL kindOf ((p,w)::P.zip vs) m x=_;unfold bindL;exact ac1 (i:=i) (cU.mp nd).2 (by simpa using h1) (by simpa using h2) hk
theorem ac2{kindOf:Str->Option NameKind}{x:Str}{v:Value}:∀ {P:List Str} {vs:List Value} {i:Nat} {m:Str->Option Value},P.Nodup->P[i]? = some x->vs[i]? = some v->kindOf x≠some .local->
  bindC kindOf (P.zip vs) m x=some v
 | [],_,_,_,_,h,_,_=>by simp at h
 | _::_,[],_,_,_,_,h,_=>by simp at h
 | p::P,w::vs,0,m,nd,h1,h2,hk=>by
  simp at h1 h2;subst h1;subst h2
  show bindC kindOf ((p,w)::P.zip vs) m p=_;unfold bindC;rw [ac0 λv hv=>(cU.mp nd).1 (hX hv).1,aY hk];simp
 | p::P,w::vs,i+1,m,nd,h1,h2,hk=>by
  show bindC kindOf ((p,w)::P.zip vs) m x=_;unfold bindC;exact ac2 (i:=i) (cU.mp nd).2 (by simpa using h1) (by simpa using h2) hk
def start(N:List Str)(vs:List V):St:=vs.map some++List.replicate (N.length - vs.length) none
def amh(CX:CXT)(P:Program)(w:World)(K:PySem.W.Frag)(mg:Str->Option Value)(base:Heap)(N:List Str)(qual:Str)(scope:Scope)(f:Addr)(cd:Value)(A:Around)(outer:List Env)(s:Shared)(H:Hp)(E:XK):Cx where
 prog:=P
 w:=w
 K:=K
 mg:=mg
 base:=base
 A:=A.deeper (envOfC qual scope s.heap.objs.size f cd)
 N:=N
 s₀:=s
 H₀:=H
 env:=envOfC qual scope s.heap.objs.size f cd
 outer:=outer
 stack:=envOfC qual scope s.heap.objs.size f cd::outer
 ex:=[]
 calm:=true
 fn:=λ_=>true
 pn:=[]
 xe:=λe s'=>wpAny (model P w) (A.deeper (envOfC qual scope s.heap.objs.size f cd)) (leaving (envOfC qual scope s.heap.objs.size f cd) e) (λ_ s''=>CX outer H s E e s'') (λe' s''=>CX outer H s E e' s'') s'
theorem aex{sc:Scope}(h:sc.names.lookup x=some .cell):∃ c,(cellsFrom n sc.names []).lookup x=some c:=by
 have q:=PySem.W.cellsFrom_some sc.names n [] (.inl h);exact gH.mp q
theorem aif{CX:CXT}{P:Program}{w:World}{K:PySem.W.Frag}{mg:Str->Option Value}{base:Heap}{N ps:List Str}{qual:Str}{scope:Scope}{f:Addr}{cd:Value}{A:Around}{outer:List Env}{s s1:Shared}{H:Hp}{E:XK}{us:List Value}{vs:List V}
  (S:FnScope N ps scope) (hd:A.handled=none) (e0:Env0 P w K mg base A outer s H) (hl:vs.length=ps.length) (r:Vals vs us)
  (x:InCallC s s.heap.objs.size (bindL (envOfC qual scope s.heap.objs.size f cd).kindOf (ps.zip us) λ_=>none) (cellsFrom (s.heap.objs.size+1) scope.names []) (bindC (envOfC qual scope s.heap.objs.size f cd).kindOf (ps.zip us) λ_=>none) s1) :
  Inv (amh CX P w K mg base N qual scope f cd A outer s H E) [] (start N vs) H s1:=by
 have hpl:ps.length<=N.length:=by have:=av List.length S.pre;rw [bC] at this;omega
 obtain ⟨h1,tk,rfl,hk⟩:=x.done;have noA:∀ b:Addr,b ∉ (amh CX P w K mg base N qual scope f cd A outer s H E).ex:=λb z=>absurd (show b∈([]:List Addr) from z) (by simp)
 refine ⟨⟨e0.mod,S.kind,rfl,rfl,ax _,λy z c h1 h2=>?_,λy hy=>?_,λy c _ h=>?_,λ_=>hd,Around.frames_deeper e0.frames, .inr ⟨rfl,rfl⟩,λb z=>absurd z (noA b),e0.bs,e0.bsz,λb _ _=>noA b,λb z=>absurd z (noA b),e0.funs,e0.frf⟩,
  rfl,e0.bare,Un.kept hk,⟨_,x.toInCall.ns,λi y v h1 h2 h3=>?_⟩,λy c h=>⟨_,x.cell y c h⟩,e0.hok.fresh (ax _),λy c h=>?_,λp hp=>absurd (show p∈([]:List (Addr × Obj)) from hp) (by simp),e0.hok.kept hk,?_⟩
 ·exact name_of_addr x.apart (cA h1) (cA h2)
 ·have hy:scope.names.lookup y=some .cell\/scope.names.lookup y=some .free:=hy
  rcases hy with hy | hy
  ·exact aex hy
  ·exact absurd rfl (S.nofree _ (cA hy))
 ·exact dR (x.above y c (cA h))
 ·have hi:i<vs.length:=by
   unfold start at h2
   by_cases hi:i<vs.length
   ·exact hi
   ·rw [aF (by simpa using hi)] at h2
    rw [da] at h2
    split at h2<;>cases h2
  have ha:vs[i]? = some v:=by
   unfold start at h2;rw [aC (by simpa using hi),aE] at h2
   cases e:vs[i]? with
   | none=>rw [e] at h2;cases h2
   | some a=>rw [e] at h2;cases h2;rfl
  obtain ⟨u,hu,rv⟩:=r.get ha;have hp:ps[i]? = some y:=by
   rw [<-S.pre,List.getElem?_take_of_lt (by omega)];exact h1
  have ndP:ps.Nodup:=by rw [<-S.pre];exact S.nd.sublist (gI _ _)
  refine ⟨u,rv,?_⟩
  rcases S.par y (aM hp) with k | k
  ·exact .inl ⟨k,ac1 ndP hp hu k⟩
  ·obtain ⟨c,e⟩:=aex (n:=s.heap.objs.size+1) k;refine .inr ⟨.inl k,c,e,?_⟩;have q:=x.cell y c e;rw [ac2 ndP hp hu (by show scope.names.lookup y≠_;rw [k];decide)] at q
   exact q
 ·exact e0.hok.fresh (dR (x.above y c (cA h)))
 ·unfold start;show _=N.length;rw [aw,aA,dU];omega
theorem b0e{CX:CXT}{P:Program}{w:World}{K:PySem.W.Frag}{mg:Str->Option Value}{base:Heap}{k:Nat}{f:Addr}{name qual:Str}{params:Arguments}{body:List Stmt}{scope:Scope}{dV kV doc pm cdv ct oc:Value}{an od:Option Addr}
  {osl:Array (Option Value)} {N ps:List Str} {sp:Sp} (lk:K.lookup f=some ⟨oc,od, .func (PySem.W.fnOf name qual params body scope dV kV doc pm an cdv ct),osl⟩) (hcd:PySem.W.codeIn K cdv qual=true) (S:FnScope N ps scope)
  (len:∀ vs H Q E,sp vs H Q E->vs.length=ps.length)
  (hbody:∀ (A:Around) (outer:List Env) (s:Shared) (H:Hp) (vs:List V) (Q:VK) (E:XK),Room k (A.deeper (envOfC qual scope s.heap.objs.size f cdv))->sp vs H Q E->
   ∃ t,PSs (amh CX P w K mg base N qual scope f cdv A outer s H E) body t/\t { nx:=λ_ H'=>Q .non H',rt:=Q } (start N vs) H) :
  FnOk P w K mg base CX (k+1) f (PySem.W.fnOf name qual params body scope dV kV doc pm an cdv ct) ps sp:=by
 refine ⟨len,λA outer s H args us vs Q E hr e0 hb r hsp=>?_⟩;have hl:=len _ _ _ _ hsp;have KX:K.In s.heap:=e0.mod.kin.keeps λb o e=>(e0.bs b o e).1;have lim:s.heap.NoLimit:=e0.mod.nolimit.keeps λb o e=>(e0.bs b o e).1;have hkind:∀ y∈ps.zip us,scope.names.lookup y.1=some .local\/(scope.names.lookup y.1=some .cell/\((cellsFrom (s.heap.objs.size+1) scope.names []).lookup y.1).isSome=true):=λ⟨n,v⟩ hy=>by
  rcases S.par n (hX hy).1 with q | q
  ·exact .inl q
  ·exact .inr ⟨q,PySem.W.cellsFrom_some _ _ _ (.inl q)⟩
 refine codeAny_call_function hr.depth (KX _ _ lk) rfl S.co S.gen rfl (PySem.W.codeRec_of KX hcd) (hb _ _ _ _ ?_);refine wpAny_newFunctionEnv_cells S.kind hkind λenv he s1 x=>?_;subst he;refine ⟨lim.keeps x.toInCall.keep,codeAny_func ?_⟩;obtain ⟨t,ht,hq⟩:=hbody A outer s H vs Q E (hr.deeper _) hsp;have I:Inv (amh CX P w K mg base N qual scope f cdv A outer s H E) [] (start N vs) H s1:=aif S hr.hd e0 hl r x;refine bq (ht [] s1 (start N vs) H _ I hq) (λfl s' hs=>?_) λe s' hs=>hs;have fin:∀ {σ':St} {H':Hp} {v:V} {u:Value},Inv (amh CX P w K mg base N qual scope f cdv A outer s H E) [] σ' H' s'->RelV v u->Q v H'->CE outer P w H s Q u s' :=
  λ{σ' H' v u} J rv q=>⟨v,H',J.os,J.bare,J.base,J.hok,rv,q⟩
 cases fl with
 | ret u =>
  obtain ⟨v,σ',H',J,rv,q⟩:=hs;exact fin J rv q
 | next =>
  obtain ⟨σ',H',J,q⟩:=hs;exact fin (v:=V.non) (u:=Value.none) J rfl q
 | brk =>
  obtain ⟨_,_,_,q⟩:=hs;exact False.elim q
 | cont =>
  obtain ⟨_,_,_,q⟩:=hs;exact False.elim q
section
variable{X:Cx}{x:Str}{p pos:Pos}{e:Expr}{es:List Expr}{t:TA}{id T:String}{r:List V->Hp->VK->Prop}
def tCB(r:List V->Hp->VK->Prop)(t:TA):TE:=λσ H Q=>t σ H λvs H1=>r vs H1 Q
theorem aey(hc:CallR X (.builtin id) r)(hg:Gl X x)(hm:X.mg x=none)(hv:bootBuiltins x=some (.builtin id))(ha:PA X (e::es) t)(hn:x ≠ "__name__":=by decide)(hdb:(x == ("__debug__" : Str))=false:=by decide)
  (he:starEach (e::es) X.env=(false,eval e X.env)::starEach es X.env:=by rfl) (hpl:(backTo pos (starEach es X.env)).any (·.1)=false:=by rfl):PE X (.Call (.Name x p) (e::es) [] pos) (tCB r t):=by
 intro pins s σ H Q I h
 refine dB (a5h I hg hm hv ?_ hn hdb);exact PyProof.Rows.callWith_builtin1 (thn (ha pos pins s σ H _ I h) λus s1 ⟨vs,H1,I1,r1,q1⟩=>hc pins s1 σ H1 vs us Q I1 r1 q1) he hpl
theorem aig(hc:CallR X (.type T) r)(hg:Gl X x)(hm:X.mg x=none)(hv:bootBuiltins x=some (.type T))(ha:PA X (e::es) t)(hn:x ≠ "__name__":=by decide)(hdb:(x == ("__debug__" : Str))=false:=by decide)
  (he:starEach (e::es) X.env=(false,eval e X.env)::starEach es X.env:=by rfl) (hpl:(backTo pos (starEach es X.env)).any (·.1)=false:=by rfl):PE X (.Call (.Name x p) (e::es) [] pos) (tCB r t):=by
 intro pins s σ H Q I h
 refine dB (a5h I hg hm hv ?_ hn hdb);exact bV (thn (ha pos pins s σ H _ I h) λus s1 ⟨vs,H1,I1,r1,q1⟩=>hc pins s1 σ H1 vs us Q I1 r1 q1) he hpl
end
end L2
namespace HT
open PySem PyProof.Rows
section
variable{prog:Program}{w:World}{A:Around}{E:Value->Shared->Prop}{s:Shared}
theorem ar6{vs ws:List Value}(ht:IsTup s.heap t vs.toArray)(hb:IsTup s.heap b ws.toArray)(hv:vs≠[])
  (h1:ws=[]->Q (.ref t) s) (h2:ws≠[]->Q (.ref s.heap.objs.size) { s with heap:=s.heap.push { cls:=.type "tuple",data:=.seq (vs++ws).toArray } })
  (hsz:vs.length+ws.length<=sizeLine):wpAny (model prog w) A (binaryOp .Add (.ref t) (.ref b)) Q E s:=by
 obtain ⟨⟨cls,dd,data,sl⟩,ho,hc,n,hd⟩:=id ht;obtain ⟨⟨cls2,dd2,data2,sl2⟩,ho2,hc2,n2,hd2⟩:=id hb;simp only at hc hd hc2 hd2;subst hc hd hc2 hd2;have e:vs.toArray++ws.toArray=(vs++ws).toArray:=by simp
 by_cases hw:ws=[]
 ·exact concat_meets ⟨_,ho,rfl⟩ ⟨_,ho2,rfl⟩ gZ seq_tuple_add PySem.F.slot_tuple_add gQ (gJ _ _)
   (tuple_addW1 t b vs.toArray ws.toArray n n2 dd dd2 sl sl2 (by simpa using hv) (by simp [hw])) ⟨ho,ho2,h1 hw⟩
 ·refine concat_meets ⟨_,ho,rfl⟩ ⟨_,ho2,rfl⟩ gZ seq_tuple_add PySem.F.slot_tuple_add gQ (gJ _ _)
   (tuple_addW2 t b vs.toArray ws.toArray n n2 dd dd2 sl sl2 (by simpa using hv) (by simpa using hw) (by rw [aI,aI];exact hsz)) ⟨ho,ho2,?_⟩
  rw [e];exact h2 hw
def sIx(n d:Nat):Option Int->Nat
 | none=>d
 | some v=>if v<0 then (v+(n:Int)).toNat else min v.toNat n
theorem aez(n d:Nat):sIx n d none=d:=rfl
theorem aih(n d k:Nat):sIx n d (some (k:Int))=min k n:=by
 show (if (k:Int)<0 then ((k:Int)+(n:Int)).toNat else min (k:Int).toNat n)=min k n
 rw [aY (by omega),dG]
theorem aii(n d:Nat)(hd:d<=n)(o:Option Int):sIx n d o<=n:=by
 cases o with
 | none=>exact hd
 | some v =>
  show (if v<0 then (v+(n:Int)).toNat else min v.toNat n)<=n
  by_cases hv:v<0
  ·rw [aL hv];omega
  ·rw [aY hv];exact Nat.min_le_right _ _
theorem aij(v:Int)(n d:Nat):(if v<0 then max (v+(n:Int)) 0 else min v (n:Int))=((sIx n d (some v):Nat):Int):=by
 show (if v<0 then max (v+(n:Int)) 0 else min v (n:Int))=(((if v<0 then (v+(n:Int)).toNat else min v.toNat n):Nat):Int)
 by_cases hv:v<0
 ·simp only [aL hv];omega
 ·simp only [aY hv];omega
theorem agk(lo hi:Option Int)(n:Nat):Builtin.Slice.sliceAdjust lo hi 1 (n:Int)=(((sIx n 0 lo:Nat):Int),((sIx n n hi:Nat):Int)):=by
 have h1:¬ ((1:Int)<0):=by omega
 unfold Builtin.Slice.sliceAdjust;simp only [h1,dP];refine Prod.ext ?_ ?_
 ·cases lo with
  | none=>rfl
  | some v=>exact aij v n 0
 ·cases hi with
  | none=>rfl
  | some v=>exact aij v n n
theorem agl(i j:Nat):Builtin.Slice.slicePlaces (i:Int) (j:Int) 1=j - i:=by
 unfold Builtin.Slice.slicePlaces;have h1:(1:Int) > 0:=by omega
 simp only [h1,dv,Int.ediv_one]
 split<;>omega
theorem a98(p:IsPart v o)(h:Q o s):wpAny (model prog w) A (Builtin.Slice.slicePartIndex v) Q E s:=by
 cases p with
 | none=>exact slicePart_none h
 | int i t=>exact slicePart_int h
theorem a2s{sl:Addr}{vl vu:Value}{lo hi:Option Int}{n:Nat}{Q:Int × Int × Nat->Shared->Prop}(hs:s.heap.IsSliceOf sl vl vu .none)(pl:IsPart vl lo)(pu:IsPart vu hi)
  (h:Q (((sIx n 0 lo:Nat):Int),1,sIx n n hi - sIx n 0 lo) s):wpAny (model prog w) A (Builtin.Slice.sliceApplied (.ref sl) (pure (n:Int))) Q E s:=by
 obtain ⟨os,hos,hcs,hds⟩:=id hs;unfold Builtin.Slice.sliceApplied Builtin.Slice.sliceFields;refine ag (ag (dE hos hds (x:=vl) rfl (ag (dE hos hds (x:=vu) rfl (ag (dE hos hds (x:=.none) rfl (aB ?_)))))));refine ag (slicePart_none ?_);show wpAny _ _ (if ((1:Int) == 0)=true then _ else _) _ _ s
 rw [aY (by decide)]
 refine ag (a98 pl (ag (a98 pu (ag (aB ?_)))));show wpAny _ _ (match Builtin.Slice.sliceAdjust lo hi 1 (n:Int) with | (lo,hi)=>pure (lo,(1:Int),Builtin.Slice.slicePlaces lo hi 1)) _ _ s
 rw [agk lo hi n];show wpAny _ _ (pure (((sIx n 0 lo:Nat):Int),(1:Int),Builtin.Slice.slicePlaces ((sIx n 0 lo:Nat):Int) ((sIx n n hi:Nat):Int) 1)) _ _ s;rw [agl];exact aB h
theorem ami(xs:Array Value)(i k:Nat):((List.range k).filterMap λ(m:Nat)=>xs[((i:Int)+(m:Int)*1).toNat]?).toArray=((xs.toList.drop i).take k).toArray:=by
 have e:(λ(m:Nat)=>xs[((i:Int)+(m:Int)*1).toNat]?)=λm=>xs[i+m]?:=by
  funext m
  have:((i:Int)+(m:Int)*1).toNat=i+m:=by omega
  rw [this]
 rw [e];have:=pick_run xs i k;rw [List.filterMap_map] at this;have e2:((λx=>xs[x]?) ∘ λx=>i+x)=λm=>xs[i+m]?:=rfl;rw [e2] at this;rw [this]
theorem a6i{t sl:Addr}{items:Array Value}{vl vu:Value}{lo hi:Option Int}{Q:Value->Shared->Prop}(ht:IsTup s.heap t items)(hs:s.heap.IsSliceOf sl vl vu .none)(pl:IsPart vl lo)(pu:IsPart vu hi)
  (hw:¬ (sIx items.size 0 lo=0/\sIx items.size items.size hi=items.size))
  (h:Q (.ref s.heap.objs.size) { s with heap:=s.heap.push { cls:=.type "tuple",data:=.seq ((items.toList.drop (sIx items.size 0 lo)).take (sIx items.size items.size hi - sIx items.size 0 lo)).toArray } })
  (hsz:items.size<=sizeLine):wpAny (model prog w) A (getItem (.ref t) (.ref sl)) Q E s:=by
 have htake:sizeOk (.seq ((items.toList.drop (sIx items.size 0 lo)).take (sIx items.size items.size hi - sIx items.size 0 lo)).toArray):=by
  show ((items.toList.drop (sIx items.size 0 lo)).take (sIx items.size items.size hi - sIx items.size 0 lo)).toArray.size<=sizeLine;rw [aI,bC,bP,br];omega
 have hj:sIx items.size items.size hi<=items.size:=aii _ _ (ax _) hi;obtain ⟨os,hos,hcs,hds⟩:=id hs;have hTs:s.TypeIs (.ref sl) "slice":=⟨os,hos,hcs⟩;unfold getItem
 try with_reducible refine cD ?_
 first | refine ag (aB ?_) | skip
 refine ag (wpAny_sequenceKey ht.typeIs (by decide) ?_)
 refine ag (cc (name:=Str.ofString "__getitem__") ht.typeIs bX
  (bU bX ht.typeIs entry_tuple_getitem ?_ (args_tuple_getitem _ _)))
 show wpAny _ _ (Builtin.Tuple.tupleItemsOf (.ref t)>>=_) _ _ s;refine ag (tupleItemsOf_ ht ?_);refine ag (fY hTs ?_);rw [aL (by decide)]
 refine ag (a2s hs pl pu ?_);have hno:¬ ((((sIx items.size 0 lo:Nat):Int) == 0 && (1:Int) == 1 && (sIx items.size items.size hi - sIx items.size 0 lo) == items.size)=true):=by
  intro q
  rw [aX,aX] at q;have q1:((sIx items.size 0 lo:Nat):Int)=0:=eq_of_beq q.1.1;have q2:sIx items.size items.size hi - sIx items.size 0 lo=items.size:=eq_of_beq q.2;exact hw ⟨by omega,by omega⟩
 show wpAny _ _ (if (((sIx items.size 0 lo:Nat):Int) == 0 && (1:Int) == 1 && (sIx items.size items.size hi - sIx items.size 0 lo) == items.size)=true then _ else _) _ _ s
 rw [aY hno,ami]
 first
  | exact ag (m:=Builtin.Tuple.tupleExact _) (cn (aB ⟨_,rfl,aB h⟩) htake)
  | exact ag (m:=Builtin.Tuple.tupleExact _) (cn (ag (aB (aB ⟨_,rfl,aB h⟩))) htake)
  | exact ag (ag (m:=Builtin.Tuple.tupleExact _) (cn (aB (aB ⟨_,rfl,aB h⟩)) htake))
  | exact ag (ag (m:=Builtin.Tuple.tupleExact _) (cn (aB ⟨_,rfl,aB h⟩) htake))
end
end HT
namespace L2
open PySem PySem.Spec PyProof.Rows
abbrev TO:=St->Hp->(Option Int->Hp->Prop)->Prop
def PO(X:Cx)(e:Option Expr)(t:TO):Prop :=
 ∀ (pins:List (Addr × Obj)) (s:Shared) (σ:St) (H:Hp) (Q:Option Int->Hp->Prop),Inv X pins σ H s->t σ H Q->
  wpAny (model X.prog X.w) X.A (evalPart e X.env) (λu s'=>∃ o H',Inv X pins σ H' s'/\IsPart u o/\Q o H') X.xe s
def ar7:TO:=λ_ H Q=>Q none H
def b0f(t:TE):TO:=λσ H Q=>t σ H λx H1=>∃ i,x = .int i/\Q (some i) H1
theorem intsAre_of{ns:List Int}:∀ {us:List Value},Vals (ns.map V.int) us->IntsAre us ns:=by
 induction ns with
 | nil=>intro us r;rw [db] at r;cases r;exact .nil
 | cons n ns ih =>
  intro us r
  rw [aZ] at r
  cases r with
  | cons r1 r2 =>
   obtain ⟨t,e⟩:=r1;subst e;exact .cons n t (ih r2)
section
variable{X:Cx}{e:Expr}{te:TE}{lo hi:Option Expr}{tl th:TO}{pos p2:Pos}
theorem ar8:PO X none ar7:=by
 intro pins s σ H Q I h
 rw [evalPart_none];exact aB ⟨none,H,I, .none,h⟩
theorem ar9(h:PE X e te):PO X (some e) (b0f te):=by
 intro pins s σ H Q I hw
 rw [evalPart_some];refine thn (h pins s σ H _ I hw) λu s1 ⟨x,H1,I1,r1,q1⟩=>?_;obtain ⟨i,rfl,q⟩:=q1;obtain ⟨t,rfl⟩:=r1;exact ⟨some i,H1,I1, .int i t,q⟩
def SlR(X:Cx)(r:V->Option Int->Option Int->Hp->VK->Prop):Prop :=
 ∀ (pins:List (Addr × Obj)) (s:Shared) (σ:St) (H:Hp) (x:V) (v vl vu:Value) (lo hi:Option Int) (sl:Addr) (Q:VK),Inv X pins σ H s->RelV x v->s.heap.IsSliceOf sl vl vu .none->IsPart vl lo->IsPart vu hi->r x lo hi H Q->
  ∃ T id,typeLookup (.type T) "__getitem__" = pure (some (.builtin id))/\s.TypeIs v T/\wpAny (model X.prog X.w) X.A (getItem v (.ref sl)) (EP X pins σ Q) X.xe s
theorem SlR.or(h:SlR X r)(h':SlR X r'):SlR X (λx lo hi H Q=>r x lo hi H Q\/r' x lo hi H Q):=by
 intro pins s σ H x v vl vu lo hi sl Q I rx hs pl pu q
 rcases q with q | q
 ·exact h pins s σ H x v vl vu lo hi sl Q I rx hs pl pu q
 ·exact h' pins s σ H x v vl vu lo hi sl Q I rx hs pl pu q
def tSl(r:V->Option Int->Option Int->Hp->VK->Prop)(te:TE)(tl th:TO):TE:=λσ H Q=>te σ H λx H1=>tl σ H1 λl H2=>th σ H2 λu H3=>r x l u H3 Q
theorem amj(hr:SlR X r)(he:PE X e te)(hl:PO X lo tl)(hu:PO X hi th):PE X (.Subscript e (.Slice lo hi none p2) pos) (tSl r te tl th):=by
 intro pins s σ H Q I h
 refine Subscript_ (thn (he pins s σ H _ I h) λv s1 ⟨x,H1,I1,r1,q1⟩=>?_);refine wpAny_Slice (thn (hl pins s1 σ H1 _ I1 q1) λvl s2 ⟨l,H2,I2,pl,q2⟩=>thn (hu pins s2 σ H2 _ I2 q2) λvu s3 ⟨u,H3,I3,pu,q3⟩=>?_);rw [evalPart_none];refine aB ?_;have I4:Inv X pins σ H3 { s3 with heap:=s3.heap.push { cls:=.type "slice",data:=.fields #[vl,vu, .none] } }:=I3.kept (t':=s3.toks) λb ob q=>am _ q
 obtain ⟨T,id,hT,ht,hg⟩:=hr pins { s3 with heap:=s3.heap.push { cls:=.type "slice",data:=.fields #[vl,vu, .none] } } σ H3 x v vl vu l u s3.heap.objs.size Q I4 r1 (Heap.IsSliceOf.new ..) pl pu q3
 show wpAny (model X.prog X.w) X.A (subscriptTail e (.Slice lo hi none p2) v (.ref s3.heap.objs.size)) (EP X pins σ Q) X.xe { s3 with heap:=s3.heap.push { cls:=.type "slice",data:=.fields #[vl,vu, .none] } }
 exact tail_any (ops:=[.ref s3.heap.objs.size,v]) ht hT hg (by with_unfolding_all rfl)
def apd(xs:List V)(lo hi:Option Int):List V:=(xs.drop (HT.sIx xs.length 0 lo)).take (HT.sIx xs.length xs.length hi - HT.sIx xs.length 0 lo)
theorem a7t(xs:List V)(lo hi:Option Int):(apd xs lo hi).length<=xs.length:=by
 unfold apd;rw [bC,bP];omega
def b0g(K:PySem.W.Frag):V->Option Int->Option Int->Hp->VK->Prop:=λx lo hi H Q=>∃ a xs,x = .ref a/\SqT K H a xs /\
 ¬ (HT.sIx xs.length 0 lo=0/\HT.sIx xs.length xs.length hi=xs.length)/\∀ p,H p=none->Q (.ref p) (upd H p (.tup (apd xs lo hi)))
theorem aw5:SlR X (b0g X.K):=by
 intro pins s σ H x v vl vu lo hi sl Q I rx hs pl pu h
 obtain ⟨a,xs,rfl,hx,hw,q⟩:=h;cases rx
 obtain ⟨its,r,ht,hz⟩:=I.tuple hx;have hlen:its.toArray.size=xs.length:=by rw [aI];exact r.length.symm
 refine ⟨"tuple",_,bX.lookup,ht.typeIs,?_⟩;refine HT.a6i ht hs pl pu (by rw [hlen];exact hw) ?_ (by rw [hlen];exact hz)
 rw [hlen];refine ⟨.ref s.heap.objs.size,_,I.laid (t':=s.toks) (o:=.tup (apd xs lo hi)) (λb ob q=>am _ q) (ax _) ?_,rfl,q _ (I.hok.fresh (ax _))⟩;exact ⟨cH (a7t xs lo hi) hz,_,(r.drop (HT.sIx xs.length 0 lo)).take (HT.sIx xs.length xs.length hi - HT.sIx xs.length 0 lo),IsTup.new _ _⟩
def aw6(K:PySem.W.Frag):R2:=λx y H Q=>∃ a b xs ys,x = .ref a/\y = .ref b/\SqT K H a xs/\SqT K H b ys/\xs≠[]/\xs.length+ys.length<=sizeLine /\
 (ys=[]->Q (.ref a) H)/\(ys≠[]->∀ p,H p=none->Q (.ref p) (upd H p (.tup (xs++ys))))
theorem Vals.nil_iff(r:Vals xs us):us=[]↔xs=[]:=by
 cases r with
 | nil=>simp
 | cons _ _=>simp
theorem ara:OpR X (binaryOp .Add) (aw6 X.K):=by
 intro pins s σ H x y v u Q I rx ry h
 obtain ⟨a,b,xs,ys,rfl,rfl,ha,hb,hx,hz,q1,q2⟩:=h;cases rx
 cases ry
 obtain ⟨its,r1,p1,_⟩:=I.tuple ha;obtain ⟨its2,r2,p2,_⟩:=I.tuple hb;refine HT.ar6 p1 p2 (λz=>hx (r1.nil_iff.mp z)) (λz=>⟨.ref a,H,I,rfl,q1 (r2.nil_iff.mp z)⟩) (λz=>?_) (by rw [<-r1.length,<-r2.length];exact hz)
 refine ⟨.ref s.heap.objs.size,_,I.laid (t':=s.toks) (o:=.tup (xs++ys)) (λb ob q=>am _ q) (ax _) ?_,rfl,q2 (λw=>z (r2.nil_iff.mpr w)) _ (I.hok.fresh (ax _))⟩;exact ⟨by rw [aw];exact hz,_,r1.append r2,IsTup.new _ _⟩
end
def ixN(n:Nat)(i:Int):Option Nat:=if 0<=i then (if i<n then some i.toNat else none) else if -(n:Int)<=i then some (i+n).toNat else none
def atI{α:Type}(xs:List α)(i:Int):Option α:=(ixN xs.length i).bind λj=>xs[j]?
theorem aik(h:ixN n i=some j):seqIndex? i n=some j/\j<n /\ -(n:Int)<=i/\i<n:=by
 unfold ixN at h
 by_cases h0:0<=i
 ·rw [aL h0] at h
  by_cases h1:i<n
  ·rw [aL h1] at h;have e:i.toNat=j:=bM h;exact ⟨by rw [ij h0 h1,e],by omega,by omega,h1⟩
  ·rw [aY h1] at h;cases h
 ·rw [aY h0] at h
  by_cases h1 : -(n:Int)<=i
  ·rw [aL h1] at h;have e:(i+n).toNat=j:=bM h;exact ⟨by rw [hZ (by omega) h1,e],by omega,h1,by omega⟩
  ·rw [aY h1] at h;cases h
theorem aa7{α:Type}{xs:List α}{i:Int}{v:α}(h:atI xs i=some v):∃ j,seqIndex? i xs.length=some j/\xs[j]? = some v/\j<xs.length /\ -(xs.length:Int)<=i/\i<xs.length:=by
 unfold atI at h
 cases e:ixN xs.length i with
 | none=>rw [e] at h;cases h
 | some j =>
  rw [e] at h;obtain ⟨h1,h2,h3,h4⟩:=aik e;exact ⟨j,h1,h,h2,h3,h4⟩
theorem yj{α:Type}{xs:List α}{j:Nat}{v:α}(h:xs[j]? = some v):atI xs (j:Int)=some v:=by
 have hj:j<xs.length:=(ah.mp h).1;have e:ixN xs.length (j:Int)=some j:=by
  unfold ixN;rw [aL (by omega),aL (by omega)];simp
 unfold atI;rw [e];exact h
def adv(b:Expr):Prop:=∀ o i,subscripted b false o i=operate [o,i] (getItem o i)
def IxR(X:Cx)(r:R2):Prop :=
 ∀ (value slice:Expr) (pins:List (Addr × Obj)) (s:Shared) (σ:St) (H:Hp) (x y:V) (v u:Value) (Q:VK),Inv X pins σ H s->RelV x v->RelV y u->r x y H Q->
  subscripted slice false v u=operate [v,u] (getItem v u)->wpAny (model X.prog X.w) X.A (subscriptTail value slice v u) (EP X pins σ Q) X.xe s
def MtR(X:Cx)(id:String)(r:V->List V->Hp->VK->Prop):Prop :=
 ∀ (pins:List (Addr × Obj)) (s:Shared) (σ:St) (H:Hp) (x:V) (xs:List V) (v:Value) (us:List Value) (Q:VK),Inv X pins σ H s->RelV x v->Vals xs us->r x xs H Q->
  wpAny (model X.prog X.w) X.A (call (.builtin id) (v::us)) (EP X pins σ Q) X.xe s
section
variable{X:Cx}{a b:Expr}{ta tb:TE}{pos:Pos}
theorem IxR.or(h:IxR X r)(h':IxR X r'):IxR X (λx y H Q=>r x y H Q\/r' x y H Q):=by
 intro value slice pins s σ H x y v u Q I rx ry q hs
 rcases q with q | q
 ·exact h value slice pins s σ H x y v u Q I rx ry q hs
 ·exact h' value slice pins s σ H x y v u Q I rx ry q hs
theorem b0h(hr:IxR X r)(ha:PE X a ta)(hb:PE X b tb)(hs:adv b):PE X (.Subscript a b pos) (tOp r ta tb):=by
 intro pins s σ H Q I h
 exact Subscript_ (b07 ha hb I h λv u s2 x y H2 I2 rx ry q=>hr a b pins s2 σ H2 x y v u Q I2 rx ry q (hs _ _))
def azg(K:PySem.W.Frag):R2:=λx y H Q=>∃ p xs i v,x = .ref p/\y = .int i/\SqL K H p xs/\atI xs i=some v/\Q v H
def b1x(K:PySem.W.Frag):R2:=λx y H Q=>∃ p xs i v,x = .ref p/\y = .int i/\SqT K H p xs/\atI xs i=some v/\Q v H
def b1y:R2:=λx y H Q=>∃ z i c,x = .str z/\y = .int i/\z.length<=sizeLine/\atI z.cps.toList i=some c/\Q (.str ⟨#[c]⟩) H
theorem arb:IxR X (azg X.K):=by
 intro value slice pins s σ H x y v u Q I rx ry h hs
 obtain ⟨p,xs,i,z,rfl,rfl,hq,he,q⟩:=h;cases rx
 obtain ⟨t,rfl⟩:=ry;obtain ⟨its,r,pl,hz⟩:=I.list hq;obtain ⟨j,h1,h2,h3,h4,h5⟩:=aa7 he;obtain ⟨w,ew,rw'⟩:=r.get h2;have hl:=r.length;have hn:=a72;have fin:EP X pins σ Q w s:=⟨z,H,I,rw',q⟩
 by_cases h0:0<=i
 ·have hj:i.toNat=j:=by
   rw [ij h0 h5] at h1;exact bM h1
  exact item_listR pl.isList h0 (by omega) (by rw [hj];simpa using ew) fin hs
 ·have hj:(i+(its.toArray.size:Int)).toNat=j:=by
   rw [hZ (by omega) h4] at h1
   rw [aI,<-hl];exact bM h1
  exact subscriptTail_builtinR (x:=w) pl.isList.typeIs slot_list_getitem.lookup
   (wpAny_getItem_list_neg (Q:=λr s'=>r=w/\EP X pins σ Q r s') pl.isList (by omega) (by rw [aI]<;>omega) (by omega) (by rw [hj];simpa using ew) ⟨rfl,fin⟩) hs
theorem a7u:IxR X (b1x X.K):=by
 intro value slice pins s σ H x y v u Q I rx ry h hs
 obtain ⟨p,xs,i,z,rfl,rfl,hq,he,q⟩:=h;cases rx
 obtain ⟨t,rfl⟩:=ry;obtain ⟨its,r,pl,hz⟩:=I.tuple hq;obtain ⟨j,h1,h2,h3,h4,h5⟩:=aa7 he;obtain ⟨w,ew,rw'⟩:=r.get h2;have hl:=r.length;have hn:=a72;have fin:EP X pins σ Q w s:=⟨z,H,I,rw',q⟩;exact subscriptTail_builtinR (x:=w) pl.typeIs slot_tuple_getitem.lookup
  (getItem_tuple (j:=j) (Q:=λr s'=>r=w/\EP X pins σ Q r s') pl (by omega) (by omega) (by rw [aI,<-hl];exact h1) (by simpa using ew) ⟨rfl,fin⟩) hs
theorem aw7:IxR X b1y:=by
 intro value slice pins s σ H x y v u Q I rx ry h hs
 obtain ⟨z,i,c,rfl,rfl,hz,he,q⟩:=h;obtain ⟨t,rfl⟩:=rx;obtain ⟨t',rfl⟩:=ry;obtain ⟨j,h1,h2,h3,h4,h5⟩:=aa7 he;have hl:z.cps.toList.length=z.length:=by simp [Str.length]
 rw [hl] at h1 h4 h5;have hn:=a72;exact tail_any (i9 s z t) slot_str_getitem.lookup (getItem_str (c:=c) (by
  have e1:decide (i < -(2 ^ 63:Int))=false:=aU (by omega)
  have e2:decide (i≥2 ^ 63)=false:=aU (by omega)
  rw [e1,e2,Bool.or_false]) (by rw [h1];simpa using h2) ⟨.str ⟨#[c]⟩,H,I.tok _,⟨_,rfl⟩,q⟩) hs
def rIx(K:PySem.W.Frag):R2:=λx y H Q=>azg K x y H Q\/b1x K x y H Q\/b1y x y H Q
theorem aw8:IxR X (rIx X.K):=arb.or (a7u.or aw7)
theorem agm(its:List Value)(n j:Nat)(u:Value):Obj.mapSeq (·.setIfInBounds j u) { cls:=.type "list",data:=.seq its.toArray n }={ cls:=.type "list",data:=.seq (its.set j u).toArray n }:=by
 simp [Obj.mapSeq]
theorem Inv.lst{pins:List (Addr × Obj)}{σ:St}{H:Hp}{s:Shared}{p:Addr}{xs:List V}(I:Inv X pins σ H s)(h:H p=some (.lst xs)) :
  ∃ (its:List Value) (n:Nat),Vals xs its/\s.heap.get? p=some { cls:=.type "list",data:=.seq its.toArray n }/\xs.length<=sizeLine:=by
 obtain ⟨z,its,n,r,e⟩:=I.hok p _ h;exact ⟨its,n,r,e,z⟩
theorem Inv.lstUpd{its its':List Value}(I:Inv X pins σ H s)(h:H p=some (.lst xs))
  (ho:s.heap.get? p=some { cls:=.type "list",data:=.seq its.toArray n }) (hf:f { cls:=.type "list",data:=.seq its.toArray n }={ cls:=.type "list",data:=.seq its'.toArray n' }) (r:Vals ys its') (hz:ys.length<=sizeLine) (t:Nat) :
  Inv X pins σ (upd H p (.lst ys)) { s with heap:=s.heap.update p f,toks:=t }:=by
 have e:(s.heap.update p f).get? p=some { cls:=.type "list",data:=.seq its'.toArray n' }:=by
  rw [cV f ho (by rw [hf]<;>rfl),hf]
 refine I.write (x:=p) (e:=p) (by rw [h];trivial) (.inl rfl) (λb u hb q=>(cL _ _ (eQ hb)).trans q) ⟨_,e⟩ ?_
 exact ⟨hz,its',n',r,e⟩
def aw9:V->V->V->Hp->(Hp->Prop)->Prop:=λo i v H Q=>∃ p xs k j,o = .ref p/\i = .int k/\H p=some (.lst xs)/\ixN xs.length k=some j/\Q (upd H p (.lst (xs.set j v)))
theorem set_list:b02 X aw9:=by
 intro pins s σ H o i v ov iv u Q I ro ri rv h
 obtain ⟨p,xs,k,j,rfl,rfl,hp,hj,q⟩:=h;cases ro
 obtain ⟨t,rfl⟩:=ri;obtain ⟨its,n,r,ho,hz⟩:=I.lst hp;obtain ⟨h1,h2,h3,h4⟩:=aik hj;have hl:=r.length;have hn:=a72;have I':Inv X pins σ (upd H p (.lst (xs.set j v))) { s with heap:=s.heap.update p (Obj.mapSeq (·.setIfInBounds j u)) } :=
  I.lstUpd hp ho (agm its n j u) (r.set rv j) (by rw [fP];exact hz) s.toks
 by_cases h0:0<=k
 ·have hk:k.toNat=j:=by
   rw [ij h0 h4] at h1;exact bM h1
  exact PySem.W.ki_setAt ho h0 (by omega) (by rw [aI,<-hl];exact h4) (by rw [hk];exact ⟨_,I',q⟩)
 ·have hk:(k+(its.toArray.size:Int)).toNat=j:=by
   rw [hZ (by omega) h3] at h1
   rw [aI,<-hl];exact bM h1
  exact PySem.W.ki_setBack ho (by omega) (by rw [aI,<-hl];exact h3) (by omega) (by rw [hk];exact ⟨_,I',q⟩)
theorem ac3(lo hi:Option Int)(n:Nat):(sliceBounds lo hi none n).1=((HT.sIx n 0 lo:Nat):Int)/\(sliceBounds lo hi none n).2.1=((HT.sIx n n hi:Nat):Int)/\(sliceBounds lo hi none n).2.2=1:=by
 refine ⟨?_,?_,rfl⟩
 ·cases lo with
  | none=>simp [sliceBounds,HT.sIx]
  | some i =>
   simp only [sliceBounds,HT.sIx,hG,show (1:Int) > 0 by decide,dv]
   by_cases h:i<0
   ·simp only [h,dv]<;>omega
   ·simp only [h,dP]<;>omega
 ·cases hi with
  | none=>simp [sliceBounds,HT.sIx]
  | some i =>
   simp only [sliceBounds,HT.sIx,hG,show (1:Int) > 0 by decide,dv]
   by_cases h:i<0
   ·simp only [h,dv]<;>omega
   ·simp only [h,dP]<;>omega
theorem aa8(its:List Value)(lo hi:Option Int):slicePick its.toArray lo hi none=((its.drop (HT.sIx its.length 0 lo)).take (HT.sIx its.length its.length hi - HT.sIx its.length 0 lo)).toArray:=by
 obtain ⟨h1,h2,h3⟩:=ac3 lo hi its.toArray.size;unfold slicePick;rw [h1,h2,h3];simp only [sliceRange_one,pick_run,aI]<;>rfl
def b0i(K:PySem.W.Frag):V->Option Int->Option Int->Hp->VK->Prop:=λx lo hi H Q=>∃ a xs,x = .ref a/\SqL K H a xs/\∀ p,H p=none->Q (.ref p) (upd H p (.lst (apd xs lo hi)))
theorem arc:SlR X (b0i X.K):=by
 intro pins s σ H x v vl vu lo hi sl Q I rx hs pl pu h
 obtain ⟨a,xs,rfl,hx,q⟩:=h;cases rx
 obtain ⟨its,r,ht,hz⟩:=I.list hx;have hlen:=r.length;refine ⟨"list",_,slot_list_getitem.lookup,ht.isList.typeIs,?_⟩;refine wpAny_getItem_list_slice ht.isList hs pl pu .none (by simp) ?_ (by rw [aI]<;>omega)
 rw [aa8,<-hlen];refine ⟨.ref s.heap.objs.size,_,I.laid (t':=s.toks) (o:=.lst (apd xs lo hi)) (λb ob q=>am _ q) (ax _) ?_,rfl,q _ (I.hok.fresh (ax _))⟩;exact ⟨cH (a7t xs lo hi) hz,_,0,(r.drop (HT.sIx xs.length 0 lo)).take (HT.sIx xs.length xs.length hi - HT.sIx xs.length 0 lo),aJ _ rfl⟩
def a4y:V->Bool
 | .non=>true
 | .bl _=>true
 | .int _=>true
 | .str _=>true
 | _=>false
def eqV:V->V->Bool
 | .non, .non=>true
 | .bl a, .bl b=>a == b
 | .bl a, .int b=>(if a then 1 else 0) == b
 | .int a, .bl b=>a == (if b then 1 else 0)
 | .int a, .int b=>a == b
 | .str a, .str b=>a == b
 | _,_=>false
theorem ail(ry:RelV y u)(rx:RelV x v)(fy:a4y y=true)(fx:a4y x=true):SeqAt.EqAt A s u v (eqV y x):=by
 cases y with
 | non =>
  cases ry
  cases x with
  | non=>cases rx;exact SeqAt.EqAt.same _
  | bl b=>cases rx;exact SeqAt.EqAt.none_bool b
  | int b=>obtain ⟨t,rfl⟩:=rx;exact SeqAt.EqAt.none_int b t
  | str b=>obtain ⟨t,rfl⟩:=rx;exact SeqAt.EqAt.none_str b t
  | _=>exact absurd (show false=true from fx) bE
 | bl a =>
  cases ry
  cases x with
  | non=>cases rx;exact SeqAt.EqAt.bool_none a
  | bl b=>cases rx;exact SeqAt.EqAt.bool_bool a b
  | int b=>obtain ⟨t,rfl⟩:=rx;exact SeqAt.EqAt.bool_int a b t
  | str b=>obtain ⟨t,rfl⟩:=rx;exact SeqAt.EqAt.bool_str a b t
  | _=>exact absurd (show false=true from fx) bE
 | int a =>
  obtain ⟨t',rfl⟩:=ry
  cases x with
  | non=>cases rx;exact SeqAt.EqAt.int_none a t'
  | bl b=>cases rx;exact SeqAt.EqAt.int_bool a t' b
  | int b=>obtain ⟨t,rfl⟩:=rx;exact SeqAt.EqAt.int_int a t' b t
  | str b=>obtain ⟨t,rfl⟩:=rx;exact SeqAt.EqAt.int_str a t' b t
  | _=>exact absurd (show false=true from fx) bE
 | str a =>
  obtain ⟨t',rfl⟩:=ry
  cases x with
  | non=>cases rx;exact SeqAt.EqAt.str_none a t'
  | bl b=>cases rx;exact SeqAt.EqAt.str_bool a t' b
  | int b=>obtain ⟨t,rfl⟩:=rx;exact SeqAt.EqAt.str_int a t' b t
  | str b=>obtain ⟨t,rfl⟩:=rx;exact SeqAt.EqAt.str_str a t' b t
  | _=>exact absurd (show false=true from fx) bE
 | _=>exact absurd (show false=true from fy) bE
def eqU(x:V)(u:Value):Bool:=match u with
 | .none=>eqV .non x
 | .bool b=>eqV (.bl b) x
 | .int i _=>eqV (.int i) x
 | .str z _=>eqV (.str z) x
 | _=>false
theorem ape(r:RelV y u)(f:a4y y=true):eqU x u=eqV y x:=by
 cases y with
 | non=>cases r;rfl
 | bl b=>cases r;rfl
 | int i=>obtain ⟨t,rfl⟩:=r;rfl
 | str z=>obtain ⟨t,rfl⟩:=r;rfl
 | _=>exact absurd (show false=true from f) bE
theorem a7v:∀ {xs:List V} {us:List Value},Vals xs us->xs.all a4y=true->us.any (eqU x)=xs.any λy=>eqV y x
 | _,_, .nil,_=>rfl
 | y::xs,u::us, .cons r t,f=>by
  rw [eX,aX] at f;rw [eD,eD,ape r f.1,a7v t f.2]
theorem a5i(rx:RelV x v)(fx:a4y x=true):∀ {xs:List V} {us:List Value},Vals xs us->xs.all a4y=true->∀ u∈us,SeqAt.EqAt A s u v (eqU x u)
 | _,_, .nil,_=>λu hu=>by cases hu
 | y::xs,u::us, .cons r t,f=>λu' hu=>by
  rw [eX,aX] at f
  rcases aD.mp hu with rfl | hu
  ·rw [ape r f.1];exact ail r rx f.1 fx
  ·exact a5i rx fx t f.2 u' hu
def inV(x:V)(xs:List V):Bool:=xs.any λy=>eqV y x
def rIn(K:PySem.W.Frag)(neg:Bool):R2:=λx y H Q=>∃ p xs,y = .ref p/\(SqL K H p xs\/SqT K H p xs)/\a4y x=true/\xs.all a4y=true/\Q (.bl (if neg then !inV x xs else inV x xs)) H
theorem ac4:OpR X (compareOp .In) (rIn X.K false):=by
 intro pins s σ H x y v u Q I rx ry h
 obtain ⟨p,xs,rfl,hq,fx,fs,q⟩:=h;cases ry
 rcases hq with hq | hq
 ·obtain ⟨its,r,pl,hz⟩:=I.list hq;refine SeqAt.in_listAt (eqU x) pl.isList (λw hw=>a5i rx fx r fs w (by simpa using hw)) ⟨.bl _,H,I,rfl,?_⟩
  rw [show its.toArray.any (eqU x)=its.any (eqU x) by simp,a7v r fs]
  exact q
 ·obtain ⟨its,r,pl,hz⟩:=I.tuple hq;refine SeqAt.in_tupleAt (eqU x) pl (λw hw=>a5i rx fx r fs w (by simpa using hw)) ⟨.bl _,H,I,rfl,?_⟩
  rw [show its.toArray.any (eqU x)=its.any (eqU x) by simp,a7v r fs]
  exact q
theorem zu:OpR X (compareOp .NotIn) (rIn X.K true):=by
 intro pins s σ H x y v u Q I rx ry h
 obtain ⟨p,xs,rfl,hq,fx,fs,q⟩:=h;cases ry
 rcases hq with hq | hq
 ·obtain ⟨its,r,pl,hz⟩:=I.list hq;refine SeqAt.notIn_listAt (eqU x) pl.isList (λw hw=>a5i rx fx r fs w (by simpa using hw)) ⟨.bl _,H,I,rfl,?_⟩
  rw [show its.toArray.any (eqU x)=its.any (eqU x) by simp,a7v r fs]
  exact q
 ·obtain ⟨its,r,pl,hz⟩:=I.tuple hq;refine SeqAt.notIn_tupleAt (eqU x) pl (λw hw=>a5i rx fx r fs w (by simpa using hw)) ⟨.bl _,H,I,rfl,?_⟩
  rw [show its.toArray.any (eqU x)=its.any (eqU x) by simp,a7v r fs]
  exact q
theorem dw:CallR X (.builtin "len") (λxs H Q=>∃ p ys,xs=[.ref p]/\(SqL X.K H p ys\/SqT X.K H p ys)/\Q (.int ys.length) H):=by
 intro pins s σ H xs us Q I r h
 obtain ⟨p,ys,rfl,hq,q⟩:=h;obtain ⟨u,rfl,rx⟩:=vals1 r;cases rx
 have hn:=a72
 rcases hq with hq | hq
 ·obtain ⟨its,r',pl,hz⟩:=I.list hq;have hlen:=r'.length;exact Calls.call_len_list pl.isList (by simp only [aI]<;>omega) ⟨.int ys.length,H,I.tok _,⟨s.toks+1,by rw [aI,hlen]⟩,q⟩
 ·obtain ⟨its,r',pl,hz⟩:=I.tuple hq;have hlen:=r'.length;exact len_tuple pl (by simp only [aI]<;>omega) ⟨.int ys.length,H,I.tok _,⟨s.toks+1,by rw [aI,hlen]⟩,q⟩
theorem dz:CallR X (.builtin "len") (λxs H Q=>∃ z,xs=[.str z]/\z.length<=sizeLine/\Q (.int z.length) H):=by
 intro pins s σ H xs us Q I r h
 obtain ⟨z,rfl,hz,q⟩:=h;obtain ⟨u,rfl,t,rfl⟩:=vals1 r;have hn:=a72;exact len_str (by omega) ⟨.int z.length,H,I.tok _,⟨_,rfl⟩,q⟩
theorem CallR.or(h:CallR X f r)(h':CallR X f r'):CallR X f (λxs H Q=>r xs H Q\/r' xs H Q):=by
 intro pins s σ H xs us Q I rs q
 rcases q with q | q
 ·exact h pins s σ H xs us Q I rs q
 ·exact h' pins s σ H xs us Q I rs q
theorem sr:CallR X (.type "tuple") (λxs H Q=>∃ p ys,xs=[.ref p]/\((SqL X.K H p ys/\∀ l,H l=none->Q (.ref l) (upd H l (.tup ys)))\/(SqT X.K H p ys/\Q (.ref p) H))):=by
 intro pins s σ H xs us Q I r h
 obtain ⟨p,ys,rfl,h⟩:=h;obtain ⟨u,rfl,rx⟩:=vals1 r;cases rx
 rcases h with ⟨hq,q⟩ | ⟨hq,q⟩
 ·obtain ⟨its,r',pl,hz⟩:=I.list hq;have hlen:=r'.length;refine call_tuple_list pl.isList (λh' kp=>?_) (by simp only [aI]<;>omega)
  have I1:Inv X pins σ H { s with heap:=h' }:=I.kept (t':=s.toks) kp
  have I2:Inv X pins σ (upd H h'.objs.size (.tup ys)) { s with heap:=h'.push { cls:=.type "tuple",data:=.seq its.toArray } } :=
   I1.laid (t':=s.toks) (λb o e=>am _ e) (ax _) (show ObjOk X.prog X.w _ _ _ (.tup ys) from ⟨hz,its,r',IsTup.new _ _⟩)
  exact ⟨.ref h'.objs.size,_,I2,rfl,q _ (I1.hok.fresh (ax _))⟩
 ·obtain ⟨its,r',pl,hz⟩:=I.tuple hq;exact call_tuple_same pl ⟨.ref p,H,I,rfl,q⟩
def tyV(K:PySem.W.Frag)(T:String)(x:V)(H:Hp):Prop:=match x with
 | .str _=>T = "str"
 | .int _=>T = "int"
 | .ref p=>(T = "list"/\∃ xs,SqL K H p xs)\/(T = "tuple"/\∃ o,K.lookup p=some o/\o.cls = .type "tuple"/\o.dict=none) \/
   (T = "dict"/\((∃ kvs,H p=some (.dK kvs))\/∃ kvs,H p=some (.dT kvs)))\/(T = "set"/\∃ S n,H p=some (.set S n))
 | _=>False
theorem apf(I:Inv X pins σ H s)(r:RelV x v)(ty:tyV X.K T x H) :
  s.TypeIs v T/\∀ a,v = .ref a->∃ ob,s.heap.get? a=some ob/\ob.dict=none:=by
 cases x with
 | str z =>
  obtain ⟨t,rfl⟩:=r
  cases (show T = "str" from ty)
  exact ⟨i9 s z t,λ_ e=>nomatch e⟩
 | int i =>
  obtain ⟨t,rfl⟩:=r
  cases (show T = "int" from ty)
  exact ⟨typeIs_int s i t,λ_ e=>nomatch e⟩
 | ref p =>
  cases r
  rcases ty with ⟨rfl,xs,hq⟩ | ⟨rfl,o,hk,hc,hd⟩ | ⟨rfl,hk⟩ | ⟨rfl,S,n,hk⟩
  ·obtain ⟨its,_,pl,_⟩:=I.list hq;refine ⟨pl.isList.typeIs,λa e=>?_⟩;cases e
   obtain ⟨o,n,e,c,hd,_⟩:=pl;exact ⟨o,e,hd⟩
  ·refine ⟨⟨o,I.kIn p o hk,hc⟩,λa e=>?_⟩;cases e
   exact ⟨o,I.kIn _ o hk,hd⟩
  ·have z:∃ o,s.heap.get? p=some o/\o.ExactDict:=by
    rcases hk with ⟨kvs,hk⟩ | ⟨kvs,hk⟩
    ·obtain ⟨_,_,_,_,o,_,_,e,ex,_⟩:=I.hok p _ hk;exact ⟨o,e,ex⟩
    ·obtain ⟨_,_,_,_,o,_,_,e,ex,_⟩:=I.hok p _ hk;exact ⟨o,e,ex⟩
   obtain ⟨o,e,ex⟩:=z;refine ⟨⟨o,e,ex.1⟩,λa e2=>?_⟩;cases e2
   exact ⟨o,e,ex.2.1⟩
  ·obtain ⟨o,_,_,_,e,ex,_⟩:=I.hok p _ hk;refine ⟨⟨o,e,ex.1⟩,λa e2=>?_⟩;cases e2
   exact ⟨o,e,ex.2.1⟩
 | _=>exact False.elim ty
def tBM(K:PySem.W.Frag)(T:String)(r:V->List V->Hp->VK->Prop)(to:TE)(t:TA):TE:=λσ H Q=>to σ H λx H1=>tyV K T x H1/\t σ H1 λxs H2=>r x xs H2 Q
variable{o e:Expr}{es:List Expr}{to:TE}{t:TA}{name:Str}{apos cpos:Pos}{T id:String}{r:V->List V->Hp->VK->Prop}
theorem b0j(pa:PlainAttrs T)(slot:Slot T name id)(hty:typeOf (.builtin id)=pure (.type "method_descriptor"))(hm:MtR X id r)(ho:PE X o to)(ha:PA X (e::es) t)
  (hbase:attributeBase o name X.env (eval o X.env)=eval o X.env:=by rfl)
  (hfew:((backTo cpos (starEach (e::es) X.env)).all (λx => !x.1) && (backToKw cpos (keywordEach [] X.env)).all (λx=>x.1.isSome)
   && decide ((e::es).length+([]:List Keyword).length+(if ([]:List Keyword).isEmpty then 0 else 1)<30))=true:=by rfl)
  (hline:(apos.endLine == cpos.line)=true:=by rfl) (hs:starEach (e::es) X.env=(false,eval e X.env)::starEach es X.env:=by rfl) (hplain:(backTo cpos (starEach es X.env)).any (·.1)=false:=by rfl) :
  PE X (.Call (.Attribute o name apos) (e::es) [] cpos) (tBM X.K T r to t):=by
 intro pins s σ H Q I h
 refine wpAny_Call_method_late hbase hfew hline rfl (thn (ho pins s σ H _ I h) λv s1 ⟨x,H1,I1,r1,ty,q1⟩=>?_);obtain ⟨h1,h2⟩:=apf I1 r1 ty;refine ⟨T,id,pa,slot,hty,h1,h2,?_⟩;have hA:=ha cpos pins s1 σ H1 _ I1 q1;rw [hs] at hA ⊢;refine Calls.callWith_builtin (by show (false || (backTo cpos (starEach es X.env)).any (·.1))=false;rw [hplain]<;>rfl) (Calls.evalArgs_plain ?_)
 exact thn hA λus s2 ⟨vs,H2,I2,r2,q2⟩=>hm pins s2 σ H2 x vs v us Q I2 r1 r2 q2
end
def MtM(X:Cx)(id:String)(r:V->List V->Hp->VK->Prop):Prop :=
 ∀ (pins:List (Addr × Obj)) (s:Shared) (σ:St) (H:Hp) (x:V) (xs:List V) (v:Value) (us:List Value) (Q:VK),Inv X pins σ H s->RelV x v->Vals xs us->r x xs H Q->
  wpAny (model X.prog X.w) X.A (call (.builtin id) (v::us)) (EP X pins σ Q) X.xe s
theorem Vals.one:∀ {x:V} {us:List Value},Vals [x] us->∃ u,us=[u]/\RelV x u
 | _,_, .cons r .nil=>⟨_,rfl,r⟩
theorem Vals.rep(h:Vals xs us):∀ k:Nat,Vals (List.replicate k xs).flatten (List.replicate k us).flatten
 | 0=>.nil
 | k+1=>by
  rw [cN,cN,dH,dH];exact Vals.append h (Vals.rep h k)
theorem foldl_rep(its:List Value):∀ (k:Nat) (acc:List Value),
  List.foldl (λx1 x2=>x1++x2) acc.toArray (List.replicate k its.toArray)=(acc++(List.replicate k its).flatten).toArray
 | 0,acc=>by simp
 | k+1,acc=>by
  have e:acc.toArray++its.toArray=(acc++its).toArray:=by simp
  have e2:(acc++its)++(List.replicate k its).flatten=acc++(List.replicate (k+1) its).flatten:=by
   rw [cN,dH,fq]
  rw [<-e2,<-foldl_rep its k (acc++its),<-e,cN,fQ]
section
variable{X:Cx}{pins:List (Addr × Obj)}{σ:St}{H:Hp}{s:Shared}{l b:Addr}{xs ys zs:List V}
theorem Inv.lset{its its':List Value}(I:Inv X pins σ H s)(hH:H l=some (.lst xs))
  (e:s.heap.get? l=some { cls:=.type "list",data:=.seq its.toArray n }) (hf:f its.toArray=its'.toArray) (hv:Vals ys its') (hz:ys.length<=sizeLine) :
  Inv X pins σ (upd H l (.lst ys)) { s with heap:=s.heap.update l (Obj.mapSeq f),toks:=t' }:=by
 have q:=hJ e f;rw [hf] at q;refine I.write (x:=l) (e:=l) (by rw [hH];exact trivial) (.inl rfl) (λb' u hb hu=>(cL s.heap (Obj.mapSeq f) (eQ hb)).trans hu) ⟨_,q⟩ ?_
 exact ⟨hz,its',_,hv,q⟩
theorem Inv.lnew(I:Inv X pins σ H s)(hv:Vals ys its)(hz:ys.length<=sizeLine) :
  Inv X pins σ (upd H s.heap.objs.size (.lst ys)) { s with heap:=s.heap.push { cls:=.type "list",data:=.seq its.toArray },toks:=t' } :=
 I.laid (λ_ _ q=>am _ q) (ax _) ⟨hz,its,0,hv,aJ _ rfl⟩
theorem Inv.fresh(I:Inv X pins σ H s):H s.heap.objs.size=none:=I.hok.fresh (ax _)
theorem Inv.lstM(I:Inv X pins σ H s)(hH:H l=some (.lst xs)):xs.length<=sizeLine/\∃ (its:List Value) (n:Nat),Vals xs its/\xs.length=its.length/\s.heap.get? l=some { cls:=.type "list",data:=.seq its.toArray n }:=by
 obtain ⟨z,its,n,r,e⟩:=I.hok l _ hH;exact ⟨z,its,n,r,r.length,e⟩
theorem amk(h:n<=sizeLine):Builtin.List.listTooLong n=false:=by
 unfold Builtin.List.listTooLong;exact aU (by omega)
end
section
variable{X:Cx}
def aim:V->List V->Hp->VK->Prop:=λx vs H Q=>∃ l xs y,x = .ref l/\vs=[y]/\H l=some (.lst xs)/\xs.length<sizeLine/\Q .non (upd H l (.lst (xs++[y])))
theorem zx:MtM X "list.append" aim:=by
 intro pins s σ H x vs v us Q I rx rv h
 obtain ⟨l,xs,y,rfl,rfl,hH,hz,q⟩:=h;cases rx
 obtain ⟨u,rfl,ru⟩:=rv.one;obtain ⟨z,its,n,r,hl,e⟩:=I.lstM hH;refine fv bK ⟨_,e,rfl⟩ fR (fH _ _) (gK l its.toArray n u (by rw [aI];omega)) ⟨e,?_⟩
 refine ⟨.non,_,I.lset (its':=its++[u]) hH e (by simp) (r.append (.cons ru .nil)) ?_,rfl,q⟩
 rw [aw,ay];omega
theorem len_rep{α:Type}(xs:List α)(k:Nat):(List.replicate k xs).flatten.length=k*xs.length:=by
 induction k with
 | zero=>simp
 | succ k ih=>rw [cN,dH,aw,ih,Nat.succ_mul,fZ]
end
end L2
namespace Att
open PySem PySem.W PySem.Calls PyProof.Rows
theorem a7w:∀ (ns:List Int) (vs:List Value),WellAll P h vs (ns.map WData.int)->IntsAre vs ns:=by
 intro ns
 induction ns with
 | nil =>
  intro vs w
  rw [db] at w;cases w
  exact .nil
 | cons n ns ih =>
  intro vs w
  rw [aZ] at w
  cases w with
  | cons a b =>
   cases a
   exact .cons _ _ (ih _ b)
theorem ain{l:OpenLaw}(hn:l.most=some n)
  (hpre:l.row.toRowW.claim.pre args=true) (hwl:WellAll P h vals args) :
  ∃ a vs ns,vals=[Value.ref a]/\args=[WData.list (ns.map WData.int)]/\h.get? a=some { cls:=.type "list",data:=.seq vs.toArray }/\IntsAre vs ns/\ns.length<=n:=by
 have hsh:WShape.hasAll [] args [.list .int]=true:=(pre_splitW hpre).1;have hc:l.pre.holds [] { args:=args }=true:=(pre_splitW hpre).2;obtain ⟨d,r,rfl,h1,h2⟩:=hasAllW_cons hsh;obtain rfl:=hasAllW_nil h2;obtain ⟨xs,rfl,h3⟩:=hasW_list h1;obtain ⟨ns,rfl⟩:=items_int h3;have hlen:ns.length<=n:=by
  unfold OpenLaw.pre at hc;have h4:(WTm.not (.lt (.lit (.int (n:Int))) (.len (.arg 0)))).holds [] { args:=[.list (ns.map .int)] }=true:=by
   have h4:=(holds_andW hc).1;rw [hn] at h4;exact h4
  have h5:=condW_of h4 (w_not (w_lt w_lit (w_len_list (w_arg rfl))));rw [aA] at h5;refine eK λq=>?_;have q':(n:Int)<((ns.length:Nat):Int):=by omega
  first
   | (rw [aQ q'] at h5;exact absurd h5 (by decide))
   | (simp at h5;omega)
 cases hwl with
 | cons w1 w2 =>
  cases w2
  cases w1 with
  | list ho hall=>exact ⟨_,_,ns,rfl,rfl,ho,a7w ns _ hall,hlen⟩
theorem aio(l:OpenLaw)(args:List WData):l.row.toRowW.claim.post args (.bool true) args=true :=
 postW_of (r:=l.row.toRowW) (X:=(true == true))
  (show WShape.has [] (.bool true) .bool=true by first | rfl | decide | simp [WShape.has,WShape.arms,WShape.armsAll])
  (show (WTm.eq .res (.lit (.bool true))).value [] { args:=args,res:=some (.bool true),after:=args }=some (.bool (true == true)) from w_eq_bool (w_res rfl) w_lit) rfl
theorem adw{l:OpenLaw}{d:DefRec}
  (hn:l.most=some n) (hdf:d.params.defaults=[])
  (call:∀ (w:World) (s₀ s₁:Shared) (mg mb:Str->Option Value) (fa:Addr) (o:Obj) (pm cd doc:Value) (a:Addr) (vs:List Value) (ns:List Int),
   Ground q loose [] XP w s₀ mg mb s₁.heap->YP w s₁.heap->
   s₁.heap.get? fa=some o->o.data = .func (docDef d.name d.params d.body d.scope pm cd doc)->s₁.heap.CodeRec cd d.name->mg d.name=some (.ref fa)->
   s₁.heap.get? a=some { cls:=.type "list",data:=.seq vs.toArray }->IntsAre vs ns->ns.length<=n->s₁.gens = #[]->
   codeAny (model l.prog w) callerA (.call (.ref fa) ⟨[.ref a],[]⟩) (λr s'=>r = .ok (.ret (.bool true))/\OldK s₁.heap s'.heap/\s'.os=s₁.os/\AllBare s'.gens) s₁) :
  WalkO q loose XP YP l.row.toRowW d [] (λf vs=>PySem.call f vs):=by
 intro w s₀ s₁ mg mb G Y fa o pm cd doc dV kV ho hd hcd hD hmg hg args vals as hpre hlay hrd hwl hlo
 obtain rfl:dV = .none:=Dflts.none hD hdf
 obtain rfl:kV = .none:=Dflts.noKw hD
 obtain ⟨a,vs,ns,rfl,rfl,hobj,hints,hlen⟩:=ain hn hpre hwl;refine enter_call (hV (call w s₀ s₁ mg mb fa o pm cd doc a vs ns G Y ho (fd_plain hd) hcd hmg hobj hints hlen hg) λr s' hq=>?_);obtain ⟨rfl,h2,h3,h4⟩:=hq;exact ⟨.inl ⟨.bool true, .bool true,[],rfl,λ_=>rfl, .bool true,aio l _,λ_=>⟨List.Pairwise.nil,λ_ hm=>(nomatch hm)⟩⟩,h2,h3,h4⟩
end Att
namespace L2
open PySem PySem.Spec PyProof.Rows
theorem a5j:∀ {vs:List Value} {ns:List Int},IntsAre vs ns->Vals (ns.map V.int) vs
 | _,_, .nil=>.nil
 | _,_, .cons n t h=>.cons ⟨t,rfl⟩ (a5j h)
def Only(H:Hp):Prop:=∀ b,H b=none\/∃ o xs,H b=some (.frz o (.lst xs))
theorem aml{K:PySem.W.Frag}{s₁:Shared}{vs:List Value}
  (KX:K.In s₁.heap) (hns:s₁.heap.Ns mainGlobals mg) (hb:s₁.heap.Ns builtinsNs mb) (hbb:∀ x:Str,x ≠ "__name__"->mb x=bootBuiltins x) (hlim:s₁.heap.NoLimit) (hg:s₁.gens = #[])
  (ha:s₁.heap.get? a=some { cls:=.type "list",data:=.seq vs.toArray }) (hi:IntsAre vs ns) (hl:ns.length<=sizeLine) (hr:Room k callerA)
  (F:∀ base:Heap,K.In base->base.Ns mainGlobals mg->FnOk P w K mg base CX k fa fd [x] sp) (hbind:∀ (s:Shared) (u:Value),BindsTo s fd ⟨[u],[]⟩ [(x,u)])
  (hsp:∀ H:Hp,Only H->SqL K H a (ns.map V.int)->sp [.ref a] H (λv _=>v = .bl true) λ_ _ _=>False)
  (hCX:∀ H e s',CX [] H s₁ (λ_ _ _=>False) e s'->False) :
  codeAny (model P w) callerA (.call (.ref fa) ⟨[.ref a],[]⟩) (λr s'=>r = .ok (.ret (.bool true))/\OldK s₁.heap s'.heap/\s'.os=s₁.os/\AllBare s'.gens) s₁:=by
 have rv:=a5j hi;have lenV:=hi.length;have core:∀ H:Hp,Only H->SqL K H a (ns.map V.int)->HOk P w H s₁.heap->(∀ b,H b≠none->b=a)->(H a≠none->K.lookup a=none)->
   codeAny (model P w) callerA (.call (.ref fa) ⟨[.ref a],[]⟩) (λr s'=>r = .ok (.ret (.bool true))/\OldK s₁.heap s'.heap/\s'.os=s₁.os/\AllBare s'.gens) s₁:=by
  intro H hO hS hok hA hK
  have base_of:∀ {b:Addr} {o:Obj},s₁.heap.get? b=some o->H b=none->(am7 s₁.heap H).get? b=some o:=λe n=>am8 e n;have noA:∀ {b:Addr} {o:Obj} {es:Array DictEntry} {ep:Nat},s₁.heap.get? b=some o->o.data = .dict es ep->H b=none:=λ{b o es ep} e d=>by
   cases q:H b with
   | none=>rfl
   | some u =>
    have e':b=a:=hA b (by rw [q];simp)
    subst e';rw [ha] at e;cases e
    have d':Data.seq vs.toArray _=Data.dict es ep:=d
    cases d'
  have nsK:∀ {b:Addr} {m:Str->Option Value},s₁.heap.Ns b m->(am7 s₁.heap H).Ns b m:=λ{b m} ⟨o,es,ep,e,d,r⟩=>⟨o,es,ep,base_of e (noA e d),d,r⟩;have hKb:K.In (am7 s₁.heap H):=λb o e=>base_of (KX b o e) (by
   cases q:H b with
   | none=>rfl
   | some u =>
    have e':b=a:=hA b (by rw [q];simp)
    subst e';rw [hK (by rw [q];simp)] at e;cases e)
  have hM:Mod K mg (am7 s₁.heap H):=⟨hKb,nsK hns,⟨mb,nsK hb,hbb⟩,let ⟨mc,h1,h2⟩:=hlim; ⟨mc,nsK h1,h2⟩⟩;have e0:Env0 P w K mg (am7 s₁.heap H) callerA [] s₁ H:=⟨rfl,hM,λb o e=>aqs e,Nat.le_of_eq (ai1 _ _),trivial,λb hb=>absurd (show b∈([]:List Addr) from hb) (by simp),hok, .of_eq hg⟩
  refine hV ((F _ hKb (nsK hns)).run callerA [] s₁ H ⟨[.ref a],[]⟩ [.ref a] [.ref a] _ _ hr e0 (hbind s₁ (.ref a)) (.cons rfl .nil) (hsp H hO hS)) λr s' h=>?_
  cases r with
  | error e=>exact (hCX H e s' h).elim
  | ok fl =>
   cases fl with
   | next=>exact False.elim h
   | brk=>exact False.elim h
   | cont=>exact False.elim h
   | ret u =>
    obtain ⟨v,H',os,bare,un,hok',r',q⟩:=h;have q':v = .bl true:=q;subst q';obtain rfl:u=Value.bool true:=r';refine ⟨rfl,OldK.of_keep λb o e=>?_,os,bare⟩
    cases q:H b with
    | none=>exact un.keep b o e q (by intro z;exact absurd (show b∈([]:List Addr) from z) (by simp)) (by simp)
    | some u =>
     rcases hO b with z | ⟨ob,xs,z⟩
     ·rw [q] at z;cases z
     ·have z2:=un.frzs b ob _ z;obtain ⟨e1,_⟩:=hok b _ z;obtain ⟨e2,_⟩:=hok' b _ z2;rw [e] at e1;cases e1
      exact e2
 cases hk:K.lookup a with
 | some o =>
  have e:=KX a o hk;rw [ha] at e;cases e
  refine core (λ_=>none) (λ_=>.inl rfl) (.inr ⟨_,vs.toArray,_,hk,rfl,rfl,rfl,by rw [aI,lenV];exact hl,by simpa using rv⟩) (λb u z=>by have z':(none:Option HO)=some u:=z;cases z') (λb z=>absurd rfl z) λz=>absurd rfl z
 | none =>
  refine core (λb=>if b=a then some (.frz { cls:=.type "list",data:=.seq vs.toArray } (.lst (ns.map V.int))) else none) (λb=>?_) (.inl (.inr ⟨{ cls:=.type "list",data:=.seq vs.toArray },aL rfl⟩)) (λb u z=>?_) (λb z=>?_) λ_=>hk
  ·by_cases hb:b=a
   ·exact .inr ⟨_,_,aL hb⟩
   ·exact .inl (aY hb)
  ·by_cases hb:b=a
   ·have z':=(aL hb).symm.trans z
    cases z'
    subst hb;exact ⟨ha,by rw [aA];exact hl,vs,_,rv,ha⟩
   ·have z':=(aY hb).symm.trans z
    cases z'
  ·by_cases hb:b=a
   ·exact hb
   ·exact absurd (aY hb) z
theorem ard{l:PySem.W.OpenLaw}{n k:Nat}{q:Program}{loose:List Str}{XP:(Str->Option Value)->Heap->Prop}{YP:World->Heap->Prop}{d:DefRec}{K:Params->PySem.W.Frag}{CX:World->CXT}{sp:World->Sp}{x:Str}
  (hn:l.most=some n) (hn2:n<=sizeLine) (hdf:d.params.defaults=[]) (hr:Room k callerA)
  (hY:∀ (w:World) (h:Heap),YP w h->(K w.params).In h)
  (F:∀ (w:World) (mg:Str->Option Value) (fa:Addr) (h:Heap),(K w.params).In h->h.Ns mainGlobals mg->mg d.name=some (.ref fa)->
   ∃ fd:FuncData,(∀ (s:Shared) (u:Value),BindsTo s fd ⟨[u],[]⟩ [(x,u)]) /\
    ∀ base:Heap,(K w.params).In base->base.Ns mainGlobals mg->FnOk l.prog w (K w.params) mg base (CX w) k fa fd [x] (sp w))
  (hsp:∀ (w:World) (H:Hp) (a:Addr) (ns:List Int),ns.length<=n->Only H->SqL (K w.params) H a (ns.map V.int)->sp w [.ref a] H (λv _=>v = .bl true) λ_ _ _=>False)
  (hCX:∀ (w:World) (H:Hp) (s:Shared) (e:Value) (s':Shared),CX w [] H s (λ_ _ _=>False) e s'->False) :
  PySem.W.WalkO q loose XP YP l.row.toRowW d [] (λf vs=>PySem.call f vs):=by
 refine Att.adw hn hdf λw s₀ s₁ mg mb fa o pm cd doc a vs ns G Y ho hd hcd hmg hobj hints hlen hg=>?_;have KX:=hY w _ Y;obtain ⟨fd,hb,hF⟩:=F w mg fa _ KX G.T.g hmg;exact aml KX G.T.g G.T.b G.T.builtins G.T.nolimit hg hobj hints (cH hlen hn2) hr hF hb (λH hO hS=>hsp w H a ns hlen hO hS) λH e s'=>hCX w H s₁ e s'
def a6j(s:Stmt):Arguments:=match s with
 | .FunctionDef _ a _ _ _ _ _ _ _ _=>a
 | _=>{ posonlyargs:=[],args:=[],vararg:=none,kwonlyargs:=[],kw_defaults:=[],kwarg:=none,defaults:=[] }
def a1f(s:Stmt):List Stmt:=match s with
 | .FunctionDef _ _ b _ _ _ _ _ _ _=>b
 | _=>[]
def dq(s:Stmt):Scope:=match s with
 | .FunctionDef _ _ _ _ _ _ sc _ _ _=>sc
 | _=>{ kind:=.function,names:=[],isGenerator:=false,isCoroutine:=false }
abbrev CX0:CXT:=λ_ _ _ _ _ _=>False
abbrev E0:XK:=λ_ _ _=>False
theorem awa:aew CX0 X E0:=λ_ _ _ _ _ _ _ h=>h.elim
structure Fun (K:PySem.W.Frag) (x qual:Str) (st:Stmt) (f:Addr) (fd:FuncData):Prop where
 ex:∃ (oc:Value) (od:Option Addr) (kV doc pm:Value) (an:Option Addr) (cdv ct:Value) (osl:Array (Option Value)),
  fd=PySem.W.fnOf x qual (a6j st) (a1f st) (dq st) .none kV doc pm an cdv ct/\K.lookup f=some ⟨oc,od, .func fd,osl⟩/\PySem.W.codeIn K cdv qual=true
 kp:PySem.W.keepIn K (.ref f)=true
section
variable{P:Program}{w:World}{K:PySem.W.Frag}{mg:Str->Option Value}{base:Heap}
theorem Fun.ok{x qual:Str}{st:Stmt}{f:Addr}{fd:FuncData}{N ps:List Str}{k:Nat}{sp:Sp}(F:Fun K x qual st f fd)(S:FnScope N ps (dq st))(len:∀ vs H Q E,sp vs H Q E->vs.length=ps.length)
  (hbody:∀ (cdv:Value) (A:Around) (outer:List Env) (s:Shared) (H:Hp) (vs:List V) (Q:VK) (E:XK),Room k (A.deeper (envOfC qual (dq st) s.heap.objs.size f cdv))->sp vs H Q E->
   ∃ t,PSs (amh CX0 P w K mg base N qual (dq st) f cdv A outer s H E).nox (a1f st) t/\t { nx:=λ_ H'=>Q .non H',rt:=Q } (start N vs) H):FnOk P w K mg base CX0 (k+1) f fd ps sp:=by
 obtain ⟨oc,od,kV,doc,pm,an,cdv,ct,osl,rfl,lk,hcd⟩:=F.ex;refine b0e lk hcd S len λA outer s H vs Q E hr hsp=>?_;obtain ⟨t,h,q⟩:=hbody cdv A outer s H vs Q E hr hsp;exact ⟨t,h.nox,q⟩
theorem Fun.binds{x qual:Str}{st:Stmt}{f:Addr}{fd:FuncData}{ps:List Str}(F:Fun K x qual st f fd)
  (h:∀ (kV doc pm:Value) (an:Option Addr) (cdv ct:Value) (us:List Value),us.length=ps.length->bindArgs (PySem.W.fnOf x qual (a6j st) (a1f st) (dq st) .none kV doc pm an cdv ct) ⟨us,[]⟩=pure (ps.zip us)):Binds K fd ps []:=by
 obtain ⟨oc,od,kV,doc,pm,an,cdv,ct,osl,rfl,lk,hcd⟩:=F.ex;exact .all (h kV doc pm an cdv ct)
theorem awb{x qual:Str}{st:Stmt}{f:Addr}{oc:Value}{od an:Option Addr}{osl:Array (Option Value)}{kV doc pm cdv ct:Value}(l:K.lookup f=some ⟨oc,od, .func (PySem.W.fnOf x qual (a6j st) (a1f st) (dq st) .none kV doc pm an cdv ct),osl⟩)
  (c:PySem.W.codeIn K cdv qual=true) (k:PySem.W.keepIn K (.ref f)=true):Fun K x qual st f (PySem.W.fnOf x qual (a6j st) (a1f st) (dq st) .none kV doc pm an cdv ct):=⟨⟨oc,od,kV,doc,pm,an,cdv,ct,osl,rfl,l,c⟩,k⟩
end
def Same(H H':Hp):Prop:=∀ b o,H b=some o->H' b=some o
theorem Same.seq{K:PySem.W.Frag}{H H':Hp}{a:Addr}{xs:List V}(e:Same H H')(h:SqL K H a xs):SqL K H' a xs:=by
 rcases h with (h | ⟨o,h⟩) | h
 ·exact .inl (.inl (e _ _ h))
 ·exact .inl (.inr ⟨o,e _ _ h⟩)
 ·exact .inr h
section
variable{κ:Type}[DecidableEq κ]
def af0(kvs:List (κ × V))(k:κ):Option V:=(kvs.find? λkv=>decide (kv.1=k)).map (·.2)
def putK(kvs:List (κ × V))(k:κ)(v:V):List (κ × V) :=
 if (kvs.any λkv=>decide (kv.1=k))=true then kvs.map (λkv=>if kv.1=k then (kv.1,v) else kv) else kvs++[(k,v)]
theorem aa9{p:κ × V}{r:List (κ × V)}{k:κ}(e:p.1=k):af0 (p::r) k=some p.2:=by simp [af0,cW,e]
theorem aaa{p:κ × V}{r:List (κ × V)}{k:κ}(e:¬ p.1=k):af0 (p::r) k=af0 r k:=by simp [af0,cW,e]
theorem af1(k:κ):∀ kvs:List (κ × V),(kvs.any λkv=>decide (kv.1=k))=(af0 kvs k).isSome
 | []=>rfl
 | p::r=>by
  rw [eD]
  by_cases e:p.1=k
  ·simp only [aa9 e,aQ e,Bool.true_or,Option.isSome_some]
  ·rw [aaa e,aU e,Bool.false_or];exact af1 k r
theorem a4z(kvs:List (κ × V))(k:κ)(v:V):(putK kvs k v).length<=kvs.length+1:=by
 unfold putK
 split
 ·rw [aA];omega
 ·rw [aw,ba,dW];omega
theorem RelO.isSome_eq(r:RelO o u):o.isSome=u.isSome:=by
 cases o with
 | none=>cases u with
  | none=>rfl
  | some _=>exact (show False from r).elim
 | some _=>cases u with
  | none=>exact (show False from r).elim
  | some _=>rfl
theorem KV.val{kvs:List (κ × V)}{vs:List (κ × Value)}(r:KV kvs vs)(k:κ):RelO (af0 kvs k) (valueAt vs k):=by
 unfold KV at r
 induction r with
 | nil=>exact True.intro
 | @cons p q ps qs h t ih =>
  obtain ⟨h1,h2⟩:=h
  by_cases e:p.1=k
  ·have e':q.1=k:=h1.symm.trans e;have b:valueAt (q::qs) k=some q.2:=by simp [valueAt,cW,e']
   rw [aa9 e,b];exact h2
  ·have e':¬ q.1=k:=λz=>e (h1.trans z);have b:valueAt (q::qs) k=valueAt qs k:=by simp [valueAt,cW,e']
   rw [aaa e,b];exact ih
theorem KV.any(r:KV kvs vs)(k:κ):(kvs.any λkv=>decide (kv.1=k))=vs.any λkv=>decide (kv.1=k):=by
 unfold KV at r
 induction r with
 | nil=>rfl
 | cons h t ih=>rw [eD,eD,ih,h.1]
theorem KV.repl(r:KV kvs vs)(k:κ)(ry:RelV y u) :
  KV (kvs.map λkv=>if kv.1=k then (kv.1,y) else kv) (vs.map λkv=>if kv.1=k then (kv.1,u) else kv):=by
 unfold KV at r ⊢
 induction r with
 | nil=>exact .nil
 | @cons p q ps qs h t ih =>
  rw [aZ,aZ];refine .cons ?_ ih;obtain ⟨h1,h2⟩:=h
  by_cases e:p.1=k
  ·rw [aL e,aL (h1.symm.trans e)];exact ⟨h1,ry⟩
  ·rw [aY e,aY (λz=>e (h1.trans z))];exact ⟨h1,h2⟩
theorem KV.put(r:KV kvs vs)(k:κ)(ry:RelV y u):KV (putK kvs k y) (stored vs k u):=by
 unfold putK stored;rw [r.any k]
 by_cases e:(vs.any λkv=>decide (kv.1=k))=true
 ·rw [aL e,aL e];exact r.repl k ry
 ·rw [aY e,aY e];exact Paired.snoc r ⟨rfl,ry⟩
theorem KV.length(r:KV kvs vs):kvs.length=vs.length:=gP r
end
theorem aip(r:RelV (kV k) u):(uh P w).is k u=true:=by
 cases k with
 | inl i=>obtain ⟨t,e⟩:=(show ∃ t,u=Value.int i t from r);subst e;exact adt P w i t
 | inr x=>obtain ⟨t,e⟩:=(show ∃ t,u=Value.str x t from r);subst e;exact adu P w x t
theorem ac6:∀ {ks:List Key} {us:List Value},Vals (ks.map kV) us->ItemsAre (uh P w) ks us
 | [],_,r=>by rw [db] at r;cases r;exact .nil
 | k::ks,_,r=>by
  rw [aZ] at r
  cases r with
  | cons h t=>exact .cons (aip h) (ac6 t)
abbrev KT(H:Hp):List (List Key × V)->List (List Key × Addr × Value)->Prop:=Paired λp q=>p.1=q.1/\H q.2.1=some (.tup (p.1.map kV))/\RelV p.2 q.2.2
theorem KT.val{H:Hp}{kvs:List (List Key × V)}{xs:List (List Key × Addr × Value)}(r:KT H kvs xs)(k:List Key):RelO (af0 kvs k) ((atKey xs k).map (·.2)):=by
 induction r with
 | nil=>exact True.intro
 | @cons p q ps qs h t ih =>
  obtain ⟨h1,_,h2⟩:=h
  by_cases e:p.1=k
  ·have e':q.1=k:=h1.symm.trans e;have b:atKey (q::qs) k=some q.2:=by simp [atKey,cW,e']
   rw [aa9 e,b];exact h2
  ·have e':¬ q.1=k:=λz=>e (h1.trans z);have b:atKey (q::qs) k=atKey qs k:=by simp [atKey,cW,e']
   rw [aaa e,b];exact ih
theorem KT.repl(r:KT H kvs xs)(k:List Key)(ry:RelV y u) :
  KT H (kvs.map λkv=>if kv.1=k then (kv.1,y) else kv) (xs.map (putAt k u)):=by
 induction r with
 | nil=>exact .nil
 | @cons p q ps qs h t ih =>
  rw [aZ,aZ];refine .cons ?_ ih;obtain ⟨h1,h2,h3⟩:=h;unfold putAt
  by_cases e:p.1=k
  ·rw [aL e,aL (h1.symm.trans e)];exact ⟨h1,h2,ry⟩
  ·rw [aY e,aY (λz=>e (h1.trans z))];exact ⟨h1,h2,h3⟩
theorem KT.put(r:KT H kvs xs)(k:List Key)(hb:H b=some (.tup (k.map kV)))(ry:RelV y u) :
  KT H (putK kvs k y) (storedH xs k b u):=by
 have e:(kvs.any λkv=>decide (kv.1=k))=(atKey xs k).isSome:=by
  rw [af1,(r.val k).isSome_eq,Option.isSome_map]
 unfold putK storedH;rw [e]
 by_cases q:(atKey xs k).isSome=true
 ·rw [aL q,aL q];exact r.repl k ry
 ·rw [aY q,aY q];exact Paired.snoc r ⟨rfl,hb,ry⟩
theorem KT.keeps(r:KT H kvs xs)(ht:∀ b ys,H b=some (.tup ys)->H' b=some (.tup ys)):KT H' kvs xs :=
 Paired.mapP r λ_ _ z=>⟨z.1,ht _ _ z.2.1,z.2.2⟩
section
variable{P:Program}{w:World}{H:Hp}{h:Heap}{a:Addr}
theorem awc(ok:HOk P w H h)(e:Rd H a u):ObjOk P w H h a u:=e.ok ok
theorem amm(ok:HOk P w H h)(e:Rd H a (.dK kvs)):kvs.length<=sizeLine/\(a == sysModules)=false/\∃ vs,KV kvs vs/\h.DictOf (uh P w) a vs :=
 show ObjOk P w H h a (.dK kvs) from awc ok e
theorem awd(ok:HOk P w H h)(e:H a=some (.dK kvs)):kvs.length<=sizeLine/\(a == sysModules)=false/\∃ vs,KV kvs vs/\h.DictOf (uh P w) a vs:=amm ok (.inl e)
theorem af2{ks:List Key}(ok:HOk P w H h)(e:H a=some (.tup (ks.map kV))):(tupleKind (uh P w)).is h ks a:=by
 obtain ⟨_,its,r,o,h1,h2,n,h3⟩:=(show ObjOk P w H h a (.tup (ks.map kV)) from ok a _ e)
 exact ⟨o,its.toArray,n,h1,h2,h3,by simpa using ac6 r⟩
theorem amn(ok:HOk P w H h)(e:Rd H a (.dT kvs)):kvs.length<=sizeLine/\(a == sysModules)=false /\
  ∃ xs,KT H kvs xs/\h.DictOfH (tupleKind (uh P w)) a xs:=by
 obtain ⟨z,y,xs,r,o,es,ep,h1,h2,h3,h4,h5⟩:=(show ObjOk P w H h a (.dT kvs) from awc ok e)
 refine ⟨z,y,xs,r,o,es,ep,h1,h2,h3,h4,λx hx=>?_,h5⟩;have all:∀ {l:List (List Key × V)} {m:List (List Key × Addr × Value)},KT H l m->∀ x∈m,(tupleKind (uh P w)).is h x.1 x.2.1:=by
  intro l m q
  induction q with
  | nil=>intro x hx;exact nomatch hx
  | @cons p q ps qs hq t ih =>
   intro x hx
   rcases aD.mp hx with e | hx
   ·subst e;exact af2 ok (by rw [<-hq.1];exact hq.2.1)
   ·exact ih x hx
 exact all r x hx
theorem b0k(ok:HOk P w H h)(e:H a=some (.dT kvs)):kvs.length<=sizeLine/\(a == sysModules)=false /\
  ∃ xs,KT H kvs xs/\h.DictOfH (tupleKind (uh P w)) a xs:=amn ok (.inl e)
end
def arf(H:Hp)(a:Addr)(y:V)(r:Option V):Prop :=
 (∃ kvs k,Rd H a (.dK kvs)/\y=kV k/\r=af0 kvs k)\/∃ kvs k b,Rd H a (.dT kvs)/\y = .ref b/\H b=some (.tup (k.map kV))/\r=af0 kvs k
def b0m(H:Hp)(a:Addr)(y v:V)(H':Hp):Prop :=
 (∃ kvs k,H a=some (.dK kvs)/\y=kV k/\kvs.length<sizeLine/\H'=upd H a (.dK (putK kvs k v))) \/
 ∃ kvs k b,H a=some (.dT kvs)/\y = .ref b/\H b=some (.tup (k.map kV))/\kvs.length<sizeLine/\H'=upd H a (.dT (putK kvs k v))
section
variable{X:Cx}{pins:List (Addr × Obj)}{σ:St}{H:Hp}{s:Shared}{a:Addr}{y v:V}{u r:Value}{o:Option V}{A:Around}{E:Value->Shared->Prop}
theorem Inv.big(I:Inv X pins σ H s):sysModules<s.heap.objs.size:=by
 have h:mainGlobals<s.heap.objs.size:=(I.mod.glob.keeps I.bk).lt;exact Nat.lt_trans (by decide) h
theorem aiq(hu:A.units+1<cLine)(I:Inv X pins σ H s)(g:arf H a y (some v))(ry:RelV y u)(h:∀ w' s',Inv X pins σ H s'->RelV v w'->Q w' s') :
  wpAny (model X.prog X.w) A (getItem (.ref a) u) Q E s:=by
 rcases g with ⟨kvs,k,e,ey,l⟩ | ⟨kvs,k,b,e,ey,eb,l⟩
 ·subst ey;obtain ⟨z,hd,vs,rel,dd⟩:=amm I.hok e;obtain ⟨w',hw,rw'⟩:=RelO.some_of (v:=v) (o:=valueAt vs k) (by rw [l];exact rel.val k)
  exact wpAny_getItem_of (aip ry) dd.mapOf hw (h w' _ (I.tok _) rw')
 ·subst ey
  cases (show u=Value.ref b from ry)
  obtain ⟨z,hd,xs,rel,dd⟩:=amn I.hok e;obtain ⟨w',hw,rw'⟩:=RelO.some_of (v:=v) (o:=(atKey xs k).map (·.2)) (by rw [l];exact rel.val k)
  obtain ⟨p,hp,hp2⟩:=aO.mp hw;refine wpAny_getItem_heap (g7 hu) (af2 I.hok eb) dd hp ?_;rw [hp2];exact h w' _ (I.tok _) rw'
theorem arh(hu:A.units+1<cLine)(I:Inv X pins σ H s)(g:arf H a y o)(ry:RelV y u)(h:∀ s',Inv X pins σ H s'->Q (.bool (!o.isSome)) s') :
  wpAny (model X.prog X.w) A (compareOp .NotIn u (.ref a)) Q E s:=by
 rcases g with ⟨kvs,k,e,ey,l⟩ | ⟨kvs,k,b,e,ey,eb,l⟩
 ·subst ey;obtain ⟨z,hd,vs,rel,dd⟩:=amm I.hok e;refine wpAny_notIn_of (aip ry) hd dd.mapOf ?_;rw [<-(rel.val k).isSome_eq,<-l];exact h _ (I.tok _)
 ·subst ey
  cases (show u=Value.ref b from ry)
  obtain ⟨z,hd,xs,rel,dd⟩:=amn I.hok e;refine wpAny_notIn_heap (g7 hu) (af2 I.hok eb) hd dd ?_;have q:=(rel.val k).isSome_eq;rw [Option.isSome_map] at q;rw [<-q,<-l];exact h _ (I.tok _)
theorem adx(I:Inv X pins σ H s)(mu:Mut (H a))(hs:Heap.SameBut a s.heap h')(he:∃ q,h'.get? a=some q)(new:ObjOk X.prog X.w (upd H a ob) h' a ob) :
  Inv X pins σ (upd H a ob) { s with heap:=h',toks:=t' } :=
 I.write (x:=a) (e:=a) mu (.inl rfl) (λb q hb z=>(hs.2 b hb).trans z) he new
theorem apg{h':Heap}{kvs:List (Key × V)}(z:kvs.length<=sizeLine)(hd:(a == sysModules)=false)(rel:KV kvs vs)(dd:h'.DictOf (uh P w) a vs) :
  ObjOk P w H' h' a (.dK kvs):=⟨z,hd,vs,rel,dd⟩
theorem air(hu:A.units+1<cLine)(I:Inv X pins σ H s)(g:b0m H a y v H')(ry:RelV y u)(rv:RelV v r)(h:∀ s',Inv X pins σ H' s'->Q () s') :
  wpAny (model X.prog X.w) A (setItem (.ref a) u r) Q E s:=by
 rcases g with ⟨kvs,k,e,ey,l,eH⟩ | ⟨kvs,k,b,e,ey,eb,l,eH⟩
 ·subst ey eH;obtain ⟨z,hd,vs,rel,dd⟩:=awd I.hok e;have hz:vs.length<=sizeLine:=by rw [<-rel.length];exact z
  have hl:(putK kvs k v).length<=sizeLine:=by have:=a4z kvs k v;omega
  refine wpAny_setItem_pairs (hsz:=hz) (aip ry) dd λh' dd' hs=>h _ ?_;have he:∃ q,h'.get? a=some q:=let ⟨q,_,_,hq,_⟩:=dd'; ⟨q,hq⟩;exact adx I (by rw [e];exact True.intro) hs he (apg hl hd (rel.put k rv) dd')
 ·subst ey eH
  cases (show u=Value.ref b from ry)
  obtain ⟨z,hd,xs,rel,dd⟩:=b0k I.hok e;have hz:xs.length<=sizeLine:=by rw [<-gP rel];exact z
  have hl:(putK kvs k v).length<=sizeLine:=by have:=a4z kvs k v;omega
  refine wpAny_setItem_heap (hsz:=hz) (g7 hu) (af2 I.hok eb) dd λh' dd' hs=>h _ ?_;obtain ⟨q,es,ep,hq,h2,h3,h4,_,h5⟩:=dd';refine adx I (by rw [e];exact True.intro) hs ⟨q,hq⟩ ⟨hl,hd,_,(rel.put k eb rv).keeps λc ys ec=>?_,q,es,ep,hq,h2,h3,h4,h5⟩
  rw [jj (azv ec e (λz=>nomatch z))];exact ec
end
def b0n(i:Expr):Prop:=∀ ov iv,subscripted i false ov iv=operate [ov,iv] (getItem ov iv)
theorem ari{prog:Program}{w:World}{A:Around}{E:Value->Shared->Prop}{s:Shared}{env:Env}{value slice:Expr}{pos:Pos}{T id:String}{Q:Value->Shared->Prop}
  (hl:typeLookup (.type T) "__getitem__" = pure (some (.builtin id))) (hs:b0n slice)
  (h:wpAny (model prog w) A (eval value env) (λo s₁=>wpAny (model prog w) A (eval slice env) (λi s₂=>s₂.TypeIs o T/\wpAny (model prog w) A (getItem o i) Q E s₂) E s₁) E s) :
  wpAny (model prog w) A (eval (.Subscript value slice pos) env) Q E s:=by
 refine Subscript_ (bq h (λo s₁ h₁=>bq h₁ (λi s₂ h₂=>?_) λ_ _ x=>x) λ_ _ x=>x);obtain ⟨hT,h₂⟩:=h₂;unfold subscriptTail;refine ag ?_;rw [getitemInPython_of_ne hT.not_modules];refine ag (fS hT hl ?_);have fin:wpAny (model prog w) A (subscripted slice false o i) (λr s₃=>wpAny (model prog w) A (letTemporaryGo value o r>>=λ_=>pure r) Q E s₃) E s₂:=by
  rw [hs o i];exact wpAny_operating (bq h₂ (λr s₃ h₃=>ag (wpAny_letTemporaryGo (aB h₃))) λ_ _ x=>x)
 first
  | exact aB (ag fin)
  | exact ag (aB (ag fin))
  | exact ag fin
theorem ady(I:Inv X pins σ H s)(g:arf H a y o):s.TypeIs (.ref a) "dict":=by
 rcases g with ⟨kvs,k,e,_,_⟩ | ⟨kvs,k,b,e,_,_,_⟩
 ·obtain ⟨_,_,vs,_,dd⟩:=amm I.hok e;exact dd.typeIs
 ·obtain ⟨_,_,xs,_,dd⟩:=amn I.hok e;exact dd.typeIs
def b0o(td ty:TE):TE:=λσ H Q=>td σ H λx H1=>ty σ H1 λy H2=>∃ a v,x = .ref a/\arf H2 a y (some v)/\Q v H2
def b0p(td ty tv:TE):TS:=λD σ H=>tv σ H λv H1=>td σ H1 λx H2=>ty σ H2 λy H3=>∃ a H4,x = .ref a/\b0m H3 a y v H4/\D.nx σ H4
section
variable{X:Cx}{o i e value:Expr}{pos pos' tpos:Pos}{td ty tv:TE}
theorem arj(hu:X.A.units+1<cLine)(ho:PE X o td)(hi:PE X i ty)(hs:b0n i):PE X (.Subscript o i pos) (b0o td ty):=by
 intro pins s σ H Q I h
 refine ari PySem.F.slot_dict_getitem.lookup hs (thn (ho pins s σ H _ I h) λu s1 ⟨x,H1,I1,rx,q1⟩=>thn (hi pins s1 σ H1 _ I1 q1) λiv s2 ⟨y,H2,I2,ry,a,v,ex,g,q2⟩=>?_);subst ex;obtain rfl:u=Value.ref a:=rx;exact ⟨ady I2 g,aiq hu I2 g ry λw' s3 I3 rw'=>⟨v,H2,I3,rw',q2⟩⟩
theorem ark(hu:X.A.units+1<cLine)(ho:PE X o td)(hi:PE X i ty)(hv:PE X value tv)(hs:swapsWith value (some (.Subscript o i pos')) pos.line X.env=pure false) :
  PS X (.Assign [.Subscript o i pos'] value pos) (b0p td ty tv):=by
 intro pins s σ H D I h
 refine wpAny_Assign_Subscript (thn (hv pins s σ H _ I h) λr s1 ⟨v,H1,I1,rv,q1⟩=>thn (ho pins s1 σ H1 _ I1 q1) λu s2 ⟨x,H2,I2,rx,q2⟩=>thn (hi pins s2 σ H2 _ I2 q2) λiv s3 ⟨y,H3,I3,ry,a,H4,ex,g,q3⟩=>?_) hs;subst ex;obtain rfl:u=Value.ref a:=rx;exact air hu I3 g ry rv λs4 I4=>⟨σ,H4,I4,q3⟩
end
theorem af3(h:Heap)(hb:sysModules<h.objs.size):ObjOk P w H (h.push { cls:=.type "dict",data:=.dict #[] }) h.objs.size (.dK []) :=
 ⟨bL _,cG.mpr (eQ (bp hb)),[], .nil,Heap.DictOf.new h⟩
def awe:TE:=λ_ H Q=>∀ p,H p=none->Q (.ref p) (upd H p (.dK []))
section
variable{X:Cx}{pos:Pos}
theorem amo:PE X (.Dict [] [] pos) awe:=λpins s σ H Q I h =>
 wpAny_Dict_empty ⟨.ref s.heap.objs.size,_,I.laid (a:=s.heap.objs.size) (o:=.dK []) (t':=s.toks) (λ_ _ q=>am _ q) (ax _) (af3 s.heap I.big),rfl,h _ (I.hok.fresh (ax _))⟩
end
def ais:List (TE × TE)->St->Hp->(List (V × V)->Hp->Prop)->Prop
 | [],_,H,Q=>Q [] H
 | (tk,tv)::r,σ,H,Q=>tk σ H λx H1=>tv σ H1 λy H2=>ais r σ H2 λps H3=>Q ((x,y)::ps) H3
abbrev VV:List (V × V)->List (Value × Value)->Prop:=Paired λp q=>RelV p.1 q.1/\RelV p.2 q.2
def PPs(X:Cx)(pos:Pos)(keys:List (Option Expr))(values:List Expr)(trs:List (TE × TE)):Prop :=
 ∀ (pins:List (Addr × Obj)) (s:Shared) (σ:St) (H:Hp) (Q:List (V × V)->Hp->Prop),Inv X pins σ H s->ais trs σ H Q->
  wpAny (model X.prog X.w) X.A (evalPairs (pairTrees keys values X.env pos)) (λvs s'=>∃ ps H',Inv X pins σ H' s'/\VV ps vs/\Q ps H') X.xe s
theorem arl:PPs X pos [] [] []:=λpins s σ H Q I h=>pairTrees_nil_walk ⟨[],H,I, .nil,h⟩
theorem amq(hk:PE X k tk)(hv:PE X v tv)(hr:PPs X pos ks vs trs) :
  PPs X pos (some k::ks) (v::vs) ((tk,tv)::trs):=λpins s σ H Q I h =>
 pairTrees_cons_walk (thn (hk pins s σ H _ I h) λu s1 ⟨x,H1,I1,rx,q1⟩=>thn (hv pins s1 σ H1 _ I1 q1) λw2 s2 ⟨y,H2,I2,ry,q2⟩ =>
  thn (hr pins s2 σ H2 _ I2 q2) λws s3 ⟨ps,H3,I3,rel,q3⟩=>⟨(x,y)::ps,H3,I3, .cons ⟨rx,ry⟩ rel,q3⟩)
def ac8(kvs more:List (Key × V)):List (Key × V):=more.foldl (λacc kv=>putK acc kv.1 kv.2) kvs
theorem KV.merge:∀ {more:List (Key × V)} {rs:List (Key × Value)} {kvs:List (Key × V)} {vs:List (Key × Value)},KV more rs->KV kvs vs->KV (ac8 kvs more) (merged vs rs):=by
 intro more rs kvs vs r
 unfold KV at r
 induction r generalizing kvs vs with
 | nil=>intro q;exact q
 | @cons p q ps qs h t ih =>
  intro r0
  have e:KV (putK kvs p.1 p.2) (stored vs q.1 q.2):=by
   have:=r0.put p.1 h.2
   rw [<-h.1];exact this
  exact ih e
theorem a5k:∀ (more kvs:List (Key × V)),(ac8 kvs more).length<=kvs.length+more.length
 | [],kvs=>by show kvs.length<=kvs.length+0;omega
 | p::r,kvs=>by
  have h1:=a5k r (putK kvs p.1 p.2);have h2:=a4z kvs p.1 p.2;show (ac8 (putK kvs p.1 p.2) r).length<=_;rw [ba];omega
theorem a99:∀ {kvs:List (Key × V)} {ws:List (Value × Value)},VV (kvs.map λkv=>(kV kv.1,kv.2)) ws->∃ rs,Carries (uh P w) ws rs/\KV kvs rs
 | [],_,r=>by rw [db] at r;cases r;exact ⟨[],True.intro, .nil⟩
 | p::kvs,_,r=>by
  rw [aZ] at r
  cases r with
  | @cons a b as bs h t =>
   obtain ⟨rs,c,q⟩:=a99 (P:=P) (w:=w) t;obtain ⟨b1,b2⟩:=b;exact ⟨(p.1,b2)::rs,⟨aip h.1,rfl,c⟩, .cons ⟨rfl,h.2⟩ q⟩
def b0q(trs:List (TE × TE)):TE:=λσ H Q=>∀ p,H p=none->ais trs σ (upd H p (.dK [])) λps H2=>H2 p=some (.dK [])/\∃ kvs:List (Key × V),ps=kvs.map (λkv=>(kV kv.1,kv.2))/\kvs.length<=15/\Q (.ref p) (upd H2 p (.dK (ac8 [] kvs)))
theorem arn(h:PPs X pos keys values trs)(hall:keys.all (·.isSome)=true)(hl:keys.length=values.length)(h0:keys≠[])
  (h15:keys.length<=15):PE X (.Dict keys values pos) (b0q trs):=by
 intro pins s σ H Q I q
 have hn:=I.hok.fresh (ax s.heap.objs.size);have I1:=I.laid (a:=s.heap.objs.size) (o:=.dK []) (h':=s.heap.push { cls:=.type "dict",data:=.dict #[] }) (t':=s.toks) (λ_ _ q=>am _ q) (ax _) (af3 s.heap I.big);refine wpAny_Dict_walk (knd:=uh X.prog X.w) hall hl h0 h15 (thn (h pins _ σ _ _ I1 (q _ hn)) λws s2 ⟨ps,H2,I2,rel,e,kvs,ep,lk,q2⟩=>?_);subst ep;obtain ⟨rs,c,rk⟩:=a99 (P:=X.prog) (w:=X.w) rel;obtain ⟨z,hd,vs0,r0,dd⟩:=awd I2.hok e;cases r0
 refine ⟨rs,c,dd,λh' dd' hs=>⟨.ref s.heap.objs.size,_,?_,rfl,q2⟩⟩;have hz:(ac8 [] kvs).length<=sizeLine:=by
  have h1:=a5k kvs [];rw [dW] at h1;rw [dS];omega
 have he:∃ q,h'.get? s.heap.objs.size=some q:=let ⟨q,_,_,hq,_⟩:=dd'; ⟨q,hq⟩;exact adx I2 (by rw [e];exact True.intro) hs he (apg hz hd (rk.merge .nil) dd')
end L2
set_option maxHeartbeats 4000000
namespace L2
open PySem PySem.Spec PyProof.Rows
section
variable{X:Cx}
theorem a1x:OpR X (compareOp .Is) (λx y H Q=>∃ i j,x = .bl i/\y = .bl j/\Q (.bl (i == j)) H):=by
 intro pins s σ H x y v u Q I rx ry h
 obtain ⟨i,j,rfl,rfl,q⟩:=h;cases rx
 cases ry
 exact is_bool (a71 I q rfl)
theorem a7x:OpR X (compareOp .IsNot) (λx y H Q=>∃ i j,x = .bl i/\y = .bl j/\Q (.bl (i != j)) H):=by
 intro pins s σ H x y v u Q I rx ry h
 obtain ⟨i,j,rfl,rfl,q⟩:=h;cases rx
 cases ry
 exact isnot_bool (a71 I q rfl)
theorem aca:OpR X (compareOp .LtE) (λx y H Q=>∃ i j,x = .str i/\y = .str j/\Q (.bl (!decide (j.cps.toList<i.cps.toList))) H):=by
 intro pins s σ H x y v u Q I rx ry h
 obtain ⟨i,j,rfl,rfl,q⟩:=h;obtain ⟨t,rfl⟩:=rx;obtain ⟨t',rfl⟩:=ry;exact PySem.P.le_str (a71 I q rfl)
def a9a{α:Type}(xs:List α)(lo hi:Option Int):List α:=(xs.drop (HT.sIx xs.length 0 lo)).take (HT.sIx xs.length xs.length hi - HT.sIx xs.length 0 lo)
def b0r:V->Option Int->Option Int->Hp->VK->Prop:=λx lo hi H Q=>∃ z,x = .str z/\z.length<=sizeLine/\Q (.str ⟨(a9a z.cps.toList lo hi).toArray⟩) H
theorem awf(lo hi:Option Int)(n:Nat):Builtin.Str.strSliceIndices lo hi 1 n=(List.range (HT.sIx n n hi - HT.sIx n 0 lo)).map λk=>HT.sIx n 0 lo+k:=by
 have e1:Builtin.Str.strSliceIndices lo hi 1 n=sliceRange ((HT.sIx n 0 lo:Nat):Int) ((HT.sIx n n hi:Nat):Int) 1:=by
  unfold Builtin.Str.strSliceIndices;dsimp only
  congr 1
  ·cases lo with
   | none=>simp [HT.sIx]
   | some i=>simp only [HT.sIx,show (1:Int) > 0 by decide,dv];split<;>omega
  ·cases hi with
   | none=>simp [HT.sIx]
   | some i=>simp only [HT.sIx,show (1:Int) > 0 by decide,dv];split<;>omega
 rw [e1];exact sliceRange_one _ _
theorem awg{α:Type}(xs:List α)(a:Nat):∀ k,a+k<=xs.length->((List.range k).map λj=>a+j).filterMap (xs[·]?)=(xs.drop a).take k
 | 0,_=>by simp
 | k+1,h=>by
  rw [dX,bb,List.filterMap_append,awg xs a k (by omega)]
  have hk:a+k<xs.length:=by omega
  rw [List.take_succ]
  congr 1
  simp [List.getElem?_drop,hk]
theorem awh:SlR X b0r:=by
 intro pins s σ H x v vl vu lo hi sl Q I rx hs pl pu h
 obtain ⟨z,rfl,hz,q⟩:=h;obtain ⟨t,rfl⟩:=rx;refine ⟨"str",_,PyProof.Rows.slot_str_getitem.lookup,i9 s z t,?_⟩;have hl:z.cps.toList.length=z.length:=by simp [Str.length]
 have fin:∀ (l u:Option (Int × Tok)),vl=partValue l->vu=partValue u->l.map (·.1)=lo->u.map (·.1)=hi->wpAny (model X.prog X.w) X.A (getItem (.str z t) (.ref sl)) (EP X pins σ Q) X.xe s:=by
  intro l u e1 e2 e3 e4
  subst e1 e2;refine wpAny_getItem_str_slice (l:=l) (u:=u) (st:=none) hs rfl ?_;have hp:slicePicked z l u none=(List.range (HT.sIx z.length z.length hi - HT.sIx z.length 0 lo)).map λk=>HT.sIx z.length 0 lo+k:=by
   unfold slicePicked;rw [e3,e4];exact awf lo hi z.length
  have hb1:HT.sIx z.length z.length hi<=z.length:=HT.aii _ _ (ax _) _;have hb2:HT.sIx z.length 0 lo<=z.length:=HT.aii _ _ (bL _) _;unfold sliceMade
  split
  ·rename_i c;simp only [aX,gL] at c;obtain ⟨_,c⟩:=c;rw [hp,aA,aT] at c;have e:(⟨(a9a z.cps.toList lo hi).toArray⟩:Str)=z:=by
    unfold a9a;rw [hl];have z1:HT.sIx z.length 0 lo=0:=by omega
    have z2:HT.sIx z.length z.length hi=z.length:=by omega
    rw [z1,z2,ia,Nat.sub_zero,bI (by omega)]
   rw [e] at q;exact ⟨.str z,H,I,⟨_,rfl⟩,q⟩
  ·have e:(⟨(a9a z.cps.toList lo hi).toArray⟩:Str)=⟨((slicePicked z l u none).filterMap (z.cps[·]?)).toArray⟩:=by
    rw [hp];unfold a9a;rw [hl]
    by_cases hc:HT.sIx z.length 0 lo<=HT.sIx z.length z.length hi
    ·rw [<-awg z.cps.toList _ _ (by omega)]
     simp only [Array.getElem?_toList]
    ·rw [show HT.sIx z.length z.length hi - HT.sIx z.length 0 lo=0 by omega]
     simp
   rw [e] at q;refine ⟨?_, .str _,H,I.tok _,⟨_,rfl⟩,q⟩;rw [<-e];show (a9a z.cps.toList lo hi).toArray.size<=sizeLine;rw [aI];unfold a9a;rw [bC,bP,hl];omega
 cases pl with
 | none=>cases pu with
  | none=>exact fin none none rfl rfl rfl rfl
  | int j t'=>exact fin none (some (j,t')) rfl rfl rfl rfl
 | int i t'=>cases pu with
  | none=>exact fin (some (i,t')) none rfl rfl rfl rfl
  | int j t''=>exact fin (some (i,t')) (some (j,t'')) rfl rfl rfl rfl
theorem a5a:CallR X (.builtin "isinstance") (λxs H Q=>∃ x T t b,xs=[x, .ty T]/\TyOf X.K H x t/\PySem.W.kitOne X.K t (.type T)=some b/\Q (.bl b) H):=by
 intro pins s σ H xs us Q I r h
 obtain ⟨x,T,t,b,rfl,ty,e,q⟩:=h;obtain ⟨u,w',rfl,rx,rt⟩:=vals2 r;cases rt
 exact aie I rx ty e λtk=>⟨.bl b,H,I.tok tk,rfl,q⟩
theorem acb(bs:List Bool):((List.range bs.length).all λi=>(bs[i]?).getD true)=bs.all id:=by
 have e:(List.range bs.length).map (λi=>(bs[i]?).getD true)=bs:=by
  apply fE (by simp)
  intro i h1 h2
  simp [h2]
 have f:((List.range bs.length).map λi=>(bs[i]?).getD true).all id=bs.all id:=by rw [e]
 rw [<-f,g9];rfl
theorem a7y(hc:X.calm=true):CallR X (.builtin "all") (λxs H Q=>∃ (p:Addr) (bs:List Bool),xs=[.ref p]/\SqL X.K H p (bs.map V.bl)/\Q (.bl (bs.all id)) H):=by
 intro pins s σ H xs us Q I r h
 obtain ⟨p,bs,rfl,hq,q⟩:=h;obtain ⟨u,rfl,rx⟩:=vals1 r;cases rx
 obtain ⟨its,r',pl,hz⟩:=I.list hq;have hl:=r'.length;rw [aA] at hl;have hlt:p<s.heap.objs.size:=by obtain ⟨_,e,_⟩:=pl.isList;exact aH e
 refine call_all_walk (eC pl.isList ?_);refine ⟨s.heap.objs.size,[s.heap.objs.size,p],[s.heap.objs.size],its.toArray.size,_,_,λi=>(bs[i]?).getD true,rfl,Walks.list (A:=X.A.in1) (I.ok.hd hc) _ p (bp hlt) its.toArray,
  ⟨⟨_,aJ _ rfl,rfl,rfl⟩,pl.isList.push _⟩,λi v s' Q' E' hP hQ=>?_,λh' tk hk=>?_⟩
 ·have hP':its[i]? = some v:=by simpa using hP
  have hi:i<bs.length:=by
   have:=(ah.mp hP').1
   omega
  obtain ⟨u,e,ru⟩:=r'.get (i:=i) (x:=.bl bs[i]) (by simp [hi])
  rw [hP'] at e;cases e
  cases ru
  simp only [af hi,cK] at hQ;exact eA hQ
 ·have e:((List.range its.toArray.size).all λi=>(bs[i]?).getD true)=bs.all id:=by
   rw [aI,<-hl];exact acb bs
  rw [e];exact ⟨.bl _,H,I.kept λb x e=>hk b x (λhm=>by rw [ai.mp hm] at e;exact bQ _ (aH e)) (am _ e),rfl,q⟩
def a2t(x:Str):List V:=x.cps.toList.map λc=>V.str ⟨#[c]⟩
theorem agn(h:ItemsOf (SignAt x) acc x.cps.size):Vals (a2t x) acc.toList:=by
 obtain ⟨hs,ha⟩:=h;have key:∀ (cs:List Nat) (us:List Value),us.length=cs.length->(∀ (j:Nat) (v:Value),us[j]? = some v->∃ c u,cs[j]? = some c/\v = .str ⟨#[c]⟩ u)->Vals (cs.map λc=>V.str ⟨#[c]⟩) us:=by
  intro cs
  induction cs with
  | nil=>intro us hl _;cases us with | nil=>exact .nil | cons _ _=>simp at hl
  | cons c cs ih =>
   intro us hl hp
   cases us with
   | nil=>simp at hl
   | cons u us =>
    refine .cons ?_ (ih us (by simpa using hl) λj v e=>hp (j+1) v (by simpa using e))
    obtain ⟨c',t,e1,e2⟩:=hp 0 u rfl;simp at e1;subst e1;exact ⟨t,e2⟩
 refine key _ _ (by simp [hs]) λj v e=>?_
 obtain ⟨c,u,e1,e2⟩:=ha j v (by simpa using e)
 exact ⟨c,u,by simpa using e1,e2⟩
theorem uw(hc:X.calm=true):CallR X (.type "tuple") (λxs H Q=>∃ z,xs=[.str z]/\z.length<=sizeLine/\∀ l,H l=none->Q (.ref l) (upd H l (.tup (a2t z)))):=by
 intro pins s σ H xs us Q I r h
 obtain ⟨z,rfl,hz,q⟩:=h;obtain ⟨u,rfl,t,rfl⟩:=vals1 r;refine PySem.call_tuple_str (I.ok.hd hc) z t (λh' tk acc kp hi=>?_) (by simpa [Str.length] using hz)
 have I1:Inv X pins σ H { s with heap:=h',toks:=tk }:=I.kept kp
 have I2:Inv X pins σ (upd H h'.objs.size (.tup (a2t z))) { s with heap:=h'.push { cls:=.type "tuple",data:=.seq acc },toks:=tk } :=
  I1.laid (t':=tk) (λb o e=>am _ e) (ax _) (show ObjOk X.prog X.w _ _ _ (.tup (a2t z)) from ⟨by simpa [a2t,Str.length] using hz,acc.toList,agn hi,by simpa using IsTup.new h' acc⟩)
 exact ⟨.ref h'.objs.size,_,I2,rfl,q _ (I1.hok.fresh (ax _))⟩
end
def Its(x:Str):It:=⟨λi _=>i<x.cps.size,λi H v H'=>H'=H/\∃ c,x.cps.toList[i]? = some c/\v = .str ⟨#[c]⟩,λi _=>i=x.cps.size⟩
theorem af4{P:Program}{w:World}{K:PySem.W.Frag}{tg:Expr}(it:Addr)(x:Str)(t:Tok)(ty:String)
  (hty:["enumerate", "zip", "dict_itemiterator", "dict_reverseitemiterator", "odict_iterator", "itertools.zip_longest", "itertools.pairwise"].contains ty=false)
  (W:∀ A':Around,A'.handled=none->Walks P w A' it [it] [it] x.cps.size (SignAt x) (λi h=>h.IsStrIter it ty x t i))
  (slf:∀ (A:Around) (i:Nat) (s:Shared) (Q:Value->Shared->Prop) (E:Value->Shared->Prop),s.heap.IsStrIter it ty x t i->Q (.ref it) s->wpAny (model P w) A (pyIter (.ref it)) Q E s) :
  Turn P w K tg (Its x) [it] it (λi h=>h.IsStrIter it ty x t i) where
 mem:=by simp
 obj:=λi h st b hb=>by
  have e:b=it:=by simpa using hb
  subst e;obtain ⟨o,e,c,d⟩:=st;exact ⟨o,e,λv z=>by rw [d] at z;cases z⟩
 keep:=λi h h' st k=>by
  obtain ⟨o,e,c,d⟩:=st;exact ⟨o,k it (by simp) o e,c,d⟩
 item:=by
  intro X hP hw hK hc i pins s σ H E I hf st hg
  subst hP hw hK;obtain ⟨f0,f1,f2,f3,f4,f5⟩:=hf it (by simp)
  refine (W X.A (I.ok.hd hc)).item i s _ _ hg st λv h' tk hv st' kk=>?_;obtain ⟨c,u,hx,rfl⟩:=hv;have I1:Inv X pins σ H { s with heap:=h',toks:=tk }:=I.turned (λb o hb e=>kk b o (by simpa using hb) e) f0 f1 f3 f4 f5
  obtain ⟨o,e,oc,d⟩:=id st';exact ⟨_,rfl,ai3 (s:={ s with heap:=h',toks:=tk }) e oc d hty ⟨.str ⟨#[c]⟩,H,I1,⟨_,rfl⟩,⟨rfl,c,by simpa using hx,rfl⟩,st',λb hb=>(hf b hb).1⟩⟩
 done:=by
  intro X hP hw hK hc i pins s σ H E I hf st hg
  subst hP hw hK;obtain ⟨f0,f1,f2,f3,f4,f5⟩:=hf it (by simp)
  have hg':i=x.cps.size:=hg;subst hg';exact (W X.A (I.ok.hd hc)).done s _ _ st λh' tk eb=>⟨rfl,I.turned (λb o hb e=>eb b o (by simpa using hb) e) f0 f1 f3 f4 f5⟩
 self:=slf
section
variable{X:Cx}{tg:Expr}
def b3p(tl:TE):TI:=λσ H R=>tl σ H λx H1=>∃ z,x = .str z/\R (Its z) H1
theorem aph{l:Expr}{tl:TE}(hl:PE X l tl):PI X tg l (b3p tl):=by
 intro pins s σ H R I h
 refine thn (hl pins s σ H _ I h) λv s1 ⟨x,H1,I1,r1,q1⟩=>?_;obtain ⟨z,e,q⟩:=q1;subst e;obtain ⟨t,rfl⟩:=r1;have fp:∀ b∈[s1.heap.objs.size],FpOk X pins H1 b:=λb hb=>by
  have e:b=s1.heap.objs.size:=by simpa using hb
  subst e;exact I1.fpOk (ax _) (I1.hok.fresh (ax _))
 cases ha:z.cps.all (· < 128)
 ·exact wpAny_pyIter_wide ha ⟨s1.heap.objs.size,[s1.heap.objs.size],_,_,H1,rfl,I1.kept (t':=s1.toks) λb o e=>am _ e,
   af4 _ z t "str_iterator" (by decide) (λA' hA=>Walks.strWide hA _ z t) (λ_ _ _ _ _ st h=>wpAny_pyIter_striter_wide st h),⟨_,aJ _ rfl,rfl,rfl⟩,fp,q⟩
 ·exact wpAny_pyIter_ascii ha ⟨s1.heap.objs.size,[s1.heap.objs.size],_,_,H1,rfl,I1.kept (t':=s1.toks) λb o e=>am _ e,
   af4 _ z t "str_ascii_iterator" (by decide) (λA' hA=>Walks.strAscii hA _ z t) (λ_ _ _ _ _ st h=>wpAny_pyIter_striter_ascii st h),⟨_,aJ _ rfl,rfl,rfl⟩,fp,q⟩
end
def cxC(X:Cx)(N:List Str)(scope:Scope)(cl:List (Str × Addr))(C:Addr)(fp:List Addr)(s:Shared)(H:Hp):Cx where
 prog:=X.prog
 w:=X.w
 K:=X.K
 mg:=X.mg
 base:=X.base
 A:=X.A
 N:=N
 s₀:=s
 H₀:=H
 env:=compEnvC scope cl C X.env
 outer:=X.stack
 stack:=X.stack
 ex:=fp
 fn:=λ_=>false
 calm:=X.calm
 pn:=[]
 xe:=λ_ _=>False
structure CSc (X:Cx) (scope:Scope) (cl:List (Str × Addr)) (ts fr:List Str) (ix:List Nat):Prop where
 clos:closureFor scope X.env=pure cl
 kind:scope.kind = .function
 nocell:∀ y∈scope.names,y.2≠.cell
 names:∀ y∈scope.names,y.2 = .local->scope.names.lookup y.1=some .local
 sub:∀ y c,cl.lookup y=some c->X.env.cells.lookup y=some c
 has:∀ y,((relabel scope X.env).names.lookup y=some .cell\/(relabel scope X.env).names.lookup y=some .free)->∃ c,cl.lookup y=some c
 nofn:∀ y∈ts,(relabel scope X.env).names.lookup y=some .local
 len:ix.length=fr.length
 vis:∀ (j:Nat) (y:Str),fr[j]? = some y->∃ i:Nat,ix[j]? = some i/\X.N[i]? = some y/\(X.env.kindOf y=some .cell\/X.env.kindOf y=some .free)/\((relabel scope X.env).names.lookup y=some .cell\/(relabel scope X.env).names.lookup y=some .free)
def Ext(a b:St):Prop:=b.length=a.length/\∀ (i:Nat) v,a[i]? = some (some v)->b[i]? = some (some v)
def ql(nt:Nat)(ix:List Nat)(σ:St):St:=List.replicate nt none++ix.map λi=>(σ[i]?).join
def awi(J:It)(s0:St)(g:TG)(te:TE)(Q:VK)(H1:Hp):Prop:=∃ W:Nat->Nat->List V->Hp->Prop,(∃ m,W 0 m [] H1)/\∀ i m ys H,W i m ys H->
 (J.stop i H/\∀ p,H p=none->Q (.ref p) (upd H p (.lst ys))) \/
 (J.go i H/\ys.length<sizeLine/\∀ x H',J.yld i H x H'->g x s0 H' λσ2 H2=>Ext s0 σ2/\te σ2 H2 λy H3=>∃ m',m'<m/\W (i+1) m' (ys++[y]) H3)
def amr(wi:TI)(s0:St->St)(g:TG)(te:TE):TE:=λσ H Q=>wi σ H λJ H1=>awi J (s0 σ) g te Q H1
theorem ait(J:Nat->Shared->Prop)
  (step:∀ m z,J m z->wpAny (model prog w) A (pyNext it) (λgot z1=>match got with
   | none=>R (.ok .next) z1
   | some v=>wpAny (model prog w) A (letOwnedTupleGo target it v) (λ_ z2=>wpAny (model prog w) A (assign target env v) (λ_ z3=>wpAny (model prog w) A (eval elt env) (λx z4 =>
     wpAny (model prog w) A (call (.builtin "list.append") [acc,x]) (λ_ z5=>∃ m',m'<m/\J m' z5) (λ_ _=>False) z4)
     (λ_ _=>False) z3) (λ_ _=>False) z2) (λ_ _=>False) z1) (λ_ _=>False) z)
  (m:Nat) (j0:J m s):codeAny (model prog w) A (.compLoop (.ListComp elt [⟨target,iter,[],0⟩] scope pos) 0 it acc env) R s:=by
 refine i3 rfl J (λm z hj=>(io ?_:wpAny _ _ ((compTurn (.ListComp elt [⟨target,iter,[],0⟩] scope pos) 0 it acc env).onRaise _) _ _ z)) m j0;rw [compTurn_list1];refine ag (cI (ag (bq (step m z hj) (λgot z1 h1=>?_) λ_ _ no=>no.elim)))
 match got,h1 with
 | none,h1=>exact aB h1
 | some v,h1 =>
  refine ag (bq h1 (λ_ z2 h2=>ag (bq h2 (λ_ z3 h3=>?_) λ_ _ no=>no.elim)) λ_ _ no=>no.elim);refine ag (ag (bq h3 (λx z4 h4=>?_) λ_ _ no=>no.elim));exact ag (bq h4 (λ_ z5 h5=>aB (aB ⟨rfl,h5⟩)) λ_ _ no=>no.elim)
section
variable{X:Cx}
theorem a7z(S:CSc X scope cl ts fr ix)(I:Inv X pins σ H s)
  (hf:∀ b∈fp,FpOk X pins H b) (hb:∀ b∈fp,b<s.heap.objs.size) (hC:s.heap.objs.size<=C):(cxC X (ts++fr) scope cl C fp s H).Ok where
 mod:=I.ok.mod
 kind:=S.kind
 glob:=I.ok.glob
 blt:=I.ok.blt
 above:=hC
 inj:=λx y c h1 h2=>I.ok.inj x y c (S.sub x c h1) (S.sub y c h2)
 has:=S.has
 cab:=λ_ _ z=>nomatch z
 hd:=I.ok.hd
 frames:=I.ok.frames
 stk:=.inl rfl
 exf:=λb hb'=>⟨bp (aR (hb b hb') hC),λx c e=>(hf b hb').2.2.2.2.1 x c (S.sub x c e)⟩
 bs:=λb o e=>I.bs b o e
 bsz:=cH I.ok.bsz I.sz
 noex:=λb o e hb'=>by
  rcases (hf b hb').2.2.2.1 with z | z
  ·exact I.ok.noex b o e z
  ·exact absurd (aR (aH e) (cH I.ok.bsz z)) (bQ _)
 exfs:=λb hb' z=>by
  rcases aD.mp (I.stkSub b z) with e | e
  ·exact (hf b hb').2.1 e
  ·exact (hf b hb').2.2.1 e
 funs:=I.stack
 frf:=λb hb'=>I.stkFree b hb'
theorem ago:(ql nt ix σ).length=nt+ix.length:=by
 unfold ql;rw [aw,dU,aA]
theorem adz{s4:Shared}(S:CSc X scope cl ts fr ix)(I:Inv X pins σ H s)
  (hf:∀ b∈fp,FpOk X pins H b) (hb:∀ b∈fp,b<s.heap.objs.size) (hC:s.heap.objs.size<=C)
  (k:∀ b o,s.heap.get? b=some o->s4.heap.get? b=some o) (hn:s4.heap.Ns C m) (ho:s4.os=s.os) (hg:s4.gens=s.gens) :
  Inv (cxC X (ts++fr) scope cl C fp s H) [] (ql ts.length ix σ) H s4 where
 ok:=a7z S I hf hb hC
 os:=ho
 bare:=by rw [hg];exact I.bare
 base:=Un.kept k
 loc:=by
  refine ⟨m,hn,λi x v e1 e2 e3=>?_⟩;have e1:(ts++fr)[i]? = some x:=e1
  by_cases hi:i<ts.length
  ·unfold ql at e2;rw [aC (by simpa using hi),da,aL hi] at e2
   cases e2
  ·rw [aF (by omega)] at e1
   unfold ql at e2;rw [aF (by simpa using hi),dU,aE] at e2
   obtain ⟨j,h1,h2,h3,h4⟩:=S.vis _ x e1;rw [h1] at e2;have e2':(σ[j]?).join=some v:=bM e2;have e5:σ[j]? = some (some v):=by
    cases q:σ[j]? with
    | none=>rw [q] at e2';cases e2'
    | some o=>rw [q] at e2';simp at e2';rw [e2']
   obtain ⟨m0,_,hl⟩:=I.loc;have vis:Vis X.env.scope x:=h3.elim (λz=>.inr (.inl z)) λz=>.inr (.inr z);obtain ⟨u,ru,l⟩:=hl j x v h2 e5 vis;refine ⟨u,ru,?_⟩
   rcases l with ⟨z,_⟩ | ⟨_,c,hc,hcell⟩
   ·rcases h3 with h3 | h3<;>rw [h3] at z<;>cases z
   ·obtain ⟨c',hc'⟩:=S.has x h4;have e6:c'=c:=bM ((S.sub x c' hc').symm.trans hc);subst e6;obtain ⟨o,ho,hd⟩:=hcell;exact .inr ⟨h4,c',hc',o,k _ _ ho,hd⟩
 cell:=λx c e=>by
  obtain ⟨v,o,ho,hd⟩:=I.cell x c (S.sub x c e);exact ⟨v,o,k _ _ ho,hd⟩
 free:=I.hok.fresh hC
 freeC:=λx c e=>I.freeC x c (S.sub x c e)
 pin:=λp hp=>absurd (show p∈([]:List (Addr × Obj)) from hp) (by simp)
 hok:=I.hok.kept k
 len:=by
  rw [ago];show _=(ts++fr).length;rw [aw,S.len]
theorem Inv.unpinned'(I:Inv X pins σ H s):Inv X [] σ H s:=I.pins_of λ_ hp=>nomatch hp
theorem comp_back{its:List Value}(I:Inv X pins σ H s)
  (hf:∀ b∈fp,FpOk X pins H b) (hC:s.heap.objs.size<=C) (hacc:s.heap.objs.size<=acc) (hCa:C≠acc)
  (J:Inv (cxC X N scope cl C fp s H) [] σ' H' s') (hn:H' acc=none) (ha:s'.heap.get? acc=some { cls:=.type "list",data:=.seq its.toArray n }) (rv:Vals ys its) (hz:ys.length<=sizeLine) (sb:Heap.SameBut C s'.heap h') :
  Inv X pins σ (upd H' acc (.lst ys)) { s' with heap:=h' }:=by
 have k:∀ b o,b≠C->s'.heap.get? b=some o->h'.get? b=some o:=λb o hb e=>sb.extBut b o hb e;have old:∀ b o,s.heap.get? b=some o->b≠C/\b≠acc:=λb o e=>⟨bp (aR (aH e) hC),bp (aR (aH e) hacc)⟩;have u0:Un (frs X.stack) fp H H' s.heap s'.heap:=J.base;have fC:H' C=none:=J.free;have u:Un (frs X.stack) fp H (upd H' acc (.lst ys)) s.heap h':=by
  refine ⟨λb o e n' hb hx=>k b o (old b o e).1 (u0.keep b o e n' hb hx),λb o e n' hb hx=>?_,λb o e n' hx=>?_,λb o e hx=>?_,λb xs e=>?_,λb o v e=>?_,λb ps e=>?_⟩
  ·obtain ⟨sl,e1⟩:=u0.slot b o e n' hb hx;exact ⟨sl,k b _ (old b o e).1 e1⟩
  ·rw [jj (old b o e).2];exact u0.free b o e n' hx
  ·obtain ⟨o',e1⟩:=u0.there b o e hx;exact ⟨o',k b _ (old b o e).1 e1⟩
  ·rw [jj (jf (u0.tups b xs e) hn)];exact u0.tups b xs e
  ·rw [jj (jf (u0.frzs b o v e) hn)];exact u0.frzs b o v e
  ·obtain ⟨more,e1⟩:=u0.tbls b ps e;exact ⟨more,by rw [jj (jf e1 hn)];exact e1⟩
 have hok:HOk X.prog X.w (upd H' acc (.lst ys)) h':=λb o e=>by
  by_cases hb:b=acc
  ·subst hb;rw [qd] at e;cases e
   exact ⟨hz,its,n,rv,k _ _ (eQ hCa) ha⟩
  ·rw [jj hb] at e;refine (J.hok b o e).stay (λc v hc q=>k c v ?_ q) (λc q=>by rw [jj (jf q hn)];exact q) λc xs q=>by rw [jj (jf q hn)];exact q
   rcases hc with z | z
   ·rw [z];exact jf e fC
   ·exact jf z fC
 have J':=I.call (g':=s'.gens) (t':=s'.toks) (d':=s'.drawn) (ch:=fp) u hok J.bare λb hb=>⟨(hf b hb).2.2.2.1,(hf b hb).2.1,(hf b hb).2.2.2.2.1,(hf b hb).2.2.2.2.2⟩;have eo:s'.os=s.os:=J.os;obtain ⟨hp,g,d,t,o⟩:=s';have eo':o=s.os:=eo;subst eo';exact J'
def aab(X:Cx)(pins:List (Addr × Obj))(σ:St)(use:Option (Value->Sem Unit))(Q:VK)(Qf:Value->Shared->Prop):Prop :=
 ∀ (acc C:Addr) (s6:Shared) (H6:Hp) (m6:Str->Option Value),s6.heap.Ns C m6->FpOk X pins H6 C->(∀ h',Heap.SameBut C s6.heap h'->Inv X pins σ H6 { s6 with heap:=h' })->Q (.ref acc) H6->
  compPost (model X.prog X.w) X.A X.xe use Qf (.ref acc) C (.ok .next) s6
theorem aac:aab X pins σ none Q (EP X pins σ Q):=λacc C s6 H6 m6 hn _ k q=>⟨m6,hn,λh' sb=>⟨.ref acc,H6,k h' sb,rfl,q⟩⟩
theorem af5{D:Ends}(hN:X.N.Nodup)(hi:X.N[i]? = some x)(hx:Loc X.env.scope x)(hf:X.fn x=true\/X.env.scope.names.lookup x=some .local) :
  aab X pins σ (some (assign (.Name x pos') X.env)) (λv H1=>a6h i v σ H1 D.nx) (λ_ s'=>SP X pins D .next s'):=by
 intro acc C s6 H6 m6 hn fp k q
 obtain ⟨f1,f2,f3,f4,f5,f6⟩:=fp;have I6:Inv X pins σ H6 s6:=k s6.heap (Heap.SameBut.refl _ _);refine fm (abv (v:=.ref acc) I6 hN hi hx rfl (λs' I' ⟨a,sb,ha⟩=>⟨m6,hn.sameBut sb ?_,λh' sb'=>⟨_,H6,I'.turned (t':=s'.toks) (it:=C) (λb o hb e=>sb'.extBut b o hb e) f1 f2 f4 f5 f6,q⟩⟩) hf)
 rcases ha with ha | ha
 ·rw [ha];exact f2
 ·exact λz=>f5 x a ha z.symm
theorem acd(hc:X.calm=true)(S:CSc X scope cl ts fr ix)(hi:PI X tg iter wi)
  (hg:∀ C fp s H,PG (cxC X (ts++fr) scope cl C fp s H) tg g) (he:∀ C fp s H,PE (cxC X (ts++fr) scope cl C fp s H) elt te) (hs:∀ x,foldedSetIterable iter X.env x=pure x)
  (use:Option (Value->Sem Unit)) (I:Inv X pins σ H s) (h:amr wi (ql ts.length ix) g te σ H Q) (fin:aab X pins σ use Q Qf) :
  wpAny (model X.prog X.w) X.A (comprehension (.ListComp elt [⟨tg,iter,[],0⟩] scope pos) scope X.env ppos (newList []) false (eval iter X.env) use) Qf X.xe s:=by
 refine eS (use:=use) rfl hs S.clos S.kind S.names (thn (hi pins s σ H _ I h) λv s1 h1=>thn h1 λitv s2 h2=>?_);obtain ⟨it,fp,tn,J,H2,e,I2,T,st2,f2,W,⟨m0,w0⟩,turn⟩:=h2;subst e;have hob:∀ b∈fp,b<s2.heap.objs.size:=λb hb=>let ⟨o,e,_⟩:=T.obj _ _ st2 b hb;aH e;refine cn (fI S.nocell (by intro y hy;simp at hy) (λh4 hns4 hsb4=>?_) S.kind)
 dsimp only at hns4 hsb4 ⊢
 generalize hH2:s2.heap.push { cls:=.type "list",dict:=none,data:=.seq ([]:List Value).toArray }=G at hns4 hsb4 ⊢
 have hCs:G.objs.size=s2.heap.objs.size+1:=by rw [<-hH2,cC]
 have hCle:s2.heap.objs.size<=G.objs.size:=by omega
 have hne:G.objs.size≠s2.heap.objs.size:=by omega
 have old:∀ b o,s2.heap.get? b=some o->h4.get? b=some o:=λb o e=>by
  have hlt:=aH e;exact hsb4.extBut b o (bp (aR hlt hCle)) (am _ (hH2 ▸ am _ e))
 have hacc:h4.get? s2.heap.objs.size=some { cls:=.type "list",data:=.seq ([]:List Value).toArray 0 } :=
  hsb4.extBut _ _ (eQ hne) (am _ (hH2 ▸ aJ _ rfl))
 have K0:Inv (cxC X (ts++fr) scope cl G.objs.size fp s2 H2) [] (ql ts.length ix σ) H2 { s2 with heap:=h4,toks:=s2.toks+([]:List (Str × Value)).length } :=
  adz S I2 f2 hob hCle old hns4 rfl rfl
 have st4:tn 0 h4:=T.keep _ _ _ st2 λb _ o e=>old b o e;have accF:s2.heap.objs.size ∉ fp:=λz=>bQ _ (hob _ z);have stat:∀ {H':Hp},(∀ b∈fp,H' b=none)->∀ b∈fp,FpOk (cxC X (ts++fr) scope cl G.objs.size fp s2 H2) [] H' b:=λhn b hb =>
  ⟨hn b hb,λz=>by have h1:=hob b hb;have z':b=G.objs.size:=z;exact bp (aR h1 hCle) z',λz=>(a7z S I2 f2 hob hCle).exfs b hb z, .inl hb,λx c e=>(f2 b hb).2.2.2.2.1 x c (S.sub x c e),λp hp=>absurd (show p∈([]:List (Addr × Obj)) from hp) (by simp)⟩
 have statA:∀ {H':Hp},H' s2.heap.objs.size=none->FpOk (cxC X (ts++fr) scope cl G.objs.size fp s2 H2) [] H' s2.heap.objs.size:=λhn =>
  ⟨hn,λz=>hne (show G.objs.size=s2.heap.objs.size from z.symm),λz=>by
   obtain ⟨_,o,ho,_⟩:=(a7z S I2 f2 hob hCle).funs.mem z;exact bQ _ (aH ho), .inr (ax _),λx c e z=>by
   obtain ⟨v,o,ho,_⟩:=I2.cell x c (S.sub x c e);rw [z] at ho;exact bQ _ (aH ho),λp hp=>absurd (show p∈([]:List (Addr × Obj)) from hp) (by simp)⟩
 have loop:∀ s4:Shared,s4={ s2 with heap:=h4,toks:=s2.toks+([]:List (Str × Value)).length }->
   codeAny (model X.prog X.w) X.A (.compLoop (.ListComp elt [⟨tg,iter,[],0⟩] scope pos) 0 (.ref it) (.ref s2.heap.objs.size) (compEnvC scope cl G.objs.size X.env))
    (compPost (model X.prog X.w) X.A X.xe use Qf (.ref s2.heap.objs.size) G.objs.size) s4:=by
  rintro s4 rfl
  refine ait (λn s'=>∃ i σ' H' ys its k,Inv (cxC X (ts++fr) scope cl G.objs.size fp s2 H2) [] σ' H' s'/\Ext (ql ts.length ix σ) σ'/\tn i s'.heap/\(∀ b∈fp,H' b=none)/\H' s2.heap.objs.size=none /\
   s'.heap.get? s2.heap.objs.size=some { cls:=.type "list",data:=.seq its.toArray k }/\Vals ys its/\ys.length<=sizeLine/\W i n ys H') ?_ m0
   ⟨0,_,H2,[],[],0,K0,⟨rfl,λ_ _ z=>z⟩,st4,λb hb=>(f2 b hb).1,I2.hok.fresh (ax _),hacc, .nil,bL _,w0⟩
  rintro n s5 ⟨i,σ5,H5,ys,its,k5,I5,x5,st5,fr5,fa5,ac5,rv5,hz5,w5⟩
  have I5':Inv (cxC X (ts++fr) scope cl G.objs.size fp s2 H2) [] (ql ts.length ix σ) H5 s5:=I5.weak x5.1.symm x5.2
  rcases turn i n ys H5 w5 with ⟨stop,qn⟩ | ⟨go,hlt,step⟩
  ·refine thn (T.done (cxC X (ts++fr) scope cl G.objs.size fp s2 H2) rfl rfl rfl hc i [(s2.heap.objs.size,{ cls:=.type "list",data:=.seq its.toArray k5 })] s5 _ H5 _ (I5'.pins_of λp hp=>?_) (λb hb=>?_) st5 stop) λr s6 ⟨hr,I6⟩=>?_
   ·have e:p=(s2.heap.objs.size,{ cls:=.type "list",data:=.seq its.toArray k5 }):=by simpa using hp
    subst e;obtain ⟨a0,a1,a2,_⟩:=statA fa5;exact ⟨ac5,a0,a1,a2,λv z=>by cases z⟩
   ·obtain ⟨b0,b1,b2,b3,b4,b5⟩:=stat fr5 b hb;refine ⟨b0,b1,b2,b3,b4,λp hp=>?_⟩;have e:p=(s2.heap.objs.size,{ cls:=.type "list",data:=.seq its.toArray k5 }):=by
     have hp':p∈[(s2.heap.objs.size,_)]:=hp;simpa using hp'
    subst e;exact λz=>accF (by have z':s2.heap.objs.size=b:=z;rw [z'];exact hb)
   ·subst hr;have e6:=(I6.pin (s2.heap.objs.size,{ cls:=.type "list",data:=.seq its.toArray k5 }) (by show _∈[]++[_];simp)).1
    obtain ⟨m6,hn6,_⟩:=I6.loc;exact fin _ _ s6 _ m6 hn6 (I2.fpOk hCle (by rw [jj hne];exact I6.free)) (λh' sb=>comp_back I2 f2 hCle (ax _) hne I6.unpinned' fa5 e6 rv5 hz5 sb) (qn _ fa5)
  ·refine thn (T.item (cxC X (ts++fr) scope cl G.objs.size fp s2 H2) rfl rfl rfl hc i [(s2.heap.objs.size,{ cls:=.type "list",data:=.seq its.toArray k5 })] s5 _ H5 _ (I5'.pins_of λp hp=>?_) (λb hb=>?_) st5 go) λr s6 ⟨u,hr,h6⟩=>?_
   ·have e:p=(s2.heap.objs.size,{ cls:=.type "list",data:=.seq its.toArray k5 }):=by simpa using hp
    subst e;obtain ⟨a0,a1,a2,_⟩:=statA fa5;exact ⟨ac5,a0,a1,a2,λv z=>by cases z⟩
   ·obtain ⟨b0,b1,b2,b3,b4,b5⟩:=stat fr5 b hb;refine ⟨b0,b1,b2,b3,b4,λp hp=>?_⟩;have e:p=(s2.heap.objs.size,{ cls:=.type "list",data:=.seq its.toArray k5 }):=by
     have hp':p∈[(s2.heap.objs.size,_)]:=hp;simpa using hp'
    subst e;exact λz=>accF (by have z':s2.heap.objs.size=b:=z;rw [z'];exact hb)
   ·subst hr;refine thn h6 λ_ s7 ⟨x,H7,I7,r7,y7,st7,fr7⟩=>?_;have fa7:H7 s2.heap.objs.size=none:=(I7.pin (s2.heap.objs.size,{ cls:=.type "list",data:=.seq its.toArray k5 }) (by show _∈[]++[_];simp)).2.1
    have ac7:=(I7.pin (s2.heap.objs.size,{ cls:=.type "list",data:=.seq its.toArray k5 }) (by show _∈[]++[_];simp)).1
    have I7':Inv (cxC X (ts++fr) scope cl G.objs.size fp s2 H2) ([]++zq (s2.heap.objs.size::fp) s7.heap) (ql ts.length ix σ) H7 s7:=by
     refine Inv.pinned I7.unpinned' (λb hb=>?_) λb hb=>?_
     ·rcases aD.mp hb with e | e
      ·subst e;exact statA fa7
      ·exact stat fr7 b e
     ·rcases aD.mp hb with e | e
      ·subst e;exact ⟨_,ac7,λv z=>by cases z⟩
      ·exact T.obj _ _ st7 b e
    refine thn (hg G.objs.size fp s2 H2 _ s7 _ H7 x u _ I7' r7 (step x H7 y7)) λ_ s8 ⟨σ8,H8,I8,x8,q8⟩=>?_;refine thn (he G.objs.size fp s2 H2 _ s8 _ H8 _ I8 q8) λyv s9 ⟨y,H9,I9,r9,m',hm',w9⟩=>?_;obtain ⟨ac9,fa9,_⟩:=I9.pin (s2.heap.objs.size,{ cls:=.type "list",data:=.seq its.toArray k5 }) (by show _∈[]++([]++_);simp;exact my aK ac7)
    have keep9:∀ b∈fp,∀ o,s7.heap.get? b=some o->s9.heap.get? b=some o/\H9 b=none:=λb hb o e=>by
     obtain ⟨z1,z2,_⟩:=I9.pin (b,o) (by show _∈[]++([]++_);simp;exact my (aG _ hb) e)
     exact ⟨z1,z2⟩
    have hl:=rv5.length;refine fv bK ⟨_,ac9,rfl⟩ fR (fH _ _) (gK s2.heap.objs.size its.toArray k5 yv (by rw [aI];omega)) ⟨ac9,?_⟩
    have q:=hJ ac9 (λa=>a.push yv);have qo:∀ b o,b≠s2.heap.objs.size->s9.heap.get? b=some o->(s9.heap.update s2.heap.objs.size (Obj.mapSeq (λa=>a.push yv))).get? b=some o:=λb o hb e=>(cL s9.heap _ (eQ hb)).trans e;have q':∃ k,(s9.heap.update s2.heap.objs.size (Obj.mapSeq (λa=>a.push yv))).get? s2.heap.objs.size=some { cls:=.type "list",data:=.seq (its++[yv]).toArray k }:=⟨_,by rw [q];simp;rfl⟩
    obtain ⟨k9,q9⟩:=q';obtain ⟨a0,a1,a2,a3,a4,a5⟩:=statA (show H9 s2.heap.objs.size=none from fa9)
    refine ⟨m',hm',i+1,σ8,H9,ys++[y],its++[yv],k9,(I9.unpinned').turned qo a0 a1 a3 a4 a5,x8,?_,?_,fa9,q9,rv5.append (.cons r9 .nil),?_,w9⟩
    ·refine T.keep _ _ _ st7 λb hb o e=>qo b o (λz=>accF (z ▸ hb)) (keep9 b hb o e).1
    ·intro b hb
     obtain ⟨o,e,_⟩:=T.obj _ _ st7 b hb;exact (keep9 b hb o e).2
    ·rw [aw,ay];omega
 exact codeAny_compStart_list (loop _ rfl) (T.self _ 0 _ _ _ st4 (loop _ rfl))
theorem ams(hc:X.calm=true)(S:CSc X scope cl ts fr ix)(hi:PI X tg iter wi)
  (hg:∀ C fp s H,PG (cxC X (ts++fr) scope cl C fp s H) tg g) (he:∀ C fp s H,PE (cxC X (ts++fr) scope cl C fp s H) elt te)
  (hs:∀ x,foldedSetIterable iter X.env x=pure x:=by intro _;rfl) :
  PE X (.ListComp elt [⟨tg,iter,[],0⟩] scope pos) (amr wi (ql ts.length ix) g te):=by
 intro pins s σ H Q I h
 rw [eval_ListComp];exact acd hc S hi hg he hs none I h aac
theorem af6{spos:Pos}(hN:X.N.Nodup)(hi':X.N[i]? = some x)(hx:Loc X.env.scope x)(hc:X.calm=true)(S:CSc X scope cl ts fr ix)(hi:PI X tg iter wi)
  (hg:∀ C fp s H,PG (cxC X (ts++fr) scope cl C fp s H) tg g) (he:∀ C fp s H,PE (cxC X (ts++fr) scope cl C fp s H) elt te)
  (hs:∀ x,foldedSetIterable iter X.env x=pure x:=by intro _;rfl) (hsw:swapsWith (.ListComp elt [⟨tg,iter,[],0⟩] scope pos) (some (.Name x pos')) spos.line X.env=pure true:=by rfl) (hf:X.fn x=true\/X.env.scope.names.lookup x=some .local:=by first | exact .inl rfl | exact .inr rfl | assumption) :
  PS X (.Assign [.Name x pos'] (.ListComp elt [⟨tg,iter,[],0⟩] scope pos) spos) (aze (amr wi (ql ts.length ix) g te) (a6h i)):=by
 intro pins s σ H D I h
 rw [exec_Assign_Name_used _ _ _ _ hsw];refine ag (cI (ag ?_));refine ag (bq (acd hc S hi hg he hs (some (assign (.Name x pos') X.env)) I h (af5 hN hi' hx hf)) (λ_ s' hq=>aB (aB hq)) λ_ _ e=>e)
end
section
variable{K:Type}[DecidableEq K]
def stepK(l:List K)(v:K):List K:=if v∈l then l else l++[v]
end
end L2
namespace L2
open PySem PySem.Spec
theorem qy:bootBuiltins "len" = some (.builtin "len"):=PySem.boot_len
theorem a1y:bootBuiltins "isinstance" = some (.builtin "isinstance"):=by first | exact PySem.boot_isinstance | exact PyProof.Rows.boot_isinstance
theorem api:bootBuiltins "str" = some (.type "str"):=by first | exact PySem.boot_str | exact PyProof.Rows.boot_str
theorem apj:bootBuiltins "all" = some (.builtin "all"):=by first | exact PySem.boot_all | exact PyProof.Rows.boot_all
theorem awj:bootBuiltins "abs" = some (.builtin "abs"):=by first | exact PySem.boot_abs | exact PyProof.Rows.boot_abs
theorem awk:bootBuiltins "int" = some (.type "int"):=by first | exact PySem.boot_int | exact PyProof.Rows.boot_int
theorem a0v:bootBuiltins "tuple" = some (.type "tuple"):=by first | exact PySem.boot_tuple | exact PyProof.Rows.boot_tuple
structure Dn (P:Program) (w:World) (K:PySem.W.Frag) (mg:Str->Option Value) (base:Heap) (k:Nat) (x:Str) (ps:List Str) (sp:Sp) (f:Addr) (fd:FuncData):Prop where
 ok:FnOk P w K mg base CX0 k f fd ps sp
 m:mg x=some (.ref f)
 kp:PySem.W.keepIn K (.ref f)=true
 b:Binds K fd ps []
theorem aro:sizeLine=16777216:=dS
theorem arp(h:n<=16777216):n<=sizeLine:=by rw [dS];exact h
theorem CSc.noFree{scope:Scope}(kind:scope.kind = .function)(h:∀ y∈scope.names,y.2≠.cell/\y.2≠.free)(names:∀ y∈scope.names,y.2 = .local->scope.names.lookup y.1=some .local)
  (ht:∀ y∈ts,scope.names.lookup y=some .local):CSc X scope [] ts [] []:=by
 have e:(relabel scope X.env).names=scope.names:=by
  show scope.names.map _=_;refine map_eq_self λy hy=>?_;obtain ⟨n,k⟩:=y;have:(k == NameKind.free)=false:=by simpa using (h _ hy).2
  simp [this]
 refine ⟨closureFor_none λy hy=>(h y hy).2,kind,λy hy=>(h y hy).1,names,(λ_ _ z=>nomatch z),λy z=>?_,λy hy=>by rw [e];exact ht y hy,rfl,(λ_ _ z=>by simp at z)⟩
 rw [e] at z
 rcases z with z | z
 ·exact absurd rfl (h _ (cA z)).1
 ·exact absurd rfl (h _ (cA z)).2
theorem b0s(x y:Str):(x++y).cps.toList=x.cps.toList++y.cps.toList:=by
 show (x.cps++y.cps).toList=_;simp
theorem aiu{α:Type}(xs:List α)(k:Nat):a9a xs none (some (k:Int))=xs.take k:=by
 unfold a9a;rw [HT.aez,HT.aih,ia,Nat.sub_zero]
 by_cases h:k<=xs.length
 ·rw [Nat.min_eq_left h]
 ·rw [Nat.min_eq_right (by omega),bI (ax _),bI (by omega)]
theorem ace{α:Type}(xs:List α)(k:Nat):a9a xs (some (k:Int)) none=xs.drop k:=by
 unfold a9a;rw [HT.aez,HT.aih]
 by_cases h:k<=xs.length
 ·rw [Nat.min_eq_left h,bI (by rw [bP];omega)]
 ·rw [Nat.min_eq_right (by omega),cr (ax _),cr (by omega),List.take_nil]
end L2
namespace L2
open PySem PySem.Spec PyProof.Rows
def aiv(J:It)(s0:St)(g:TG)(tc:TT)(te:TE)(Q:VK)(H1:Hp):Prop:=∃ W:Nat->Nat->List V->Hp->Prop,(∃ m,W 0 m [] H1)/\∀ i m ys H,W i m ys H->
 (J.stop i H/\∀ p,H p=none->Q (.ref p) (upd H p (.lst ys))) \/
 (J.go i H/\ys.length<sizeLine/\∀ x H',J.yld i H x H'->g x s0 H' λσ2 H2=>Ext s0 σ2/\tc σ2 H2 λok H2'=>if ok=true then te σ2 H2' (λy H3=>∃ m',m'<m/\W (i+1) m' (ys++[y]) H3) else ∃ m',m'<m/\W (i+1) m' ys H2')
def aad(wi:TI)(s0:St->St)(g:TG)(tc:TT)(te:TE):TE:=λσ H Q=>wi σ H λJ H1=>aiv J (s0 σ) g tc te Q H1
theorem a80(elt target iter cnd:Expr)(scope:Scope)(pos:Pos)(it acc:Value)(env:Env) :
  compTurn (.ListComp elt [⟨target,iter,[cnd],0⟩] scope pos) 0 it acc env=(standAt iter.pos>>=λ_=>pyNext it>>=λr=>match r with
   | none=>pure (.done .next)
   | some v=>letOwnedTupleGo target it v>>=λ_=>assign target env v>>=λ_=>isTrue cnd env (eval cnd env)>>=λok =>
    (if ok=true then (eval elt env>>=λx=>call (.builtin "list.append") [acc,x]>>=λ_=>pure ()) else pure ())>>=λ_ =>
     again (.compLoop (.ListComp elt [⟨target,iter,[cnd],0⟩] scope pos) 0 it acc env)):=by
 first
  | rfl
  | (unfold compTurn;simp only [gR];rfl)
  | (show (standAt iter.pos>>=λ_=>pyNext it>>=λr=>_)=_
     congr 1;funext _;congr 1;funext r
     cases r with
     | none=>rfl
     | some v =>
      show (letOwnedTupleGo target it v>>=λ_=>assign target env v>>=λ_=>_)=(letOwnedTupleGo target it v>>=λ_=>assign target env v>>=λ_=>_)
      congr 1;funext _;congr 1;funext _
      simp
      congr 1;funext ok
      cases ok with
      | false=>rw [aY bE,aY bE,pure_bind]
      | true =>
       rw [aL rfl,aL rfl,bind_assoc]
       congr 1;funext x
       rw [map_eq_pure_bind,bind_assoc]
       congr 1)
theorem agp(J:Nat->Shared->Prop)
  (step:∀ m z,J m z->wpAny (model prog w) A (pyNext it) (λgot z1=>match got with
   | none=>R (.ok .next) z1
   | some v=>wpAny (model prog w) A (letOwnedTupleGo target it v) (λ_ z2=>wpAny (model prog w) A (assign target env v) (λ_ z3=>wpAny (model prog w) A (isTrue cnd env (eval cnd env)) (λok z3'=>if ok=true then wpAny (model prog w) A (eval elt env) (λx z4 =>
     wpAny (model prog w) A (call (.builtin "list.append") [acc,x]) (λ_ z5=>∃ m',m'<m/\J m' z5) (λ_ _=>False) z4)
     (λ_ _=>False) z3' else ∃ m',m'<m/\J m' z3') (λ_ _=>False) z3) (λ_ _=>False) z2) (λ_ _=>False) z1) (λ_ _=>False) z)
  (m:Nat) (j0:J m s):codeAny (model prog w) A (.compLoop (.ListComp elt [⟨target,iter,[cnd],0⟩] scope pos) 0 it acc env) R s:=by
 refine i3 rfl J (λm z hj=>(io ?_:wpAny _ _ ((compTurn (.ListComp elt [⟨target,iter,[cnd],0⟩] scope pos) 0 it acc env).onRaise _) _ _ z)) m j0;rw [a80];refine ag (cI (ag (bq (step m z hj) (λgot z1 h1=>?_) λ_ _ no=>no.elim)))
 match got,h1 with
 | none,h1=>exact aB h1
 | some v,h1 =>
  refine ag (bq h1 (λ_ z2 h2=>ag (bq h2 (λ_ z3 h3=>ag (bq h3 (λok z3' h3'=>?_) λ_ _ no=>no.elim)) λ_ _ no=>no.elim)) λ_ _ no=>no.elim)
  match ok,h3' with
  | true,h3' =>
   rw [aL rfl] at h3';refine ag (ag (bq h3' (λx z4 h4=>?_) λ_ _ no=>no.elim));exact ag (bq h4 (λ_ z5 h5=>aB (aB ⟨rfl,h5⟩)) λ_ _ no=>no.elim)
  | false,h3' =>
   rw [aY bE] at h3';exact ag (aB (aB ⟨rfl,h3'⟩))
section
variable{X:Cx}
theorem a81(hc:X.calm=true)(S:CSc X scope cl ts fr ix)(hi:PI X tg iter wi)
  (hg:∀ C fp s H,PG (cxC X (ts++fr) scope cl C fp s H) tg g) (he:∀ C fp s H,PE (cxC X (ts++fr) scope cl C fp s H) elt te) (ht:∀ C fp s H,PT (cxC X (ts++fr) scope cl C fp s H) cnd tc) (hs:∀ x,foldedSetIterable iter X.env x=pure x)
  (use:Option (Value->Sem Unit)) (I:Inv X pins σ H s) (h:aad wi (ql ts.length ix) g tc te σ H Q) (fin:aab X pins σ use Q Qf) :
  wpAny (model X.prog X.w) X.A (comprehension (.ListComp elt [⟨tg,iter,[cnd],0⟩] scope pos) scope X.env ppos (newList []) false (eval iter X.env) use) Qf X.xe s:=by
 refine eS (use:=use) rfl hs S.clos S.kind S.names (thn (hi pins s σ H _ I h) λv s1 h1=>thn h1 λitv s2 h2=>?_);obtain ⟨it,fp,tn,J,H2,e,I2,T,st2,f2,W,⟨m0,w0⟩,turn⟩:=h2;subst e;have hob:∀ b∈fp,b<s2.heap.objs.size:=λb hb=>let ⟨o,e,_⟩:=T.obj _ _ st2 b hb;aH e;refine cn (fI S.nocell (by intro y hy;simp at hy) (λh4 hns4 hsb4=>?_) S.kind)
 dsimp only at hns4 hsb4 ⊢
 generalize hH2:s2.heap.push { cls:=.type "list",dict:=none,data:=.seq ([]:List Value).toArray }=G at hns4 hsb4 ⊢
 have hCs:G.objs.size=s2.heap.objs.size+1:=by rw [<-hH2,cC]
 have hCle:s2.heap.objs.size<=G.objs.size:=by omega
 have hne:G.objs.size≠s2.heap.objs.size:=by omega
 have old:∀ b o,s2.heap.get? b=some o->h4.get? b=some o:=λb o e=>by
  have hlt:=aH e;exact hsb4.extBut b o (bp (aR hlt hCle)) (am _ (hH2 ▸ am _ e))
 have hacc:h4.get? s2.heap.objs.size=some { cls:=.type "list",data:=.seq ([]:List Value).toArray 0 } :=
  hsb4.extBut _ _ (eQ hne) (am _ (hH2 ▸ aJ _ rfl))
 have K0:Inv (cxC X (ts++fr) scope cl G.objs.size fp s2 H2) [] (ql ts.length ix σ) H2 { s2 with heap:=h4,toks:=s2.toks+([]:List (Str × Value)).length } :=
  adz S I2 f2 hob hCle old hns4 rfl rfl
 have st4:tn 0 h4:=T.keep _ _ _ st2 λb _ o e=>old b o e;have accF:s2.heap.objs.size ∉ fp:=λz=>bQ _ (hob _ z);have stat:∀ {H':Hp},(∀ b∈fp,H' b=none)->∀ b∈fp,FpOk (cxC X (ts++fr) scope cl G.objs.size fp s2 H2) [] H' b:=λhn b hb =>
  ⟨hn b hb,λz=>by have h1:=hob b hb;have z':b=G.objs.size:=z;exact bp (aR h1 hCle) z',λz=>(a7z S I2 f2 hob hCle).exfs b hb z, .inl hb,λx c e=>(f2 b hb).2.2.2.2.1 x c (S.sub x c e),λp hp=>absurd (show p∈([]:List (Addr × Obj)) from hp) (by simp)⟩
 have statA:∀ {H':Hp},H' s2.heap.objs.size=none->FpOk (cxC X (ts++fr) scope cl G.objs.size fp s2 H2) [] H' s2.heap.objs.size:=λhn =>
  ⟨hn,λz=>hne (show G.objs.size=s2.heap.objs.size from z.symm),λz=>by
   obtain ⟨_,o,ho,_⟩:=(a7z S I2 f2 hob hCle).funs.mem z;exact bQ _ (aH ho), .inr (ax _),λx c e z=>by
   obtain ⟨v,o,ho,_⟩:=I2.cell x c (S.sub x c e);rw [z] at ho;exact bQ _ (aH ho),λp hp=>absurd (show p∈([]:List (Addr × Obj)) from hp) (by simp)⟩
 have loop:∀ s4:Shared,s4={ s2 with heap:=h4,toks:=s2.toks+([]:List (Str × Value)).length }->
   codeAny (model X.prog X.w) X.A (.compLoop (.ListComp elt [⟨tg,iter,[cnd],0⟩] scope pos) 0 (.ref it) (.ref s2.heap.objs.size) (compEnvC scope cl G.objs.size X.env))
    (compPost (model X.prog X.w) X.A X.xe use Qf (.ref s2.heap.objs.size) G.objs.size) s4:=by
  rintro s4 rfl
  refine agp (λn s'=>∃ i σ' H' ys its k,Inv (cxC X (ts++fr) scope cl G.objs.size fp s2 H2) [] σ' H' s'/\Ext (ql ts.length ix σ) σ'/\tn i s'.heap/\(∀ b∈fp,H' b=none)/\H' s2.heap.objs.size=none /\
   s'.heap.get? s2.heap.objs.size=some { cls:=.type "list",data:=.seq its.toArray k }/\Vals ys its/\ys.length<=sizeLine/\W i n ys H') ?_ m0
   ⟨0,_,H2,[],[],0,K0,⟨rfl,λ_ _ z=>z⟩,st4,λb hb=>(f2 b hb).1,I2.hok.fresh (ax _),hacc, .nil,bL _,w0⟩
  rintro n s5 ⟨i,σ5,H5,ys,its,k5,I5,x5,st5,fr5,fa5,ac5,rv5,hz5,w5⟩
  have I5':Inv (cxC X (ts++fr) scope cl G.objs.size fp s2 H2) [] (ql ts.length ix σ) H5 s5:=I5.weak x5.1.symm x5.2
  rcases turn i n ys H5 w5 with ⟨stop,qn⟩ | ⟨go,hlt,step⟩
  ·refine thn (T.done (cxC X (ts++fr) scope cl G.objs.size fp s2 H2) rfl rfl rfl hc i [(s2.heap.objs.size,{ cls:=.type "list",data:=.seq its.toArray k5 })] s5 _ H5 _ (I5'.pins_of λp hp=>?_) (λb hb=>?_) st5 stop) λr s6 ⟨hr,I6⟩=>?_
   ·have e:p=(s2.heap.objs.size,{ cls:=.type "list",data:=.seq its.toArray k5 }):=by simpa using hp
    subst e;obtain ⟨a0,a1,a2,_⟩:=statA fa5;exact ⟨ac5,a0,a1,a2,λv z=>by cases z⟩
   ·obtain ⟨b0,b1,b2,b3,b4,b5⟩:=stat fr5 b hb;refine ⟨b0,b1,b2,b3,b4,λp hp=>?_⟩;have e:p=(s2.heap.objs.size,{ cls:=.type "list",data:=.seq its.toArray k5 }):=by
     have hp':p∈[(s2.heap.objs.size,_)]:=hp;simpa using hp'
    subst e;exact λz=>accF (by have z':s2.heap.objs.size=b:=z;rw [z'];exact hb)
   ·subst hr;have e6:=(I6.pin (s2.heap.objs.size,{ cls:=.type "list",data:=.seq its.toArray k5 }) (by show _∈[]++[_];simp)).1
    obtain ⟨m6,hn6,_⟩:=I6.loc;exact fin _ _ s6 _ m6 hn6 (I2.fpOk hCle (by rw [jj hne];exact I6.free)) (λh' sb=>comp_back I2 f2 hCle (ax _) hne I6.unpinned' fa5 e6 rv5 hz5 sb) (qn _ fa5)
  ·refine thn (T.item (cxC X (ts++fr) scope cl G.objs.size fp s2 H2) rfl rfl rfl hc i [(s2.heap.objs.size,{ cls:=.type "list",data:=.seq its.toArray k5 })] s5 _ H5 _ (I5'.pins_of λp hp=>?_) (λb hb=>?_) st5 go) λr s6 ⟨u,hr,h6⟩=>?_
   ·have e:p=(s2.heap.objs.size,{ cls:=.type "list",data:=.seq its.toArray k5 }):=by simpa using hp
    subst e;obtain ⟨a0,a1,a2,_⟩:=statA fa5;exact ⟨ac5,a0,a1,a2,λv z=>by cases z⟩
   ·obtain ⟨b0,b1,b2,b3,b4,b5⟩:=stat fr5 b hb;refine ⟨b0,b1,b2,b3,b4,λp hp=>?_⟩;have e:p=(s2.heap.objs.size,{ cls:=.type "list",data:=.seq its.toArray k5 }):=by
     have hp':p∈[(s2.heap.objs.size,_)]:=hp;simpa using hp'
    subst e;exact λz=>accF (by have z':s2.heap.objs.size=b:=z;rw [z'];exact hb)
   ·subst hr;refine thn h6 λ_ s7 ⟨x,H7,I7,r7,y7,st7,fr7⟩=>?_;have fa7:H7 s2.heap.objs.size=none:=(I7.pin (s2.heap.objs.size,{ cls:=.type "list",data:=.seq its.toArray k5 }) (by show _∈[]++[_];simp)).2.1
    have ac7:=(I7.pin (s2.heap.objs.size,{ cls:=.type "list",data:=.seq its.toArray k5 }) (by show _∈[]++[_];simp)).1
    have I7':Inv (cxC X (ts++fr) scope cl G.objs.size fp s2 H2) ([]++zq (s2.heap.objs.size::fp) s7.heap) (ql ts.length ix σ) H7 s7:=by
     refine Inv.pinned I7.unpinned' (λb hb=>?_) λb hb=>?_
     ·rcases aD.mp hb with e | e
      ·subst e;exact statA fa7
      ·exact stat fr7 b e
     ·rcases aD.mp hb with e | e
      ·subst e;exact ⟨_,ac7,λv z=>by cases z⟩
      ·exact T.obj _ _ st7 b e
    refine thn (hg G.objs.size fp s2 H2 _ s7 _ H7 x u _ I7' r7 (step x H7 y7)) λ_ s8 ⟨σ8,H8,I8,x8,q8⟩=>?_;refine thn (ht G.objs.size fp s2 H2 _ s8 _ H8 _ I8 q8) λok s8' ⟨H8',I8',q8'⟩=>?_
    cases ok with
    | false =>
     rw [aY bE] at q8' ⊢;obtain ⟨m',hm',w9⟩:=q8';obtain ⟨ac9,fa9,_⟩:=I8'.pin (s2.heap.objs.size,{ cls:=.type "list",data:=.seq its.toArray k5 }) (by show _∈[]++([]++_);simp;exact my aK ac7)
     have keep9:∀ b∈fp,∀ o,s7.heap.get? b=some o->s8'.heap.get? b=some o/\H8' b=none:=λb hb o e=>by
      obtain ⟨z1,z2,_⟩:=I8'.pin (b,o) (by show _∈[]++([]++_);simp;exact my (aG _ hb) e)
      exact ⟨z1,z2⟩
     refine ⟨m',hm',i+1,σ8,H8',ys,its,k5,I8'.unpinned',x8,?_,?_,fa9,ac9,rv5,hz5,w9⟩
     ·exact T.keep _ _ _ st7 λb hb o e=>(keep9 b hb o e).1
     ·intro b hb
      obtain ⟨o,e,_⟩:=T.obj _ _ st7 b hb;exact (keep9 b hb o e).2
    | true =>
     rw [aL rfl] at q8' ⊢;refine thn (he G.objs.size fp s2 H2 _ s8' _ H8' _ I8' q8') λyv s9 ⟨y,H9,I9,r9,m',hm',w9⟩=>?_;obtain ⟨ac9,fa9,_⟩:=I9.pin (s2.heap.objs.size,{ cls:=.type "list",data:=.seq its.toArray k5 }) (by show _∈[]++([]++_);simp;exact my aK ac7)
     have keep9:∀ b∈fp,∀ o,s7.heap.get? b=some o->s9.heap.get? b=some o/\H9 b=none:=λb hb o e=>by
      obtain ⟨z1,z2,_⟩:=I9.pin (b,o) (by show _∈[]++([]++_);simp;exact my (aG _ hb) e)
      exact ⟨z1,z2⟩
     have hl:=rv5.length;refine fv bK ⟨_,ac9,rfl⟩ fR (fH _ _) (gK s2.heap.objs.size its.toArray k5 yv (by rw [aI];omega)) ⟨ac9,?_⟩
     have q:=hJ ac9 (λa=>a.push yv);have qo:∀ b o,b≠s2.heap.objs.size->s9.heap.get? b=some o->(s9.heap.update s2.heap.objs.size (Obj.mapSeq (λa=>a.push yv))).get? b=some o:=λb o hb e=>(cL s9.heap _ (eQ hb)).trans e;have q':∃ k,(s9.heap.update s2.heap.objs.size (Obj.mapSeq (λa=>a.push yv))).get? s2.heap.objs.size=some { cls:=.type "list",data:=.seq (its++[yv]).toArray k }:=⟨_,by rw [q];simp;rfl⟩
     obtain ⟨k9,q9⟩:=q';obtain ⟨a0,a1,a2,a3,a4,a5⟩:=statA (show H9 s2.heap.objs.size=none from fa9)
     refine ⟨m',hm',i+1,σ8,H9,ys++[y],its++[yv],k9,(I9.unpinned').turned qo a0 a1 a3 a4 a5,x8,?_,?_,fa9,q9,rv5.append (.cons r9 .nil),?_,w9⟩
     ·refine T.keep _ _ _ st7 λb hb o e=>qo b o (λz=>accF (z ▸ hb)) (keep9 b hb o e).1
     ·intro b hb
      obtain ⟨o,e,_⟩:=T.obj _ _ st7 b hb;exact (keep9 b hb o e).2
     ·rw [aw,ay];omega
 exact codeAny_compStart_list (loop _ rfl) (T.self _ 0 _ _ _ st4 (loop _ rfl))
theorem agq(hc:X.calm=true)(S:CSc X scope cl ts fr ix)(hi:PI X tg iter wi)
  (hg:∀ C fp s H,PG (cxC X (ts++fr) scope cl C fp s H) tg g) (he:∀ C fp s H,PE (cxC X (ts++fr) scope cl C fp s H) elt te) (ht:∀ C fp s H,PT (cxC X (ts++fr) scope cl C fp s H) cnd tc)
  (hs:∀ x,foldedSetIterable iter X.env x=pure x:=by intro _;rfl) :
  PE X (.ListComp elt [⟨tg,iter,[cnd],0⟩] scope pos) (aad wi (ql ts.length ix) g tc te):=by
 intro pins s σ H Q I h
 rw [eval_ListComp];exact a81 hc S hi hg he ht hs none I h aac
theorem agr{spos:Pos}(hN:X.N.Nodup)(hi':X.N[i]? = some x)(hx:Loc X.env.scope x)(hc:X.calm=true)(S:CSc X scope cl ts fr ix)(hi:PI X tg iter wi)
  (hg:∀ C fp s H,PG (cxC X (ts++fr) scope cl C fp s H) tg g) (he:∀ C fp s H,PE (cxC X (ts++fr) scope cl C fp s H) elt te) (ht:∀ C fp s H,PT (cxC X (ts++fr) scope cl C fp s H) cnd tc)
  (hs:∀ x,foldedSetIterable iter X.env x=pure x:=by intro _;rfl) (hsw:swapsWith (.ListComp elt [⟨tg,iter,[cnd],0⟩] scope pos) (some (.Name x pos')) spos.line X.env=pure true:=by rfl) (hf:X.fn x=true\/X.env.scope.names.lookup x=some .local:=by first | exact .inl rfl | exact .inr rfl | assumption) :
  PS X (.Assign [.Name x pos'] (.ListComp elt [⟨tg,iter,[cnd],0⟩] scope pos) spos) (aze (aad wi (ql ts.length ix) g tc te) (a6h i)):=by
 intro pins s σ H D I h
 rw [exec_Assign_Name_used _ _ _ _ hsw];refine ag (cI (ag ?_));refine ag (bq (a81 hc S hi hg he ht hs (some (assign (.Name x pos') X.env)) I h (af5 hN hi' hx hf)) (λ_ s' hq=>aB (aB hq)) λ_ _ e=>e)
end
section
variable{X:Cx}
def a5l(T:Str)(c:Nat):Int:=Txt.find T ⟨#[c]⟩
theorem ae0(s sub:Str)(hi limit:Nat):∀ (l:List Nat) (st:Array Nat × Nat) (k:Nat),k∈(forIn l st (StrLaws.occBody s sub hi limit)).run.fst.toList->k∈st.fst.toList\/(k+sub.length<=hi/\Builtin.Str.subAt s sub k=true)
 | [],st,k,h=>.inl h
 | a::l,st,k,h=>by
  rw [List.forIn_cons] at h;unfold StrLaws.occBody at h
  split at h
  ·rename_i c
   rcases ae0 s sub hi limit l _ k h with z | z
   ·simp at z
    rcases z with z | z
    ·exact .inl (by simpa using z)
    ·subst z;exact .inr ⟨c.1.2,c.2⟩
   ·exact .inr z
  ·rcases ae0 s sub hi limit l _ k h with z | z
   ·exact .inl z
   ·exact .inr z
theorem aae{T:Str}(h:c∈T.cps.toList):∃ i:Nat,a5l T c=(i:Int)/\T.cps.toList[i]? = some c/\∃ rest,Builtin.Str.occurrences T ⟨#[c]⟩ 0 T.length 1=i::rest:=by
 have h1:=gM T c;rw [aQ h] at h1
 cases ho:Builtin.Str.occurrences T ⟨#[c]⟩ 0 T.length 1 with
 | nil=>rw [ho] at h1;cases h1
 | cons i rest =>
  refine ⟨i,by simp [a5l,Txt.find,ho],?_,rest,rfl⟩
  rw [StrLaws.occ_eq] at ho;have hm:=ae0 T ⟨#[c]⟩ T.length 1 (List.range' 0 (T.length+1 - 0)) (#[],0) i (by rw [ho];exact aK)
  rcases hm with z | z
  ·simp at z
  ·exact (StrLaws.subAt_one T c i).mp z
theorem aiw:OpR X (compareOp .In) (λx y H Q=>∃ c T,x = .str ⟨#[c]⟩/\y = .str T/\Q (.bl (decide (c∈T.cps.toList))) H):=by
 intro pins s σ H x y v u Q I rx ry h
 obtain ⟨c,T,rfl,rfl,q⟩:=h;exact ai8 pins s σ H _ _ v u Q I rx ry ⟨_,_,rfl,rfl,by rw [gM];exact q⟩
theorem a1p:OpR X (compareOp .NotIn) (λx y H Q=>∃ c T,x = .str ⟨#[c]⟩/\y = .str T/\Q (.bl (!decide (c∈T.cps.toList))) H):=by
 intro pins s σ H x y v u Q I rx ry h
 obtain ⟨c,T,rfl,rfl,q⟩:=h;exact aby pins s σ H _ _ v u Q I rx ry ⟨_,_,rfl,rfl,by rw [gM];exact q⟩
theorem aix:MtR X "str.find" (λx xs H Q=>∃ T c,x = .str T/\xs=[.str ⟨#[c]⟩]/\Q (.int (a5l T c)) H):=by
 intro pins s σ H x xs v us Q I rx rs h
 obtain ⟨T,c,rfl,rfl,q⟩:=h;obtain ⟨t,rfl⟩:=rx;obtain ⟨u,rfl,t',rfl⟩:=vals1 rs;exact fv F.slot_str_find (i9 _ _ _) F.entry_str_find (F.args_str_find_2 _ _) (gives_str_find _ _ _ _).meets ⟨.int (a5l T c),H,I.tok _,⟨_,rfl⟩,q⟩
theorem amt:MtR X "str.index" (λx xs H Q=>∃ T c,x = .str T/\xs=[.str ⟨#[c]⟩]/\c∈T.cps.toList/\Q (.int (a5l T c)) H):=by
 intro pins s σ H x xs v us Q I rx rs h
 obtain ⟨T,c,rfl,rfl,hc,q⟩:=h;obtain ⟨t,rfl⟩:=rx;obtain ⟨u,rfl,t',rfl⟩:=vals1 rs;obtain ⟨i,e1,e2,rest,ho⟩:=aae hc;refine fv F.slot_str_index (i9 _ _ _) F.entry_str_index (F.args_str_index_2 _ _) (gives_str_index _ _ _ _ i rest ho).meets ⟨.int (a5l T c),H,I.tok _,⟨_,by rw [e1]⟩,q⟩
theorem arq{zs:List Str}:∀ {us:List Value},Vals (zs.map V.str) us->StrsAre us zs:=by
 induction zs with
 | nil=>intro us r;rw [db] at r;cases r;exact .nil
 | cons z zs ih =>
  intro us r
  rw [aZ] at r
  cases r with
  | cons r1 r2 =>
   obtain ⟨t,e⟩:=r1;subst e;exact .cons z t (ih r2)
theorem aiy:MtR X "str.join" (λx xs H Q=>∃ sep p zs,x = .str sep/\xs=[.ref p]/\SqL X.K H p (zs.map V.str)/\(zs.map (·.length)).sum+zs.length*sep.length<=16777216/\Q (.str (Txt.join sep zs)) H):=by
 intro pins s σ H x xs v us Q I rx rs h
 obtain ⟨sep,p,zs,rfl,rfl,hp,hz,q⟩:=h;obtain ⟨t,rfl⟩:=rx;obtain ⟨u,rfl,ru⟩:=vals1 rs;cases ru
 obtain ⟨its,r,pl,_⟩:=I.list hp;exact join_list pl.isList (by simpa using arq r) hz λt' k=>⟨.str _,H,I.tok _,⟨_,rfl⟩,q⟩
end
theorem CSc.of{X:Cx}{ts fr:List Str}{ix:List Nat}(clos:closureFor scope X.env=pure cl)(kind:scope.kind = .function)
  (nocell:(scope.names.all λp=>p.2 != .cell)=true) (names:(scope.names.all λp=>p.2 != .local || scope.names.lookup p.1 == some .local)=true) (sub:∀ p∈cl,X.env.cells.lookup p.1=some p.2)
  (has:((relabel scope X.env).names.all λp => !(p.2 == .cell || p.2 == .free) || (cl.lookup p.1).isSome)=true) (nofn:(ts.all λy=>(relabel scope X.env).names.lookup y == some .local)=true)
  (len:ix.length=fr.length) (vis:((fr.zip ix).all λp=>X.N[p.2]? == some p.1 && (X.env.kindOf p.1 == some .cell || X.env.kindOf p.1 == some .free) && ((relabel scope X.env).names.lookup p.1 == some .cell || (relabel scope X.env).names.lookup p.1 == some .free))=true) :
  CSc X scope cl ts fr ix:=by
 refine ⟨clos,kind,λy hy=>?_,λy hy e=>?_,λy c e=>sub _ (cA e),λy z=>?_,λy hy=>?_,len,λj y e=>?_⟩
 ·have:=bn.mp nocell y hy
  simpa using this
 ·have:=bn.mp names y hy
  rw [e] at this;simpa using this
 ·have key:∀ k,(relabel scope X.env).names.lookup y=some k->(k == .cell || k == .free)=true->∃ c,cl.lookup y=some c:=λk e hk=>by
   have:=bn.mp has _ (cA e)
   rw [hk] at this;exact gH.mp (by simpa using this)
  rcases z with z | z
  ·exact key _ z rfl
  ·exact key _ z rfl
 ·have:=bn.mp nofn y hy
  simpa using this
 ·obtain ⟨hj,_⟩:=ah.mp e;have hj2:j<ix.length:=by omega
  have hm:(y,ix[j])∈fr.zip ix:=by
   rw [List.mem_iff_getElem?];exact ⟨j,by rw [cR];exact ⟨e,af hj2⟩⟩
  have:=bn.mp vis _ hm
  simp only [aX,eY,gL] at this;exact ⟨ix[j],af hj2,this.1.1,this.1.2,this.2⟩
end L2
namespace HT
open PySem PySem.Spec PyProof.Rows
end HT
namespace L2
open PySem PySem.Spec PyProof.Rows
def tSM(r:V->List V->Hp->VK->Prop)(to:TE)(t:TA):TE:=λσ H Q=>to σ H λx H1=>(∃ z,x = .str z)/\t σ H1 λxs H2=>r x xs H2 Q
theorem b0t{X:Cx}{o e:Expr}{es:List Expr}{to:TE}{t:TA}{name:Str}{apos cpos:Pos}{id:String}{r:V->List V->Hp->VK->Prop}(slot:Slot "str" name id)(hty:typeOf (.builtin id)=pure (.type "method_descriptor"))(hm:MtR X id r)(ho:PE X o to)(ha:PA X (e::es) t)
  (hbase:attributeBase o name X.env (eval o X.env)=eval o X.env:=by rfl)
  (hfew:((backTo cpos (starEach (e::es) X.env)).all (λx => !x.1) && (backToKw cpos (keywordEach [] X.env)).all (λx=>x.1.isSome)
   && decide ((e::es).length+([]:List Keyword).length+(if ([]:List Keyword).isEmpty then 0 else 1)<30))=true:=by rfl)
  (hline:(apos.endLine == cpos.line)=true:=by rfl) (hs:starEach (e::es) X.env=(false,eval e X.env)::starEach es X.env:=by rfl) (hplain:(backTo cpos (starEach es X.env)).any (·.1)=false:=by rfl) :
  PE X (.Call (.Attribute o name apos) (e::es) [] cpos) (tSM r to t):=by
 intro pins s σ H Q I h
 refine wpAny_Call_method_late hbase hfew hline rfl (thn (ho pins s σ H _ I h) λv s1 ⟨x,H1,I1,r1,⟨z,hz⟩,q1⟩=>?_);subst hz;obtain ⟨h1,h2⟩:=apf (T := "str") I1 r1 rfl;refine ⟨"str",id,PySem.F.plainAttrs_str,slot,hty,h1,h2,?_⟩;have hA:=ha cpos pins s1 σ H1 _ I1 q1;rw [hs] at hA ⊢;refine Calls.callWith_builtin (by show (false || (backTo cpos (starEach es X.env)).any (·.1))=false;rw [hplain]<;>rfl) (Calls.evalArgs_plain ?_)
 exact thn hA λus s2 ⟨vs,H2,I2,r2,q2⟩=>hm pins s2 σ H2 _ vs v us Q I2 r1 r2 q2
section
variable{X:Cx}
theorem ags(hc:X.calm=true):CallR X (.builtin "sum") (λxs H Q=>∃ (p:Addr) (ns:List Int),xs=[.ref p]/\SqL X.K H p (ns.map V.int)/\Q (.int ns.sum) H):=by
 intro pins s σ H xs us Q I r h
 obtain ⟨p,ns,rfl,hq,q⟩:=h;obtain ⟨u,rfl,rx⟩:=vals1 r;cases rx
 obtain ⟨its,r',pl,hz⟩:=I.list hq;have hInts:IntsAre its ns:=intsAre_of r';obtain ⟨prs,ep⟩:=hInts.allInts.items;refine sum_intListG (xs:=prs) (I.ok.hd hc) (ep ▸ pl.isList) λh' tk t' hk=>⟨.int ns.sum,H,I.kept hk,⟨t',?_⟩,q⟩;have nums:prs.toList.map (·.1)=ns:=by
  rw [<-nums_intItems,<-ep];exact hInts.numsOf
 have tot:preSum (numAt prs) prs.size=ns.sum:=by
  rw [preSum_eq,<-nums]
  congr 1
  exact bI (by simp)
 rw [tot]
end
end L2
namespace SHP
open PySem L2
end SHP
namespace L2
open PySem PySem.Spec PyProof.Rows
end L2
namespace SHP
open PySem L2
end SHP
namespace MI
open PySem L2
inductive D where
 | non | bl (b:Bool) | int (i:Int) | str (x:Str) | ty (n:String) | tup (xs:List D) | rol (xs:List D) | ref (i:Nat) | scr (xs:List D) | rod (ks:List Key) (xs:List D) | rdT (ks:List (List Key)) (xs:List D) | exc (c:Str)
inductive O where
 | lst (xs:List D) | dK (kvs:List (Key × D)) | dT (kvs:List (List Key × D))
abbrev Hd:=List O
abbrev Sd:=List (Option D)
inductive R (α:Type) where
 | ok (a:α) (h:Hd) | ex (c:Str) (h:Hd) | no
def R.bind{α β:Type}:R α->(α->Hd->R β)->R β
 | .ok a h,k=>k a h
 | .ex c h,_=>.ex c h
 | .no,_=>.no
inductive Fl where
 | nx (σ:Sd) (h:Hd) | rt (d:D) (h:Hd) | bk (σ:Sd) (h:Hd) | ct (σ:Sd) (h:Hd) | ex (c:Str) (h:Hd) | no
def R.fl{α:Type}:R α->(α->Hd->Fl)->Fl
 | .ok a h,k=>k a h
 | .ex c h,_=>.ex c h
 | .no,_=>.no
abbrev SE:=Sd->Hd->R D
abbrev ST:=Sd->Hd->R Bool
abbrev SA:=Sd->Hd->R (List D)
abbrev SS:=Sd->Hd->Fl
def SqF(K:PySem.W.Frag)(H:Hp)(a:Addr)(vs:List V):Prop:=(∃ o,H a=some (.frz o (.lst vs)))\/SqL K (λ_=>none) a vs
theorem SqF.l(h:SqF K H a vs):SqL K H a vs:=by
 rcases h with ⟨o,h⟩ | h
 ·exact .inl (.inr ⟨o,h⟩)
 ·rcases h with (h | ⟨o,h⟩) | h
  ·cases h
  ·cases h
  ·exact .inr h
def SqZ(H:Hp)(a:Addr)(vs:List V):Prop:=∃ o,H a=some (.frz o (.lst vs))
theorem SqZ.l(h:SqZ H a vs):SqL K H a vs:=let ⟨o,e⟩:=h; .inl (.inr ⟨o,e⟩)
def exO(a:Addr):HO:=.ext λh=>∃ o,h.get? a=some o
mutual
inductive Rep (K:PySem.W.Frag) (ι:List Addr) (H:Hp):V->D->Prop
 | non:Rep K ι H .non .non
 | bl (b:Bool):Rep K ι H (.bl b) (.bl b)
 | int (i:Int):Rep K ι H (.int i) (.int i)
 | str (x:Str):Rep K ι H (.str x) (.str x)
 | ty (n:String):Rep K ι H (.ty n) (.ty n)
 | tup {a:Addr} {vs:List V} {xs:List D} (h:H a=some (.tup vs)) (r:Reps K ι H vs xs):Rep K ι H (.ref a) (.tup xs)
 | rol {a:Addr} {vs:List V} {xs:List D} (h:SqZ H a vs) (r:Reps K ι H vs xs):Rep K ι H (.ref a) (.rol xs)
 | scr {a:Addr} {vs:List V} {xs:List D} (h:SqF K H a vs) (r:Reps K ι H vs xs):Rep K ι H (.ref a) (.scr xs)
 | ref {a:Addr} {i:Nat} (h:ι[i]? = some a):Rep K ι H (.ref a) (.ref i)
 | rod {a:Addr} {o:Obj} {us:List (Key × V)} {ks:List Key} {xs:List D} (h:H a=some (.frz o (.dK us))) (e:us.map (·.1)=ks) (r:Reps K ι H (us.map (·.2)) xs):Rep K ι H (.ref a) (.rod ks xs)
 | rdT {a:Addr} {o:Obj} {us:List (List Key × V)} {ks:List (List Key)} {xs:List D} (h:H a=some (.frz o (.dT us))) (e:us.map (·.1)=ks) (r:Reps K ι H (us.map (·.2)) xs):Rep K ι H (.ref a) (.rdT ks xs)
 | exc {a C:Addr} {o:Obj} {c:Str} (h:H a=some (.frz o (exO a))) (hc:o.cls = .ref C) (hn:PySem.W.nsIn K mainGlobals c=some (some (.ref C))):Rep K ι H (.ref a) (.exc c)
inductive Reps (K:PySem.W.Frag) (ι:List Addr) (H:Hp):List V->List D->Prop
 | nil:Reps K ι H [] []
 | cons {v:V} {d:D} {vs:List V} {ds:List D} (r:Rep K ι H v d) (rs:Reps K ι H vs ds):Reps K ι H (v::vs) (d::ds)
end
structure Gw (ι:List Addr) (H:Hp) (ι':List Addr) (H':Hp):Prop where
 pre:∃ m,ι'=ι++m
 tup:∀ a vs,H a=some (.tup vs)->H' a=some (.tup vs)
 frz:∀ a o u,H a=some (.frz o u)->H' a=some (.frz o u)
structure Gr (ι:List Addr) (H:Hp) (ι':List Addr) (H':Hp):Prop where
 pre:∃ m,ι'=ι++m/\∀ a∈m,H a=none
 tup:∀ a vs,H a=some (.tup vs)->H' a=some (.tup vs)
 frz:∀ a o u,H a=some (.frz o u)->H' a=some (.frz o u)
 oth:∀ a u,H a=some u->a ∉ ι->H' a=some u
 kp:∀ a u,H a=some u->∃ u',H' a=some u'
theorem Gr.w(g:Gr ι H ι' H'):Gw ι H ι' H':=⟨let ⟨m,e,_⟩:=g.pre; ⟨m,e⟩,g.tup,g.frz⟩
theorem Gr.refl(ι:List Addr)(H:Hp):Gr ι H ι H:=⟨⟨[],by simp,by simp⟩,λ_ _ h=>h,λ_ _ _ h=>h,λ_ _ h _=>h,λ_ u h=>⟨u,h⟩⟩
theorem Gr.trans(a:Gr ι H ι1 H1)(b:Gr ι1 H1 ι2 H2):Gr ι H ι2 H2:=by
 obtain ⟨m,rfl,hm⟩:=a.pre;obtain ⟨n,rfl,hn⟩:=b.pre;refine ⟨⟨m++n,by simp,λx hx=>?_⟩,λx vs h=>b.tup x vs (a.tup x vs h),λx o u h=>b.frz x o u (a.frz x o u h),λx u h hx=>?_,λx u h=>?_⟩
 ·rcases aS.mp hx with hx | hx
  ·exact hm x hx
  ·cases e:H x with
   | none=>rfl
   | some u =>
    obtain ⟨u',e'⟩:=a.kp x u e;rw [hn x hx] at e';cases e'
 ·refine b.oth x u (a.oth x u h hx) λz=>?_
  rcases aS.mp z with z | z
  ·exact hx z
  ·rw [hm x z] at h;cases h
 ·obtain ⟨u',e⟩:=a.kp x u h;exact b.kp x u' e
theorem Gw.at(g:Gw ι H ι' H'){i:Nat}(h:ι[i]? = some a):ι'[i]? = some a:=by
 obtain ⟨m,rfl⟩:=g.pre;rw [aC (ah.mp h).1];exact h
theorem Gr.at(g:Gr ι H ι' H'){i:Nat}(h:ι[i]? = some a):ι'[i]? = some a:=g.w.at h
theorem SqF.monoW(g:Gw ι H ι' H')(h:SqF K H a vs):SqF K H' a vs:=by
 rcases h with ⟨o,h⟩ | h
 ·exact .inl ⟨o,g.frz _ _ _ h⟩
 ·exact .inr h
theorem SqZ.monoW(g:Gw ι H ι' H')(h:SqZ H a vs):SqZ H' a vs:=let ⟨o,e⟩:=h; ⟨o,g.frz _ _ _ e⟩
theorem SqZ.mono(g:Gr ι H ι' H')(h:SqZ H a vs):SqZ H' a vs:=h.monoW g.w
mutual
theorem Rep.monoW(g:Gw ι H ι' H'):∀ {v:V} {d:D},Rep K ι H v d->Rep K ι' H' v d
 | _,_, .non=>.non
 | _,_, .bl b=>.bl b
 | _,_, .int i=>.int i
 | _,_, .str x=>.str x
 | _,_, .ty n=>.ty n
 | _,_, .tup h r=>.tup (g.tup _ _ h) (Reps.monoW g r)
 | _,_, .rol h r=>.rol (h.monoW g) (Reps.monoW g r)
 | _,_, .scr h r=>.scr (h.monoW g) (Reps.monoW g r)
 | _,_, .ref h=>.ref (g.at h)
 | _,_, .rod h e r=>.rod (g.frz _ _ _ h) e (Reps.monoW g r)
 | _,_, .rdT h e r=>.rdT (g.frz _ _ _ h) e (Reps.monoW g r)
 | _,_, .exc h hc hn=>.exc (g.frz _ _ _ h) hc hn
theorem Reps.monoW(g:Gw ι H ι' H'):∀ {vs:List V} {ds:List D},Reps K ι H vs ds->Reps K ι' H' vs ds
 | _,_, .nil=>.nil
 | _,_, .cons r rs=>.cons (Rep.monoW g r) (Reps.monoW g rs)
end
theorem Rep.mono(g:Gr ι H ι' H')(r:Rep K ι H v d):Rep K ι' H' v d:=r.monoW g.w
theorem Reps.mono(g:Gr ι H ι' H')(r:Reps K ι H vs ds):Reps K ι' H' vs ds:=r.monoW g.w
section
variable{K:PySem.W.Frag}{ι:List Addr}{H:Hp}
theorem Reps.len:Reps K ι H vs ds->vs.length=ds.length
 | .nil=>rfl
 | .cons _ rs=>by rw [ba,ba,rs.len]
theorem Reps.get:∀ {vs:List V} {ds:List D} {i:Nat} {d:D},Reps K ι H vs ds->ds[i]? = some d->∃ v,vs[i]? = some v/\Rep K ι H v d
 | _,_,_,_, .nil,e=>by simp at e
 | _,_,0,_, .cons r _,e=>by simp at e;subst e;exact ⟨_,rfl,r⟩
 | _,_,i+1,d, .cons _ rs,e=>by
  obtain ⟨u,h1,h2⟩:=Reps.get (i:=i) (d:=d) rs (by simpa using e)
  exact ⟨u,by simpa using h1,h2⟩
theorem Reps.app:∀ {vs us:List V} {ds es:List D},Reps K ι H vs ds->Reps K ι H us es->Reps K ι H (vs++us) (ds++es)
 | _,_,_,_, .nil,s=>s
 | _,_,_,_, .cons r rs,s=>.cons r (Reps.app rs s)
theorem Reps.set(q:Rep K ι H v d):∀ {vs:List V} {ds:List D} (i:Nat),Reps K ι H vs ds->Reps K ι H (vs.set i v) (ds.set i d)
 | _,_,_, .nil=>.nil
 | _,_,0, .cons _ rs=>.cons q rs
 | _,_,i+1, .cons r rs=>.cons r (Reps.set q i rs)
theorem Reps.take:∀ {vs:List V} {ds:List D} (n:Nat),Reps K ι H vs ds->Reps K ι H (vs.take n) (ds.take n)
 | _,_,0,_=>.nil
 | _,_,_+1, .nil=>.nil
 | _,_,n+1, .cons r rs=>.cons r (Reps.take n rs)
theorem Reps.drop:∀ {vs:List V} {ds:List D} (n:Nat),Reps K ι H vs ds->Reps K ι H (vs.drop n) (ds.drop n)
 | _,_,0,r=>r
 | _,_,_+1, .nil=>.nil
 | _,_,n+1, .cons _ rs=>Reps.drop n rs
theorem Reps.snoc(r:Reps K ι H vs ds)(q:Rep K ι H v d):Reps K ι H (vs++[v]) (ds++[d]):=r.app (.cons q .nil)
theorem Reps.flat:∀ {vs:List V} {ds:List D} (k:Nat),Reps K ι H vs ds->Reps K ι H (List.replicate k vs).flatten (List.replicate k ds).flatten
 | _,_,0,_=>.nil
 | vs,ds,k+1,r=>by
  rw [cN,cN,dH,dH];exact r.app (Reps.flat k r)
end
def KRep{κ:Type}(K:PySem.W.Frag)(ι:List Addr)(H:Hp)(us:List (κ × V))(kvs:List (κ × D)):Prop:=us.map (·.1)=kvs.map (·.1)/\Reps K ι H (us.map (·.2)) (kvs.map (·.2))
def ORep(K:PySem.W.Frag)(ι:List Addr)(H:Hp)(a:Addr):O->Prop
 | .lst xs=>∃ vs,H a=some (.lst vs)/\Reps K ι H vs xs
 | .dK kvs=>∃ us,H a=some (.dK us)/\KRep K ι H us kvs
 | .dT kvs=>∃ us,H a=some (.dT us)/\KRep K ι H us kvs
structure HRep (K:PySem.W.Frag) (ι:List Addr) (H:Hp) (h:Hd):Prop where
 nd:ι.Nodup
 len:ι.length=h.length
 obj:∀ (i:Nat) (a:Addr) (o:O),ι[i]? = some a->h[i]? = some o->ORep K ι H a o
section
variable{K:PySem.W.Frag}{ι:List Addr}{H:Hp}{h:Hd}
theorem ORep.some(r:ORep K ι H a o):∃ u,H a=some u/\(∀ vs,u≠.tup vs)/\(∀ o' u',u≠.frz o' u'):=by
 cases o with
 | lst xs=>obtain ⟨vs,e,_⟩:=r;exact ⟨_,e,λ_ z=>(by cases z),λ_ _ z=>(by cases z)⟩
 | dK kvs=>obtain ⟨us,e,_⟩:=r;exact ⟨_,e,λ_ z=>(by cases z),λ_ _ z=>(by cases z)⟩
 | dT kvs=>obtain ⟨us,e,_⟩:=r;exact ⟨_,e,λ_ z=>(by cases z),λ_ _ z=>(by cases z)⟩
theorem HRep.at(r:HRep K ι H h){i:Nat}(e:ι[i]? = some a):∃ o,h[i]? = some o/\ORep K ι H a o:=by
 have hi:i<h.length:=by rw [<-r.len];exact (ah.mp e).1
 exact ⟨h[i],af hi,r.obj i a _ e (af hi)⟩
theorem HRep.addr(r:HRep K ι H h){i:Nat}(e:h[i]? = some o):∃ a,ι[i]? = some a/\ORep K ι H a o:=by
 have hi:i<ι.length:=by rw [r.len];exact (ah.mp e).1
 exact ⟨ι[i],af hi,r.obj i _ o (af hi) e⟩
theorem HRep.notin(r:HRep K ι H h)(e:H p=none):p ∉ ι:=λz=>by
 obtain ⟨i,hi⟩:=bR z;obtain ⟨o,_,q⟩:=r.at hi;obtain ⟨u,q,_⟩:=q.some;rw [e] at q;cases q
theorem ORep.monoW(g:Gw ι H ι' H')(e:H' a=H a)(r:ORep K ι H a o):ORep K ι' H' a o:=by
 cases o with
 | lst xs=>obtain ⟨vs,h1,h2⟩:=r;exact ⟨vs,by rw [e];exact h1,h2.monoW g⟩
 | dK kvs=>obtain ⟨us,h1,h2,h3⟩:=r;exact ⟨us,by rw [e];exact h1,h2,h3.monoW g⟩
 | dT kvs=>obtain ⟨us,h1,h2,h3⟩:=r;exact ⟨us,by rw [e];exact h1,h2,h3.monoW g⟩
theorem ORep.mono(g:Gr ι H ι' H')(e:H' a=H a)(r:ORep K ι H a o):ORep K ι' H' a o:=r.monoW g.w e
theorem a0w(e:H p=none)(o:HO):Gr ι H ι (upd H p o) :=
 ⟨⟨[],by simp,by simp⟩,λa vs h=>by rw [jj (jf h e)];exact h,λa o u h=>by rw [jj (jf h e)];exact h,λa u h _=>by rw [jj (jf h e)];exact h,λa u h=>⟨u,by rw [jj (jf h e)];exact h⟩⟩
theorem HRep.aside(r:HRep K ι H h)(e:H p=none)(o:HO):HRep K ι (upd H p o) h:=by
 refine ⟨r.nd,r.len,λi a o' e1 e2=>?_⟩;have q:=r.obj i a o' e1 e2;obtain ⟨u,hu,_⟩:=q.some;exact q.mono (a0w e o) (jj (jf hu e))
theorem acf(e:H p=none)(o:HO):Gr ι H (ι++[p]) (upd H p o) :=
 ⟨⟨[p],rfl,by simpa using e⟩,(a0w (ι:=ι) e o).tup,(a0w (ι:=ι) e o).frz,(a0w (ι:=ι) e o).oth,(a0w (ι:=ι) e o).kp⟩
theorem HRep.add(r:HRep K ι H h)(e:H p=none)(q:ORep K (ι++[p]) (upd H p o) p ob):HRep K (ι++[p]) (upd H p o) (h++[ob]):=by
 refine ⟨?_,by simp [r.len],λi a o' e1 e2=>?_⟩
 ·rw [bY];exact ⟨r.nd,by simp,λa ha b hb z=>r.notin e (by rw [ai.mp hb] at z;rw [<-z];exact ha)⟩
 ·by_cases hi:i<ι.length
  ·rw [aC hi] at e1;rw [aC (by rw [<-r.len];exact hi)] at e2
   have q:=r.obj i a o' e1 e2;obtain ⟨u,hu,_⟩:=q.some;exact q.mono (acf e o) (jj (jf hu e))
  ·have hi2:i<(ι++[p]).length:=(ah.mp e1).1;have:i=ι.length:=by simp at hi2;omega
   subst this;rw [aF (ax _)] at e1;rw [r.len,aF (ax _)] at e2;simp at e1 e2;subst e1 e2;exact q
theorem a4t{i:Nat}(r:HRep K ι H h)(e:ι[i]? = some a)(o:HO):Gr ι H ι (upd H a o):=by
 obtain ⟨_,_,q⟩:=r.at e;obtain ⟨u,hu,n1,n2⟩:=q.some;refine ⟨⟨[],by simp,by simp⟩,λb vs hb=>?_,λb o' u' hb=>?_,λb u' hb hn=>?_,λb u' hb=>?_⟩
 ·rw [jj (λz=>by subst z;rw [hu] at hb;exact n1 _ (bM hb))];exact hb
 ·rw [jj (λz=>by subst z;rw [hu] at hb;exact n2 _ _ (bM hb))];exact hb
 ·rw [jj (λz=>hn (by subst z;exact aM e))];exact hb
 ·by_cases z:b=a
  ·subst z;exact ⟨o,qd⟩
  ·exact ⟨u',by rw [jj z];exact hb⟩
theorem HRep.put(r:HRep K ι H h){i:Nat}(e:ι[i]? = some a)(q:ORep K ι (upd H a o) a ob):HRep K ι (upd H a o) (h.set i ob):=by
 refine ⟨r.nd,by rw [fP];exact r.len,λj b o' e1 e2=>?_⟩
 by_cases hj:i=j
 ·subst hj;rw [e] at e1;cases e1
  have hi:i<h.length:=by rw [<-r.len];exact (ah.mp e).1
  rw [cE hi] at e2;cases e2
  exact q
 ·rw [d0 hj] at e2;have hne:b≠a:=λz=>by
   subst z;obtain ⟨h1,g1⟩:=ah.mp e;obtain ⟨h2,g2⟩:=ah.mp e1;have np:=bv.mp r.nd
   rcases gc hj with l | l
   ·exact np i j h1 h2 l (g1.trans g2.symm)
   ·exact np j i h2 h1 l (g2.trans g1.symm)
  exact (r.obj j b o' e1 e2).mono (a4t r e o) (jj hne)
end
structure SRep (K:PySem.W.Frag) (ι:List Addr) (H:Hp) (σ:St) (τ:Sd):Prop where
 len:σ.length=τ.length
 val:∀ (i:Nat) (d:D),τ[i]? = some (some d)->∃ v,σ[i]? = some (some v)/\Rep K ι H v d
theorem SRep.mono(g:Gr ι H ι' H')(s:SRep K ι H σ τ):SRep K ι' H' σ τ :=
 ⟨s.len,λi d e=>let ⟨v,h1,h2⟩:=s.val i d e; ⟨v,h1,h2.mono g⟩⟩
theorem SRep.set(s:SRep K ι H σ τ)(r:Rep K ι H v d)(i:Nat):SRep K ι H (σ.set i (some v)) (τ.set i (some d)):=by
 refine ⟨by simp [s.len],λj d' e=>?_⟩
 by_cases hj:i=j
 ·subst hj;have hi:i<τ.length:=by
   have:=(ah.mp e).1
   simpa using this
  rw [cE hi] at e;cases e
  exact ⟨v,by rw [cE (by rw [s.len];exact hi)],r⟩
 ·rw [d0 hj] at e ⊢;exact s.val j d' e
abbrev XD:=Str->List Addr->Hp->Hd->Prop
def out{α β:Type}(K:PySem.W.Frag)(E:XD)(Rp:List Addr->Hp->β->α->Prop)(ι:List Addr)(H:Hp)(r:R α)(Q:β->Hp->Prop):Prop :=
 match r with
 | .ok a h=>∀ ι' H' b,Gr ι H ι' H'->Rp ι' H' b a->HRep K ι' H' h->Q b H'
 | .ex c h=>∀ ι' H',Gr ι H ι' H'->HRep K ι' H' h->E c ι' H' h
 | .no=>False
theorem a0x{α β:Type}{K:PySem.W.Frag}{E:XD}{Rp:List Addr->Hp->β->α->Prop}{ι ι1:List Addr}{H H1:Hp}{r:R α}{Q:β->Hp->Prop}(o:out K E Rp ι H r Q)(g:Gr ι H ι1 H1):out K E Rp ι1 H1 r Q:=by
 cases r with
 | ok a h=>exact λι' H' b g'=>o ι' H' b (g.trans g')
 | ex c h=>exact λι' H' g'=>o ι' H' (g.trans g')
 | no=>exact o
theorem ig{α β γ δ:Type}{K:PySem.W.Frag}{E:XD}{Rp:List Addr->Hp->β->α->Prop}{Sp:List Addr->Hp->δ->γ->Prop}{ι:List Addr}{H:Hp}{r:R α}{k:α->Hd->R γ}{Q:δ->Hp->Prop}{P:β->Hp->Prop}
  (o:out K E Sp ι H (r.bind k) Q) (hP:∀ a h ι1 H1 b,Gr ι H ι1 H1->Rp ι1 H1 b a->HRep K ι1 H1 h->out K E Sp ι1 H1 (k a h) Q->P b H1):out K E Rp ι H r P:=by
 cases r with
 | ok a h=>exact λι' H' b g r' hr=>hP a h ι' H' b g r' hr (a0x o g)
 | ex c h=>exact o
 | no=>exact o
abbrev a0a(K:PySem.W.Frag):List Addr->Hp->V->D->Prop:=λι H v d=>Rep K ι H v d
abbrev b3q(K:PySem.W.Frag):List Addr->Hp->List V->List D->Prop:=λι H v d=>Reps K ι H v d
abbrev apk:List Addr->Hp->Bool->Bool->Prop:=λ_ _ a b=>a=b
abbrev b3r:List Addr->Hp->Option Int->Option Int->Prop:=λ_ _ a b=>a=b
def am0(K:PySem.W.Frag)(E:XD)(ι:List Addr)(H:Hp)(r:Fl)(N:Ends):Prop :=
 match r with
 | .nx τ h=>∀ ι' H' σ,Gr ι H ι' H'->SRep K ι' H' σ τ->HRep K ι' H' h->N.nx σ H'
 | .bk τ h=>∀ ι' H' σ,Gr ι H ι' H'->SRep K ι' H' σ τ->HRep K ι' H' h->N.bk σ H'
 | .ct τ h=>∀ ι' H' σ,Gr ι H ι' H'->SRep K ι' H' σ τ->HRep K ι' H' h->N.ct σ H'
 | .rt d h=>∀ ι' H' v,Gr ι H ι' H'->Rep K ι' H' v d->HRep K ι' H' h->N.rt v H'
 | .ex c h=>∀ ι' H',Gr ι H ι' H'->HRep K ι' H' h->E c ι' H' h
 | .no=>False
theorem xm(o:am0 K E ι H r N)(g:Gr ι H ι1 H1):am0 K E ι1 H1 r N:=by
 cases r with
 | nx τ h=>exact λι' H' b g'=>o ι' H' b (g.trans g')
 | bk τ h=>exact λι' H' b g'=>o ι' H' b (g.trans g')
 | ct τ h=>exact λι' H' b g'=>o ι' H' b (g.trans g')
 | rt d h=>exact λι' H' b g'=>o ι' H' b (g.trans g')
 | ex c h=>exact λι' H' g'=>o ι' H' (g.trans g')
 | no=>exact o
theorem vh{α β:Type}{K:PySem.W.Frag}{E:XD}{Rp:List Addr->Hp->β->α->Prop}{ι:List Addr}{H:Hp}{r:R α}{k:α->Hd->Fl}{N:Ends}{P:β->Hp->Prop}
  (o:am0 K E ι H (r.fl k) N) (hP:∀ a h ι1 H1 b,Gr ι H ι1 H1->Rp ι1 H1 b a->HRep K ι1 H1 h->am0 K E ι1 H1 (k a h) N->P b H1):out K E Rp ι H r P:=by
 cases r with
 | ok a h=>exact λι' H' b g r' hr=>hP a h ι' H' b g r' hr (xm o g)
 | ex c h=>exact o
 | no=>exact o
def lift{α β:Type}(K:PySem.W.Frag)(E:XD)(Rp:List Addr->Hp->β->α->Prop)(f:Sd->Hd->R α):St->Hp->(β->Hp->Prop)->Prop:=λσ H Q =>
 ∃ ι τ h,SRep K ι H σ τ/\HRep K ι H h/\out K E Rp ι H (f τ h) Q
def aaf(K:PySem.W.Frag)(E:XD)(f:SS):TS:=λN σ H=>∃ ι τ h,SRep K ι H σ τ/\HRep K ι H h/\am0 K E ι H (f τ h) N
abbrev ME(X:Cx)(E:XD)(e:Expr)(f:SE):Prop:=PE X e (lift X.K E (a0a X.K) f)
abbrev MT(X:Cx)(E:XD)(e:Expr)(f:ST):Prop:=PT X e (lift X.K E apk f)
abbrev MW(X:Cx)(E:XD)(e:Expr)(f:ST):Prop:=PW X e (lift X.K E apk f)
abbrev MA(X:Cx)(E:XD)(es:List Expr)(f:SA):Prop:=PA X es (lift X.K E (b3q X.K) f)
abbrev MS(X:Cx)(E:XD)(st:Stmt)(f:SS):Prop:=PS X st (aaf X.K E f)
abbrev MSs(X:Cx)(E:XD)(st:List Stmt)(f:SS):Prop:=PSs X st (aaf X.K E f)
theorem PE.weak(h:PE X e t)(i:∀ σ H Q,t' σ H Q->t σ H Q):PE X e t':=λpins s σ H Q I q=>h pins s σ H Q I (i _ _ _ q)
theorem PT.weak(h:PT X e t)(i:∀ σ H Q,t' σ H Q->t σ H Q):PT X e t':=λpins s σ H Q I q=>h pins s σ H Q I (i _ _ _ q)
theorem PW.weak(h:PW X e t)(i:∀ σ H Q,t' σ H Q->t σ H Q):PW X e t':=λwh pins s σ H Q I q=>h wh pins s σ H Q I (i _ _ _ q)
theorem PA.weak(h:PA X e t)(i:∀ σ H Q,t' σ H Q->t σ H Q):PA X e t':=λpos pins s σ H Q I q=>h pos pins s σ H Q I (i _ _ _ q)
theorem PS.weak(h:PS X e t)(i:∀ N σ H,t' N σ H->t N σ H):PS X e t':=λpins s σ H N I q=>h pins s σ H N I (i _ _ _ q)
theorem PSs.weak(h:PSs X e t)(i:∀ N σ H,t' N σ H->t N σ H):PSs X e t':=λpins s σ H N I q=>h pins s σ H N I (i _ _ _ q)
abbrev LINE:Nat:=16777216
theorem ll{n:Nat}(h:n<=LINE):n<=sizeLine:=arp h
def sV(i:Nat):SE:=λτ h=>match τ[i]? with | some (some d)=>.ok d h | _=>.no
def sC(d:D):SE:=λ_ h=>.ok d h
section
variable{X:Cx}{E:XD}{a b c e:Expr}{fa fb fc:SE}{pos:Pos}
theorem bf(i:Nat)(hN:X.N[i]? = some x:=by rfl)(hv:Vis X.env.scope x:=by first | exact Or.inl rfl | exact Or.inr (Or.inl rfl) | exact Or.inr (Or.inr rfl))(hd:(x == ("__debug__" : Str))=false:=by decide)
  (hcd:(x == ("__classdict__" : Str))=false:=by decide):ME X E (.Name x pos) (sV i):=by
 refine PE.weak (ava hN hv hd hcd) λσ H Q ⟨ι,τ,h,S,Rh,o⟩=>?_;unfold sV at o
 split at o
 ·rename_i d e;obtain ⟨v,h1,h2⟩:=S.val i d e;exact ⟨v,h1,o ι H v (.refl _ _) h2 Rh⟩
 ·exact o.elim
theorem awl(h:PE X e (tC v))(r:∀ ι H,Rep X.K ι H v d):ME X E e (sC d) :=
 PE.weak h λσ H Q ⟨ι,τ,h,S,Rh,o⟩=>o ι H v (.refl _ _) (r ι H) Rh
theorem au{i j pos}:ME X E (.Constant (.int i) j pos) (sC (.int i)):=awl avb λ_ _=>.int i
theorem a3a{i j pos}:ME X E (.Constant (.bool i) j pos) (sC (.bl i)):=awl azw λ_ _=>.bl i
theorem a2u{i j pos}:ME X E (.Constant (.str i) j pos) (sC (.str i)):=awl avd λ_ _=>.str i
theorem a2v{j pos}:ME X E (.Constant .none j pos) (sC .non):=awl avc λ_ _=>.non
theorem ars(hg:Gl X x)(hm:X.mg x=none)(hv:bootBuiltins x=some (.type n))(hn:x ≠ "__name__":=by decide)(hd:(x == ("__debug__" : Str))=false:=by decide):ME X E (.Name x pos) (sC (.ty n)) :=
 awl (aqt (v:=.ty n) hg hm hv rfl hn hd) λ_ _=>.ty n
def s2(g:D->D->Hd->R D)(fa fb:SE):SE:=λτ h=>(fa τ h).bind λx h1=>(fb τ h1).bind λy h2=>g x y h2
def s1(g:D->Hd->R D)(fa:SE):SE:=λτ h=>(fa τ h).bind g
def a5m(K:PySem.W.Frag)(g:D->D->Hd->R D)(r:R2):Prop:=∀ (E:XD) ι H h x y dx dy Q,Rep K ι H x dx->Rep K ι H y dy->HRep K ι H h->out K E (a0a K) ι H (g dx dy h) Q->r x y H Q
def b3s(K:PySem.W.Frag)(g:D->Hd->R D)(r:V->Hp->VK->Prop):Prop:=∀ (E:XD) ι H h x dx Q,Rep K ι H x dx->HRep K ι H h->out K E (a0a K) ι H (g dx h) Q->r x H Q
def af7(K:PySem.W.Frag)(g:List D->Hd->R D)(r:List V->Hp->VK->Prop):Prop:=∀ (E:XD) ι H h xs ds Q,Reps K ι H xs ds->HRep K ι H h->out K E (a0a K) ι H (g ds h) Q->r xs H Q
theorem azh(hs:a5m K g r)(q:lift K E (a0a K) (s2 g fa fb) σ H Q):tOp r (lift K E (a0a K) fa) (lift K E (a0a K) fb) σ H Q:=by
 obtain ⟨ι,τ,h,S,Rh,o⟩:=q;refine ⟨ι,τ,h,S,Rh,ig o λd h1 ι1 H1 v g1 r1 hr1 o1=>?_⟩;refine ⟨ι1,τ,h1,S.mono g1,hr1,ig o1 λd2 h2 ι2 H2 u g2 r2 hr2 o2=>?_⟩;exact hs E ι2 H2 h2 v u d d2 Q (r1.mono g2) r2 hr2 o2
theorem agt(ho:OpR X (binaryOp op) r)(hs:a5m X.K g r)(ha:ME X E a fa)(hb:ME X E b fb):ME X E (.BinOp a op b pos) (s2 g fa fb) :=
 PE.weak (b08 ho ha hb) λσ H Q q=>azh hs q
theorem um(ho:OpR X (compareOp op) r)(hs:a5m X.K g r)(ha:ME X E a fa)(hb:ME X E b fb)(hm:behindInMarks op b=false):ME X E (.Compare a [op] [b] pos) (s2 g fa fb) :=
 PE.weak (ar0 ho ha hb hm) λσ H Q q=>azh hs q
theorem b0u(ho:UnR X (unaryOp op) r)(hs:b3s X.K g r)(ha:ME X E a fa):ME X E (.UnaryOp op a pos) (s1 g fa):=by
 refine PE.weak (b09 ho ha) λσ H Q ⟨ι,τ,h,S,Rh,o⟩=>?_;exact ⟨ι,τ,h,S,Rh,ig o λd h1 ι1 H1 v g1 r1 hr1 o1=>hs E ι1 H1 h1 v d Q r1 hr1 o1⟩
theorem b0v(ho:IxR X r)(hs:a5m X.K g r)(ha:ME X E a fa)(hb:ME X E b fb)(hp:adv b):ME X E (.Subscript a b pos) (s2 g fa fb) :=
 PE.weak (b0h ho ha hb hp) λσ H Q q=>azh hs q
def asB(d:D)(h:Hd):R Bool:=match d with | .bl b=>.ok b h | _=>.no
def sT(f:SE):ST:=λτ h=>(f τ h).bind asB
theorem art(hi:∀ σ H Q,lift K E (a0a K) f σ H Q->t σ H Q)(q:lift K E apk (sT f) σ H Q):aw0 t σ H Q:=by
 refine hi σ H _ ?_;obtain ⟨ι,τ,h,S,Rh,o⟩:=q;refine ⟨ι,τ,h,S,Rh,ig o λd h1 ι1 H1 v g1 r1 hr1 o1=>?_⟩
 cases r1 with
 | bl b=>exact ⟨b,rfl,o1 ι1 H1 b (.refl _ _) rfl hr1⟩
 | _=>exact o1.elim
theorem gq(ho:OpR X (compareOp op) r)(hs:a5m X.K g r)(ha:ME X E a fa)(hb:ME X E b fb)(hm:behindInMarks op b=false):MT X E (.Compare a [op] [b] pos) (sT (s2 g fa fb)) :=
 PT.weak (ar3 ho ha hb hm) λσ H Q q=>art (λ_ _ _=>azh hs) q
def sCh(g g':D->D->Hd->R D)(fa fb fc:SE):SE:=λτ h=>(fa τ h).bind λx h1=>(fb τ h1).bind λy h2=>(g x y h2).bind λz h3=>match z with
 | .bl true=>(fc τ h3).bind λw h4=>g' y w h4
 | .bl false=>.ok (.bl false) h3
 | _=>.no
def tru(d:D)(h:Hd):R Bool:=match d with
 | .non=>.ok false h
 | .bl b=>.ok b h
 | .int i=>.ok (i != 0) h
 | .str x=>if x.length<=LINE then .ok ((x.length:Int) != 0) h else .no
 | .tup xs=>.ok (!xs.isEmpty) h
 | .rol xs=>.ok (!xs.isEmpty) h
 | .ref i=>match h[i]? with
  | some (.lst xs)=>.ok (!xs.isEmpty) h
  | some (.dK kvs)=>.ok (!kvs.isEmpty) h
  | _=>.no
 | _=>.no
theorem Reps.emp{K:PySem.W.Frag}{ι:List Addr}{H:Hp}{vs:List V}{ds:List D}(r:Reps K ι H vs ds):vs.isEmpty=ds.isEmpty:=by cases r<;>rfl
theorem KRep.emp{κ:Type}{K:PySem.W.Frag}{ι:List Addr}{H:Hp}{us:List (κ × V)}{kvs:List (κ × D)}(r:KRep K ι H us kvs):us.isEmpty=kvs.isEmpty:=by
 have:=av List.length r.1
 cases us<;>cases kvs<;>simp at this ⊢
theorem aru{K:PySem.W.Frag}{ι:List Addr}{H:Hp}{h:Hd}{x:V}{d:D}{Q:Bool->Hp->Prop}(r:Rep K ι H x d)(hr:HRep K ι H h)(o:out K E apk ι H (tru d h) Q):∃ k,b0c K x H k/\Q k H:=by
 cases r with
 | non=>exact ⟨false,rfl,o ι H _ (.refl _ _) rfl hr⟩
 | bl b=>exact ⟨b,rfl,o ι H _ (.refl _ _) rfl hr⟩
 | int i=>exact ⟨_,rfl,o ι H _ (.refl _ _) rfl hr⟩
 | str x =>
  by_cases hl:x.length<=LINE
  ·simp only [tru,aL hl] at o;exact ⟨_,⟨ll hl,rfl⟩,o ι H _ (.refl _ _) rfl hr⟩
  ·simp only [tru,aY hl] at o;exact o.elim
 | ty n=>exact o.elim
 | rod _ _ _=>exact o.elim
 | scr _ _=>exact o.elim
 | rdT _ _ _=>exact o.elim
 | exc _ _ _=>exact o.elim
 | tup e rs=>exact ⟨_, .inr (.inl ⟨_,SqT.of e,rfl⟩),by rw [rs.emp];exact o ι H _ (.refl _ _) rfl hr⟩
 | rol e rs=>exact ⟨_, .inl ⟨_,e.l,rfl⟩,by rw [rs.emp];exact o ι H _ (.refl _ _) rfl hr⟩
 | @ref a i e =>
  obtain ⟨ob,h1,h2⟩:=hr.at e;simp only [tru,h1] at o
  cases ob with
  | lst xs =>
   obtain ⟨vs,h3,h4⟩:=h2;exact ⟨_, .inl ⟨_,SqL.of h3,rfl⟩,by rw [h4.emp];exact o ι H _ (.refl _ _) rfl hr⟩
  | dK kvs =>
   obtain ⟨us,h3,h4⟩:=h2;exact ⟨_, .inr (.inr ⟨_,h3,rfl⟩),by rw [h4.emp];exact o ι H _ (.refl _ _) rfl hr⟩
  | dT kvs=>exact o.elim
def a1z(f:SE):ST:=λτ h=>(f τ h).bind tru
theorem wz(ha:ME X E a fa)(he:∀ whole,isTrue a X.env whole=(do let v <-whole;standAt a.pos;holding [v] (truthy v)):=by intro _;rfl):MT X E a (a1z fa):=by
 refine PT.weak (ame ha he) λσ H Q ⟨ι,τ,h,S,Rh,o⟩=>?_;exact ⟨ι,τ,h,S,Rh,ig o λd h1 ι1 H1 v g1 r1 hr1 o1=>aru r1 hr1 o1⟩
def a82(f g:ST):ST:=λτ h=>(f τ h).bind λb h1=>if b=true then g τ h1 else .ok false h1
def sOr(f g:ST):ST:=λτ h=>(f τ h).bind λb h1=>if b=true then .ok true h1 else g τ h1
def a7c(f:ST):ST:=λτ h=>(f τ h).bind λb h1=>.ok (!b) h1
variable{ga gb:ST}
theorem a3g(ha:MT X E a ga):MW X E (.BoolOp .And [a] pos) ga:=aqu ha
theorem a83(ha:MT X E a ga):MW X E (.BoolOp .Or [a] pos) ga:=ave ha
theorem a73{rest:List Expr}(ha:MT X E a ga)(hb:MW X E (.BoolOp .And (b::rest) pos) gb):MW X E (.BoolOp .And (a::b::rest) pos) (a82 ga gb):=by
 refine PW.weak (avf ha hb) λσ H Q ⟨ι,τ,h,S,Rh,o⟩=>?_;refine ⟨ι,τ,h,S,Rh,ig o λd h1 ι1 H1 v g1 r1 hr1 o1=>?_⟩;cases r1
 cases d with
 | true=>exact ⟨ι1,τ,h1,S.mono g1,hr1,o1⟩
 | false=>exact o1 ι1 H1 false (.refl _ _) rfl hr1
theorem aag{rest:List Expr}(ha:MT X E a ga)(hb:MW X E (.BoolOp .Or (b::rest) pos) gb):MW X E (.BoolOp .Or (a::b::rest) pos) (sOr ga gb):=by
 refine PW.weak (azx ha hb) λσ H Q ⟨ι,τ,h,S,Rh,o⟩=>?_;refine ⟨ι,τ,h,S,Rh,ig o λd h1 ι1 H1 v g1 r1 hr1 o1=>?_⟩;cases r1
 cases d with
 | true=>exact o1 ι1 H1 true (.refl _ _) rfl hr1
 | false=>exact ⟨ι1,τ,h1,S.mono g1,hr1,o1⟩
theorem a4u(ha:MT X E a ga):MT X E (.UnaryOp .Not a pos) (a7c ga):=by
 refine PT.weak (avh ha) λσ H Q ⟨ι,τ,h,S,Rh,o⟩=>?_;refine ⟨ι,τ,h,S,Rh,ig o λd h1 ι1 H1 v g1 r1 hr1 o1=>?_⟩;cases r1
 exact o1 ι1 H1 _ (.refl _ _) rfl hr1
def a2a(f g:SE):SE:=λτ h=>(f τ h).bind λd h1=>match d with | .bl true=>g τ h1 | .bl false=>.ok (.bl false) h1 | _=>.no
def azi(f g:SE):SE:=λτ h=>(f τ h).bind λd h1=>match d with | .bl true=>.ok (.bl true) h1 | .bl false=>g τ h1 | _=>.no
def amu(f:SE):SE:=λτ h=>(f τ h).bind λd h1=>match d with | .bl b=>.ok (.bl (!b)) h1 | _=>.no
theorem a9b{op}(ha:ME X E a fa):ME X E (.BoolOp op [a] pos) fa:=avi ha
theorem a9c{rest:List Expr}(ha:ME X E a fa)(hb:ME X E (.BoolOp .And (b::rest) pos) fb):ME X E (.BoolOp .And (a::b::rest) pos) (a2a fa fb):=by
 refine PE.weak (avj ha hb) λσ H Q ⟨ι,τ,h,S,Rh,o⟩=>?_;refine ⟨ι,τ,h,S,Rh,ig o λd h1 ι1 H1 v g1 r1 hr1 o1=>?_⟩
 cases r1 with
 | bl k =>
  refine ⟨k,rfl,?_⟩
  cases k with
  | true=>exact ⟨ι1,τ,h1,S.mono g1,hr1,o1⟩
  | false=>exact o1 ι1 H1 _ (.refl _ _) (.bl _) hr1
 | _=>exact o1.elim
def acg(c:ST)(f g:SE):SE:=λτ h=>(c τ h).bind λb h1=>if b=true then f τ h1 else g τ h1
theorem a9d(hc:MT X E c ga)(ha:ME X E a fa)(hb:ME X E b fb):ME X E (.IfExp c a b pos) (acg ga fa fb):=by
 refine PE.weak (am9 hc ha hb) λσ H Q ⟨ι,τ,h,S,Rh,o⟩=>?_;refine ⟨ι,τ,h,S,Rh,ig o λd h1 ι1 H1 v g1 r1 hr1 o1=>?_⟩;cases r1
 cases d with
 | true=>exact ⟨ι1,τ,h1,S.mono g1,hr1,o1⟩
 | false=>exact ⟨ι1,τ,h1,S.mono g1,hr1,o1⟩
def dh:SA:=λ_ h=>.ok [] h
def ak(f:SE)(g:SA):SA:=λτ h=>(f τ h).bind λd h1=>(g τ h1).bind λds h2=>.ok (d::ds) h2
variable{es:List Expr}{ka:SA}
theorem bc:MA X E [] dh:=PA.weak aev λσ H Q ⟨ι,τ,h,S,Rh,o⟩=>o ι H [] (.refl _ _) .nil Rh
theorem aa(ha:ME X E e fa)(hr:MA X E es ka)(hs:starEach (e::es) X.env=(false,eval e X.env)::starEach es X.env:=by rfl):MA X E (e::es) (ak fa ka):=by
 refine PA.weak (a7s ha hr hs) λσ H Q ⟨ι,τ,h,S,Rh,o⟩=>?_;refine ⟨ι,τ,h,S,Rh,ig o λd h1 ι1 H1 v g1 r1 hr1 o1=>?_⟩;refine ⟨ι1,τ,h1,S.mono g1,hr1,ig o1 λd2 h2 ι2 H2 u g2 r2 hr2 o2=>?_⟩;exact o2 ι2 H2 _ (.refl _ _) (.cons (r1.mono g2) r2) hr2
def a4d(ds:List D)(h:Hd):R D:=if ds.length<=LINE then .ok (.tup ds) h else .no
def a6k(ds:List D)(h:Hd):R D:=if ds.length<=LINE then .ok (.ref h.length) (h++[.lst ds]) else .no
def sA(g:List D->Hd->R D)(k:SA):SE:=λτ h=>(k τ h).bind g
theorem a5b(r:Reps K ι H vs ds)(hr:HRep K ι H h)(o:out K E (a0a K) ι H (.ok (.tup ds) h) Q):∀ p,H p=none->Q (.ref p) (upd H p (.tup vs)):=λp hp =>
 o ι _ _ (a0w hp _) (.tup qd (r.mono (a0w hp _))) (hr.aside hp _)
theorem a1g(r:Reps K ι H vs ds)(hr:HRep K ι H h)(o:out K E (a0a K) ι H (.ok (.ref h.length) (h++[.lst ds])) Q):∀ p,H p=none->Q (.ref p) (upd H p (.lst vs)):=λp hp =>
 o (ι++[p]) _ _ (acf hp _) (.ref (by rw [aF (by rw [hr.len];exact ax _),hr.len];simp)) (hr.add hp ⟨_,qd,r.mono (acf hp _)⟩)
theorem arv{K:PySem.W.Frag}{ι:List Addr}{H:Hp}{h:Hd}{i:Nat}{a:Addr}{vs:List V}{ds:List D}{d:D}{v:V}{Q:VK}(r:Reps K ι H vs ds)(hr:HRep K ι H h)(hi:ι[i]? = some a)(rd:Rep K ι H v d)(o:out K E (a0a K) ι H (.ok d (h.set i (.lst ds))) Q):Q v (upd H a (.lst vs)) :=
 o ι _ _ (a4t hr hi _) (rd.mono (a4t hr hi _)) (hr.put hi ⟨_,qd,r.mono (a4t hr hi _)⟩)
theorem a0h{x1}(h:MA X E es ka):ME X E (.Tuple es x1 pos) (sA a4d ka):=by
 refine PE.weak (aw2 h) λσ H Q ⟨ι,τ,h,S,Rh,o⟩=>?_;refine ⟨ι,τ,h,S,Rh,ig o λd h1 ι1 H1 v g1 r1 hr1 o1=>?_⟩;unfold a4d at o1
 split at o1
 ·rename_i hl;exact ⟨ll (by rw [r1.len];exact hl),a5b r1 hr1 o1⟩
 ·exact o1.elim
theorem a2w(h:MA X E es ka):ME X E (.List es pos) (sA a6k ka):=by
 refine PE.weak (aw3 h) λσ H Q ⟨ι,τ,h,S,Rh,o⟩=>?_;refine ⟨ι,τ,h,S,Rh,ig o λd h1 ι1 H1 v g1 r1 hr1 o1=>?_⟩;unfold a6k at o1
 split at o1
 ·rename_i hl;exact ⟨ll (by rw [r1.len];exact hl),a1g r1 hr1 o1⟩
 ·exact o1.elim
theorem u9{x:Str}{p:Pos}{id:String}{r:List V->Hp->VK->Prop}{g:List D->Hd->R D}(hc:CallR X (.builtin id) r)(hs:af7 X.K g r)(hg:Gl X x)(hm:X.mg x=none)(hv:bootBuiltins x=some (.builtin id))(ha:MA X E (e::es) ka)(hn:x ≠ "__name__":=by decide)(hdb:(x == ("__debug__" : Str))=false:=by decide)
  (he:starEach (e::es) X.env=(false,eval e X.env)::starEach es X.env:=by rfl) (hpl:(backTo pos (starEach es X.env)).any (·.1)=false:=by rfl):ME X E (.Call (.Name x p) (e::es) [] pos) (sA g ka):=by
 refine PE.weak (aey hc hg hm hv ha hn hdb he hpl) λσ H Q ⟨ι,τ,h,S,Rh,o⟩=>?_;exact ⟨ι,τ,h,S,Rh,ig o λd h1 ι1 H1 v g1 r1 hr1 o1=>hs E ι1 H1 h1 v d Q r1 hr1 o1⟩
theorem a3h{x:Str}{p:Pos}{id:String}{r:List V->Hp->VK->Prop}{g:List D->Hd->R D}(hc:CallR X (.type id) r)(hs:af7 X.K g r)(hg:Gl X x)(hm:X.mg x=none)(hv:bootBuiltins x=some (.type id))(ha:MA X E (e::es) ka)(hn:x ≠ "__name__":=by decide)(hdb:(x == ("__debug__" : Str))=false:=by decide)
  (he:starEach (e::es) X.env=(false,eval e X.env)::starEach es X.env:=by rfl) (hpl:(backTo pos (starEach es X.env)).any (·.1)=false:=by rfl):ME X E (.Call (.Name x p) (e::es) [] pos) (sA g ka):=by
 refine PE.weak (aig hc hg hm hv ha hn hdb he hpl) λσ H Q ⟨ι,τ,h,S,Rh,o⟩=>?_;exact ⟨ι,τ,h,S,Rh,ig o λd h1 ι1 H1 v g1 r1 hr1 o1=>hs E ι1 H1 h1 v d Q r1 hr1 o1⟩
end
def j6(f g:SS):SS:=λτ h=>match f τ h with | .nx τ1 h1=>g τ1 h1 | r=>r
def sNx:SS:=λτ h=>.nx τ h
def qx(f:SE):SS:=λτ h=>(f τ h).fl λd h1=>.rt d h1
def a2b(f:SE):SS:=λτ h=>(f τ h).fl λ_ h1=>.nx τ h1
def sIf(c:ST)(f g:SS):SS:=λτ h=>(c τ h).fl λb h1=>if b=true then f τ h1 else g τ h1
def m5(i:Nat)(f:SE):SS:=λτ h=>(f τ h).fl λd h1=>.nx (τ.set i (some d)) h1
def ae1(i:Nat)(g:D->D->Hd->R D)(f:SE):SS:=λτ h=>match τ[i]? with
 | some (some x)=>(f τ h).fl λy h1=>(g x y h1).fl λz h2=>.nx (τ.set i (some z)) h2
 | _=>.no
section
variable{X:Cx}{E:XD}{e o:Expr}{es:List Expr}{fa fb fc:SE}{ga:ST}{st:Stmt}{sts a b:List Stmt}{f g:SS}{pos:Pos}
theorem jn:MSs X E [] sNx:=PSs.weak aqv λN σ H ⟨ι,τ,h,S,Rh,o⟩=>o ι H σ (.refl _ _) S Rh
theorem awm(q:aaf K E (j6 f g) N σ H):aaf K E f { N with nx:=aaf K E g N } σ H:=by
 obtain ⟨ι,τ,h,S,Rh,o⟩:=q;refine ⟨ι,τ,h,S,Rh,?_⟩;unfold j6 at o
 cases hf:f τ h with
 | nx τ1 h1 =>
  rw [hf] at o;exact λι1 H1 σ1 g1 S1 R1=>⟨ι1,τ1,h1,S1,R1,xm o g1⟩
 | _=>rw [hf] at o;exact o
theorem aq(h1:MS X E st f)(h2:MSs X E sts g):MSs X E (st::sts) (j6 f g):=PSs.weak (ama h1 h2) λN σ H q=>awm q
theorem bw(h1:MS X E st f):MSs X E [st] f:=aqw h1
theorem jh(he:ME X E e fa):MS X E (.Return (some e) pos) (qx fa):=by
 refine PS.weak (avk he) λN σ H ⟨ι,τ,h,S,Rh,o⟩=>?_;exact ⟨ι,τ,h,S,Rh,vh o λd h1 ι1 H1 v g1 r1 hr1 o1=>o1 ι1 H1 v (.refl _ _) r1 hr1⟩
theorem a3i(he:ME X E e fa)(hs:swapsWith e none pos.line X.env=pure false:=by rfl):MS X E (.Expr e pos) (a2b fa):=by
 refine PS.weak (aqx he hs) λN σ H ⟨ι,τ,h,S,Rh,o⟩=>?_;exact ⟨ι,τ,h,S,Rh,vh o λd h1 ι1 H1 v g1 r1 hr1 o1=>o1 ι1 H1 σ (.refl _ _) (S.mono g1) hr1⟩
theorem sy(hc:MT X E c ga)(ha:MSs X E a f)(hb:MSs X E b g):MS X E (.If c a b pos) (sIf ga f g):=by
 refine PS.weak (b01 hc ha hb) λN σ H ⟨ι,τ,h,S,Rh,o⟩=>?_;refine ⟨ι,τ,h,S,Rh,vh o λd h1 ι1 H1 v g1 r1 hr1 o1=>?_⟩;cases r1
 cases d with
 | true=>exact ⟨ι1,τ,h1,S.mono g1,hr1,o1⟩
 | false=>exact ⟨ι1,τ,h1,S.mono g1,hr1,o1⟩
theorem j8(hN:X.N.Nodup)(hi:X.N[i]? = some x)(hx:Loc X.env.scope x)(he:ME X E e fa)(hs:swapsWith e (some (.Name x pos')) pos.line X.env=pure false:=by rfl)(hf:X.fn x=true\/X.env.scope.names.lookup x=some .local:=by first | exact .inl rfl | exact .inr rfl | assumption) :
  MS X E (.Assign [.Name x pos'] e pos) (m5 i fa):=by
 refine PS.weak (avn hN hi hx he hs hf) λN σ H ⟨ι,τ,h,S,Rh,o⟩=>?_;exact ⟨ι,τ,h,S,Rh,vh o λd h1 ι1 H1 v g1 r1 hr1 o1=>o1 ι1 H1 _ (.refl _ _) ((S.mono g1).set r1 i) hr1⟩
theorem a9e(hN:X.N.Nodup)(hi:X.N[i]? = some x)(hx:Loc X.env.scope x)(ho:OpR X (inplaceOp op) r)(hs:a5m X.K gg r)(he:ME X E e fa)(hf:X.fn x=true\/X.env.scope.names.lookup x=some .local:=by first | exact .inl rfl | exact .inr rfl | assumption) :
  MS X E (.AugAssign (.Name x pos') op e pos) (ae1 i gg fa):=by
 refine PS.weak (avo hN hi hx he ho hf) λN σ H ⟨ι,τ,h,S,Rh,o⟩=>?_;unfold ae1 at o
 split at o
 ·rename_i d ed;obtain ⟨v,h1,h2⟩:=S.val i d ed;refine ⟨v,h1,ι,τ,h,S,Rh,vh o λd2 h3 ι1 H1 u g1 r1 hr1 o1=>?_⟩;refine hs E ι1 H1 h3 v u d d2 _ (h2.mono g1) r1 hr1 (vh o1 λd3 h4 ι2 H2 z g2 r2 hr2 o2=>?_);exact o2 ι2 H2 _ (.refl _ _) (((S.mono g1).mono g2).set r2 i) hr2
 ·exact o.elim
def put(o k v:D)(h:Hd):Option Hd:=match o,k with
 | .ref i, .int j=>match h[i]? with
  | some (.lst xs)=>match ixN xs.length j with
   | some m=>some (h.set i (.lst (xs.set m v)))
   | none=>none
  | _=>none
 | _,_=>none
theorem aiz{K:PySem.W.Frag}{ι:List Addr}{H:Hp}{h h':Hd}{o k v:V}{od kd vd:D}{Q:Hp->Prop}(r1:Rep K ι H o od)(r2:Rep K ι H k kd)(r3:Rep K ι H v vd)(hr:HRep K ι H h)(e:put od kd vd h=some h')
  (q:∀ H',Gr ι H ι H'->HRep K ι H' h'->Q H'):aw9 o k v H Q:=by
 cases r1 with
 | @ref a i ha =>
  cases r2 with
  | int j =>
   obtain ⟨ob,h1,h2⟩:=hr.at ha
   cases ob with
   | lst xs =>
    obtain ⟨vs,h3,h4⟩:=h2;simp only [put,h1] at e
    cases hm:ixN xs.length j with
    | none=>rw [hm] at e;cases e
    | some m =>
     rw [hm] at e;cases e
     exact ⟨a,vs,j,m,rfl,rfl,h3,by rw [h4.len];exact hm,q _ (a4t hr ha _) (hr.put ha ⟨_,qd,(h4.set r3 m).mono (a4t hr ha _)⟩)⟩
   | dK _=>simp only [put,h1] at e;cases e
   | dT _=>simp only [put,h1] at e;cases e
  | _=>cases e
 | _=>cases e
def af8(fe fo fi:SE):SS:=λτ h=>(fe τ h).fl λv h1=>(fo τ h1).fl λo h2=>(fi τ h2).fl λk h3=>match put o k v h3 with | some h4=>.nx τ h4 | none=>.no
theorem aj0(he:ME X E e fa)(ho:ME X E o fb)(hi:ME X E i fc)
  (hs:swapsWithSole [.Subscript o i pos'] e pos.line X.env=pure false:=by rfl) (hw:swappedStores [.Subscript o i pos'] e X.env=pure none:=by rfl)
  (h1:(assignEach [.Subscript o i pos'] X.env).map (·.2)=[assign (.Subscript o i pos') X.env]:=by rfl)
  (ha:∀ v,assign (.Subscript o i pos') X.env v=(do
   let ov <-holding [v] (eval o X.env)
   let iv <-holding [v,ov] (eval i X.env)
   standAt pos'
   holding [v,ov,iv] (setItem ov iv v)
   release [v,ov,iv] []):=by intro _;rfl):MS X E (.Assign [.Subscript o i pos'] e pos) (af8 fa fb fc):=by
 refine PS.weak (apb he (avm ho hi set_list ha) hs hw h1) λN σ H ⟨ι,τ,h,S,Rh,oo⟩=>?_;refine ⟨ι,τ,h,S,Rh,vh oo λd h1 ι1 H1 v g1 r1 hr1 o1=>?_⟩;refine ⟨ι1,τ,h1,S.mono g1,hr1,vh o1 λd2 h2 ι2 H2 u g2 r2 hr2 o2=>?_⟩;refine ⟨ι2,τ,h2,(S.mono g1).mono g2,hr2,vh o2 λd3 h3 ι3 H3 w g3 r3 hr3 o3=>?_⟩
 cases hp:put d2 d3 d h3 with
 | none=>rw [hp] at o3;exact o3.elim
 | some h4 =>
  rw [hp] at o3;exact aiz (r2.mono g3) r3 ((r1.mono g2).mono g3) hr3 hp λH' g4 hr4=>o3 ι3 H' σ g4 ((((S.mono g1).mono g2).mono g3).mono g4) hr4
def sWh(c:ST)(f:SS):Nat->SS
 | 0,_,_=>.no
 | n+1,τ,h=>(c τ h).fl λb h1=>if b=true then (match f τ h1 with | .nx τ2 h2=>sWh c f n τ2 h2 | .ct τ2 h2=>sWh c f n τ2 h2 | .bk τ2 h2=>.nx τ2 h2 | r=>r) else .nx τ h1
theorem a7e(n:Nat)(hp:PassesOwn (model X.prog X.w) X.A X.env X.xe)(hc:MT X E c ga)(hb:MSs X E a f):MS X E (.While c a [] pos) (sWh ga f n):=by
 refine PS.weak (amc hp hc hb) λN σ H q=>?_;refine ⟨λm σ H=>aaf X.K E (sWh ga f m) N σ H,⟨n,q⟩,?_⟩
 rintro m σ1 H1 ⟨ι,τ,h,S,Rh,o⟩
 cases m with
 | zero=>exact o.elim
 | succ m =>
  refine ⟨ι,τ,h,S,Rh,vh o λd h1 ι1 H1 v g1 r1 hr1 o1=>?_⟩;cases r1
  cases d with
  | false=>exact o1 ι1 H1 _ (.refl _ _) (S.mono g1) hr1
  | true =>
   refine ⟨λσ' H'=>aaf X.K E (sWh ga f m) N σ' H',λσ' H' q=>⟨m,fF m,q⟩,ι1,τ,h1,S.mono g1,hr1,?_⟩;rw [aL rfl] at o1
   cases hf:f τ h1 with
   | nx τ2 h2=>rw [hf] at o1;exact λι2 H2 σ2 g2 S2 R2=>⟨ι2,τ2,h2,S2,R2,xm o1 g2⟩
   | ct τ2 h2=>rw [hf] at o1;exact λι2 H2 σ2 g2 S2 R2=>⟨ι2,τ2,h2,S2,R2,xm o1 g2⟩
   | bk τ2 h2=>rw [hf] at o1;exact o1
   | rt d h2=>rw [hf] at o1;exact o1
   | ex c h2=>rw [hf] at o1;exact o1
   | no=>rw [hf] at o1;exact o1.elim
end
abbrev SG:=D->Sd->Hd->Fl
def arw(K:PySem.W.Frag)(E:XD)(g:SG):TG:=λv σ H Q=>∃ ι τ h d,Rep K ι H v d/\SRep K ι H σ τ/\HRep K ι H h/\am0 K E ι H (g d τ h) { nx:=Q,rt:=λ_ _=>False }
abbrev MG(X:Cx)(E:XD)(tg:Expr)(g:SG):Prop:=PG X tg (arw X.K E g)
abbrev SGs:=List D->Sd->Hd->Fl
def aj1(K:PySem.W.Frag)(E:XD)(g:SGs):TGs:=λvs σ H Q=>∃ ι τ h ds,Reps K ι H vs ds/\SRep K ι H σ τ/\HRep K ι H h/\am0 K E ι H (g ds τ h) { nx:=Q,rt:=λ_ _=>False }
abbrev MGs(X:Cx)(E:XD)(tg:List Expr)(g:SGs):Prop:=PGs X tg (aj1 X.K E g)
theorem PG.weak(h:PG X e t)(i:∀ v σ H Q,t' v σ H Q->t v σ H Q):PG X e t':=λpins s σ H v u Q I r q=>h pins s σ H v u Q I r (i _ _ _ _ q)
theorem PGs.weak(h:PGs X e t)(i:∀ v σ H Q,t' v σ H Q->t v σ H Q):PGs X e t':=λpins s σ H v u Q I r q=>h pins s σ H v u Q I r (i _ _ _ _ q)
def kN(i:Nat):SG:=λd τ h=>.nx (τ.set i (some d)) h
def a74:SGs:=λds τ h=>match ds with | []=>.nx τ h | _=>.no
def n6(g:SG)(k:SGs):SGs:=λds τ h=>match ds with | d::r=>(match g d τ h with | .nx τ1 h1=>k r τ1 h1 | _=>.no) | []=>.no
def a6l(n:Nat)(k:SGs):SG:=λd τ h=>match d with | .tup ds=>if ds.length=n then k ds τ h else .no | _=>.no
section
variable{X:Cx}{E:XD}{e:Expr}{es:List Expr}{fa:SE}{pos:Pos}{g:SG}{ks:SGs}
theorem j7(hN:X.N.Nodup)(hi:X.N[i]? = some x)(hx:Loc X.env.scope x)(hf:X.fn x=true\/X.env.scope.names.lookup x=some .local:=by first | exact .inl rfl | exact .inr rfl | assumption):MG X E (.Name x pos) (kN i) :=
 PG.weak (jw hN hi hx hf) λv σ H Q ⟨ι,τ,h,d,r,S,Rh,o⟩=>o ι H _ (.refl _ _) (S.set r i) Rh
theorem a03:MGs X E [] a74:=by
 refine PGs.weak a7p λvs σ H Q ⟨ι,τ,h,ds,r,S,Rh,o⟩=>?_
 cases r with
 | nil=>exact ⟨rfl,o ι H σ (.refl _ _) S Rh⟩
 | cons _ _=>exact o.elim
theorem amv(q:aj1 K E (n6 g ks) vs σ H Q):amb (arw K E g) (aj1 K E ks) vs σ H Q:=by
 obtain ⟨ι,τ,h,ds,r,S,Rh,o⟩:=q
 cases r with
 | nil=>exact o.elim
 | @cons v d vs ds r rs =>
  refine ⟨v,vs,rfl,ι,τ,h,d,r,S,Rh,?_⟩;simp only [n6] at o
  cases hg:g d τ h with
  | nx τ1 h1 =>
   rw [hg] at o;exact λι1 H1 σ1 g1 S1 R1=>⟨ι1,τ1,h1,ds,rs.mono g1,S1,R1,xm o g1⟩
  | _=>rw [hg] at o;exact o.elim
theorem a2x(hc:X.calm=true)(h:MGs X E es ks)(hn:(assignEach es X.env).length=n:=by rfl)(hst:(assignEach es X.env).findIdx? (·.1)=none:=by rfl):MG X E (.Tuple es k pos) (a6l n ks):=by
 refine PG.weak (abw hc h hn hst) λv σ H Q ⟨ι,τ,h,d,r,S,Rh,o⟩=>?_
 cases r with
 | @tup a vs xs e rs =>
  simp only [a6l] at o
  by_cases hl:xs.length=n
  ·rw [aL hl] at o;exact ⟨a,vs,rfl,SqT.of e,by rw [rs.len];exact hl,ι,τ,h,xs,rs,S,Rh,o⟩
  ·rw [aY hl] at o;exact o.elim
 | _=>exact o.elim
def a91(f:SE)(g:SG):SS:=λτ h=>(f τ h).fl λd h1=>match g d τ h1 with | .nx τ2 h2=>.nx τ2 h2 | _=>.no
theorem a3j(he:ME X E e fa)(hg:MG X E tg g)(hs:swapsWithSole [tg] e pos.line X.env=pure false:=by rfl)(hw:swappedStores [tg] e X.env=pure none:=by rfl)
  (h1:(assignEach [tg] X.env).map (·.2)=[assign tg X.env]:=by rfl):MS X E (.Assign [tg] e pos) (a91 fa g):=by
 refine PS.weak (apb he hg hs hw h1) λN σ H ⟨ι,τ,h,S,Rh,o⟩=>?_;refine ⟨ι,τ,h,S,Rh,vh o λd h1 ι1 H1 v g1 r1 hr1 o1=>⟨ι1,τ,h1,d,r1,S.mono g1,hr1,?_⟩⟩
 cases hg:g d τ h1 with
 | nx τ1 h1=>rw [hg] at o1;exact o1
 | _=>rw [hg] at o1;exact o1.elim
end
structure Itm where
 xs:List D
 ck:Hd->Prop
def amw(K:PySem.W.Frag)(ι0:List Addr)(H0:Hp)(J:It)(it:Itm):Prop:=∀ ι H h,Gr ι0 H0 ι H->HRep K ι H h->it.ck h->
 (∀ (i:Nat) (d:D),it.xs[i]? = some d->J.go i H/\∀ x H',J.yld i H x H'->Gr ι H ι H'/\Rep K ι H' x d/\HRep K ι H' h)/\J.stop it.xs.length H
abbrev awn(K:PySem.W.Frag):List Addr->Hp->It->Itm->Prop:=λι H J it=>amw K ι H J it
abbrev SI:=Sd->Hd->R Itm
abbrev MI(X:Cx)(E:XD)(tg iter:Expr)(f:SI):Prop:=PI X tg iter (lift X.K E (awn X.K) f)
def a0i(x:Str):List D:=x.cps.toList.map λc=>D.str ⟨#[c]⟩
def amx(d:D)(h:Hd):R Itm:=match d with
 | .tup xs=>.ok ⟨xs,λ_=>True⟩ h
 | .rol xs=>.ok ⟨xs,λ_=>True⟩ h
 | .str x=>.ok ⟨a0i x,λ_=>True⟩ h
 | .ref i=>match h[i]? with
  | some (.lst xs)=>.ok ⟨xs,λh=>h[i]? = some (.lst xs)⟩ h
  | _=>.no
 | _=>.no
def sIt(f:SE):SI:=λτ h=>(f τ h).bind amx
theorem apl(hl:∀ ι H h,Gr ι0 H0 ι H->HRep K ι H h->ck h->∃ vs,SqL K H a vs/\Reps K ι H vs xs):amw K ι0 H0 (Itl K a) ⟨xs,ck⟩:=by
 intro ι H h g hr c
 obtain ⟨vs,h1,h2⟩:=hl ι H h g hr c;refine ⟨λi d e=>?_,⟨vs,h1,by rw [h2.len];exact ax _⟩⟩
 obtain ⟨v,e1,r⟩:=h2.get e;refine ⟨⟨vs,v,h1,e1⟩,λx H' y=>?_⟩;obtain ⟨rfl,y⟩:=y;have:=y vs h1;rw [e1] at this;cases this
 exact ⟨.refl _ _,r,hr⟩
theorem qm(hl:ME X E l f):MI X E tg l (sIt f):=by
 intro pins s σ H Rr I ⟨ι,τ,h,S,Rh,o⟩
 unfold sIt at o
 cases hf:f τ h with
 | no=>rw [hf] at o;exact o.elim
 | ex c h1 =>
  rw [hf] at o;exact aph hl pins s σ H Rr I ⟨ι,τ,h,S,Rh,by rw [hf];exact o⟩
 | ok d h1 =>
  rw [hf] at o
  cases d with
  | tup xs =>
   refine avq hl pins s σ H Rr I ⟨ι,τ,h,S,Rh,?_⟩;rw [hf]
   intro ι1 H1 v g1 r1 hr1
   cases r1 with
   | @tup a vs _ e rs =>
    refine ⟨a,rfl,⟨vs,SqT.of e⟩,o ι1 H1 _ g1 ?_ hr1⟩
    intro ι2 H2 h2 g2 hr2 _
    have e2:=g2.tup _ _ e;have rs2:=rs.mono g2;refine ⟨λi d ed=>?_,⟨vs,SqT.of e2,by rw [rs2.len];exact ax _⟩⟩
    obtain ⟨v,e1,r⟩:=rs2.get ed;refine ⟨⟨vs,v,SqT.of e2,e1⟩,λx H' y=>?_⟩;obtain ⟨rfl,y⟩:=y;have:=y vs (SqT.of e2);rw [e1] at this;cases this
    exact ⟨.refl _ _,r,hr2⟩
  | rol xs =>
   refine ai5 hl pins s σ H Rr I ⟨ι,τ,h,S,Rh,?_⟩;rw [hf]
   intro ι1 H1 v g1 r1 hr1
   cases r1 with
   | @rol a vs _ e rs =>
    refine ⟨a,rfl,⟨vs,e.l⟩,o ι1 H1 _ g1 ?_ hr1⟩;exact apl (λι2 H2 h2 g2 hr2 _=>⟨vs,(e.mono g2).l,rs.mono g2⟩)
  | str x =>
   refine aph hl pins s σ H Rr I ⟨ι,τ,h,S,Rh,?_⟩;rw [hf]
   intro ι1 H1 v g1 r1 hr1
   cases r1
   refine ⟨x,rfl,o ι1 H1 _ g1 ?_ hr1⟩
   intro ι2 H2 h2 g2 hr2 _
   refine ⟨λi d ed=>?_,by show (a0i x).length=_;simp [a0i]⟩
   simp only [a0i,aE,aO] at ed;obtain ⟨c,ec,rfl⟩:=ed;refine ⟨by show i<x.cps.size;have:=(ah.mp ec).1;simpa using this,λy H' q=>?_⟩
   obtain ⟨rfl,c',ec',rfl⟩:=q;rw [ec] at ec';cases ec'
   exact ⟨.refl _ _, .str _,hr2⟩
  | ref i =>
   simp only [R.bind,amx] at o
   cases ho:h1[i]? with
   | none=>rw [ho] at o;exact o.elim
   | some ob =>
    rw [ho] at o
    cases ob with
    | dK _=>exact o.elim
    | dT _=>exact o.elim
    | lst xs =>
     refine ai5 hl pins s σ H Rr I ⟨ι,τ,h,S,Rh,?_⟩;rw [hf]
     intro ι1 H1 v g1 r1 hr1
     cases r1 with
     | @ref a _ e =>
      obtain ⟨vs,e1,rs⟩:=hr1.obj i a _ e ho;refine ⟨a,rfl,⟨vs,SqL.of e1⟩,o ι1 H1 _ g1 ?_ hr1⟩;refine apl (λι2 H2 h2 g2 hr2 c=>?_);obtain ⟨us,e3,rs3⟩:=hr2.obj i a _ (g2.at e) c;exact ⟨us,SqL.of e3,rs3⟩
  | _=>exact o.elim
def rng(lo:Int)(n:Nat):List D:=(List.range n).map λi=>D.int (lo+(i:Nat))
def B62(j:Int):Prop := -(2 ^ 62)<=j/\j<2 ^ 62
instance (j:Int):Decidable (B62 j):=by unfold B62;exact inferInstance
def xj(ds:List D)(h:Hd):R Itm:=match ds with
 | [.int j]=>if B62 j then .ok ⟨rng 0 j.toNat,λ_=>True⟩ h else .no
 | _=>.no
def a6m(ds:List D)(h:Hd):R Itm:=match ds with
 | [.int i, .int j]=>if B62 i/\B62 j then .ok ⟨rng i (j - i).toNat,λ_=>True⟩ h else .no
 | _=>.no
def sRg(g:List D->Hd->R Itm)(k:SA):SI:=λτ h=>(k τ h).bind g
theorem apm(lo:Int)(n:Nat):amw K ι0 H0 (Itr lo n) ⟨rng lo n,λ_=>True⟩:=by
 intro ι H h g hr _
 refine ⟨λi d ed=>?_,by show n<=(rng lo n).length;simp [rng]⟩
 simp only [rng,aE,aO] at ed;obtain ⟨j,ej,rfl⟩:=ed;obtain ⟨hj,e⟩:=ah.mp ej;simp at e hj;subst e;refine ⟨hj,λy H' q=>?_⟩;obtain ⟨rfl,rfl⟩:=q;exact ⟨.refl _ _, .int _,hr⟩
theorem a0j(hg:Gl X "range")(hm:X.mg "range" = none)(ha:MA X E [a] k)(hs:starEach [a] X.env=[(false,eval a X.env)]:=by rfl):MI X E tg (.Call (.Name "range" p) [a] [] pos) (sRg xj k):=by
 intro pins s σ H Rr I ⟨ι,τ,h,S,Rh,o⟩
 refine ai6 hg hm ha hs pins s σ H Rr I ⟨ι,τ,h,S,Rh,ig o λds h1 ι1 H1 vs g1 r1 hr1 o1=>?_⟩;unfold xj at o1
 split at o1
 ·rename_i j
  cases r1 with
  | cons r rs =>
   cases r;cases rs
   by_cases hb:B62 j
   ·rw [aL hb] at o1;exact ⟨j,rfl,hb.1,hb.2,o1 ι1 H1 _ (.refl _ _) (apm 0 j.toNat) hr1⟩
   ·rw [aY hb] at o1;exact o1.elim
 ·exact o1.elim
theorem aah(hg:Gl X "range")(hm:X.mg "range" = none)(ha:MA X E [a,b] k)(hs:starEach [a,b] X.env=[(false,eval a X.env),(false,eval b X.env)]:=by rfl)(hs2:starEach [b] X.env=[(false,eval b X.env)]:=by rfl):MI X E tg (.Call (.Name "range" p) [a,b] [] pos) (sRg a6m k):=by
 intro pins s σ H Rr I ⟨ι,τ,h,S,Rh,o⟩
 refine ai7 hg hm ha hs hs2 pins s σ H Rr I ⟨ι,τ,h,S,Rh,ig o λds h1 ι1 H1 vs g1 r1 hr1 o1=>?_⟩;unfold a6m at o1
 split at o1
 ·rename_i i j
  cases r1 with
  | cons r rs =>
   cases r
   cases rs with
   | cons r rs =>
   cases r;cases rs
   by_cases hb:B62 i/\B62 j
   ·rw [aL hb] at o1;exact ⟨i,j,rfl,⟨hb.1.1,hb.1.2,hb.2.1,hb.2.2⟩,o1 ι1 H1 _ (.refl _ _) (apm i _) hr1⟩
   ·rw [aY hb] at o1;exact o1.elim
 ·exact o1.elim
open Classical in
noncomputable def forL(ck:Hd->Prop)(g:SG)(b:SS):List D->Sd->Hd->Fl
 | [],τ,h=>if ck h then .nx τ h else .no
 | x::xs,τ,h=>if ck h then (match g x τ h with
   | .nx τ1 h1=>(match b τ1 h1 with
    | .nx τ2 h2=>forL ck g b xs τ2 h2
    | .ct τ2 h2=>forL ck g b xs τ2 h2
    | .bk τ2 h2=>.nx τ2 h2
    | r=>r)
   | _=>.no) else .no
noncomputable def a5c(f:SI)(g:SG)(b:SS):SS:=λτ h=>(f τ h).fl λit h1=>forL it.ck g b it.xs τ h1
theorem arx(ir:amw K ι0 H0 J it)(S:SRep K ι0 H0 σ0 τ0)(Rh:HRep K ι0 H0 h0)(o:am0 K E ι0 H0 (forL it.ck g b it.xs τ0 h0) N) :
  ∃ W:Nat->Nat->St->Hp->Prop,(∃ m,W 0 m σ0 H0)/\∀ i m σ H,W i m σ H->
   (J.stop i H/\N.nx σ H)\/(J.go i H/\∃ M:St->Hp->Prop,(∀ σ' H',M σ' H'->∃ m',m'<m/\W (i+1) m' σ' H')/\∀ x H',J.yld i H x H'->arw K E g x σ H' λσ2 H2=>aaf K E b { N with nx:=M,ct:=M,bk:=N.nx } σ2 H2):=by
 refine ⟨λi m σ H=>m=it.xs.length - i/\i<=it.xs.length/\∃ ι τ h,Gr ι0 H0 ι H/\SRep K ι H σ τ/\HRep K ι H h/\am0 K E ι H (forL it.ck g b (it.xs.drop i) τ h) N,⟨_,rfl,bL _,ι0,τ0,h0, .refl _ _,S,Rh,o⟩,?_⟩
 rintro i m σ H ⟨rfl,hi,ι,τ,h,g0,S,Rh,o⟩
 by_cases hlt:i<it.xs.length
 ·rw [cS hlt,forL] at o
  by_cases hc:it.ck h
  ·rw [aL hc] at o;obtain ⟨go,yl⟩:=(ir ι H h g0 Rh hc).1 i _ (af hlt);refine .inr ⟨go,λσ' H'=>it.xs.length - (i+1)<it.xs.length - i/\∃ ι τ h,Gr ι0 H0 ι H'/\SRep K ι H' σ' τ/\HRep K ι H' h/\am0 K E ι H' (forL it.ck g b (it.xs.drop (i+1)) τ h) N,λσ' H' q=>⟨_,q.1,rfl,hlt,q.2⟩,λx H' y=>?_⟩;obtain ⟨g1,r1,hr1⟩:=yl x H' y;refine ⟨ι,τ,h,_,r1,S.mono g1,hr1,?_⟩;have o':=xm o g1
   cases hg:g it.xs[i] τ h with
   | nx τ1 h1 =>
    rw [hg] at o';dsimp only at o'
    intro ι2 H2 σ2 g2 S2 R2
    refine ⟨ι2,τ1,h1,S2,R2,?_⟩;have o2:=xm o' g2;have gg:=(g0.trans g1).trans g2
    cases hb:b τ1 h1 with
    | nx τ2 h2=>rw [hb] at o2;exact λι3 H3 σ3 g3 S3 R3=>⟨by omega,ι3,τ2,h2,gg.trans g3,S3,R3,xm o2 g3⟩
    | ct τ2 h2=>rw [hb] at o2;exact λι3 H3 σ3 g3 S3 R3=>⟨by omega,ι3,τ2,h2,gg.trans g3,S3,R3,xm o2 g3⟩
    | bk τ2 h2=>rw [hb] at o2;exact o2
    | rt d h2=>rw [hb] at o2;exact o2
    | ex c h2=>rw [hb] at o2;exact o2
    | no=>rw [hb] at o2;exact o2.elim
   | _=>rw [hg] at o';exact o'.elim
  ·rw [aY hc] at o;exact o.elim
 ·have e:i=it.xs.length:=by omega
  subst e;rw [cr (ax _),forL] at o
  by_cases hc:it.ck h
  ·rw [aL hc] at o;exact .inl ⟨(ir ι H h g0 Rh hc).2,o ι H σ (.refl _ _) S Rh⟩
  ·rw [aY hc] at o;exact o.elim
theorem vm{X:Cx}(hp:PassesOwn (model X.prog X.w) X.A X.env X.xe)(hc:X.calm=true)(hi:MI X E tg iter f)(hg:MG X E tg g)(hb:MSs X E body b)(hs:∀ x,foldedSetIterable iter X.env x=pure x:=by intro _;rfl):MS X E (.For tg iter body [] pos) (a5c f g b):=by
 refine PS.weak (avr hp hc hi hg hb hs) λN σ H ⟨ι,τ,h,S,Rh,o⟩=>?_;exact ⟨ι,τ,h,S,Rh,vh o λit h1 ι1 H1 J g1 r1 hr1 o1=>arx r1 (S.mono g1) hr1 o1⟩
end MI
namespace MI
open PySem PySem.Spec L2
theorem R.bind_assoc{α β γ:Type}(r:R α)(f:α->Hd->R β)(g:β->Hd->R γ):(r.bind f).bind g=r.bind λa h=>(f a h).bind g:=by cases r<;>rfl
open Classical in
noncomputable def mapR(ck:Hd->Prop)(f:D->Hd->R D):List D->Hd->R (List D)
 | [],h=>if ck h then .ok [] h else .no
 | x::xs,h=>if ck h then (f x h).bind λy h1=>(mapR ck f xs h1).bind λys h2=>.ok (y::ys) h2 else .no
open Classical in
noncomputable def am1(ck:Hd->Prop)(f:D->Hd->R (Option D)):List D->Hd->R (List D)
 | [],h=>if ck h then .ok [] h else .no
 | x::xs,h=>if ck h then (f x h).bind λy h1=>(am1 ck f xs h1).bind λys h2=>.ok (y.toList++ys) h2 else .no
def frs'(ix:List Nat)(τ:Sd):Sd:=ix.map λi=>(τ[i]?).join
def t1(d:D):Option Sd:=some [some d]
def tN(n:Nat)(d:D):Option Sd:=match d with | .tup ds=>if ds.length=n then some (ds.map some) else none | _=>none
def a92(t:D->Option Sd)(fe:SE)(rest:Sd)(x:D)(h:Hd):R D:=match t x with | some ts=>fe (ts++rest) h | none=>.no
def ae2(t:D->Option Sd)(c:ST)(fe:SE)(rest:Sd)(x:D)(h:Hd):R (Option D):=match t x with
 | some ts=>(c (ts++rest) h).bind λb h1=>if b=true then (fe (ts++rest) h1).bind λy h2=>.ok (some y) h2 else .ok none h1
 | none=>.no
def af9(yd zs:List D)(h:Hd):R D:=.ok (.ref h.length) (h++[.lst (yd++zs)])
theorem awo(r:R D)(m:Hd->R (List D))(yd:List D):(r.bind λy h1=>(m h1).bind λys h2=>.ok (y::ys) h2).bind (af9 yd)=r.bind λy h1=>(m h1).bind (af9 (yd++[y])):=by
 cases r with
 | ok y h1 =>
  show ((m h1).bind _).bind _=(m h1).bind _
  cases m h1 with
  | ok ys h2=>simp [R.bind,af9]
  | _=>rfl
 | _=>rfl
theorem b0w(r:R (Option D))(m:Hd->R (List D))(yd:List D):(r.bind λy h1=>(m h1).bind λys h2=>.ok (y.toList++ys) h2).bind (af9 yd)=r.bind λy h1=>(m h1).bind (af9 (yd++y.toList)):=by
 cases r with
 | ok y h1 =>
  show ((m h1).bind _).bind _=(m h1).bind _
  cases m h1 with
  | ok ys h2=>simp [R.bind,af9]
  | _=>rfl
 | _=>rfl
noncomputable def m9(fi:SI)(t:D->Option Sd)(fe:SE)(ix:List Nat):SE:=λτ h=>(fi τ h).bind λit h1=>if it.xs.length<=LINE then (mapR it.ck (a92 t fe (frs' ix τ)) it.xs h1).bind (af9 []) else .no
noncomputable def qu(fi:SI)(t:D->Option Sd)(c:ST)(fe:SE)(ix:List Nat):SE:=λτ h=>(fi τ h).bind λit h1=>if it.xs.length<=LINE then (am1 it.ck (ae2 t c fe (frs' ix τ)) it.xs h1).bind (af9 []) else .no
def aj2(K:PySem.W.Frag)(n:Nat)(g:TG)(t:D->Option Sd):Prop:=∀ ι H v d ts (r:St) (Q:St->Hp->Prop),Rep K ι H v d->t d=some ts->(∀ us:St,us.length=n->SRep K ι H us ts->Q (us++r) H)->g v (List.replicate n none++r) H Q
theorem aai:SRep K ι H [] []:=⟨rfl,λi d e=>by simp at e⟩
theorem a0k(r:Rep K ι H v d)(s:SRep K ι H σ τ):SRep K ι H (some v::σ) (some d::τ):=by
 refine ⟨by simp [s.len],λi d' e=>?_⟩
 cases i with
 | zero=>simp at e;subst e;exact ⟨v,rfl,r⟩
 | succ i=>simpa using s.val i d' (by simpa using e)
theorem a7f(s:SRep K ι H σ τ)(s':SRep K ι H σ' τ'):SRep K ι H (σ++σ') (τ++τ'):=by
 refine ⟨by simp [s.len,s'.len],λi d e=>?_⟩
 by_cases hi:i<τ.length
 ·rw [aC hi] at e;rw [aC (by rw [s.len];exact hi)]
  exact s.val i d e
 ·rw [aF (by omega)] at e
  rw [aF (by rw [s.len];omega),s.len]
  exact s'.val _ d e
theorem a5n(s:SRep K ι H σ τ)(ix:List Nat):SRep K ι H (ix.map λi=>(σ[i]?).join) (frs' ix τ):=by
 refine ⟨by simp [frs'],λj d e=>?_⟩
 simp only [frs',aE,aO] at e;obtain ⟨i,hi,e⟩:=e;have:τ[i]? = some (some d):=by
  cases q:τ[i]? with
  | none=>rw [q] at e;cases e
  | some o=>rw [q] at e;simp at e;rw [e]
 obtain ⟨v,h1,h2⟩:=s.val i d this;exact ⟨v,by simp [hi,h1],h2⟩
theorem uo:aj2 K 1 (a6h 0) t1:=λι H v d ts r Q hr e q=>by
 cases e
 exact q [some v] rfl (a0k hr aai)
theorem afa:aj2 K 2 (L2.a4d K 2 (amb (a6h 0) (amb (a6h 1) b1t))) (tN 2):=λι H v d ts r Q hr e q=>by
 unfold tN at e
 cases hr with
 | @tup a vs xs h rs =>
  simp only at e
  split at e
  ·rename_i hl;cases e
   match xs,hl,rs with
   | [_,_],_, .cons r1 (.cons r2 .nil)=>exact ⟨a,_,rfl,SqT.of h,rfl,_,_,rfl,_,_,rfl,rfl,q [some _,some _] rfl (a0k r1 (a0k r2 aai))⟩
  ·cases e
 | _=>cases e
theorem aj3{us:St}(h:us.length=n):L2.Ext (List.replicate n none++r) (us++r):=by
 refine ⟨by simp [h],λi v e=>?_⟩
 by_cases hi:i<n
 ·rw [aC (by simpa using hi),da,aL hi] at e
  cases e
 ·rw [aF (by simpa using hi),dU] at e
  rw [aF (by omega),h]
  exact e
theorem afb(ir:amw K ι0 H0 J it)(tg:aj2 K n g t)(S:SRep K ι0 H0 r rd)(Rh:HRep K ι0 H0 h0)(hl:it.xs.length<=LINE)
  (o:out K E (a0a K) ι0 H0 ((mapR it.ck (a92 t fe rd) it.xs h0).bind (af9 [])) Q):awi J (List.replicate n none++r) g (lift K E (a0a K) fe) Q H0:=by
 refine ⟨λi m ys H=>m=it.xs.length - i/\i<=it.xs.length/\ys.length<=i/\∃ ι h yd,Gr ι0 H0 ι H/\HRep K ι H h/\Reps K ι H ys yd/\out K E (a0a K) ι H ((mapR it.ck (a92 t fe rd) (it.xs.drop i) h).bind (af9 yd)) Q,
  ⟨_,rfl,bL _,bL _,ι0,h0,[], .refl _ _,Rh, .nil,o⟩,?_⟩
 rintro i m ys H ⟨rfl,hi,hy,ι,h,yd,g0,Rh,ry,o⟩
 by_cases hlt:i<it.xs.length
 ·rw [cS hlt,mapR] at o
  by_cases hc:it.ck h
  ·rw [aL hc,awo] at o;obtain ⟨go,yl⟩:=(ir ι H h g0 Rh hc).1 i _ (af hlt);refine .inr ⟨go,Nat.lt_of_le_of_lt hy (aR hlt (ll hl)),λx H' y=>?_⟩;obtain ⟨g1,r1,hr1⟩:=yl x H' y;have o':=a0x o g1
   cases ht:t it.xs[i] with
   | none=>simp only [a92,ht] at o';exact o'.elim
   | some ts =>
    simp only [a92,ht] at o';refine tg ι H' x _ ts r _ r1 ht λus hus su=>⟨aj3 hus,ι,ts++rd,h,a7f su (S.mono (g0.trans g1)),hr1,ig o' λd2 h2 ι2 H2 u g2 r2 hr2 o2=>?_⟩;refine ⟨it.xs.length - (i+1),by omega,rfl,hlt,by simp;omega,ι2,h2,yd++[d2],(g0.trans g1).trans g2,hr2,((ry.mono g1).mono g2).snoc r2,o2⟩
  ·rw [aY hc] at o;exact o.elim
 ·have e:i=it.xs.length:=by omega
  subst e;rw [cr (ax _),mapR] at o
  by_cases hc:it.ck h
  ·rw [aL hc] at o;refine .inl ⟨(ir ι H h g0 Rh hc).2,a1g (E:=E) ry Rh ?_⟩;simpa [R.bind,af9] using o
  ·rw [aY hc] at o;exact o.elim
theorem ach(ir:amw K ι0 H0 J it)(tg:aj2 K n g t)(S:SRep K ι0 H0 r rd)(Rh:HRep K ι0 H0 h0)(hl:it.xs.length<=LINE)
  (o:out K E (a0a K) ι0 H0 ((am1 it.ck (ae2 t c fe rd) it.xs h0).bind (af9 [])) Q):aiv J (List.replicate n none++r) g (lift K E apk c) (lift K E (a0a K) fe) Q H0:=by
 refine ⟨λi m ys H=>m=it.xs.length - i/\i<=it.xs.length/\ys.length<=i/\∃ ι h yd,Gr ι0 H0 ι H/\HRep K ι H h/\Reps K ι H ys yd/\out K E (a0a K) ι H ((am1 it.ck (ae2 t c fe rd) (it.xs.drop i) h).bind (af9 yd)) Q,
  ⟨_,rfl,bL _,bL _,ι0,h0,[], .refl _ _,Rh, .nil,o⟩,?_⟩
 rintro i m ys H ⟨rfl,hi,hy,ι,h,yd,g0,Rh,ry,o⟩
 by_cases hlt:i<it.xs.length
 ·rw [cS hlt,am1] at o
  by_cases hc:it.ck h
  ·rw [aL hc,b0w] at o;obtain ⟨go,yl⟩:=(ir ι H h g0 Rh hc).1 i _ (af hlt);refine .inr ⟨go,Nat.lt_of_le_of_lt hy (aR hlt (ll hl)),λx H' y=>?_⟩;obtain ⟨g1,r1,hr1⟩:=yl x H' y;have o':=a0x o g1
   cases ht:t it.xs[i] with
   | none=>simp only [ae2,ht] at o';exact o'.elim
   | some ts =>
    simp only [ae2,ht] at o';rw [R.bind_assoc] at o';refine tg ι H' x _ ts r _ r1 ht λus hus su=>⟨aj3 hus,ι,ts++rd,h,a7f su (S.mono (g0.trans g1)),hr1,ig o' λb h1 ι1 H1 b' g2 rb hrb ob=>?_⟩;have su1:SRep K ι1 H1 (us++r) (ts++rd):=(a7f su (S.mono (g0.trans g1))).mono g2;cases rb
    cases b with
    | true =>
     rw [aL rfl] at ob ⊢;rw [R.bind_assoc] at ob;refine ⟨ι1,ts++rd,h1,su1,hrb,ig ob λd2 h2 ι2 H2 u g3 r2 hr2 o2=>?_⟩;refine ⟨it.xs.length - (i+1),by omega,rfl,hlt,by simp;omega,ι2,h2,yd++[d2],((g0.trans g1).trans g2).trans g3,hr2,(((ry.mono g1).mono g2).mono g3).snoc r2,?_⟩
     simpa [R.bind] using o2
    | false =>
     rw [aY bE] at ob ⊢;refine ⟨it.xs.length - (i+1),by omega,rfl,hlt,by omega,ι1,h1,yd,(g0.trans g1).trans g2,hrb,(ry.mono g1).mono g2,?_⟩
     simpa [R.bind] using ob
  ·rw [aY hc] at o;exact o.elim
 ·have e:i=it.xs.length:=by omega
  subst e;rw [cr (ax _),am1] at o
  by_cases hc:it.ck h
  ·rw [aL hc] at o;refine .inl ⟨(ir ι H h g0 Rh hc).2,a1g (E:=E) ry Rh ?_⟩;simpa [R.bind,af9] using o
  ·rw [aY hc] at o;exact o.elim
section
variable{X:Cx}{E:XD}{elt tg iter cnd:Expr}{scope:Scope}{pos:Pos}{cl:List (Str × Addr)}{ts fr:List Str}{ix:List Nat}{fi:SI}{g:TG}{t:D->Option Sd}{fe:SE}{fc:ST}
theorem xn(hc:X.calm=true)(S:CSc X scope cl ts fr ix)(hi:MI X E tg iter fi)(hg:∀ C fp s H,PG (cxC X (ts++fr) scope cl C fp s H) tg g)(ht:aj2 X.K ts.length g t)(he:∀ C fp s H,ME (cxC X (ts++fr) scope cl C fp s H) E elt fe)
  (hs:∀ x,foldedSetIterable iter X.env x=pure x:=by intro _;rfl):ME X E (.ListComp elt [⟨tg,iter,[],0⟩] scope pos) (m9 fi t fe ix):=by
 refine PE.weak (ams (te:=lift X.K E (a0a X.K) fe) hc S hi hg he hs) λσ H Q ⟨ι,τ,h,Sr,Rh,o⟩=>?_;refine ⟨ι,τ,h,Sr,Rh,ig o λit h1 ι1 H1 J g1 r1 hr1 o1=>?_⟩
 by_cases hl:it.xs.length<=LINE
 ·rw [aL hl] at o1;exact afb r1 ht (a5n (Sr.mono g1) ix) hr1 hl o1
 ·rw [aY hl] at o1;exact o1.elim
theorem a7g(hc:X.calm=true)(S:CSc X scope cl ts fr ix)(hi:MI X E tg iter fi)(hg:∀ C fp s H,PG (cxC X (ts++fr) scope cl C fp s H) tg g)(ht:aj2 X.K ts.length g t)(he:∀ C fp s H,ME (cxC X (ts++fr) scope cl C fp s H) E elt fe)
  (hq:∀ C fp s H,MT (cxC X (ts++fr) scope cl C fp s H) E cnd fc)
  (hs:∀ x,foldedSetIterable iter X.env x=pure x:=by intro _;rfl):ME X E (.ListComp elt [⟨tg,iter,[cnd],0⟩] scope pos) (qu fi t fc fe ix):=by
 refine PE.weak (agq (te:=lift X.K E (a0a X.K) fe) (tc:=lift X.K E apk fc) hc S hi hg he hq hs) λσ H Q ⟨ι,τ,h,Sr,Rh,o⟩=>?_;refine ⟨ι,τ,h,Sr,Rh,ig o λit h1 ι1 H1 J g1 r1 hr1 o1=>?_⟩
 by_cases hl:it.xs.length<=LINE
 ·rw [aL hl] at o1;exact ach r1 ht (a5n (Sr.mono g1) ix) hr1 hl o1
 ·rw [aY hl] at o1;exact o1.elim
end
mutual
def clo(n:Nat):D->Prop
 | .tup xs=>clos n xs
 | .rol xs=>clos n xs
 | .rod _ xs=>clos n xs
 | .scr xs=>clos n xs
 | .rdT _ xs=>clos n xs
 | .ref i=>i<n
 | _=>True
def clos(n:Nat):List D->Prop
 | []=>True
 | x::xs=>clo n x/\clos n xs
end
mutual
theorem Rep.clo:∀ {v:V} {d:D},Rep K ι H v d->clo ι.length d
 | _,_, .non=>by simp [MI.clo]
 | _,_, .bl b=>by simp [MI.clo]
 | _,_, .int i=>by simp [MI.clo]
 | _,_, .str x=>by simp [MI.clo]
 | _,_, .ty n=>by simp [MI.clo]
 | _,_, .tup h r=>by simp only [MI.clo];exact Reps.clo r
 | _,_, .rol h r=>by simp only [MI.clo];exact Reps.clo r
 | _,_, .ref h=>by simp only [MI.clo];exact (ah.mp h).1
 | _,_, .rod h e r=>by simp only [MI.clo];exact Reps.clo r
 | _,_, .scr h r=>by simp only [MI.clo];exact Reps.clo r
 | _,_, .rdT h e r=>by simp only [MI.clo];exact Reps.clo r
 | _,_, .exc h hc hn=>by simp [MI.clo]
theorem Reps.clo:∀ {vs:List V} {ds:List D},Reps K ι H vs ds->clos ι.length ds
 | _,_, .nil=>by simp [MI.clos]
 | _,_, .cons r rs=>by simp only [MI.clos];exact ⟨Rep.clo r,Reps.clo rs⟩
end
mutual
theorem Rep.cut:∀ {v:V} {d:D},Rep K ι H v d->clo n d->Rep K (ι.take n) H v d
 | _,_, .non,_=>.non
 | _,_, .bl b,_=>.bl b
 | _,_, .int i,_=>.int i
 | _,_, .str x,_=>.str x
 | _,_, .ty n,_=>.ty n
 | _,_, .tup h r,c=>.tup h (Reps.cut r (by simpa only [MI.clo] using c))
 | _,_, .rol h r,c=>.rol h (Reps.cut r (by simpa only [MI.clo] using c))
 | _,_, .ref h,c=>.ref (by simp only [MI.clo] at c;rw [eZ,aL c];exact h)
 | _,_, .rod h e r,c=>.rod h e (Reps.cut r (by simpa only [MI.clo] using c))
 | _,_, .scr h r,c=>.scr h (Reps.cut r (by simpa only [MI.clo] using c))
 | _,_, .rdT h e r,c=>.rdT h e (Reps.cut r (by simpa only [MI.clo] using c))
 | _,_, .exc h hc hn,_=>.exc h hc hn
theorem Reps.cut:∀ {vs:List V} {ds:List D},Reps K ι H vs ds->clos n ds->Reps K (ι.take n) H vs ds
 | _,_, .nil,_=>.nil
 | _,_, .cons r rs,c=>by simp only [MI.clos] at c;exact .cons (Rep.cut r c.1) (Reps.cut rs c.2)
end
def a6n(n:Nat):O->Prop
 | .lst xs=>clos n xs
 | .dK kvs=>clos n (kvs.map (·.2))
 | .dT kvs=>clos n (kvs.map (·.2))
def awp(n:Nat)(h:Hd):Prop:=∀ o∈h,a6n n o
theorem ORep.clo(r:ORep K ι H a o):a6n ι.length o:=by
 cases o with
 | lst xs=>obtain ⟨vs,_,r⟩:=r;exact r.clo
 | dK kvs=>obtain ⟨us,_,_,r⟩:=r;exact r.clo
 | dT kvs=>obtain ⟨us,_,_,r⟩:=r;exact r.clo
theorem ORep.cut(r:ORep K ι H a o)(c:a6n n o):ORep K (ι.take n) H a o:=by
 cases o with
 | lst xs=>obtain ⟨vs,h,r⟩:=r;exact ⟨vs,h,r.cut c⟩
 | dK kvs=>obtain ⟨us,h,e,r⟩:=r;exact ⟨us,h,e,r.cut c⟩
 | dT kvs=>obtain ⟨us,h,e,r⟩:=r;exact ⟨us,h,e,r.cut c⟩
theorem HRep.clo(r:HRep K ι H h):awp h.length h:=λo ho=>by
 obtain ⟨i,hi⟩:=bR ho;obtain ⟨a,_,q⟩:=r.addr hi;rw [<-r.len];exact q.clo
theorem HRep.cut(r:HRep K ι H (h++g))(c:awp h.length h):HRep K (ι.take h.length) H h:=by
 refine ⟨r.nd.sublist (gI _ _),?_,λi a o e1 e2=>?_⟩
 ·have:=r.len
  rw [aw] at this;rw [bC];omega
 ·have hi:i<h.length:=(ah.mp e2).1;rw [eZ,aL hi] at e1;exact (r.obj i a o e1 (by rw [aC hi];exact e2)).cut (c o (aM e2))
def X0:XD:=λ_ _ _ _=>False
abbrev SF:=List D->Hd->R D
def qw(K:PySem.W.Frag)(n:Nat)(F:SF):Sp:=λvs H Q _=>vs.length=n/\∃ ι ds h,Reps K ι H vs ds/\HRep K ι H h/\out K X0 (a0a K) ι H (F ds h) Q
def a84(n:Nat)(ds:List D):Sd:=ds.map some++List.replicate (n - ds.length) none
def qg(b:SS)(n:Nat)(ds:List D)(h:Hd):R D:=match b (a84 n ds) h with
 | .rt d h1=>.ok d h1
 | .nx _ h1=>.ok .non h1
 | .ex c h1=>.ex c h1
 | _=>.no
def Rf(n:Nat)(r' r:R D):Prop:=match r with
 | .no=>True
 | .ok d h1=>∃ g,r' = .ok d (h1++g)/\(g=[]\/(n<=h1.length/\clo h1.length d/\awp h1.length h1))
 | .ex c h1=>∃ g,r' = .ex c (h1++g)/\(g=[]\/(n<=h1.length/\awp h1.length h1))
theorem Rf.same(h:r'=r):Rf n r' r:=by
 subst h
 cases r' with
 | ok d h1=>exact ⟨[],by simp, .inl rfl⟩
 | ex c h1=>exact ⟨[],by simp, .inl rfl⟩
 | no=>exact True.intro
theorem agu(r:Reps K ι H vs ds):SRep K ι H (start N vs) (a84 N.length ds):=by
 refine a7f ?_ ?_
 ·clear N
  induction r using Reps.rec (motive_1:=λ_ _ _=>True) with
  | nil=>exact aai
  | cons r rs _ ih=>exact a0k r ih
  | _=>trivial
 ·rw [r.len];exact ⟨by simp,λi d e=>by rw [da] at e;split at e<;>cases e⟩
theorem apn(g:Gr ι H ι' H')(hn:ι.length<=n):Gr ι H (ι'.take n) H':=by
 obtain ⟨m,rfl,hm⟩:=g.pre;exact ⟨⟨m.take (n - ι.length),by rw [List.take_append,bI hn],λa ha=>hm a (List.mem_of_mem_take ha)⟩,g.tup,g.frz,g.oth,g.kp⟩
section
variable{P:Program}{w:World}{K:PySem.W.Frag}{mg:Str->Option Value}{base:Heap}
theorem awq(Fu:Fun K x qual st f fd)(S:FnScope N ps (dq st))
  (hb:∀ (cdv:Value) (A:Around) (outer:List Env) (s:Shared) (H:Hp) (E:XK),Room k (A.deeper (PyProof.Rows.envOfC qual (dq st) s.heap.objs.size f cdv))->MSs (amh CX0 P w K mg base N qual (dq st) f cdv A outer s H E).nox X0 (a1f st) b)
  (hF:∀ ds h,ds.length=ps.length->clos h.length ds->awp h.length h->Rf h.length (qg b N.length ds h) (F ds h)):FnOk P w K mg base CX0 (k+1) f fd ps (qw K ps.length F):=by
 refine Fu.ok S (λvs H Q E h=>h.1) λcdv A outer s H vs Q E hr h=>⟨_,hb cdv A outer s H E hr,?_⟩;obtain ⟨hl,ι,ds,h,r,hr',o⟩:=h;refine ⟨ι,a84 N.length ds,h,agu r,hr',?_⟩;have q:=hF ds h (by rw [<-r.len];exact hl) (by rw [<-hr'.len];exact r.clo) hr'.clo
 unfold qg at q
 cases hFd:F ds h with
 | no=>rw [hFd] at o;exact o.elim
 | ex c h1 =>
  rw [hFd] at q o;obtain ⟨g,e,cl⟩:=q;have fin:∀ ι' H',Gr ι H ι' H'->HRep K ι' H' (h1++g)->X0 c ι' H' (h1++g):=λι' H' g1 hr1=>by
   rcases cl with rfl | ⟨hn,c2⟩
   ·rw [bW] at hr1;exact o ι' H' g1 hr1
   ·exact o (ι'.take h1.length) H' (apn g1 (by rw [hr'.len];exact hn)) (hr1.cut c2)
  cases hbd:b (a84 N.length ds) h with
  | ex c' h' =>
   rw [hbd] at e
   injection e with e1 e2
   subst e1 e2;exact fin
  | _=>rw [hbd] at e;cases e
 | ok d h1 =>
  rw [hFd] at q o;obtain ⟨g,e,cl⟩:=q;have fin:∀ ι' H' v,Gr ι H ι' H'->Rep K ι' H' v d->HRep K ι' H' (h1++g)->Q v H':=λι' H' v g1 r1 hr1=>by
   rcases cl with rfl | ⟨hn,c1,c2⟩
   ·rw [bW] at hr1;exact o ι' H' v g1 r1 hr1
   ·exact o (ι'.take h1.length) H' v (apn g1 (by rw [hr'.len];exact hn)) (r1.cut c1) (hr1.cut c2)
  cases hbd:b (a84 N.length ds) h with
  | rt d' h' =>
   rw [hbd] at e
   injection e with e1 e2
   subst e1 e2;exact fin
  | nx τ' h' =>
   rw [hbd] at e
   injection e with e1 e2
   subst e1 e2;exact λι' H' σ' g1 S1 hr1=>fin ι' H' .non g1 .non hr1
  | _=>rw [hbd] at e;cases e
end
section
variable{K:PySem.W.Frag}{E:XD}{ι:List Addr}{H:Hp}{h:Hd}{Q:VK}
theorem ans(o:out K E (a0a K) ι H (.ok d h) Q)(r:Rep K ι H v d)(hr:HRep K ι H h):Q v H:=o ι H v (.refl _ _) r hr
theorem HRep.lst(hr:HRep K ι H h){i:Nat}{a:Addr}{xs:List D}(e:ι[i]? = some a)(hi:h[i]? = some (.lst xs)):∃ vs,H a=some (.lst vs)/\Reps K ι H vs xs:=hr.obj i a _ e hi
end
def b3t:D->D->Hd->R D
 | .int i, .int j,h=>.ok (.int (i+j)) h
 | .str x, .str y,h=>if x.length+y.length<=LINE then .ok (.str (x++y)) h else .no
 | .tup xs, .tup ys,h=>if xs≠[]/\xs.length+ys.length<=LINE then .ok (.tup (xs++ys)) h else .no
 | .ref i, .ref j,h=>match h[i]?,h[j]? with
  | some (.lst xs),some (.lst ys)=>if xs.length+ys.length<=LINE then .ok (.ref h.length) (h++[.lst (xs++ys)]) else .no
  | _,_=>.no
 | _,_,_=>.no
def abu:D->D->Hd->R D
 | .int i, .int j,h=>.ok (.int (i - j)) h
 | _,_,_=>.no
def a75:D->D->Hd->R D
 | .int i, .int j,h=>if 0<j then .ok (.int (i % j)) h else .no
 | _,_,_=>.no
def adq:D->D->Hd->R D
 | .int i, .int j,h=>if 0<j/\j<1073741824 then .ok (.int (i / j)) h else .no
 | _,_,_=>.no
def a93:D->D->Hd->R D
 | .int i, .int j,h=>if 0<=j/\j<=1000000/\i.natAbs<2 ^ 64 then .ok (.int (i ^ j.toNat)) h else .no
 | _,_,_=>.no
section
variable{X:Cx}{K:PySem.W.Frag}
theorem arz:a5m K abu (rI0 λi j=>.int (i - j)):=by
 intro E ι H h x y dx dy Q rx ry hr o
 cases rx with
 | int i =>
  cases ry with
  | int j=>exact ⟨i,j,rfl,rfl,ans o (.int _) hr⟩
  | _=>exact o.elim
 | _=>exact o.elim
theorem as3:a5m K a75 (rI (λ_ j=>0<j) λi j=>.int (i % j)):=by
 intro E ι H h x y dx dy Q rx ry hr o
 cases rx with
 | int i =>
  cases ry with
  | int j =>
   by_cases hc:0<j
   ·simp only [a75,aL hc] at o;exact ⟨i,j,rfl,rfl,hc,ans o (.int _) hr⟩
   ·simp only [a75,aY hc] at o;exact o.elim
  | _=>exact o.elim
 | _=>exact o.elim
theorem aj4:a5m K adq (rI b0b λi j=>.int (i / j)):=by
 intro E ι H h x y dx dy Q rx ry hr o
 cases rx with
 | int i =>
  cases ry with
  | int j =>
   by_cases hc:0<j/\j<1073741824
   ·simp only [adq,aL hc] at o;exact ⟨i,j,rfl,rfl,hc,ans o (.int _) hr⟩
   ·simp only [adq,aY hc] at o;exact o.elim
  | _=>exact o.elim
 | _=>exact o.elim
theorem as4:a5m K a93 (rI b1v λi j=>.int (i ^ j.toNat)):=by
 intro E ι H h x y dx dy Q rx ry hr o
 cases rx with
 | int i =>
  cases ry with
  | int j =>
   by_cases hc:0<=j/\j<=1000000/\i.natAbs<2 ^ 64
   ·simp only [a93,aL hc] at o;exact ⟨i,j,rfl,rfl,hc,ans o (.int _) hr⟩
   ·simp only [a93,aY hc] at o;exact o.elim
  | _=>exact o.elim
 | _=>exact o.elim
variable{E:XD}{a b e:Expr}{es:List Expr}{fa fb:SE}{ka:SA}{pos:Pos}
theorem aci(ha:ME X E a fa)(hb:ME X E b fb):ME X E (.BinOp a .Sub b pos) (s2 abu fa fb):=agt avt arz ha hb
theorem a9f(ha:ME X E a fa)(hb:ME X E b fb):ME X E (.BinOp a .Mod b pos) (s2 a75 fa fb):=agt avv as3 ha hb
theorem awr(ha:ME X E a fa)(hb:ME X E b fb):ME X E (.BinOp a .FloorDiv b pos) (s2 adq fa fb):=agt aqz aj4 ha hb
theorem afc(ha:ME X E a fa)(hb:ME X E b fb):ME X E (.BinOp a .Pow b pos) (s2 a93 fa fb):=agt avw as4 ha hb
def a6f:D->Hd->R D
 | .int i,h=>.ok (.int (-i)) h
 | _,_=>.no
theorem zy(ha:ME X E a fa):ME X E (.UnaryOp .USub a pos) (s1 a6f fa):=b0u avx (λE ι H h x dx Q rx hr o=>by
 cases rx with
 | int i=>exact ⟨i,rfl,ans o (.int _) hr⟩
 | _=>exact o.elim) ha
def gLt:D->D->Hd->R D
 | .int i, .int j,h=>.ok (.bl (decide (i<j))) h
 | .str i, .str j,h=>.ok (.bl (decide (i.cps.toList<j.cps.toList))) h
 | _,_,_=>.no
def gLe:D->D->Hd->R D
 | .int i, .int j,h=>.ok (.bl (decide (i<=j))) h
 | .str i, .str j,h=>.ok (.bl (!decide (j.cps.toList<i.cps.toList))) h
 | _,_,_=>.no
def gGt:D->D->Hd->R D
 | .int i, .int j,h=>.ok (.bl (decide (j<i))) h
 | _,_,_=>.no
def gGe:D->D->Hd->R D
 | .int i, .int j,h=>.ok (.bl (decide (j<=i))) h
 | _,_,_=>.no
theorem a3k:a5m K gLt (λx y H Q=>rI0 (λi j=>.bl (decide (i<j))) x y H Q\/∃ i j,x = .str i/\y = .str j/\Q (.bl (decide (i.cps.toList<j.cps.toList))) H):=by
 intro E ι H h x y dx dy Q rx ry hr o
 cases rx with
 | int i =>
  cases ry with
  | int j=>exact .inl ⟨i,j,rfl,rfl,ans o (.bl _) hr⟩
  | _=>exact o.elim
 | str i =>
  cases ry with
  | str j=>exact .inr ⟨i,j,rfl,rfl,ans o (.bl _) hr⟩
  | _=>exact o.elim
 | _=>exact o.elim
theorem apo:a5m K gLe (λx y H Q=>rI0 (λi j=>.bl (decide (i<=j))) x y H Q\/∃ i j,x = .str i/\y = .str j/\Q (.bl (!decide (j.cps.toList<i.cps.toList))) H):=by
 intro E ι H h x y dx dy Q rx ry hr o
 cases rx with
 | int i =>
  cases ry with
  | int j=>exact .inl ⟨i,j,rfl,rfl,ans o (.bl _) hr⟩
  | _=>exact o.elim
 | str i =>
  cases ry with
  | str j=>exact .inr ⟨i,j,rfl,rfl,ans o (.bl _) hr⟩
  | _=>exact o.elim
 | _=>exact o.elim
theorem apq:a5m K gGt (rI0 λi j=>.bl (decide (j<i))):=by
 intro E ι H h x y dx dy Q rx ry hr o
 cases rx with
 | int i =>
  cases ry with
  | int j=>exact ⟨i,j,rfl,rfl,ans o (.bl _) hr⟩
  | _=>exact o.elim
 | _=>exact o.elim
theorem a9g:a5m K gGe (rI0 λi j=>.bl (decide (j<=i))):=by
 intro E ι H h x y dx dy Q rx ry hr o
 cases rx with
 | int i =>
  cases ry with
  | int j=>exact ⟨i,j,rfl,rfl,ans o (.bl _) hr⟩
  | _=>exact o.elim
 | _=>exact o.elim
def a3b:D->Bool
 | .non=>true
 | _=>false
theorem afd(r:Rep K ι H x d):decide (x = .non)=a3b d:=by cases r<;>simp [a3b]
def gIs:D->D->Hd->R D
 | x, .non,h=>.ok (.bl (a3b x)) h
 | .bl i, .bl j,h=>.ok (.bl (i == j)) h
 | _,_,_=>.no
def a85:D->D->Hd->R D
 | x, .non,h=>.ok (.bl (!a3b x)) h
 | .bl i, .bl j,h=>.ok (.bl (i != j)) h
 | _,_,_=>.no
theorem a86:a5m K gIs (λx y H Q=>(y = .non/\Q (.bl (decide (x = .non))) H)\/∃ i j,x = .bl i/\y = .bl j/\Q (.bl (i == j)) H):=by
 intro E ι H h x y dx dy Q rx ry hr o
 cases ry with
 | non=>exact .inl ⟨rfl,by rw [afd rx];simp only [gIs] at o;exact ans o (.bl _) hr⟩
 | bl j =>
  cases rx with
  | bl i=>exact .inr ⟨i,j,rfl,rfl,ans o (.bl _) hr⟩
  | _=>exact o.elim
 | _=>cases rx<;>exact o.elim
theorem acj:a5m K a85 (λx y H Q=>(y = .non/\Q (.bl (!decide (x = .non))) H)\/∃ i j,x = .bl i/\y = .bl j/\Q (.bl (i != j)) H):=by
 intro E ι H h x y dx dy Q rx ry hr o
 cases ry with
 | non=>exact .inl ⟨rfl,by rw [afd rx];simp only [a85] at o;exact ans o (.bl _) hr⟩
 | bl j =>
  cases rx with
  | bl i=>exact .inr ⟨i,j,rfl,rfl,ans o (.bl _) hr⟩
  | _=>exact o.elim
 | _=>cases rx<;>exact o.elim
def a3l:D->Bool
 | .non=>true | .bl _=>true | .int _=>true | .str _=>true
 | _=>false
def eqF:D->D->Bool
 | .non, .non=>true
 | .bl i, .bl j=>i == j
 | .int i, .int j=>i == j
 | .str i, .str j=>i == j
 | .int i, .bl j=>i == (if j then 1 else 0)
 | .bl i, .int j=>(if i then 1 else 0) == j
 | _,_=>false
end
section
variable{X:Cx}{K:PySem.W.Frag}{E:XD}{a b e o:Expr}{es:List Expr}{fa fb:SE}{ka:SA}{pos:Pos}
def a3e(d:D)(h:Hd):Option (List D):=match d with
 | .tup xs=>some xs
 | .rol xs=>some xs
 | .ref i=>match h[i]? with | some (.lst xs)=>some xs | _=>none
 | _=>none
def gIx(x y:D)(h:Hd):R D:=match y with
 | .int i=>(match x with
  | .str z=>if z.length<=LINE then (match atI z.cps.toList i with | some c=>.ok (.str ⟨#[c]⟩) h | none=>.no) else .no
  | x=>match a3e x h with
   | some xs=>(match atI xs i with | some d=>.ok d h | none=>.no)
   | none=>.no)
 | _=>.no
theorem afe(r:Reps K ι H vs xs)(e:atI xs i=some d):∃ v,atI vs i=some v/\Rep K ι H v d:=by
 unfold atI at e ⊢;rw [r.len]
 cases hx:ixN xs.length i with
 | none=>rw [hx] at e;cases e
 | some j=>rw [hx] at e;exact r.get e
theorem aws:a5m K gIx (rIx K):=by
 intro E ι H h x y dx dy Q rx ry hr o
 cases ry with
 | int i =>
  have go:∀ {p:Addr} {vs:List V} {xs:List D},Reps K ι H vs xs->out K E (a0a K) ι H (match atI xs i with | some d=>.ok d h | none=>.no) Q->∃ v,atI vs i=some v/\Q v H:=λ{p vs xs} r o=>by
   cases he:atI xs i with
   | none=>rw [he] at o;exact o.elim
   | some d =>
    rw [he] at o;obtain ⟨v,h1,h2⟩:=afe r he;exact ⟨v,h1,ans o h2 hr⟩
  cases rx with
  | str z =>
   by_cases hc:z.length<=LINE
   ·simp only [gIx,aL hc] at o
    cases he:atI z.cps.toList i with
    | none=>rw [he] at o;exact o.elim
    | some c=>rw [he] at o;exact .inr (.inr ⟨z,i,c,rfl,rfl,ll hc,he,ans o (.str _) hr⟩)
   ·simp only [gIx,aY hc] at o;exact o.elim
  | @tup p vs xs hp r =>
   simp only [gIx,a3e] at o;obtain ⟨v,h1,h2⟩:=go (p:=p) r o;exact .inr (.inl ⟨p,vs,i,v,rfl,rfl,SqT.of hp,h1,h2⟩)
  | @rol p vs xs hp r =>
   simp only [gIx,a3e] at o;obtain ⟨v,h1,h2⟩:=go (p:=p) r o;exact .inl ⟨p,vs,i,v,rfl,rfl,hp.l,h1,h2⟩
  | @ref p j hp =>
   obtain ⟨ob,e1,e2⟩:=hr.at hp
   cases ob with
   | lst xs =>
    simp only [gIx,a3e,e1] at o;obtain ⟨vs,h3,h4⟩:=e2;obtain ⟨v,h1,h2⟩:=go (p:=p) h4 o;exact .inl ⟨p,vs,i,v,rfl,rfl,SqL.of h3,h1,h2⟩
   | dK _=>simp only [gIx,a3e,e1] at o;exact o.elim
   | dT _=>simp only [gIx,a3e,e1] at o;exact o.elim
  | _=>exact o.elim
 | _=>exact o.elim
theorem bu(ha:ME X E a fa)(hb:ME X E b fb)(hp:adv b):ME X E (.Subscript a b pos) (s2 gIx fa fb):=b0v aw8 aws ha hb hp
abbrev SO:=Sd->Hd->R (Option Int)
abbrev MO(X:Cx)(E:XD)(e:Option Expr)(f:SO):Prop:=PO X e (lift X.K E b3r f)
def oN:SO:=λ_ h=>.ok none h
def oS(f:SE):SO:=λτ h=>(f τ h).bind λd h1=>match d with | .int i=>.ok (some i) h1 | _=>.no
theorem PO.weak{e:Option Expr}{t t':St->Hp->(Option Int->Hp->Prop)->Prop}(h:PO X e t)(i:∀ σ H Q,t' σ H Q->t σ H Q):PO X e t':=λpins s σ H Q I q=>h pins s σ H Q I (i _ _ _ q)
theorem a04:MO X E none oN:=PO.weak ar8 λσ H Q ⟨ι,τ,h,S,Rh,o⟩=>o ι H none (.refl _ _) rfl Rh
theorem a05(he:ME X E e fa):MO X E (some e) (oS fa):=by
 refine PO.weak (ar9 he) λσ H Q ⟨ι,τ,h,S,Rh,o⟩=>?_;refine ⟨ι,τ,h,S,Rh,ig o λd h1 ι1 H1 v g1 r1 hr1 o1=>?_⟩
 cases r1 with
 | int i=>exact ⟨i,rfl,o1 ι1 H1 _ (.refl _ _) rfl hr1⟩
 | _=>exact o1.elim
def whole(n:Nat)(lo hi:Option Int):Prop:=HT.sIx n 0 lo=0/\HT.sIx n n hi=n
instance (n:Nat) (lo hi:Option Int):Decidable (whole n lo hi):=by unfold whole;exact inferInstance
def gSl(d:D)(lo hi:Option Int)(h:Hd):R D:=match d with
 | .str z=>if z.length<=LINE then .ok (.str ⟨(a9a z.cps.toList lo hi).toArray⟩) h else .no
 | .tup xs=>if ¬ whole xs.length lo hi then .ok (.tup (a9a xs lo hi)) h else .no
 | .rol xs=>.ok (.ref h.length) (h++[.lst (a9a xs lo hi)])
 | .scr xs=>.ok (.ref h.length) (h++[.lst (a9a xs lo hi)])
 | .ref i=>match h[i]? with | some (.lst xs)=>.ok (.ref h.length) (h++[.lst (a9a xs lo hi)]) | _=>.no
 | _=>.no
theorem a5o(r:Reps K ι H vs xs)(lo hi:Option Int):Reps K ι H (apd vs lo hi) (a9a xs lo hi):=by
 unfold apd a9a;rw [r.len];exact (r.drop _).take _
theorem afg(rx:Rep K ι H x d)(hr:HRep K ι H h)(o:out K E (a0a K) ι H (gSl d lo hi h) Q):b0r x lo hi H Q\/b0g K x lo hi H Q\/b0i K x lo hi H Q:=by
 cases rx with
 | str z =>
  by_cases hc:z.length<=LINE
  ·simp only [gSl,aL hc] at o;exact .inl ⟨z,rfl,ll hc,ans o (.str _) hr⟩
  ·simp only [gSl,aY hc] at o;exact o.elim
 | @tup p vs xs hp r =>
  by_cases hc:¬ whole xs.length lo hi
  ·simp only [gSl,aL hc] at o;exact .inr (.inl ⟨p,vs,rfl,SqT.of hp,by rw [r.len];exact hc,a5b (a5o r lo hi) hr o⟩)
  ·simp only [gSl,aY hc] at o;exact o.elim
 | @rol p vs xs hp r=>exact .inr (.inr ⟨p,vs,rfl,hp.l,a1g (a5o r lo hi) hr o⟩)
 | @scr p vs xs hp r=>exact .inr (.inr ⟨p,vs,rfl,hp.l,a1g (a5o r lo hi) hr o⟩)
 | @ref p j hp =>
  obtain ⟨ob,e1,e2⟩:=hr.at hp
  cases ob with
  | lst xs =>
   simp only [gSl,e1] at o;obtain ⟨vs,h3,h4⟩:=e2;exact .inr (.inr ⟨p,vs,rfl,SqL.of h3,a1g (a5o h4 lo hi) hr o⟩)
  | dK _=>simp only [gSl,e1] at o;exact o.elim
  | dT _=>simp only [gSl,e1] at o;exact o.elim
 | _=>exact o.elim
theorem aj5(r:Rep K ι H x d)(f:a3l d=true):a4y x=true:=by cases r<;>first | rfl | cases f
theorem awt(r:Rep K ι H x d)(q:Rep K ι H y c):a3l d=true->a3l c=true->eqV x y=eqF d c:=λf g=>by
 cases r<;>cases q<;>first | rfl | (cases f;done) | (cases g;done)
def inD(x:D)(xs:List D):Bool:=xs.any λy=>eqF y x
theorem amy(r:Reps K ι H vs xs)(f:xs.all a3l=true):vs.all a4y=true:=by
 induction r using Reps.rec (motive_1:=λ_ _ _=>True) with
 | nil=>rfl
 | cons r rs _ ih =>
  rw [eX,aX] at f ⊢;exact ⟨aj5 r f.1,ih f.2⟩
 | _=>trivial
theorem awu(rx:Rep K ι H x d)(fx:a3l d=true)(r:Reps K ι H vs xs)(f:xs.all a3l=true):inV x vs=inD d xs:=by
 unfold inV inD
 induction r using Reps.rec (motive_1:=λ_ _ _=>True) with
 | nil=>rfl
 | cons r rs _ ih =>
  rw [eX,aX] at f;rw [eD,eD,ih f.2,awt r rx f.1 fx]
 | _=>trivial
def gIn(neg:Bool)(x y:D)(h:Hd):R D:=match y with
 | .str T=>(match x with
  | .str z=>(match z.cps.toList with | [c]=>.ok (.bl (if neg then !decide (c∈T.cps.toList) else decide (c∈T.cps.toList))) h | _=>.no)
  | _=>.no)
 | y=>match a3e y h with
  | some xs=>if a3l x=true/\xs.all a3l=true then .ok (.bl (if neg then !inD x xs else inD x xs)) h else .no
  | none=>.no
theorem one_sign{z:Str}(h:z.cps.toList=[c]):z=⟨#[c]⟩:=by
 obtain ⟨cps⟩:=z
 congr
 exact Array.ext' (by simpa using h)
theorem apr(neg:Bool){r1:R2}(h1:∀ c T H (Q:VK),Q (.bl (if neg then !decide (c∈T.cps.toList) else decide (c∈T.cps.toList))) H->r1 (.str ⟨#[c]⟩) (.str T) H Q):a5m K (gIn neg) (λx y H Q=>r1 x y H Q\/rIn K neg x y H Q):=by
 intro E ι H h x y dx dy Q rx ry hr o
 have go:∀ {p:Addr} {vs:List V} {xs:List D},(SqL K H p vs\/SqT K H p vs)->Reps K ι H vs xs->out K E (a0a K) ι H (if a3l dx=true/\xs.all a3l=true then .ok (.bl (if neg then !inD dx xs else inD dx xs)) h else .no) Q->rIn K neg x (.ref p) H Q:=λ{p vs xs} sq r o=>by
  split at o
  ·rename_i hc;exact ⟨p,vs,rfl,sq,aj5 rx hc.1,amy r hc.2,by rw [awu rx hc.1 r hc.2];exact ans o (.bl _) hr⟩
  ·exact o.elim
 cases ry with
 | str T =>
  cases rx with
  | str z =>
   simp only [gIn] at o
   split at o
   ·rename_i c hz;rw [one_sign hz];exact .inl (h1 c T H Q (ans o (.bl _) hr))
   ·exact o.elim
  | _=>exact o.elim
 | @tup p vs xs hp r=>simp only [gIn,a3e] at o;exact .inr (go (.inr (SqT.of hp)) r o)
 | @rol p vs xs hp r=>simp only [gIn,a3e] at o;exact .inr (go (.inl hp.l) r o)
 | @ref p j hp =>
  obtain ⟨ob,e1,e2⟩:=hr.at hp
  cases ob with
  | lst xs =>
   simp only [gIn,a3e,e1] at o;obtain ⟨vs,h3,h4⟩:=e2;exact .inr (go (.inl (SqL.of h3)) h4 o)
  | dK _=>simp only [gIn,a3e,e1] at o;exact o.elim
  | dT _=>simp only [gIn,a3e,e1] at o;exact o.elim
 | _=>exact o.elim
theorem aj6:a5m K (gIn false) (λx y H Q=>(∃ c T,x = .str ⟨#[c]⟩/\y = .str T/\Q (.bl (decide (c∈T.cps.toList))) H)\/rIn K false x y H Q):=apr false λc T H Q q=>⟨c,T,rfl,rfl,q⟩
theorem a87:a5m K (gIn true) (λx y H Q=>(∃ c T,x = .str ⟨#[c]⟩/\y = .str T/\Q (.bl (!decide (c∈T.cps.toList))) H)\/rIn K true x y H Q):=apr true λc T H Q q=>⟨c,T,rfl,rfl,q⟩
def v6:List D->Hd->R D
 | [.str z],h=>if z.length<=LINE then .ok (.int z.length) h else .no
 | [x],h=>(match a3e x h with | some xs=>.ok (.int xs.length) h | none=>.no)
 | _,_=>.no
theorem nj:af7 K v6 (λxs H Q=>(∃ p ys,xs=[.ref p]/\(SqL K H p ys\/SqT K H p ys)/\Q (.int ys.length) H)\/∃ z,xs=[.str z]/\z.length<=sizeLine/\Q (.int z.length) H):=by
 intro E ι H h xs ds Q r hr o
 cases r with
 | nil=>exact o.elim
 | cons r rs =>
  cases rs with
  | cons _ _=>exact (show False by cases r<;>exact o).elim
  | nil =>
   cases r with
   | str z =>
    by_cases hc:z.length<=LINE
    ·simp only [v6,aL hc] at o;exact .inr ⟨z,rfl,ll hc,ans o (.int _) hr⟩
    ·simp only [v6,aY hc] at o;exact o.elim
   | @tup p vs xs hp r=>simp only [v6,a3e] at o;exact .inl ⟨p,vs,rfl, .inr (SqT.of hp),by rw [r.len];exact ans o (.int _) hr⟩
   | @rol p vs xs hp r=>simp only [v6,a3e] at o;exact .inl ⟨p,vs,rfl, .inl hp.l,by rw [r.len];exact ans o (.int _) hr⟩
   | @ref p j hp =>
    obtain ⟨ob,e1,e2⟩:=hr.at hp
    cases ob with
    | lst xs =>
     simp only [v6,a3e,e1] at o;obtain ⟨vs,h3,h4⟩:=e2;exact .inl ⟨p,vs,rfl, .inl (SqL.of h3),by rw [h4.len];exact ans o (.int _) hr⟩
    | dK _=>simp only [v6,a3e,e1] at o;exact o.elim
    | dT _=>simp only [v6,a3e,e1] at o;exact o.elim
   | _=>exact o.elim
def azj:List D->Hd->R D
 | [.int i],h=>.ok (.int (if i<0 then -i else i)) h
 | _,_=>.no
theorem as5:af7 K azj (λxs H Q=>∃ i,xs=[.int i]/\Q (.int (if i<0 then -i else i)) H):=by
 intro E ι H h xs ds Q r hr o
 unfold azj at o
 split at o
 ·cases r with | cons r rs=>cases r;cases rs;exact ⟨_,rfl,ans o (.int _) hr⟩
 ·exact o.elim
def ae3:List D->Hd->R D
 | [.int i, .int j],h=>.ok (.int (if j > i then j else i)) h
 | _,_=>.no
def ack:List D->Hd->R D
 | [.int i, .int j],h=>.ok (.int (if j<i then j else i)) h
 | _,_=>.no
theorem amz:af7 K ae3 (λxs H Q=>∃ i j,xs=[.int i, .int j]/\Q (.int (if j > i then j else i)) H):=by
 intro E ι H h xs ds Q r hr o
 unfold ae3 at o
 split at o
 ·cases r with | cons r rs=>cases rs with | cons q rs=>cases r;cases q;cases rs;exact ⟨_,_,rfl,ans o (.int _) hr⟩
 ·exact o.elim
theorem an0:af7 K ack (λxs H Q=>∃ i j,xs=[.int i, .int j]/\Q (.int (if j<i then j else i)) H):=by
 intro E ι H h xs ds Q r hr o
 unfold ack at o
 split at o
 ·cases r with | cons r rs=>cases rs with | cons q rs=>cases r;cases q;cases rs;exact ⟨_,_,rfl,ans o (.int _) hr⟩
 ·exact o.elim
def as6:List D->Hd->R D
 | [.int i],h=>.ok (.int i) h
 | [.bl k],h=>.ok (.int (if k then 1 else 0)) h
 | _,_=>.no
theorem as7:af7 K as6 (λxs H Q=>(∃ i,xs=[.int i]/\Q (.int i) H)\/∃ k,xs=[.bl k]/\Q (.int (if k then 1 else 0)) H):=by
 intro E ι H h xs ds Q r hr o
 unfold as6 at o
 split at o
 ·cases r with | cons r rs=>cases r;cases rs;exact .inl ⟨_,rfl,ans o (.int _) hr⟩
 ·cases r with | cons r rs=>cases r;cases rs;exact .inr ⟨_,rfl,ans o (.int _) hr⟩
 ·exact o.elim
def tyD(d:D)(h:Hd):Option String:=match d with
 | .non=>some "NoneType" | .bl _=>some "bool" | .int _=>some "int" | .str _=>some "str" | .tup _=>some "tuple" | .rol _=>some "list"
 | .ref i=>(match h[i]? with | some (.lst _)=>some "list" | some (.dK _)=>some "dict" | _=>none)
 | _=>none
def as8(t T:String):Option Bool :=
 if t∈["NoneType", "bool", "int", "str", "tuple", "list", "dict"]/\T∈["bool", "int", "str", "tuple", "list", "dict"] then some (t == T || (t == "bool" && T == "int")) else none
theorem aj7{t T:String}{b:Bool}(e:as8 t T=some b):PySem.W.kitOne K (.type t) (.type T)=some b:=by
 unfold as8 at e
 split at e
 ·rename_i h;obtain ⟨h1,h2⟩:=h;simp only [aD,aN,bT] at h1 h2
  rcases h1 with rfl | rfl | rfl | rfl | rfl | rfl | rfl<;>rcases h2 with rfl | rfl | rfl | rfl | rfl | rfl<;>(cases e;rfl)
 ·cases e
def awv:List D->Hd->R D
 | [x, .ty T],h=>(match tyD x h with | some t=>(match as8 t T with | some b=>.ok (.bl b) h | none=>.no) | none=>.no)
 | _,_=>.no
theorem aww(r:Rep K ι H x d)(hr:HRep K ι H h)(e:tyD d h=some t):TyOf K H x (.type t):=by
 cases r with
 | non=>cases e;exact .non
 | bl b=>cases e;exact .bl b
 | int b=>cases e;exact .int b
 | str b=>cases e;exact .str b
 | ty _=>cases e
 | tup hp r=>cases e;exact .tup hp
 | rol hp r=>cases e;obtain ⟨o,hp⟩:=hp;exact .frz hp
 | scr _ _=>cases e
 | rod _ _ _=>cases e
 | rdT _ _ _=>cases e
 | exc _ _ _=>cases e
 | ref hp =>
  obtain ⟨ob,e1,e2⟩:=hr.at hp
  cases ob with
  | lst xs=>simp only [tyD,e1] at e;cases e;obtain ⟨vs,h3,h4⟩:=e2;exact .lst h3
  | dK _=>simp only [tyD,e1] at e;cases e;obtain ⟨vs,h3,h4⟩:=e2;exact .dK h3
  | dT _=>simp only [tyD,e1] at e;cases e
theorem as9:af7 K awv (λxs H Q=>∃ x T t b,xs=[x, .ty T]/\TyOf K H x t/\PySem.W.kitOne K t (.type T)=some b/\Q (.bl b) H):=by
 intro E ι H h xs ds Q r hr o
 unfold awv at o
 split at o
 ·rename_i d T
  cases r with
  | cons r rs =>
   cases rs with
   | cons q rs =>
    cases q;cases rs
    cases ht:tyD d h with
    | none=>rw [ht] at o;exact o.elim
    | some t =>
     rw [ht] at o
     cases hb:as8 t T with
     | none=>simp only [hb] at o;exact o.elim
     | some b =>
      simp only [hb] at o;exact ⟨_,T, .type t,b,rfl,aww r hr ht,aj7 hb,ans o (.bl _) hr⟩
 ·exact o.elim
end
section
variable{X:Cx}{K:PySem.W.Frag}{E:XD}{a b e o:Expr}{es:List Expr}{fa fb fo:SE}{ka:SA}{pos apos cpos:Pos}{name:Str}{idn:String}
def asa(K:PySem.W.Frag)(g:D->List D->Hd->R D)(r:V->List V->Hp->VK->Prop):Prop:=∀ (E:XD) ι H h x dx xs ds Q,Rep K ι H x dx->Reps K ι H xs ds->HRep K ι H h->out K E (a0a K) ι H (g dx ds h) Q->r x xs H Q
def isL(d:D)(h:Hd):Bool:=match d with | .ref i=>(match h[i]? with | some (.lst _)=>true | _=>false) | .rol _=>true | _=>false
def sML(g:D->List D->Hd->R D)(f:SE)(k:SA):SE:=λτ h=>(f τ h).bind λd h1=>if isL d h1=true then (k τ h1).bind λds h2=>g d ds h2 else .no
theorem awx(r:Rep K ι H x d)(hr:HRep K ι H h)(e:isL d h=true):tyV K "list" x H:=by
 cases r with
 | rol hp _=>exact .inl ⟨rfl,_,hp.l⟩
 | ref hp =>
  obtain ⟨ob,e1,e2⟩:=hr.at hp
  cases ob with
  | lst xs=>obtain ⟨vs,h3,_⟩:=e2;exact .inl ⟨rfl,_,SqL.of h3⟩
  | dK _=>simp [isL,e1] at e
  | dT _=>simp [isL,e1] at e
 | _=>cases e
theorem aaj(slot:Slot "list" name idn)(hty:typeOf (.builtin idn)=pure (.type "method_descriptor"))(hm:MtR X idn r)(hs:asa X.K g r)(ho:ME X E o fo)(ha:MA X E (e::es) ka)
  (hbase:attributeBase o name X.env (eval o X.env)=eval o X.env:=by rfl)
  (hfew:((backTo cpos (starEach (e::es) X.env)).all (λx => !x.1) && (backToKw cpos (keywordEach [] X.env)).all (λx=>x.1.isSome)
   && decide ((e::es).length+([]:List Keyword).length+(if ([]:List Keyword).isEmpty then 0 else 1)<30))=true:=by rfl)
  (hline:(apos.endLine == cpos.line)=true:=by rfl) (hst:starEach (e::es) X.env=(false,eval e X.env)::starEach es X.env:=by rfl) (hplain:(backTo cpos (starEach es X.env)).any (·.1)=false:=by rfl) :
  ME X E (.Call (.Attribute o name apos) (e::es) [] cpos) (sML g fo ka):=by
 refine PE.weak (b0j PySem.F.plainAttrs_list slot hty hm ho ha hbase hfew hline hst hplain) λσ H Q ⟨ι,τ,h,S,Rh,o⟩=>?_;refine ⟨ι,τ,h,S,Rh,ig o λd h1 ι1 H1 v g1 r1 hr1 o1=>?_⟩
 by_cases hc:isL d h1=true
 ·rw [aL hc] at o1;refine ⟨awx r1 hr1 hc,ι1,τ,h1,S.mono g1,hr1,ig o1 λds h2 ι2 H2 vs g2 r2 hr2 o2=>?_⟩;exact hs E ι2 H2 h2 v d vs ds Q (r1.mono g2) r2 hr2 o2
 ·rw [aY hc] at o1;exact o1.elim
def a9h:D->List D->Hd->R D
 | .ref i,[y],h=>(match h[i]? with | some (.lst xs)=>if xs.length<LINE then .ok .non (h.set i (.lst (xs++[y]))) else .no | _=>.no)
 | _,_,_=>.no
theorem a3m:asa K a9h aim:=by
 intro E ι H h x dx xs ds Q rx r hr o
 unfold a9h at o
 split at o
 ·rename_i i y
  cases rx with
  | @ref p _ hp =>
   cases r with
   | cons r1 rs =>
    cases rs
    split at o
    ·rename_i xs hx;obtain ⟨vs,h3,h4⟩:=hr.lst hp hx
     split at o
     ·rename_i hc;exact ⟨p,vs,_,rfl,rfl,h3,by rw [h4.len,aro];exact hc,arv (h4.snoc r1) hr hp .non o⟩
     ·exact o.elim
    ·exact o.elim
 ·exact o.elim
def sMS(g:D->List D->Hd->R D)(f:SE)(k:SA):SE:=λτ h=>(f τ h).bind λd h1=>match d with | .str z=>(k τ h1).bind λds h2=>g (.str z) ds h2 | _=>.no
theorem aj8(slot:Slot "str" name idn)(hty:typeOf (.builtin idn)=pure (.type "method_descriptor"))(hm:MtR X idn r)(hs:asa X.K g r)(ho:ME X E o fo)(ha:MA X E (e::es) ka)
  (hbase:attributeBase o name X.env (eval o X.env)=eval o X.env:=by rfl)
  (hfew:((backTo cpos (starEach (e::es) X.env)).all (λx => !x.1) && (backToKw cpos (keywordEach [] X.env)).all (λx=>x.1.isSome)
   && decide ((e::es).length+([]:List Keyword).length+(if ([]:List Keyword).isEmpty then 0 else 1)<30))=true:=by rfl)
  (hline:(apos.endLine == cpos.line)=true:=by rfl) (hst:starEach (e::es) X.env=(false,eval e X.env)::starEach es X.env:=by rfl) (hplain:(backTo cpos (starEach es X.env)).any (·.1)=false:=by rfl) :
  ME X E (.Call (.Attribute o name apos) (e::es) [] cpos) (sMS g fo ka):=by
 refine PE.weak (b0t slot hty hm ho ha hbase hfew hline hst hplain) λσ H Q ⟨ι,τ,h,S,Rh,o⟩=>?_;refine ⟨ι,τ,h,S,Rh,ig o λd h1 ι1 H1 v g1 r1 hr1 o1=>?_⟩
 cases r1 with
 | str z=>exact ⟨⟨z,rfl⟩,ι1,τ,h1,S.mono g1,hr1,ig o1 λds h2 ι2 H2 vs g2 r2 hr2 o2=>hs E ι2 H2 h2 _ _ vs ds Q (.str z) r2 hr2 o2⟩
 | _=>exact o1.elim
def agv:D->List D->Hd->R D
 | .str T,[.str z],h=>(match z.cps.toList with | [c]=>.ok (.int (a5l T c)) h | _=>.no)
 | _,_,_=>.no
theorem afh:asa K agv (λx xs H Q=>∃ T c,x = .str T/\xs=[.str ⟨#[c]⟩]/\Q (.int (a5l T c)) H):=by
 intro E ι H h x dx xs ds Q rx r hr o
 unfold agv at o
 split at o
 ·cases rx
  cases r with
  | cons r1 rs =>
   cases r1;cases rs
   split at o
   ·rename_i c hz;exact ⟨_,c,rfl,by rw [one_sign hz],ans o (.int _) hr⟩
   ·exact o.elim
 ·exact o.elim
def acl:D->List D->Hd->R D
 | .str T,[.str z],h=>(match z.cps.toList with | [c]=>if c∈T.cps.toList then .ok (.int (a5l T c)) h else .no | _=>.no)
 | _,_,_=>.no
theorem aj9:asa K acl (λx xs H Q=>∃ T c,x = .str T/\xs=[.str ⟨#[c]⟩]/\c∈T.cps.toList/\Q (.int (a5l T c)) H):=by
 intro E ι H h x dx xs ds Q rx r hr o
 unfold acl at o
 split at o
 ·cases rx
  cases r with
  | cons r1 rs =>
   cases r1;cases rs
   split at o
   ·rename_i c hz
    split at o
    ·rename_i hc;exact ⟨_,c,rfl,by rw [one_sign hz],hc,ans o (.int _) hr⟩
    ·exact o.elim
   ·exact o.elim
 ·exact o.elim
def ae4:List D->Option (List Str)
 | []=>some []
 | .str z::r=>(ae4 r).map (z::·)
 | _::_=>none
theorem aak:∀ {vs:List V} {xs:List D} {zs:List Str},Reps K ι H vs xs->ae4 xs=some zs->vs=zs.map V.str
 | _,_,_, .nil,e=>by cases e;rfl
 | _,_,zs, .cons (d:=d) r rs,e=>by
  cases r with
  | str z =>
   simp only [ae4,aO] at e;obtain ⟨ws,h1,rfl⟩:=e;rw [aak rs h1];rfl
  | _=>cases e
def aal:D->List D->Hd->R D
 | .str sep,[.ref i],h=>(match h[i]? with | some (.lst xs)=>(match ae4 xs with | some zs=>if (zs.map (·.length)).sum+zs.length*sep.length<=16777216 then .ok (.str (Txt.join sep zs)) h else .no | none=>.no) | _=>.no)
 | .str sep,[.rol xs],h=>(match ae4 xs with | some zs=>if (zs.map (·.length)).sum+zs.length*sep.length<=16777216 then .ok (.str (Txt.join sep zs)) h else .no | none=>.no)
 | _,_,_=>.no
theorem afi:asa K aal (λx xs H Q=>∃ sep p zs,x = .str sep/\xs=[.ref p]/\SqL K H p (zs.map V.str)/\(zs.map (·.length)).sum+zs.length*sep.length<=16777216/\Q (.str (Txt.join sep zs)) H):=by
 intro E ι H h x dx xs ds Q rx r hr o
 unfold aal at o
 split at o
 ·rename_i sep i;cases rx
  cases r with
  | cons r1 rs =>
   cases rs
   cases r1 with
   | @ref p _ hp =>
    split at o
    ·rename_i xs hx;obtain ⟨vs,h3,h4⟩:=hr.lst hp hx
     split at o
     ·rename_i zs hz
      split at o
      ·rename_i hc;exact ⟨sep,p,zs,rfl,rfl,SqL.of (by rw [h3,aak h4 hz]),hc,ans o (.str _) hr⟩
      ·exact o.elim
     ·exact o.elim
    ·exact o.elim
 ·rename_i sep xs;cases rx
  cases r with
  | cons r1 rs =>
   cases rs
   cases r1 with
   | @rol p vs xs hp r =>
    split at o
    ·rename_i zs hz
     split at o
     ·rename_i hc;exact ⟨sep,p,zs,rfl,rfl,by rw [<-aak r hz];exact hp.l,hc,ans o (.str _) hr⟩
     ·exact o.elim
    ·exact o.elim
 ·exact o.elim
theorem a9i(z:Str):Reps K ι H (a2t z) (a0i z):=by
 unfold a2t a0i
 induction z.cps.toList with
 | nil=>exact .nil
 | cons c cs ih=>exact .cons (.str _) ih
def vo:List D->Hd->R D
 | [.str z],h=>if z.length<=LINE then .ok (.tup (a0i z)) h else .no
 | [x],h=>(match a3e x h with | some xs=>.ok (.tup xs) h | none=>.no)
 | _,_=>.no
theorem a0l:af7 K vo (λxs H Q=>(∃ p ys,xs=[.ref p]/\((SqL K H p ys/\∀ l,H l=none->Q (.ref l) (upd H l (.tup ys)))\/(SqT K H p ys/\Q (.ref p) H)))\/∃ z,xs=[.str z]/\z.length<=sizeLine/\∀ l,H l=none->Q (.ref l) (upd H l (.tup (a2t z)))):=by
 intro E ι H h xs ds Q r hr o
 cases r with
 | nil=>exact o.elim
 | cons r rs =>
  cases rs with
  | cons _ _=>exact (show False by cases r<;>exact o).elim
  | nil =>
   cases r with
   | str z =>
    by_cases hc:z.length<=LINE
    ·simp only [vo,aL hc] at o;exact .inr ⟨z,rfl,ll hc,a5b (a9i z) hr o⟩
    ·simp only [vo,aY hc] at o;exact o.elim
   | @tup p vs xs hp r=>simp only [vo,a3e] at o;exact .inl ⟨p,vs,rfl, .inr ⟨SqT.of hp,ans o (.tup hp r) hr⟩⟩
   | @rol p vs xs hp r=>simp only [vo,a3e] at o;exact .inl ⟨p,vs,rfl, .inl ⟨hp.l,a5b r hr o⟩⟩
   | @ref p j hp =>
    obtain ⟨ob,e1,e2⟩:=hr.at hp
    cases ob with
    | lst xs =>
     simp only [vo,a3e,e1] at o;obtain ⟨vs,h3,h4⟩:=e2;exact .inl ⟨p,vs,rfl, .inl ⟨SqL.of h3,a5b h4 hr o⟩⟩
    | dK _=>simp only [vo,a3e,e1] at o;exact o.elim
    | dT _=>simp only [vo,a3e,e1] at o;exact o.elim
   | _=>exact o.elim
def an1:List D->Option (List Bool)
 | []=>some []
 | .bl z::r=>(an1 r).map (z::·)
 | _::_=>none
def aam:List D->Option (List Int)
 | []=>some []
 | .int z::r=>(aam r).map (z::·)
 | _::_=>none
theorem a88:∀ {vs:List V} {xs:List D} {zs:List Bool},Reps K ι H vs xs->an1 xs=some zs->vs=zs.map V.bl
 | _,_,_, .nil,e=>by cases e;rfl
 | _,_,zs, .cons (d:=d) r rs,e=>by
  cases r with
  | bl z =>
   simp only [an1,aO] at e;obtain ⟨ws,h1,rfl⟩:=e;rw [a88 rs h1];rfl
  | _=>cases e
theorem a5p:∀ {vs:List V} {xs:List D} {zs:List Int},Reps K ι H vs xs->aam xs=some zs->vs=zs.map V.int
 | _,_,_, .nil,e=>by cases e;rfl
 | _,_,zs, .cons (d:=d) r rs,e=>by
  cases r with
  | int z =>
   simp only [aam,aO] at e;obtain ⟨ws,h1,rfl⟩:=e;rw [a5p rs h1];rfl
  | _=>cases e
theorem afj(bs:List Bool):an1 (bs.map D.bl)=some bs:=by
 induction bs with
 | nil=>rfl
 | cons b bs ih=>simp [an1,ih]
def am2:List D->Hd->R D
 | [.ref i],h=>(match h[i]? with | some (.lst xs)=>(match an1 xs with | some bs=>.ok (.bl (bs.all id)) h | none=>.no) | _=>.no)
 | [.rol xs],h=>(match an1 xs with | some bs=>.ok (.bl (bs.all id)) h | none=>.no)
 | _,_=>.no
theorem aja:af7 K am2 (λxs H Q=>∃ (p:Addr) (bs:List Bool),xs=[.ref p]/\SqL K H p (bs.map V.bl)/\Q (.bl (bs.all id)) H):=by
 intro E ι H h xs ds Q r hr o
 unfold am2 at o
 split at o
 ·cases r with
  | cons r rs =>
   cases rs
   cases r with
   | @ref p _ hp =>
    split at o
    ·rename_i xs hx;obtain ⟨vs,h3,h4⟩:=hr.lst hp hx
     split at o
     ·rename_i bs hb;exact ⟨p,bs,rfl,SqL.of (by rw [h3,a88 h4 hb]),ans o (.bl _) hr⟩
     ·exact o.elim
    ·exact o.elim
 ·cases r with
  | cons r rs =>
   cases rs
   cases r with
   | @rol p vs xs hp r =>
    split at o
    ·rename_i bs hb;exact ⟨p,bs,rfl,by rw [<-a88 r hb];exact hp.l,ans o (.bl _) hr⟩
    ·exact o.elim
 ·exact o.elim
def awy:List D->Hd->R D
 | [.ref i],h=>(match h[i]? with | some (.lst xs)=>(match aam xs with | some bs=>.ok (.int bs.sum) h | none=>.no) | _=>.no)
 | [.rol xs],h=>(match aam xs with | some bs=>.ok (.int bs.sum) h | none=>.no)
 | _,_=>.no
theorem asb:af7 K awy (λxs H Q=>∃ (p:Addr) (ns:List Int),xs=[.ref p]/\SqL K H p (ns.map V.int)/\Q (.int ns.sum) H):=by
 intro E ι H h xs ds Q r hr o
 unfold awy at o
 split at o
 ·cases r with
  | cons r rs =>
   cases rs
   cases r with
   | @ref p _ hp =>
    split at o
    ·rename_i xs hx;obtain ⟨vs,h3,h4⟩:=hr.lst hp hx
     split at o
     ·rename_i bs hb;exact ⟨p,bs,rfl,SqL.of (by rw [h3,a5p h4 hb]),ans o (.int _) hr⟩
     ·exact o.elim
    ·exact o.elim
 ·cases r with
  | cons r rs =>
   cases rs
   cases r with
   | @rol p vs xs hp r =>
    split at o
    ·rename_i bs hb;exact ⟨p,bs,rfl,by rw [<-a5p r hb];exact hp.l,ans o (.int _) hr⟩
    ·exact o.elim
 ·exact o.elim
end
end MI
theorem L2.Room.u(r:L2.Room k A):A.units+64<PySem.cLine:=r.units
namespace MI
open PySem PySem.Spec L2
mutual
def eqD:D->D->Bool
 | .non, .non=>true
 | .bl a, .bl b=>a == b
 | .bl a, .int b=>(if a then 1 else 0) == b
 | .int a, .bl b=>a == (if b then 1 else 0)
 | .int a, .int b=>a == b
 | .str a, .str b=>a == b
 | .tup xs, .tup ys=>afk xs ys
 | _,_=>false
def afk:List D->List D->Bool
 | [],[]=>true
 | x::xs,y::ys=>eqD x y && afk xs ys
 | _,_=>false
end
def pur:Nat->D->Bool
 | _, .non=>true
 | _, .bl _=>true
 | _, .int _=>true
 | _, .str _=>true
 | n+1, .tup xs=>xs.all (pur n)
 | _,_=>false
def pairE(xs ys:List D)(j:Nat):Bool:=match xs[j]?,ys[j]? with | some x,some y=>eqD x y | _,_=>false
theorem a5q:∀ xs ys:List D,((List.range (min xs.length ys.length)).all (pairE xs ys) && xs.length == ys.length)=afk xs ys
 | [],[]=>by simp [afk]
 | [],_::_=>by simp [afk]
 | _::_,[]=>by simp [afk]
 | x::xs,y::ys=>by
  have ih:=a5q xs ys;rw [show min (x::xs).length (y::ys).length=min xs.length ys.length+1 by simp only [ba];omega,fh]
  rw [eX,g9];have e:(pairE (x::xs) (y::ys) ∘ Nat.succ)=pairE xs ys:=by funext j;simp [pairE]
  rw [e];simp only [afk];rw [<-ih];have e2:((x::xs).length == (y::ys).length)=(xs.length == ys.length):=by simp
  rw [e2,Bool.and_assoc];rfl
section
variable{K:PySem.W.Frag}{ι:List Addr}{H:Hp}
theorem an2:∀ (n:Nat) {v:V} {d e:D},Rep K ι H v d->Rep K ι H v e->pur n d=true->pur n e=true->eqD d e=true:=by
 intro n
 induction n with
 | zero=>intro v d e r q p1 p2;cases r<;>cases q<;>first | (simp [eqD];done) | (cases p1;done) | (cases p2;done)
 | succ n ih =>
  intro v d e r q p1 p2
  cases r with
  | @tup a vs xs h rs =>
   cases q with
   | @tup _ us ys h' qs =>
    rw [h] at h';cases h'
    simp only [eqD];simp only [pur,bn] at p1 p2
    clear h
    induction rs using Reps.rec (motive_1:=λ_ _ _=>True) generalizing ys with
    | nil=>cases qs;rfl
    | cons r rs _ ih2 =>
     cases qs with
     | cons q qs =>
      simp only [afk,aX];exact ⟨ih r q (p1 _ (aK ..)) (p2 _ (aK ..)),ih2 qs (λx hx=>p1 x (aG _ hx)) (λx hx=>p2 x (aG _ hx))⟩
    | _=>trivial
   | _=>cases p2
  | _=>cases q<;>first | (simp [eqD];done) | (cases p1;done) | (cases p2;done)
theorem a76(r:Rep K ι H v d)(p:pur n d=true):(∃ xs,d = .tup xs)\/(a4y v=true/\a3l d=true):=by
 cases r<;>first | exact .inr ⟨rfl,rfl⟩ | exact .inl ⟨_,rfl⟩ | (cases n<;>cases p)
theorem aan(r:Rep K ι H x d)(q:Rep K ι H y e)(f:a3l d=true)(g:a3l e=true):eqV x y=eqD d e:=by
 cases r<;>cases q<;>first | rfl | (simp [eqV,eqD];done) | (cases f;done) | (cases g;done)
open SeqAt in
theorem aps{s:Shared}(hok:HOk P w H s.heap):∀ (n:Nat) (A:Around) {x y:V} {u v:Value} {d e:D},Rep K ι H x d->Rep K ι H y e->RelV x u->RelV y v->pur n d=true->pur n e=true->A.units+n<cLine->EqAt A s u v (eqD d e):=by
 intro n
 induction n with
 | zero =>
  intro A x y u v d e r q rx ry p1 p2 hu
  rcases a76 r p1 with ⟨xs,rfl⟩ | ⟨f1,f2⟩
  ·cases p1
  ·rcases a76 q p2 with ⟨xs,rfl⟩ | ⟨g1,g2⟩
   ·cases p2
   ·rw [<-aan r q f2 g2];exact ail rx ry f1 g1
 | succ n ih =>
  intro A x y u v d e r q rx ry p1 p2 hu
  rcases a76 r p1 with ⟨xs,rfl⟩ | ⟨f1,f2⟩
  ·cases r with
   | @tup a vs _ ha rs =>
    cases rx
    obtain ⟨_,its,r1,t1⟩:=(Rd.of ha).ok hok
    rcases a76 q p2 with ⟨ys,rfl⟩ | ⟨g1,g2⟩
    ·cases q with
     | @tup b us _ hb qs =>
      cases ry
      obtain ⟨_,its2,r2,t2⟩:=(Rd.of hb).ok hok
      by_cases hab:a=b
      ·subst hab;rw [an2 (n+1) (.tup ha rs) (.tup hb qs) p1 p2];exact EqAt.same _
      ·have l1:its.toArray.size=xs.length:=by rw [aI,<-r1.length,rs.len]
       have l2:its2.toArray.size=ys.length:=by rw [aI,<-r2.length,qs.len]
       have:=RcAt.tuples (A:=A) (s:=s) (e:=pairE xs ys) t1 t2 (by omega) (λj h1 h2=>by
        have j1:j<xs.length:=by omega
        have j2:j<ys.length:=by omega
        obtain ⟨v1,e1,q1⟩:=rs.get (af j1);obtain ⟨v2,e2,q2⟩:=qs.get (af j2);obtain ⟨u1,e3,q3⟩:=r1.get e1;obtain ⟨u2,e4,q4⟩:=r2.get e2;have f1:its.toArray[j]=u1:=by simpa using (ah.mp e3).2
        have f2:its2.toArray[j]=u2:=by simpa using (ah.mp e4).2
        have pe:pairE xs ys j=eqD xs[j] ys[j]:=by simp [pairE,af j1,af j2]
        rw [f1,f2,pe];simp only [pur,bn] at p1 p2;exact ih A.in1 q1 q2 q3 q4 (p1 _ (bJ j1)) (p2 _ (bJ j2)) (by rw [hR];omega))
       rw [l1,l2,a5q] at this;exact EqAt.of_refs hab this
    ·have e0:eqD (.tup xs) e=false:=by cases e<;>first | rfl | (cases g2;done)
     rw [e0]
     cases y with
     | non=>cases ry;exact EqAt.tuple_none t1 (by omega)
     | bl b=>cases ry;exact EqAt.tuple_bool b t1 (by omega)
     | int b=>obtain ⟨t,rfl⟩:=ry;exact EqAt.tuple_int b t t1 (by omega)
     | str b=>obtain ⟨t,rfl⟩:=ry;exact EqAt.tuple_str b t t1 (by omega)
     | _=>cases g1
  ·rcases a76 q p2 with ⟨ys,rfl⟩ | ⟨g1,g2⟩
   ·cases q with
    | @tup b us _ hb qs =>
     cases ry
     obtain ⟨_,its2,r2,t2⟩:=(Rd.of hb).ok hok;have e0:eqD d (.tup ys)=false:=by cases d<;>first | rfl | (cases f2;done)
     rw [e0]
     cases x with
     | non=>cases rx;exact EqAt.none_tuple t2 (by omega)
     | bl b=>cases rx;exact EqAt.bool_tuple b t2 (by omega)
     | int b=>obtain ⟨t,rfl⟩:=rx;exact EqAt.int_tuple b t t2 (by omega)
     | str b=>obtain ⟨t,rfl⟩:=rx;exact EqAt.str_tuple b t t2 (by omega)
     | _=>cases f1
   ·rw [<-aan r q f2 g2];exact ail rx ry f1 g1
open SeqAt in
theorem awz(ry:RelV y u)(rx:RelV x v)(fy:a4y y=true)(fx:a4y x=true):RcAt A s u v (eqV y x):=by
 cases y with
 | non =>
  cases ry
  cases x with
  | non=>cases rx;exact RcAt.none_none
  | bl b=>cases rx;exact RcAt.none_bool b
  | int b=>obtain ⟨t,rfl⟩:=rx;exact RcAt.none_int b t
  | str b=>obtain ⟨t,rfl⟩:=rx;exact RcAt.none_str b t
  | _=>cases fx
 | bl a =>
  cases ry
  cases x with
  | non=>cases rx;exact RcAt.bool_none a
  | bl b=>cases rx;exact RcAt.bool_bool a b
  | int b=>obtain ⟨t,rfl⟩:=rx;exact RcAt.bool_int a b t
  | str b=>obtain ⟨t,rfl⟩:=rx;exact RcAt.bool_str a b t
  | _=>cases fx
 | int a =>
  obtain ⟨t',rfl⟩:=ry
  cases x with
  | non=>cases rx;exact RcAt.int_none a t'
  | bl b=>cases rx;exact RcAt.int_bool a t' b
  | int b=>obtain ⟨t,rfl⟩:=rx;exact RcAt.int_int a t' b t
  | str b=>obtain ⟨t,rfl⟩:=rx;exact RcAt.int_str a t' b t
  | _=>cases fx
 | str a =>
  obtain ⟨t',rfl⟩:=ry
  cases x with
  | non=>cases rx;exact RcAt.str_none a t'
  | bl b=>cases rx;exact RcAt.str_bool a t' b
  | int b=>obtain ⟨t,rfl⟩:=rx;exact RcAt.str_int a t' b t
  | str b=>obtain ⟨t,rfl⟩:=rx;exact RcAt.str_str a t' b t
  | _=>cases fx
 | _=>cases fy
open SeqAt in
theorem an3(ry:RelV y u)(rx:RelV x v)(fy:a4y y=true)(fx:a4y x=true):RcNeAt A s u v (!eqV y x):=by
 cases y with
 | non =>
  cases ry
  cases x with
  | non=>cases rx;exact RcNeAt.none_none
  | bl b=>cases rx;exact RcNeAt.none_bool b
  | int b=>obtain ⟨t,rfl⟩:=rx;exact RcNeAt.none_int b t
  | str b=>obtain ⟨t,rfl⟩:=rx;exact RcNeAt.none_str b t
  | _=>cases fx
 | bl a =>
  cases ry
  cases x with
  | non=>cases rx;exact RcNeAt.bool_none a
  | bl b=>cases rx;exact RcNeAt.bool_bool a b
  | int b=>obtain ⟨t,rfl⟩:=rx;exact RcNeAt.bool_int a b t
  | str b=>obtain ⟨t,rfl⟩:=rx;exact RcNeAt.bool_str a b t
  | _=>cases fx
 | int a =>
  obtain ⟨t',rfl⟩:=ry
  cases x with
  | non=>cases rx;exact RcNeAt.int_none a t'
  | bl b=>cases rx;exact RcNeAt.int_bool a t' b
  | int b=>obtain ⟨t,rfl⟩:=rx;exact RcNeAt.int_int a t' b t
  | str b=>obtain ⟨t,rfl⟩:=rx;exact RcNeAt.int_str a t' b t
  | _=>cases fx
 | str a =>
  obtain ⟨t',rfl⟩:=ry
  cases x with
  | non=>cases rx;exact RcNeAt.str_none a t'
  | bl b=>cases rx;exact RcNeAt.str_bool a t' b
  | int b=>obtain ⟨t,rfl⟩:=rx;exact RcNeAt.str_int a t' b t
  | str b=>obtain ⟨t,rfl⟩:=rx;exact RcNeAt.str_str a t' b t
  | _=>cases fx
 | _=>cases fy
open SeqAt in
theorem tops{s:Shared}{A:Around}(hok:HOk P w H s.heap)(r:Rep K ι H x d)(q:Rep K ι H y e)(rx:RelV x u)(ry:RelV y v)(p1:pur 60 d=true)(p2:pur 60 e=true)(hu:A.units+64<cLine) :
  RcAt A s u v (eqD d e)/\RcNeAt A s u v (!eqD d e):=by
 rcases a76 r p1 with ⟨xs,rfl⟩ | ⟨f1,f2⟩
 ·cases r with
  | @tup a vs _ ha rs =>
   cases rx
   obtain ⟨_,its,r1,t1⟩:=(Rd.of ha).ok hok
   rcases a76 q p2 with ⟨ys,rfl⟩ | ⟨g1,g2⟩
   ·cases q with
    | @tup b us _ hb qs =>
     cases ry
     obtain ⟨_,its2,r2,t2⟩:=(Rd.of hb).ok hok;have l1:its.toArray.size=xs.length:=by rw [aI,<-r1.length,rs.len]
     have l2:its2.toArray.size=ys.length:=by rw [aI,<-r2.length,qs.len]
     have step:∀ j (h1:j<its.toArray.size) (h2:j<its2.toArray.size),EqAt A.in1 s its.toArray[j] its2.toArray[j] (pairE xs ys j):=λj h1 h2=>by
      have j1:j<xs.length:=by omega
      have j2:j<ys.length:=by omega
      obtain ⟨v1,e1,q1⟩:=rs.get (af j1);obtain ⟨v2,e2,q2⟩:=qs.get (af j2);obtain ⟨u1,e3,q3⟩:=r1.get e1;obtain ⟨u2,e4,q4⟩:=r2.get e2;have f1:its.toArray[j]=u1:=by simpa using (ah.mp e3).2
      have f2:its2.toArray[j]=u2:=by simpa using (ah.mp e4).2
      have pe:pairE xs ys j=eqD xs[j] ys[j]:=by simp [pairE,af j1,af j2]
      rw [f1,f2,pe];simp only [pur,bn] at p1 p2;exact aps hok 59 A.in1 q1 q2 q3 q4 (p1 _ (bJ j1)) (p2 _ (bJ j2)) (by rw [hR];omega)
     have c1:=RcAt.tuples (A:=A) (s:=s) (e:=pairE xs ys) t1 t2 (by omega) step
     have c2:=RcNeAt.tuples (A:=A) (s:=s) (e:=pairE xs ys) t1 t2 (by omega) step
     rw [l1,l2,a5q] at c1 c2;exact ⟨c1,c2⟩
   ·have e0:eqD (.tup xs) e=false:=by cases e<;>first | rfl | (cases g2;done)
    rw [e0]
    cases y with
    | non=>cases ry;exact ⟨RcAt.tuple_none t1 (by omega),RcNeAt.tuple_none t1 (by omega)⟩
    | bl b=>cases ry;exact ⟨RcAt.tuple_bool b t1 (by omega),RcNeAt.tuple_bool b t1 (by omega)⟩
    | int b=>obtain ⟨t,rfl⟩:=ry;exact ⟨RcAt.tuple_int b t t1 (by omega),RcNeAt.tuple_int b t t1 (by omega)⟩
    | str b=>obtain ⟨t,rfl⟩:=ry;exact ⟨RcAt.tuple_str b t t1 (by omega),RcNeAt.tuple_str b t t1 (by omega)⟩
    | _=>cases g1
 ·rcases a76 q p2 with ⟨ys,rfl⟩ | ⟨g1,g2⟩
  ·cases q with
   | @tup b us _ hb qs =>
    cases ry
    obtain ⟨_,its2,r2,t2⟩:=(Rd.of hb).ok hok;have e0:eqD d (.tup ys)=false:=by cases d<;>first | rfl | (cases f2;done)
    rw [e0]
    cases x with
    | non=>cases rx;exact ⟨RcAt.none_tuple t2 (by omega),RcNeAt.none_tuple t2 (by omega)⟩
    | bl b=>cases rx;exact ⟨RcAt.bool_tuple b t2 (by omega),RcNeAt.bool_tuple b t2 (by omega)⟩
    | int b=>obtain ⟨t,rfl⟩:=rx;exact ⟨RcAt.int_tuple b t t2 (by omega),RcNeAt.int_tuple b t t2 (by omega)⟩
    | str b=>obtain ⟨t,rfl⟩:=rx;exact ⟨RcAt.str_tuple b t t2 (by omega),RcNeAt.str_tuple b t t2 (by omega)⟩
    | _=>cases f1
  ·rw [<-aan r q f2 g2];exact ⟨awz rx ry f1 g1,an3 rx ry f1 g1⟩
def b2b(K:PySem.W.Frag):R2:=λx y H Q=>∃ ι d e,Rep K ι H x d/\Rep K ι H y e/\pur 60 d=true/\pur 60 e=true/\Q (.bl (eqD d e)) H
def b2c(K:PySem.W.Frag):R2:=λx y H Q=>∃ ι d e,Rep K ι H x d/\Rep K ι H y e/\pur 60 d=true/\pur 60 e=true/\Q (.bl (!eqD d e)) H
theorem uq{X:Cx}(hu:X.A.units+64<cLine):OpR X (compareOp .Eq) (b2b X.K):=by
 intro pins s σ H x y v u Q I rx ry h
 obtain ⟨ι,d,e,r,q,p1,p2,hq⟩:=h;exact (tops (A:=X.A) I.hok r q rx ry p1 p2 hu).1 X.prog X.w X.xe _ ⟨.bl _,H,I,rfl,hq⟩
theorem a5r{X:Cx}(hu:X.A.units+64<cLine):OpR X (compareOp .NotEq) (b2c X.K):=by
 intro pins s σ H x y v u Q I rx ry h
 obtain ⟨ι,d,e,r,q,p1,p2,hq⟩:=h;exact (tops (A:=X.A) I.hok r q rx ry p1 p2 hu).2 X.prog X.w X.xe _ ⟨.bl _,H,I,rfl,hq⟩
def hEq(x y:D)(h:Hd):R D:=if pur 60 x=true/\pur 60 y=true then .ok (.bl (eqD x y)) h else .no
def hNe(x y:D)(h:Hd):R D:=if pur 60 x=true/\pur 60 y=true then .ok (.bl (!eqD x y)) h else .no
theorem qe:a5m K hEq (b2b K):=by
 intro E ι H h x y dx dy Q rx ry hr o
 unfold hEq at o
 split at o
 ·rename_i hc;exact ⟨ι,dx,dy,rx,ry,hc.1,hc.2,ans o (.bl _) hr⟩
 ·exact o.elim
theorem a2c:a5m K hNe (b2c K):=by
 intro E ι H h x y dx dy Q rx ry hr o
 unfold hNe at o
 split at o
 ·rename_i hc;exact ⟨ι,dx,dy,rx,ry,hc.1,hc.2,ans o (.bl _) hr⟩
 ·exact o.elim
end
section
variable{X:Cx}{E:XD}{K:PySem.W.Frag}
def ax0:SE:=λ_ h=>.ok (.ref h.length) (h++[.dK []])
theorem asd:ME X E (.Dict [] [] pos) ax0:=by
 refine PE.weak amo λσ H Q ⟨ι,τ,h,S,Rh,o⟩=>λp hp=>?_;exact o (ι++[p]) _ _ (acf hp _) (.ref (by rw [aF (by rw [Rh.len];exact ax _),Rh.len];simp)) (Rh.add hp ⟨[],qd,rfl, .nil⟩)
def a1q:D->D->Hd->R D
 | .int i, .int j,h=>.ok (.int (i+j)) h
 | .str x, .str y,h=>if x.length+y.length<=LINE then .ok (.str (x++y)) h else .no
 | _,_,_=>.no
theorem a0y:a5m K a1q (λx y H Q=>rI0 (λi j=>.int (i+j)) x y H Q\/∃ i j,x = .str i/\y = .str j/\i.length+j.length<=sizeLine/\Q (.str (i++j)) H):=by
 intro E ι H h x y dx dy Q rx ry hr o
 cases rx with
 | int i =>
  cases ry with
  | int j=>exact .inl ⟨i,j,rfl,rfl,ans o (.int _) hr⟩
  | _=>exact o.elim
 | str i =>
  cases ry with
  | str j =>
   by_cases hc:i.length+j.length<=LINE
   ·simp only [a1q,aL hc] at o;exact .inr ⟨i,j,rfl,rfl,ll hc,ans o (.str _) hr⟩
   ·simp only [a1q,aY hc] at o;exact o.elim
  | _=>exact o.elim
 | _=>exact o.elim
theorem ax1:bootBuiltins "max" = some (.builtin "max"):=by first | exact PySem.boot_max | exact PyProof.Rows.boot_max
theorem ax2:bootBuiltins "min" = some (.builtin "min"):=by first | exact PySem.boot_min | exact PyProof.Rows.boot_min
theorem ax3:bootBuiltins "sum" = some (.builtin "sum"):=by first | exact PySem.boot_sum | exact PyProof.Rows.boot_sum
theorem jo(h1:MG X E e g)(h2:MGs X E es ks)(hs:(assignEach (e::es) X.env).map (·.2)=assign e X.env::(assignEach es X.env).map (·.2):=by rfl):MGs X E (e::es) (n6 g ks) :=
 PGs.weak (a09 h1 h2 hs) λvs σ H Q q=>amv q
end
end MI
namespace ZP
open PySem PySem.Spec PySem.Builtin PySem.Builtin.SmallTypes
section
variable{prog:Program}{w:World}{A:Around}{E:Value->Shared->Prop}{s:Shared}
theorem ase{α:Type}{Q:α->Shared->Prop}(hh:A.handled=none)(q:∀ h' e,(∀ b o,s.heap.get? b=some o->h'.get? b=some o)->(∃ o,h'.get? e=some o/\o.cls = .type "StopIteration")->E (.ref e) { s with heap:=h' }) :
  wpAny (model prog w) A (stopIteration:Sem α) Q E s:=by
 have none_first:firstArgMember (.type "StopIteration") []=pure Value.none:=by first | rfl | (simp only [firstArgMember];rfl)
 rw [stopIteration]
 apply ag
 rw [newExc,newTuple]
 apply ag
 apply cn _ (by size_fits)
 rw [none_first,pure_bind]
 apply cn _ (by size_fits)
 apply wpAny_raiseNew_none hh
 exact q _ _ (λb o z=>am _ (am _ z)) ⟨_,aJ _ rfl,rfl⟩
theorem an4(hi:s.heap.IsTupleIter it t i)(ht:s.heap.IsTuple t items)(hx:items[i]? = some x)
  (q:∀ h',h'.IsTupleIter it t (i+1)->Heap.SameBut it s.heap h'->Q x { s with heap:=h' }):wpAny (model prog w) A (nextOf (.ref it)) Q E s:=by
 have ty:=hi.typeIs;obtain ⟨o,e1,e2,e3⟩:=id hi;obtain ⟨p,f1,f2,n,f3⟩:=ht;rw [nextOf]
 apply ag
 apply cc (name:=Str.ofString "__next__") ty dA
 apply bU dA ty fT _ (fN _)
 change wpAny (model prog w) A.in1 (field (.ref it) 0>>=_) _ _ _
 apply ag;apply dE e1 e3 (x:=.ref t) rfl
 change wpAny (model prog w) A.in1 (field (.ref it) 1>>=_) _ _ _
 apply ag;apply dE e1 e3 (x:=.int i 0) rfl
 change wpAny (model prog w) A.in1 (seqItems? (.ref t)>>=_) _ _ _
 apply ag;apply eI f1 f3
 dsimp only;rw [dG,hx]
 apply ag
 obtain ⟨c,dd,dt,sl⟩:=o;simp only at e2 e3;subst e2 e3
 apply wpAny_setField e1 rfl (fF 1)
 apply aB
 exact ⟨x,rfl,aB (q _ ⟨_,cV _ e1 rfl,rfl,rfl⟩ (cO ..))⟩
theorem asf{it t:Addr}{i:Nat}{items:Array Value}{Q:Value->Shared->Prop}(hh:A.handled=none)(hi:s.heap.IsTupleIter it t i)(ht:s.heap.IsTuple t items)(hx:items[i]? = none)
  (q:∀ h' e,Heap.ExtBut it s.heap h'->(∃ o,h'.get? e=some o/\o.cls = .type "StopIteration")->E (.ref e) { s with heap:=h' }):wpAny (model prog w) A (nextOf (.ref it)) Q E s:=by
 have ty:=hi.typeIs;obtain ⟨o,e1,e2,e3⟩:=id hi;obtain ⟨p,f1,f2,n,f3⟩:=ht;rw [nextOf]
 apply ag
 apply cc (name:=Str.ofString "__next__") ty dA
 apply bU dA ty fT _ (fN _)
 change wpAny (model prog w) A.in1 (field (.ref it) 0>>=_) _ _ _
 apply ag;apply dE e1 e3 (x:=.ref t) rfl
 change wpAny (model prog w) A.in1 (field (.ref it) 1>>=_) _ _ _
 apply ag;apply dE e1 e3 (x:=.int i 0) rfl
 change wpAny (model prog w) A.in1 (seqItems? (.ref t)>>=_) _ _ _
 apply ag;apply eI f1 f3
 dsimp only;rw [dG,hx];dsimp only;obtain ⟨c,dd,dt,sl⟩:=o;simp only at e2 e3;subst e2 e3
 apply ag;apply eT
 apply ag;apply wpAny_setField e1 rfl (cX 1)
 apply ase (show A.in1.handled=none from hh)
 exact λh' e k z=>q h' e (λb o nb eb=>k b o ((cO ..).extBut b o nb eb)) z
theorem ajb{A:Around}(hh:A.handled=none)(it t:Addr)(ne:t≠it)(items:Array Value):Draws prog w A it [it,t] items.size (λi v=>items[i]? = some v) (λi h=>h.IsTupleIter it t i/\h.IsTuple t items) where
 live:=λ_ _ st=>let ⟨o,e,_⟩:=st.1; ⟨o,e⟩
 frame:=λ_ _ _ st k=>⟨let ⟨o,e,r⟩:=st.1; ⟨o,k it (by simp) o e,r⟩,let ⟨o,e,r⟩:=st.2; ⟨o,k t (by simp) o e,r⟩⟩
 item:=λi s Q E hi st q=>an4 st.1 st.2 (bO hi) λh' a b=>q _ h' s.toks (bO hi) ⟨a,st.2.extBut b.extBut ne⟩ b
 done:=λs Q E st q=>asf hh st.1 st.2 (by simp) q
end
structure Ap (z TI TO i1 i2:Addr) (p q:List Addr):Prop where
 m1:i1∈p
 m2:i2∈q
 z1:z ∉ p
 z2:z ∉ q
 o1:TO ∉ p
 o2:TO ∉ q
 oz:TO≠z
 x1:i1 ∉ q
 x2:i2 ∉ p
section
variable{prog:Program}{w:World}{A:Around}{E:Value->Shared->Prop}{s:Shared}{z TI TO i1 i2:Addr}{p q:List Addr}{n1 n2 k:Nat}{P1 P2:Nat->Value->Prop}{S1 S2:Nat->Heap->Prop}{a b:Value}
theorem far{D:Draws prog w A i1 p n1 P1 S1}(sb:Heap.SameBut c h h')(nc:c ∉ p)(st:S1 k h):S1 k h':=D.frame _ _ _ st λx hx o e=>sb.extBut x o (λy=>nc (y ▸ hx)) e
theorem ajc(hz:IsZip s.heap z TI TO .none)(hi:IsPair s.heap TI (.ref i1) (.ref i2))(ho:IsPair s.heap TO a b)(oz:TO≠z)
  (go:∀ h1,IsZip h1 z TI TO .ellipsis->Heap.SameBut z s.heap h1->wpAny (model prog w) A (nextOf (.ref i1))
   (λx s2=>IsPair s2.heap TO a b/\∀ h3,IsPair h3 TO x b->Heap.SameBut TO s2.heap h3->wpAny (model prog w) A (nextOf (.ref i2))
    (λy s4=>IsPair s4.heap TO x b/\∀ h5,IsPair h5 TO x y->Heap.SameBut TO s4.heap h5->IsZip h5 z TI TO .ellipsis/\∀ h8,IsZip h8 z TI TO (rawInt h5.objs.size)->IsPair h8 h5.objs.size x y->h8.objs.size=h5.objs.size+1->
     (∀ c o,c≠z->h5.get? c=some o->h8.get? c=some o)->Q (.done (.ret (.ref h5.objs.size))) { s4 with heap:=h8 })
    (λe s4=>wpAny (model prog w) A (setField (.ref z) 0 .none) (λ_ s5=>E e s5) E s4) { s2 with heap:=h3 })
   (λe s2=>wpAny (model prog w) A (setField (.ref z) 0 .none) (λ_ s3=>E e s3) E s2) { s with heap:=h1 }) :
  wpAny (model prog w) A (Builtin.«zip.__next__» ⟨[.ref z],[]⟩) Q E s:=by
 change wpAny (model prog w) A (field (.ref z) 2>>=_) _ _ _
 apply ag;apply dE hz rfl (x:=.bool false) rfl
 change wpAny (model prog w) A (field (.ref z) 3>>=_) _ _ _
 apply ag;apply dE hz rfl (x:=.ref TI) rfl
 apply ag;apply eI hi rfl
 change wpAny (model prog w) A (ownedTupleIsFree (.ref z)>>=_) _ _ _
 apply ag
 rw [ownedTupleIsFree]
 apply ag;apply dE hz rfl (x:=.none) rfl
 apply aB
 rw [aL rfl]
 apply ag;apply eT
 apply ag;apply dE hz rfl (x:=.ref TO) rfl
 apply ag;apply dQ hz (cX _)
 intro h1 z1 b1
 apply ag
 simp only [List.zipIdx_cons,List.zipIdx_nil,List.forIn_cons,List.forIn_nil]
 apply ag;apply ag;apply gS
 change wpAny (model prog w) A (nextOf (.ref i1)>>=_) _ _ _
 apply ag
 apply bq (go h1 z1 b1) _ λ_ _ r=>r
 rintro x s2 ⟨o2,g2⟩
 apply aB
 apply ag;apply eI o2 rfl
 apply ag;apply wpAny_updateSeq_pair o2
 intro h3 o3 b3
 apply ag;apply wpAny_letGo;apply aB
 apply ag;apply ag;apply gS
 change wpAny (model prog w) A (nextOf (.ref i2)>>=_) _ _ _
 apply ag
 apply bq (g2 h3 o3 b3) _ λ_ _ r=>r
 rintro y s4 ⟨o4,g4⟩
 apply aB
 apply ag;apply eI o4 rfl
 apply ag;apply wpAny_updateSeq_pair o4
 intro h5 o5 b5
 obtain ⟨z5,g5⟩:=g4 h5 o5 b5
 apply ag;apply wpAny_letGo;apply aB;apply aB
 apply ag;apply eI o5 rfl
 apply ag;refine wpAny_newTuple ?_ (by show 2<=sizeLine;decide)
 change wpAny (model prog w) A (ownedTupleHandOut (.ref z) (.ref h5.objs.size)>>=_) _ _ _
 apply ag
 rw [ownedTupleHandOut];have z6:IsZip (h5.push { cls:=.type "tuple",data:=.seq #[x,y] }) z TI TO .ellipsis:=am _ z5;have lt:z<h5.objs.size:=aH z5
 apply ag;apply dQ z6 (cX _)
 intro h7 z7 b7
 apply dQ z7 (by show 1<5;decide)
 intro h8 z8 b8
 apply aB
 refine g5 h8 z8 (b8.extBut _ _ (hU lt) (b7.extBut _ _ (hU lt) (aJ _ rfl))) ?_ λc o nc e=>b8.extBut _ _ nc (b7.extBut _ _ nc (am _ e));rw [b8.1,b7.1,cC]
theorem an5{Q:Value->Shared->Prop}(D1:Draws prog w A i1 p n1 P1 S1)(D2:Draws prog w A i2 q n2 P2 S2)(ap:Ap z TI TO i1 i2 p q)(hz:IsZip s.heap z TI TO .none)(hi:IsPair s.heap TI (.ref i1) (.ref i2))(ho:IsPair s.heap TO a b)
  (s1:S1 k s.heap) (s2:S2 k s.heap) (k1:k<n1) (k2:k<n2)
  (hQ:∀ x y h' tk,P1 k x->P2 k y->IsZip h' z TI TO (rawInt s.heap.objs.size)->IsPair h' TO x y->S1 (k+1) h'->S2 (k+1) h'->IsPair h' s.heap.objs.size x y->h'.objs.size=s.heap.objs.size+1->
   (∀ c o,c≠z->c≠TO->c≠i1->c≠i2->s.heap.get? c=some o->h'.get? c=some o)->Q (.ref s.heap.objs.size) { s with heap:=h',toks:=tk }) :
  wpAny (model prog w) A (Builtin.«zip.__next__» ⟨[.ref z],[]⟩) (λfin s'=>∃ v,fin = .done (.ret v)/\Q v s') E s:=by
 have ni1:i1≠z:=λe=>ap.z1 (e ▸ ap.m1);have ni2:i2≠z:=λe=>ap.z2 (e ▸ ap.m2);have no1:TO≠i1:=λe=>ap.o1 (e ▸ ap.m1);have no2:TO≠i2:=λe=>ap.o2 (e ▸ ap.m2);refine ajc hz hi ho ap.oz λh1 z1 b1=>?_;refine D1.item k _ _ _ k1 (far (D:=D1) b1 ap.z1 s1) λx h2 t2 px st2 b2=>?_;refine ⟨b2.extBut _ _ no1 (b1.extBut _ _ ap.oz ho),λh3 o3 b3=>?_⟩;refine D2.item k _ _ _ k2 (far (D:=D2) b3 ap.o2 (far (D:=D2) b2 ap.x1 (far (D:=D2) b1 ap.z2 s2))) λy h4 t4 py st4 b4=>?_;refine ⟨b4.extBut _ _ no2 o3,λh5 o5 b5=>⟨b5.extBut _ _ ap.oz.symm (b4.extBut _ _ ni2.symm (b3.extBut _ _ ap.oz.symm (b2.extBut _ _ ni1.symm z1))),λh8 z8 t8 l8 k8=>⟨_,rfl,?_⟩⟩⟩
 have sz:h5.objs.size=s.heap.objs.size:=by rw [b5.1,b4.1,b3.1,b2.1,b1.1]
 have g1:S1 (k+1) h8:=D1.frame _ _ _ (far (D:=D1) b5 ap.o1 (far (D:=D1) b4 ap.x2 (far (D:=D1) b3 ap.o1 st2))) λc hc o e=>k8 c o (λy=>ap.z1 (y ▸ hc)) e;have g2:S2 (k+1) h8:=D2.frame _ _ _ (far (D:=D2) b5 ap.o2 st4) λc hc o e=>k8 c o (λy=>ap.z2 (y ▸ hc)) e;rw [sz] at z8 t8 l8 ⊢;exact hQ x y h8 t4 px py z8 (k8 _ _ ap.oz o5) g1 g2 t8 l8 λc o c1 c2 c3 c4 e=>k8 c o c1 (b5.extBut _ _ c2 (b4.extBut _ _ c4 (b3.extBut _ _ c2 (b2.extBut _ _ c3 (b1.extBut _ _ c1 e)))))
theorem ash(D1:Draws prog w A i1 p n1 P1 S1)(D2:Draws prog w A i2 q n2 P2 S2)(ap:Ap z TI TO i1 i2 p q)(hz:IsZip s.heap z TI TO .none)(hi:IsPair s.heap TI (.ref i1) (.ref i2))(ho:IsPair s.heap TO a b)
  (s1:S1 k s.heap) (s2:S2 k s.heap) (kk:k=n1\/(k<n1/\k=n2))
  (hE:∀ h' tk e,(∀ c o,c≠z->c≠TO->c≠i1->c≠i2->s.heap.get? c=some o->h'.get? c=some o)->(∃ o,h'.get? e=some o/\o.cls = .type "StopIteration")->E (.ref e) { s with heap:=h',toks:=tk }) :
  wpAny (model prog w) A (Builtin.«zip.__next__» ⟨[.ref z],[]⟩) Q E s:=by
 have ni1:i1≠z:=λe=>ap.z1 (e ▸ ap.m1);have ni2:i2≠z:=λe=>ap.z2 (e ▸ ap.m2);have no1:TO≠i1:=λe=>ap.o1 (e ▸ ap.m1);have stop:∀ {h:Heap} {e:Addr},(∃ o,h.get? e=some o/\o.cls = .type "StopIteration")->IsZip h z TI TO .ellipsis->e≠z:=λ{h e} ⟨o,eo,ec⟩ zz y=>by
  subst y;rw [zz] at eo;cases eo;simp at ec
 refine ajc hz hi ho ap.oz λh1 z1 b1=>?_
 rcases kk with rfl | ⟨k1,rfl⟩
 ·refine D1.done _ _ _ (far (D:=D1) b1 ap.z1 s1) λh2 e x2 st=>?_;have z2:IsZip h2 z TI TO .ellipsis:=x2 _ _ ni1.symm z1;have ne:=stop st z2;obtain ⟨oe,f1,f2⟩:=st;refine dQ z2 (cX _) λh3 _ b3=>?_;exact hE h3 _ e (λc o c1 _ c3 _ y=>b3.extBut _ _ c1 (x2 _ _ c3 (b1.extBut _ _ c1 y))) ⟨oe,b3.extBut _ _ ne f1,f2⟩
 ·refine D1.item k _ _ _ k1 (far (D:=D1) b1 ap.z1 s1) λx h2 t2 px st2 b2=>?_;refine ⟨b2.extBut _ _ no1 (b1.extBut _ _ ap.oz ho),λh3 o3 b3=>?_⟩;refine D2.done _ _ _ (far (D:=D2) b3 ap.o2 (far (D:=D2) b2 ap.x1 (far (D:=D2) b1 ap.z2 s2))) λh4 e x4 st=>?_;have z4:IsZip h4 z TI TO .ellipsis:=x4 _ _ ni2.symm (b3.extBut _ _ ap.oz.symm (b2.extBut _ _ ni1.symm z1));have ne:=stop st z4;obtain ⟨oe,f1,f2⟩:=st;refine dQ z4 (cX _) λh5 _ b5=>?_;exact hE h5 _ e (λc o c1 c2 c3 c4 y=>b5.extBut _ _ c1 (x4 _ _ c4 (b3.extBut _ _ c2 (b2.extBut _ _ c3 (b1.extBut _ _ c1 y))))) ⟨oe,b5.extBut _ _ ne f1,f2⟩
theorem next_item{Q:Option Value->Shared->Prop}(D1:Draws prog w A.in1 i1 p n1 P1 S1)(D2:Draws prog w A.in1 i2 q n2 P2 S2)(ap:Ap z TI TO i1 i2 p q)(hz:IsZip s.heap z TI TO .none)(hi:IsPair s.heap TI (.ref i1) (.ref i2))(ho:IsPair s.heap TO a b)
  (s1:S1 k s.heap) (s2:S2 k s.heap) (k1:k<n1) (k2:k<n2)
  (hQ:∀ x y h' tk,P1 k x->P2 k y->IsZip h' z TI TO (rawInt s.heap.objs.size)->IsPair h' TO x y->S1 (k+1) h'->S2 (k+1) h'->IsPair h' s.heap.objs.size x y->h'.objs.size=s.heap.objs.size+1->
   (∀ c o,c≠z->c≠TO->c≠i1->c≠i2->s.heap.get? c=some o->h'.get? c=some o)->Q (some (.ref s.heap.objs.size)) { s with heap:=h',toks:=tk }):wpAny (model prog w) A (pyNext (.ref z)) Q E s:=by
 have ty:s.TypeIs (.ref z) "zip":=⟨_,hz,rfl⟩;rw [pyNext]
 apply ag;apply gT
 apply cc (name:=Str.ofString "__next__") ty fU
 apply bU fU ty F.entry_zip_next _ (F.args_zip_next_1 _)
 exact an5 D1 D2 ap hz hi ho s1 s2 k1 k2 λx y h' tk c1 c2 c3 c4 c5 c6 c7 c8 c9=>aB (hQ x y h' tk c1 c2 c3 c4 c5 c6 c7 c8 c9)
theorem next_end(D1:Draws prog w A.in1 i1 p n1 P1 S1)(D2:Draws prog w A.in1 i2 q n2 P2 S2)(ap:Ap z TI TO i1 i2 p q)(hz:IsZip s.heap z TI TO .none)(hi:IsPair s.heap TI (.ref i1) (.ref i2))(ho:IsPair s.heap TO a b)
  (s1:S1 k s.heap) (s2:S2 k s.heap) (kk:k=n1\/(k<n1/\k=n2))
  (hQ:∀ h' tk,(∀ c o,c≠z->c≠TO->c≠i1->c≠i2->s.heap.get? c=some o->h'.get? c=some o)->Q none { s with heap:=h',toks:=tk }):wpAny (model prog w) A (pyNext (.ref z)) Q E s:=by
 have ty:s.TypeIs (.ref z) "zip":=⟨_,hz,rfl⟩;rw [pyNext]
 apply ag;apply gT
 apply cc (name:=Str.ofString "__next__") ty fU
 apply bU fU ty F.entry_zip_next _ (F.args_zip_next_1 _)
 refine ash D1 D2 ap hz hi ho s1 s2 kk λh' tk e kp ⟨o,f1,f2⟩=>?_;refine ag (wpAny_isInstance (b:=true) (T := "StopIteration") ⟨o,f1,f2⟩ isSubtype_stop (aB (hQ h' tk kp)))
end
end ZP
namespace ZP
open PySem PySem.Spec PySem.Builtin PySem.Builtin.SmallTypes L2
inductive Srk where
 | tup (a:Addr) | lst (a:Addr) | str (x:Str)
def Srk.v:Srk->V
 | .tup a=>.ref a
 | .lst a=>.ref a
 | .str x=>.str x
def its(H:Hp):Srk->Option (List V)
 | .tup a=>match H a with | some (.tup vs)=>some vs | _=>none
 | .lst a=>match H a with | some (.lst vs)=>some vs | some (.frz _ (.lst vs))=>some vs | _=>none
 | .str x=>some (a2t x)
def own(it:Addr)(t:Tok):Srk->Nat->Heap->Prop
 | .tup a,i,h=>h.IsTupleIter it a i
 | .lst a,i,h=>h.IsListIter it a i
 | .str x,i,h=>h.IsStrIter it (strIterType x) x t i
def iob(t:Tok):Srk->Obj
 | .tup a=>{ cls:=.type "tuple_iterator",data:=.fields #[.ref a, .int 0 0] }
 | .lst a=>{ cls:=.type "list_iterator",data:=.fields #[.ref a, .int 0 0] }
 | .str x=>{ cls:=.type (strIterType x),data:=.fields #[.str x t, .int 0 0] }
def val(t:Tok):Srk->Value
 | .tup a=>.ref a
 | .lst a=>.ref a
 | .str x=>.str x t
def cont(h:Heap):Srk->List Value->Prop
 | .tup a,us=>h.IsTuple a us.toArray
 | .lst a,us=>h.IsList a us.toArray
 | .str x,us=>True
theorem b0x{h:Heap}(e:h.get? it=some (iob t k)):own it t k 0 h:=by
 cases k with
 | tup a=>exact ⟨_,e,rfl,rfl⟩
 | lst a=>exact ⟨_,e,rfl,rfl⟩
 | str x=>exact ⟨_,e,rfl,rfl⟩
theorem a6o(o:own it t k i h):∃ ob,h.get? it=some ob/\∀ v,ob.data≠.cell v:=by
 cases k with
 | tup a=>obtain ⟨ob,e,_,d⟩:=o;exact ⟨ob,e,λv z=>by rw [d] at z;cases z⟩
 | lst a=>obtain ⟨ob,e,_,d⟩:=o;exact ⟨ob,e,λv z=>by rw [d] at z;cases z⟩
 | str x=>obtain ⟨ob,e,_,d⟩:=o;exact ⟨ob,e,λv z=>by rw [d] at z;cases z⟩
theorem a4e{h':Heap}(o:own it t k i h)(kk:∀ ob,h.get? it=some ob->h'.get? it=some ob):own it t k i h':=by
 cases k with
 | tup a=>obtain ⟨ob,e,r⟩:=o;exact ⟨ob,kk _ e,r⟩
 | lst a=>obtain ⟨ob,e,r⟩:=o;exact ⟨ob,kk _ e,r⟩
 | str x=>obtain ⟨ob,e,r⟩:=o;exact ⟨ob,kk _ e,r⟩
section
variable{P:Program}{w:World}{H:Hp}{s:Shared}
theorem a89(I:Inv X pins σ H s)(e:its H k=some xs):∃ us,cont s.heap k us/\((∀ x,k≠.str x)->Vals xs us):=by
 cases k with
 | tup a =>
  cases q:H a with
  | none=>simp [its,q] at e
  | some o =>
   cases o with
   | tup vs =>
    simp [its,q] at e;subst e
    obtain ⟨us,r,t,_⟩:=I.tuple (SqT.of q);exact ⟨us,t,λ_=>r⟩
   | _=>simp [its,q] at e
 | lst a =>
  cases q:H a with
  | none=>simp [its,q] at e
  | some o =>
   cases o with
   | lst vs =>
    simp [its,q] at e;subst e
    obtain ⟨us,r,t,_⟩:=I.list (SqL.of q);exact ⟨us,t.isList,λ_=>r⟩
   | frz ob u =>
    cases u with
    | lst vs =>
     simp [its,q] at e;subst e
     obtain ⟨us,r,t,_⟩:=I.list (.inl (.inr ⟨_,q⟩));exact ⟨us,t.isList,λ_=>r⟩
    | _=>simp [its,q] at e
   | _=>simp [its,q] at e
 | str x=>exact ⟨[],True.intro,λn=>absurd rfl (n x)⟩
theorem a6p(I:Inv X pins σ H s)(e:its H k=some xs)(hn:H it=none) :
  ∃ (cs:List Addr) (P1:Nat->Value->Prop) (S1:Nat->Heap->Prop),(∀ A:Around,A.handled=none->Draws X.prog X.w A it (it::cs) xs.length P1 S1)/\(∀ i,own it t k i s.heap->S1 i s.heap)/\(∀ i h,S1 i h->own it t k i h)/\(∀ c∈cs,H c≠none) /\
   ∀ i v,P1 i v->∃ x,xs[i]? = some x/\RelV x v:=by
 cases k with
 | tup a =>
  obtain ⟨us,c,r⟩:=a89 I e;have r:=r (by intro x z;cases z)
  have ha:H a≠none:=λz=>by simp [its,z] at e
  have l:us.toArray.size=xs.length:=by rw [aI,r.length]
  refine ⟨[a],λi v=>us.toArray[i]? = some v,λi h=>h.IsTupleIter it a i/\h.IsTuple a us.toArray,λA hA=>?_,λi o=>⟨o,c⟩,λi h z=>z.1,λc hc=>by rw [ai.mp hc];exact ha,λi v z=>?_⟩
  ·have:=ajb (prog:=X.prog) (w:=X.w) hA it a (λy=>ha (y ▸ hn)) us.toArray
   rw [l] at this;exact this
  ·have z':us[i]? = some v:=by simpa using z
   have hi:i<xs.length:=by rw [r.length];exact (ah.mp z').1
   obtain ⟨u,e1,e2⟩:=r.get (af hi);rw [z'] at e1;cases e1
   exact ⟨_,af hi,e2⟩
 | lst a =>
  obtain ⟨us,c,r⟩:=a89 I e;have r:=r (by intro x z;cases z)
  have ha:H a≠none:=λz=>by simp [its,z] at e
  have l:us.toArray.size=xs.length:=by rw [aI,r.length]
  refine ⟨[a],λi v=>us.toArray[i]? = some v,λi h=>h.IsListIter it a i/\h.IsList a us.toArray,λA hA=>?_,λi o=>⟨o,c⟩,λi h z=>z.1,λc hc=>by rw [ai.mp hc];exact ha,λi v z=>?_⟩
  ·have:=Draws.list (prog:=X.prog) (w:=X.w) hA it a (λy=>ha (y ▸ hn)) us.toArray
   rw [l] at this;exact this
  ·have z':us[i]? = some v:=by simpa using z
   have hi:i<xs.length:=by rw [r.length];exact (ah.mp z').1
   obtain ⟨u,e1,e2⟩:=r.get (af hi);rw [z'] at e1;cases e1
   exact ⟨_,af hi,e2⟩
 | str x =>
  cases e
  have l:(a2t x).length=x.cps.size:=by simp [a2t]
  refine ⟨[],λi v=>∃ c u,x.cps[i]? = some c/\v = .str ⟨#[c]⟩ u,λi h=>h.IsStrIter it (strIterType x) x t i,λA hA=>?_,λi o=>o,λi h z=>z,λc hc=>(by cases hc),λi v z=>?_⟩
  ·rw [l]
   cases ha:x.cps.all (· < 128)
   ·have:=Draws.strWide (prog:=X.prog) (w:=X.w) hA it x t
    simpa [strIterType,ha] using this
   ·have:=Draws.strAscii (prog:=X.prog) (w:=X.w) hA it x t
    simpa [strIterType,ha] using this
  ·obtain ⟨c,u,e1,rfl⟩:=z;exact ⟨.str ⟨#[c]⟩,by simp [a2t,e1],⟨_,rfl⟩⟩
end
def ItZ(k1 k2:Srk):It where
 go:=λi H=>∃ xs ys x y,its H k1=some xs/\its H k2=some ys/\xs[i]? = some x/\ys[i]? = some y
 yld:=λi H v H'=>∃ xs ys x y p,its H k1=some xs/\its H k2=some ys/\xs[i]? = some x/\ys[i]? = some y/\H p=none/\v = .ref p/\H'=upd H p (.tup [x,y])
 stop:=λi H=>∃ xs ys,its H k1=some xs/\its H k2=some ys/\(i=xs.length\/(i<xs.length/\i=ys.length))
def tnZ(z TI TO i1 i2:Addr)(t1 t2:Tok)(k1 k2:Srk)(i:Nat)(h:Heap):Prop :=
 IsZip h z TI TO .none/\IsPair h TI (.ref i1) (.ref i2)/\(∃ a b,IsPair h TO a b)/\own i1 t1 k1 i h/\own i2 t2 k2 i h
structure Far (z TI TO i1 i2:Addr):Prop where
 a:TI≠z
 b:TO≠z
 c:i1≠z
 d:i2≠z
 e:TI≠TO
 f:TI≠i1
 g:TI≠i2
 h:TO≠i1
 i:TO≠i2
 j:i1≠i2
theorem aao{X:Cx}{pins:List (Addr × Obj)}{σ:St}{H:Hp}{s:Shared}{h':Heap}{t':Nat}{ch:List Addr}(I:Inv X pins σ H s)(hf:∀ b∈ch,FpOk X pins H b)(k:∀ b o,b ∉ ch->s.heap.get? b=some o->h'.get? b=some o) :
  Inv X pins σ H { s with heap:=h',toks:=t' }:=by
 have nit:∀ b u,H b=some u->b ∉ ch:=λb u e z=>by rw [(hf b z).1] at e;cases e
 refine I.step (g':=s.gens) (d':=s.drawn) (ch:=ch) (λb hb=>?_) (λb o _ _ hc e _=>k b o hc e) (λb o _ _ hc e _=>⟨o.slots,k b o hc e⟩) (λ_ _ _ _ n=>n) (λb o hc e=>⟨o,k b o hc e⟩) (λ_ _ e=>e) (λ_ _ _ e=>e)
  (λb ps e=>⟨#[],by rw [e];simp⟩) (λm hm=>?_) (λb u e=>?_) I.bare
 ·obtain ⟨_,f1,_,f3,f4,f5⟩:=hf b hb;exact ⟨f3,f1,f4,f5⟩
 ·obtain ⟨o,es,ep,ho,r⟩:=hm;exact ⟨o,es,ep,k _ o (λz=>(hf _ z).2.1 rfl) ho,r⟩
 ·refine (I.hok b u e).stay (λc v hc q=>k c v ?_ q) (λ_ q=>q) λ_ _ q=>q
  rcases hc with z | z
  ·rw [z];exact nit b u e
  ·exact nit c _ z
theorem an6{P:Program}{w:World}{K:PySem.W.Frag}{elts:List Expr}{x1:Nat}{pos:Pos}{z TI TO i1 i2:Addr}{t1 t2:Tok}{k1 k2:Srk}(f:Far z TI TO i1 i2):Turn P w K (.Tuple elts x1 pos) (ItZ k1 k2) [z,TI,TO,i1,i2] z (tnZ z TI TO i1 i2 t1 t2 k1 k2) where
 mem:=by simp
 obj:=λi h st b hb=>by
  obtain ⟨h1,h2,⟨a,b',h3⟩,h4,h5⟩:=st;simp only [aD,aN,bT] at hb
  rcases hb with rfl | rfl | rfl | rfl | rfl
  ·exact ⟨_,h1,λv z=>(by cases z)⟩
  ·exact ⟨_,h2,λv z=>(by cases z)⟩
  ·exact ⟨_,h3,λv z=>(by cases z)⟩
  ·exact a6o h4
  ·exact a6o h5
 keep:=λi h h' st k=>by
  obtain ⟨h1,h2,⟨a,b',h3⟩,h4,h5⟩:=st;exact ⟨k z (by simp) _ h1,k TI (by simp) _ h2,⟨a,b',k TO (by simp) _ h3⟩,a4e h4 λob e=>k i1 (by simp) ob e,a4e h5 λob e=>k i2 (by simp) ob e⟩
 item:=by
  intro X hP hw hK hc i pins s σ H E I hf st hg
  subst hP hw hK;obtain ⟨xs,ys,x,y,e1,e2,g1,g2⟩:=hg;obtain ⟨h1,h2,⟨a,b,h3⟩,h4,h5⟩:=st;have n:∀ c∈[z,TI,TO,i1,i2],H c=none:=λc hc=>(hf c hc).1;obtain ⟨cs,P1,S1,D1,a1,b1,c1,d1⟩:=a6p I (t:=t1) e1 (n i1 (by simp))
  obtain ⟨ds,P2,S2,D2,a2,b2,c2,d2⟩:=a6p I (t:=t2) e2 (n i2 (by simp))
  have hd:=I.ok.hd hc;have out1:∀ c,H c=none->c ∉ cs:=λc e z=>c1 c z e;have out2:∀ c,H c=none->c ∉ ds:=λc e z=>c2 c z e;have ap:Ap z TI TO i1 i2 (i1::cs) (i2::ds):=⟨by simp,by simp,by simp [f.c.symm,out1 z (n z (by simp))],by simp [f.d.symm,out2 z (n z (by simp))],by simp [f.h,out1 TO (n TO (by simp))],by simp [f.i,out2 TO (n TO (by simp))],f.b,by simp [f.j,out2 i1 (n i1 (by simp))],by simp [f.j.symm,out1 i2 (n i2 (by simp))]⟩
  refine next_item (D1 X.A.in1 hd) (D2 X.A.in1 hd) ap h1 h2 h3 (a1 i h4) (a2 i h5) (ah.mp g1).1 (ah.mp g2).1 λu v h' tk pu pv z' to' s1' s2' pr sz kp=>?_;obtain ⟨x',q1,r1⟩:=d1 i u pu;obtain ⟨y',q2,r2⟩:=d2 i v pv;rw [g1] at q1;cases q1
  rw [g2] at q2;cases q2
  refine ⟨_,rfl,wpAny_letOwnedTupleGo_zip z' λh2' z2' sb=>?_⟩;have hp:H s.heap.objs.size=none:=I.hok.fresh (ax _);have lt:∀ c∈[z,TI,TO,i1,i2],c<s.heap.objs.size:=λc hc=>by
   simp only [aD,aN,bT] at hc
   rcases hc with rfl | rfl | rfl | rfl | rfl
   ·exact aH h1
   ·exact aH h2
   ·exact aH h3
   ·obtain ⟨_,e,_⟩:=a6o h4;exact aH e
   ·obtain ⟨_,e,_⟩:=a6o h5;exact aH e
  have all:∀ c o,c ∉ [z,TI,TO,i1,i2]->s.heap.get? c=some o->h2'.get? c=some o:=λc o nc e=>by
   simp only [aD,aN,bT,not_or] at nc;exact (sb.2 c nc.1).trans (kp c o nc.1 nc.2.2.1 nc.2.2.2.1 nc.2.2.2.2 e)
  have nT:∀ c∈[z,TI,TO,i1,i2],c≠s.heap.objs.size:=λc hc=>bp (lt c hc);have I0:Inv X pins σ (upd H s.heap.objs.size (.tup [x,y])) { s with heap:=s.heap.push { cls:=.type "tuple",data:=.seq #[u,v] } } :=
   I.laid (t':=s.toks) (o:=.tup [x,y]) (λb o e=>am _ e) (ax _) ⟨by show 2<=sizeLine;decide,[u,v], .cons r1 (.cons r2 .nil),⟨_,aJ _ rfl,rfl,_,rfl⟩⟩
  have I1:Inv X pins σ (upd H s.heap.objs.size (.tup [x,y])) { s with heap:=h2',toks:=tk }:=by
   refine aao (s:={ s with heap:=s.heap.push { cls:=.type "tuple",data:=.seq #[u,v] } }) (ch:=[z,TI,TO,i1,i2]) I0 (λb hb=>?_) λc o nc e=>?_
   ·obtain ⟨f0,f1⟩:=hf b hb;exact ⟨by rw [jj (nT b hb)];exact f0,f1⟩
   ·rcases Heap.get?_push_cases e with ⟨rfl,rfl⟩ | e
    ·exact (sb.2 _ (nT z (by simp)).symm).trans pr
    ·exact all c o nc e
  refine ⟨.ref s.heap.objs.size,_,I1,rfl,⟨xs,ys,x,y,_,e1,e2,g1,g2,hp,rfl,rfl⟩,⟨z2',?_,⟨u,v,(sb.2 _ f.b).trans to'⟩,a4e (b1 _ _ s1') λob e=>(sb.2 _ f.c).trans e,a4e (b2 _ _ s2') λob e=>(sb.2 _ f.d).trans e⟩,λb hb=>?_⟩
  ·exact (sb.2 _ f.a).trans (kp TI _ f.a f.e f.f f.g h2)
  ·rw [jj (nT b hb)];exact n b hb
 done:=by
  intro X hP hw hK hc i pins s σ H E I hf st hg
  subst hP hw hK;obtain ⟨xs,ys,e1,e2,g⟩:=hg;obtain ⟨h1,h2,⟨a,b,h3⟩,h4,h5⟩:=st;have n:∀ c∈[z,TI,TO,i1,i2],H c=none:=λc hc=>(hf c hc).1;obtain ⟨cs,P1,S1,D1,a1,b1,c1,d1⟩:=a6p I (t:=t1) e1 (n i1 (by simp))
  obtain ⟨ds,P2,S2,D2,a2,b2,c2,d2⟩:=a6p I (t:=t2) e2 (n i2 (by simp))
  have hd:=I.ok.hd hc;have out1:∀ c,H c=none->c ∉ cs:=λc e z=>c1 c z e;have out2:∀ c,H c=none->c ∉ ds:=λc e z=>c2 c z e;have ap:Ap z TI TO i1 i2 (i1::cs) (i2::ds):=⟨by simp,by simp,by simp [f.c.symm,out1 z (n z (by simp))],by simp [f.d.symm,out2 z (n z (by simp))],by simp [f.h,out1 TO (n TO (by simp))],by simp [f.i,out2 TO (n TO (by simp))],f.b,by simp [f.j,out2 i1 (n i1 (by simp))],by simp [f.j.symm,out1 i2 (n i2 (by simp))]⟩
  refine next_end (D1 X.A.in1 hd) (D2 X.A.in1 hd) ap h1 h2 h3 (a1 i h4) (a2 i h5) g λh' tk kp=>⟨rfl,aao I hf λc o nc e=>?_⟩;simp only [aD,aN,bT,not_or] at nc;exact kp c o nc.1 nc.2.2.1 nc.2.2.2.1 nc.2.2.2.2 e
 self:=λ_ _ _ _ _ st h=>wpAny_pyIter_zip st.1 h
theorem ajd(c:cont h k us)(o:Obj):cont (h.push o) k us:=by
 cases k with
 | tup a=>obtain ⟨ob,e,r⟩:=c;exact ⟨ob,am _ e,r⟩
 | lst a=>obtain ⟨ob,e,r⟩:=c;exact ⟨ob,am _ e,r⟩
 | str x=>trivial
theorem a5s{s:Shared}(c:cont s.heap k us)(q:Q (.ref s.heap.objs.size) { s with heap:=s.heap.push (iob t k) }) :
  wpAny (model prog w) A (pyIter (val t k)) Q E s:=by
 cases k with
 | tup a=>exact wpAny_pyIter_tuple c q
 | lst a=>exact eC c q
 | str x=>exact wpAny_pyIter_strU q
def mk2(h:Heap)(t1 t2:Tok)(k1 k2:Srk):Heap:=(h.push (iob t1 k1)).push (iob t2 k2)
def mk5(h:Heap)(t1 t2:Tok)(k1 k2:Srk):Heap :=
 (((mk2 h t1 t2 k1 k2).push { cls:=.type "tuple",data:=.seq #[.ref h.objs.size, .ref (h.objs.size+1)] }).push { cls:=.type "tuple",data:=.seq #[.none, .none] }).push
  { cls:=.type "zip",data:=.fields #[.none, .bool false, .bool false, .ref (h.objs.size+2), .ref (h.objs.size+3)] }
theorem an7(t1 t2:Tok)(k1 k2:Srk)(us1 us2:List Value):Meets (Builtin.«zip.__new__» ⟨[.type "zip",val t1 k1,val t2 k2],[]⟩)
  (λ_ R s=>cont s.heap k1 us1/\cont s.heap k2 us2/\R (.ok (.ret (.ref (s.heap.objs.size+4)))) { s with heap:=mk5 s.heap t1 t2 k1 k2 }) :=
 .of_wp λprog w A R s h=>by
  obtain ⟨hp,g,d,tk,os⟩:=s;obtain ⟨c1,c2,h⟩:=h;have sub:=sub_zip;have c1':cont (Shared.heap ⟨hp,g,d,tk,os⟩) k1 us1:=c1;have c2':cont (Shared.heap ⟨hp.push (iob t1 k1),g,d,tk,os⟩) k2 us2:=ajd c2 _
  wp_walk using a5s (t:=t1) c1',a5s (t:=t2) c2'
  refine ⟨_,rfl,?_⟩;simpa [mk5,mk2,cC,ownedTupleFields,Nat.add_assoc] using h
theorem b0y(n:Nat):Far (n+4) (n+2) (n+3) n (n+1):=by
 refine ⟨?_,?_,?_,?_,?_,?_,?_,?_,?_,?_⟩<;>(intro z;have z:(_:Nat)=_:=z;omega)
theorem b3v(n b:Nat)(h:b∈[n+4,n+2,n+3,n,n+1]):n<=b:=by
 simp only [aD,aN,bT] at h;omega
section
variable{X:Cx}{elts:List Expr}{x1:Nat}{tpos:Pos}
def b3w(ta:TA):TI:=λσ H R=>ta σ H λvs H1=>∃ k1 k2 xs ys,vs=[Srk.v k1,Srk.v k2]/\its H1 k1=some xs/\its H1 k2=some ys/\R (ItZ k1 k2) H1
theorem aje{k:Srk}(r:RelV k.v u):∃ t,u=val t k:=by
 cases k with
 | tup a=>cases r;exact ⟨0,rfl⟩
 | lst a=>cases r;exact ⟨0,rfl⟩
 | str x=>obtain ⟨t,rfl⟩:=r;exact ⟨t,rfl⟩
theorem ax4(hg:Gl X "zip")(hm:X.mg "zip" = none)(hb:bootBuiltins "zip" = some (.type "zip"))(ha:PA X [e1,e2] ta)
  (h1:starEach [e1,e2] X.env=[(false,eval e1 X.env),(false,eval e2 X.env)]:=by rfl) (h2:starEach [e2] X.env=[(false,eval e2 X.env)]:=by rfl):PI X (.Tuple elts x1 tpos) (.Call (.Name "zip" p) [e1,e2] [] pos) (b3w ta):=by
 intro pins s σ H R I h
 refine dB (a5h I hg hm hb ?_ (by decide) (by decide))
 refine bV (thn (ha pos pins s σ H _ I h) λus s1 ⟨vs,H1,I1,r1,q1⟩=>?_) (by rw [h1,h2]) (by rw [h2];rfl)
 obtain ⟨k1,k2,xs,ys,rfl,e1,e2,q⟩:=q1;obtain ⟨v1,v2,rfl,rv1,rv2⟩:=vals2 r1;obtain ⟨t1,rfl⟩:=aje rv1;obtain ⟨t2,rfl⟩:=aje rv2;obtain ⟨us1,c1,_⟩:=a89 I1 e1;obtain ⟨us2,c2,_⟩:=a89 I1 e2;refine callType_new F.called_zip (by decide) (F.typeCall_zip_2 _ _) (F.newCall_zip_2 _ _) (λobj=>F.args_object_init_3 obj _ _) F.entry_zip_new (an7 t1 t2 k1 k2 us1 us2) ⟨c1,c2,?_⟩
 have z2:(mk2 s1.heap t1 t2 k1 k2).objs.size=s1.heap.objs.size+2:=by simp [mk2,cC]
 have at0:(mk5 s1.heap t1 t2 k1 k2).get? s1.heap.objs.size=some (iob t1 k1):=by
  unfold mk5 mk2;exact am _ (am _ (am _ (am _ (aJ _ (by cases k1<;>rfl)))))
 have at1:(mk5 s1.heap t1 t2 k1 k2).get? (s1.heap.objs.size+1)=some (iob t2 k2):=by
  unfold mk5 mk2;have:=aJ (o:=iob t2 k2) (s1.heap.push (iob t1 k1)) (by cases k2<;>rfl)
  rw [cC] at this;exact am _ (am _ (am _ this))
 have at2:IsPair (mk5 s1.heap t1 t2 k1 k2) (s1.heap.objs.size+2) (.ref s1.heap.objs.size) (.ref (s1.heap.objs.size+1)):=by
  unfold mk5;rw [<-z2];exact am _ (am _ (aJ _ rfl))
 have at3:IsPair (mk5 s1.heap t1 t2 k1 k2) (s1.heap.objs.size+3) .none .none:=by
  unfold mk5;have:=aJ (o:={ cls:=.type "tuple",data:=.seq #[.none, .none] }) ((mk2 s1.heap t1 t2 k1 k2).push { cls:=.type "tuple",data:=.seq #[.ref s1.heap.objs.size, .ref (s1.heap.objs.size+1)] }) rfl;rw [cC,z2] at this;exact am _ this
 have at4:IsZip (mk5 s1.heap t1 t2 k1 k2) (s1.heap.objs.size+4) (s1.heap.objs.size+2) (s1.heap.objs.size+3) .none:=by
  unfold mk5;have:=aJ (o:={ cls:=.type "zip",data:=.fields #[.none, .bool false, .bool false, .ref (s1.heap.objs.size+2), .ref (s1.heap.objs.size+3)] }) (((mk2 s1.heap t1 t2 k1 k2).push { cls:=.type "tuple",data:=.seq #[.ref s1.heap.objs.size, .ref (s1.heap.objs.size+1)] }).push { cls:=.type "tuple",data:=.seq #[.none, .none] }) rfl;rw [cC,cC,z2] at this;exact this
 have keepA:∀ b o,s1.heap.get? b=some o->(mk5 s1.heap t1 t2 k1 k2).get? b=some o:=λb o e=>by
  unfold mk5 mk2;exact am _ (am _ (am _ (am _ (am _ e))))
 have I2:Inv X pins σ H1 { s1 with heap:=mk5 s1.heap t1 t2 k1 k2 }:=I1.kept (t':=s1.toks) keepA
 refine ⟨⟨_,at4,rfl⟩,?_⟩;refine wpAny_pyIter_zip (s:={ s1 with heap:=mk5 s1.heap t1 t2 k1 k2 }) at4 ?_
 refine ⟨s1.heap.objs.size+4,[s1.heap.objs.size+4,s1.heap.objs.size+2,s1.heap.objs.size+3,s1.heap.objs.size,s1.heap.objs.size+1],tnZ _ _ _ _ _ t1 t2 k1 k2,ItZ k1 k2,H1,rfl,I2,an6 (b0y s1.heap.objs.size),
  ⟨at4,at2,⟨_,_,at3⟩,b0x at0,b0x at1⟩,λb hb=>?_,q⟩
 have:s1.heap.objs.size<=b:=b3v _ b hb
 exact I1.fpOk this (I1.hok.fresh this)
end
end ZP
namespace MI
open PySem PySem.Spec L2 ZP
def srcOf(d:D)(h:Hd):Option (List D × (Hd->Prop)):=match d with
 | .tup xs=>some (xs,λ_=>True)
 | .rol xs=>some (xs,λ_=>True)
 | .str x=>some (a0i x,λ_=>True)
 | .ref i=>(match h[i]? with | some (.lst xs)=>some (xs,λh=>h[i]? = some (.lst xs)) | _=>none)
 | _=>none
def asi(x y:D)(h:Hd):R Itm:=match srcOf x h,srcOf y h with
 | some (xs,c1),some (ys,c2)=>.ok ⟨(xs.zip ys).map λp=>.tup [p.1,p.2],λh=>c1 h/\c2 h⟩ h
 | _,_=>.no
def ae5(f g:SE):SI:=λτ h=>(f τ h).bind λx h1=>(g τ h1).bind λy h2=>asi x y h2
theorem ajf(r:Rep K ι H v d)(hr:HRep K ι H h)(e:srcOf d h=some (xs,ck)) :
  ∃ k:Srk,v=k.v/\ck h/\∀ ι' H' h',Gr ι H ι' H'->HRep K ι' H' h'->ck h'->∃ vs,its H' k=some vs/\Reps K ι' H' vs xs:=by
 cases r with
 | @tup a vs ys ha rs =>
  cases e
  exact ⟨.tup a,rfl,True.intro,λι' H' h' g _ _=>⟨vs,by simp [its,g.tup _ _ ha],rs.mono g⟩⟩
 | @rol a vs ys ha rs =>
  cases e
  refine ⟨.lst a,rfl,True.intro,λι' H' h' g _ _=>⟨vs,?_,rs.mono g⟩⟩;obtain ⟨o,q⟩:=ha.mono g;simp [its,q]
 | str x =>
  cases e
  exact ⟨.str x,rfl,True.intro,λι' H' h' g _ _=>⟨_,rfl,a9i x⟩⟩
 | @ref a i ha =>
  obtain ⟨ob,e1,e2⟩:=hr.at ha
  cases ob with
  | lst zs =>
   simp only [srcOf,e1] at e;cases e
   refine ⟨.lst a,rfl,e1,λι' H' h' g hr' c=>?_⟩;obtain ⟨us,q1,q2⟩:=hr'.obj i a _ (g.at ha) c;exact ⟨us,by simp [its,q1],q2⟩
  | dK _=>simp only [srcOf,e1] at e;cases e
  | dT _=>simp only [srcOf,e1] at e;cases e
 | _=>cases e
theorem ajg(hg:Gl X "zip")(hm:X.mg "zip" = none)(hb:bootBuiltins "zip" = some (.type "zip"))(ha:ME X E e1 f)(hb':ME X E e2 g)
  (h1:starEach [e1,e2] X.env=[(false,eval e1 X.env),(false,eval e2 X.env)]:=by rfl) (h2:starEach [e2] X.env=[(false,eval e2 X.env)]:=by rfl) :
  MI X E (.Tuple elts x1 tpos) (.Call (.Name "zip" p) [e1,e2] [] pos) (ae5 f g):=by
 intro pins s σ H Rr I ⟨ι,τ,h,S,Rh,o⟩
 refine ax4 hg hm hb (a7s ha (a7s hb' aev (by rw [h2];rfl)) (by rw [h1,h2])) h1 h2 pins s σ H Rr I ?_
 refine ⟨ι,τ,h,S,Rh,ig o λd h1 ι1 H1 v g1 r1 hr1 o1=>?_⟩;refine ⟨ι1,τ,h1,S.mono g1,hr1,ig o1 λd2 h2 ι2 H2 u g2 r2 hr2 o2=>?_⟩;unfold asi at o2
 split at o2
 ·rename_i xs c1 ys c2 q1 q2;obtain ⟨k1,rfl,k1c,k1f⟩:=ajf (r1.mono g2) hr2 q1;obtain ⟨k2,rfl,k2c,k2f⟩:=ajf r2 hr2 q2;obtain ⟨vs1,w1,w2⟩:=k1f ι2 H2 h2 (.refl _ _) hr2 k1c;obtain ⟨vs2,w3,w4⟩:=k2f ι2 H2 h2 (.refl _ _) hr2 k2c;refine ⟨k1,k2,vs1,vs2,rfl,w1,w3,o2 ι2 H2 _ (.refl _ _) ?_ hr2⟩
  intro ι3 H3 h3 g3 hr3 c
  obtain ⟨us1,a1,a2⟩:=k1f ι3 H3 h3 g3 hr3 c.1;obtain ⟨us2,a3,a4⟩:=k2f ι3 H3 h3 g3 hr3 c.2;refine ⟨λi d ed=>?_,us1,us2,a1,a3,?_⟩
  ·simp only [aE,aO] at ed;obtain ⟨⟨x,y⟩,ez,rfl⟩:=ed;obtain ⟨ex,ey⟩:=cR.mp ez;obtain ⟨v1,b1,b2⟩:=a2.get ex;obtain ⟨v2,b3,b4⟩:=a4.get ey;refine ⟨⟨us1,us2,v1,v2,a1,a3,b1,b3⟩,λx H' yl=>?_⟩;obtain ⟨xs',ys',x',y',p,c1,c2,c3,c4,c5,rfl,rfl⟩:=yl;rw [a1] at c1;cases c1
   rw [a3] at c2;cases c2
   rw [b1] at c3;cases c3
   rw [b3] at c4;cases c4
   exact ⟨a0w c5 _, .tup qd (.cons (b2.mono (a0w c5 _)) (.cons (b4.mono (a0w c5 _)) .nil)),hr3.aside c5 _⟩
  ·rw [aA,List.length_zip,a2.len,a4.len];omega
 ·exact o2.elim
theorem ajh:bootBuiltins "zip" = some (.type "zip"):=by first | exact PySem.boot_zip | exact PyProof.Rows.boot_zip | rfl
end MI
namespace MI
open PySem PySem.Spec L2
def FrzOf(L:List Addr)(H H2:Hp):Prop:=∀ a,(a ∉ L->H2 a=H a)/\(a∈L->∃ o u,H a=some u/\H2 a=some (.frz o u))
def agw(H:Hp)(L:List Addr):Prop:=∀ a∈L,(∃ xs,H a=some (.lst xs))\/(∃ kvs,H a=some (.dK kvs))\/∃ kvs,H a=some (.dT kvs)
def still:HO->Prop
 | .lst _=>False | .dK _=>False | .dT _=>False
 | _=>True
theorem FrzOf.still(f:FrzOf L H H2)(ab:agw H L)(e:H a=some u)(st:MI.still u):H2 a=some u:=by
 rw [(f a).1 λz=>?_]
 ·exact e
 ·rcases ab a z with ⟨_,q⟩ | ⟨_,q⟩ | ⟨_,q⟩<;>(rw [e] at q;cases q;exact st)
theorem Inv.frz{X:Cx}{pins:List (Addr × Obj)}{σ:St}{H:Hp}{s:Shared}{L:List Addr}(I:Inv X pins σ H s)(ab:agw H L):∃ H2,FrzOf L H H2/\Inv X pins σ H2 s:=by
 have obj:∀ a∈L,∀ u,H a=some u->∃ o,s.heap.get? a=some o:=λa ha u e=>by
  rcases ab a ha with ⟨_,q⟩ | ⟨_,q⟩ | ⟨_,q⟩
  ·obtain ⟨_,_,_,_,z⟩:=I.hok a _ q;exact ⟨_,z⟩
  ·obtain ⟨_,_,_,_,z⟩:=I.hok a _ q;obtain ⟨o,_,_,z,_⟩:=z;exact ⟨o,z⟩
  ·obtain ⟨_,_,_,_,o,_,_,z,_⟩:=I.hok a _ q;exact ⟨o,z⟩
 let H2:Hp:=λa=>if a∈L then (match s.heap.get? a,H a with | some o,some u=>some (.frz o u) | _,w=>w) else H a
 have f:FrzOf L H H2:=λa=>⟨λh=>by simp [H2,h],λh=>by
  obtain ⟨u,e⟩:∃ u,H a=some u:=by
   rcases ab a h with ⟨_,q⟩ | ⟨_,q⟩ | ⟨_,q⟩<;>exact ⟨_,q⟩
  obtain ⟨o,eo⟩:=obj a h u e;exact ⟨o,u,e,by simp [H2,h,e,eo]⟩⟩
 refine ⟨H2,f,?_⟩;have mv:∀ a u,ObjOk X.prog X.w H s.heap a u->ObjOk X.prog X.w H2 s.heap a u:=λa u x=>x.stay (λb v _ q=>q) (λc q=>f.still ab q True.intro) λc xs q=>f.still ab q True.intro;have ok:HOk X.prog X.w H2 s.heap:=λa u e=>by
  by_cases hl:a∈L
  ·obtain ⟨u0,e0⟩:∃ u,H a=some u:=by
    rcases ab a hl with ⟨_,q⟩ | ⟨_,q⟩ | ⟨_,q⟩<;>exact ⟨_,q⟩
   obtain ⟨o,eo⟩:=obj a hl u0 e0;have e':H2 a=some (.frz o u0):=by simp [H2,hl,e0,eo]
   rw [e'] at e;cases e
   exact ⟨eo,mv a u0 (I.hok a u0 e0)⟩
  ·rw [(f a).1 hl] at e;exact mv a u (I.hok a u e)
 have fn:∀ b,H b=none->H2 b=none:=λb n=>by
  rw [(f b).1 λz=>?_]
  ·exact n
  ·rcases ab b z with ⟨_,q⟩ | ⟨_,q⟩ | ⟨_,q⟩<;>(rw [n] at q;cases q)
 have un:Un X.fs [] H H2 s.heap s.heap:=⟨λb o q _ _ _=>q,λb o q _ _ _=>⟨o.slots,q⟩,λb o _ n _=>fn b n,λb o q _=>⟨o,q⟩,λb xs q=>f.still ab q True.intro,λb o u q=>f.still ab q True.intro,λb ps q=>⟨#[],by rw [f.still ab q True.intro];simp⟩⟩
 exact I.un (t':=s.toks) un ok
theorem aji(h:PE X e t):PE X e (λσ H Q=>t σ H λv H1=>∃ L,agw H1 L/\∀ H2,FrzOf L H1 H2->Q v H2):=λpins s σ H Q I q =>
 thn (h pins s σ H _ I q) λu s' ⟨v,H1,I1,r,L,ab,k⟩=>let ⟨H2,f,I2⟩:=Inv.frz I1 ab; ⟨v,H2,I2,r,k H2 f⟩
def a3c{α β:Type}(f:α->Option β):List α->Option (List β)
 | []=>some []
 | x::xs=>match f x,a3c f xs with | some y,some ys=>some (y::ys) | _,_=>none
open Classical in
noncomputable def a6g(n:Nat)(h:Hd):Nat->D->Option D
 | 0,_=>none
 | k+1,d=>if clo n d then some d else match d with
  | .tup xs=>(a3c (a6g n h k) xs).map .tup
  | .rol xs=>(a3c (a6g n h k) xs).map .rol
  | .scr xs=>(a3c (a6g n h k) xs).map .scr
  | .rod ks xs=>(a3c (a6g n h k) xs).map (.rod ks)
  | .rdT ks xs=>(a3c (a6g n h k) xs).map (.rdT ks)
  | .ref i=>match h[i]? with
   | some (.lst xs)=>(a3c (a6g n h k) xs).map .rol
   | some (.dK kvs)=>(a3c (a6g n h k) (kvs.map (·.2))).map (.rod (kvs.map (·.1)))
   | some (.dT kvs)=>(a3c (a6g n h k) (kvs.map (·.2))).map (.rdT (kvs.map (·.1)))
   | none=>none
  | _=>none
open Classical in
noncomputable def ax5(n:Nat)(h:Hd)(k:Nat)(o:O):Option O:=if a6n n o then some o else match o with
 | .lst xs=>(a3c (a6g n h k) xs).map .lst
 | .dK kvs=>(a3c (a6g n h k) (kvs.map (·.2))).map λys=>.dK ((kvs.map (·.1)).zip ys)
 | .dT kvs=>(a3c (a6g n h k) (kvs.map (·.2))).map λys=>.dT ((kvs.map (·.1)).zip ys)
abbrev FU:Nat:=20
noncomputable def agx(n:Nat):R D->R D
 | .ok d h1=>match a6g n h1 FU d,a3c (ax5 n h1 FU) (h1.take n) with | some d',some g=>.ok d' g | _,_=>.no
 | _=>.no
open Classical in
noncomputable def auw(n:Nat):R D->R D
 | .ok (.ref i) h1=>(match h1[i]? with
   | some o=>if n<=i/\a6n n o/\∀ u∈h1.take n,a6n n u then .ok (.ref n) (h1.take n++[o]) else .no
   | none=>.no)
 | _=>.no
section
variable{K:PySem.W.Frag}{ι ι':List Addr}{H H' H2:Hp}{h1:Hd}{n:Nat}{L:List Addr}
theorem afl(f:FrzOf L H' H2)(ab:agw H' L)(κ:List Addr):Gw κ H' κ H2:=⟨⟨[],by simp⟩,λa vs e=>f.still ab e True.intro,λa o u e=>f.still ab e True.intro⟩
theorem uc(ih:∀ {v d d'},Rep K ι H v d->f d=some d'->Rep K κ H2 v d'):∀ {vs:List V} {ds ds':List D},Reps K ι H vs ds->a3c f ds=some ds'->Reps K κ H2 vs ds'
 | _,_,_, .nil,e=>by cases e;exact .nil
 | _,x::xs,_, .cons r rs,e=>by
  unfold a3c at e
  split at e
  ·rename_i y ys h1 h2;cases e
   exact .cons (ih r h1) (uc ih rs h2)
  ·cases e
theorem aap(hr:HRep K ι' H' h1)(hL:∀ (i:Nat) a,ι'[i]? = some a->n<=i->a∈L)(f:FrzOf L H' H2)(ab:agw H' L):∀ (k:Nat) {v:V} {d d':D},Rep K ι' H' v d->a6g n h1 k d=some d'->Rep K (ι'.take n) H2 v d':=by
 intro k
 induction k with
 | zero=>intro v d d' r e;cases e
 | succ k ih =>
  intro v d d' r e
  unfold a6g at e
  split at e
  ·rename_i c;cases e
   exact (r.cut c).monoW (afl f ab _)
  ·rename_i c
   cases r with
   | tup h rs =>
    simp only [aO] at e;obtain ⟨ys,e1,rfl⟩:=e;exact .tup (f.still ab h True.intro) (uc (λr e=>ih r e) rs e1)
   | rol h rs =>
    simp only [aO] at e;obtain ⟨ys,e1,rfl⟩:=e;exact .rol (h.monoW (afl f ab ι')) (uc (λr e=>ih r e) rs e1)
   | scr h rs =>
    simp only [aO] at e;obtain ⟨ys,e1,rfl⟩:=e;exact .scr (h.monoW (afl f ab ι')) (uc (λr e=>ih r e) rs e1)
   | rod h ek rs =>
    simp only [aO] at e;obtain ⟨ys,e1,rfl⟩:=e;exact .rod (f.still ab h True.intro) ek (uc (λr e=>ih r e) rs e1)
   | rdT h ek rs =>
    simp only [aO] at e;obtain ⟨ys,e1,rfl⟩:=e;exact .rdT (f.still ab h True.intro) ek (uc (λr e=>ih r e) rs e1)
   | @ref a i ha =>
    have hi:n<=i:=by
     simp only [clo] at c;omega
    obtain ⟨o,u,e1,e2⟩:=(f a).2 (hL i a ha hi);obtain ⟨ob,h3,h4⟩:=hr.at ha;simp only [h3] at e
    cases ob with
    | lst xs =>
     simp only [aO] at e;obtain ⟨ys,e3,rfl⟩:=e;obtain ⟨vs,h5,h6⟩:=h4;rw [e1] at h5;cases h5
     exact .rol ⟨o,e2⟩ (uc (λr e=>ih r e) h6 e3)
    | dK kvs =>
     simp only [aO] at e;obtain ⟨ys,e3,rfl⟩:=e;obtain ⟨us,h5,h6,h7⟩:=h4;rw [e1] at h5;cases h5
     exact .rod e2 h6 (uc (λr e=>ih r e) h7 e3)
    | dT kvs =>
     simp only [aO] at e;obtain ⟨ys,e3,rfl⟩:=e;obtain ⟨us,h5,h6,h7⟩:=h4;rw [e1] at h5;cases h5
     exact .rdT e2 h6 (uc (λr e=>ih r e) h7 e3)
   | non=>simp only [clo,dI] at c
   | exc _ _ _=>simp only [clo,dI] at c
   | bl b=>simp only [clo,dI] at c
   | int b=>simp only [clo,dI] at c
   | str b=>simp only [clo,dI] at c
   | ty b=>simp only [clo,dI] at c
theorem aaq{κ:Type}{H:Hp}{us:List (κ × V)}{ks:List κ}{ys:List D}(e:us.map (·.1)=ks)(r:Reps K ι H (us.map (·.2)) ys):KRep K ι H us (ks.zip ys):=by
 have l:ks.length=ys.length:=by rw [<-e,aA,<-r.len,aA]
 refine ⟨?_,?_⟩
 ·rw [List.map_fst_zip (by omega)];exact e
 ·rw [List.map_snd_zip (by omega)];exact r
theorem asj(hr:HRep K ι' H' h1)(hL:∀ (i:Nat) a,ι'[i]? = some a->n<=i->a∈L)(f:FrzOf L H' H2)(ab:agw H' L){k:Nat}(na:a ∉ L)(r:ORep K ι' H' a o)(e:ax5 n h1 k o=some o'):ORep K (ι'.take n) H2 a o':=by
 have same:H2 a=H' a:=(f a).1 na;unfold ax5 at e
 split at e
 ·rename_i c;cases e
  exact (r.cut c).monoW (afl f ab _) same
 ·cases o with
  | lst xs =>
   simp only [aO] at e;obtain ⟨ys,e1,rfl⟩:=e;obtain ⟨vs,h3,h4⟩:=r;exact ⟨vs,by rw [same];exact h3,uc (λr e=>aap hr hL f ab k r e) h4 e1⟩
  | dK kvs =>
   simp only [aO] at e;obtain ⟨ys,e1,rfl⟩:=e;obtain ⟨us,h3,h4,h5⟩:=r;exact ⟨us,by rw [same];exact h3,aaq h4 (uc (λr e=>aap hr hL f ab k r e) h5 e1)⟩
  | dT kvs =>
   simp only [aO] at e;obtain ⟨ys,e1,rfl⟩:=e;obtain ⟨us,h3,h4,h5⟩:=r;exact ⟨us,by rw [same];exact h3,aaq h4 (uc (λr e=>aap hr hL f ab k r e) h5 e1)⟩
theorem a4f{α β:Type}{f:α->Option β}:∀ {xs:List α} {ys:List β},a3c f xs=some ys->xs.length=ys.length/\∀ (i:Nat) y,ys[i]? = some y->∃ x,xs[i]? = some x/\f x=some y
 | [],_,e=>by cases e;exact ⟨rfl,λi y e=>by simp at e⟩
 | x::xs,ys,e=>by
  unfold a3c at e
  split at e
  ·rename_i y ys h1 h2;cases e
   obtain ⟨l,g⟩:=a4f h2;refine ⟨by simp [l],λi z e=>?_⟩
   cases i with
   | zero=>simp at e;subst e;exact ⟨x,rfl,h1⟩
   | succ i=>simpa using g i z (by simpa using e)
  ·cases e
theorem ajj(hr:HRep K ι' H' h1)(M:List Addr)(hM:∀ a∈M,a∈ι'):agw H' M:=λa ha=>by
 obtain ⟨i,hi⟩:=bR (hM a ha);obtain ⟨o,_,q⟩:=hr.at hi
 cases o with
 | lst xs=>obtain ⟨vs,h,_⟩:=q;exact .inl ⟨_,h⟩
 | dK xs=>obtain ⟨vs,h,_⟩:=q;exact .inr (.inl ⟨_,h⟩)
 | dT xs=>obtain ⟨vs,h,_⟩:=q;exact .inr (.inr ⟨_,h⟩)
theorem a8a{α:Type}{l:List α}(nd:l.Nodup){i j:Nat}{a:α}(h1:l[i]? = some a)(h2:l[j]? = some a):i=j:=by
 obtain ⟨l1,e1⟩:=ah.mp h1;obtain ⟨l2,e2⟩:=ah.mp h2
 rcases dJ i j with l | l | l
 ·exact absurd (e1.trans e2.symm) (bv.mp nd i j l1 l2 l)
 ·exact l
 ·exact absurd (e2.trans e1.symm) (bv.mp nd j i l2 l1 l)
theorem ax6(g:Gr ι H ι' H')(f:FrzOf L H' H2)(ab:agw H' L)(hL:∀ a∈L,H a=none)(hm:∀ a∈m,H a=none):Gr ι H (ι++m) H2:=by
 refine ⟨⟨m,rfl,hm⟩,λa vs e=>f.still ab (g.tup a vs e) True.intro,λa o u e=>f.still ab (g.frz a o u e) True.intro,λa u e hn=>?_,λa u e=>?_⟩
 ·rw [(f a).1 λz=>by rw [hL a z] at e;cases e]
  exact g.oth a u e hn
 ·obtain ⟨u',e'⟩:=g.kp a u e;rw [(f a).1 λz=>by rw [hL a z] at e;cases e]
  exact ⟨u',e'⟩
theorem ajk{d d':D}{v:V}{g':Hd}(g:Gr ι H ι' H')(rb:Rep K ι' H' v d)(hr:HRep K ι' H' h1)(e:agx ι.length (.ok d h1) = .ok d' g') :
  ∃ L,agw H' L/\∀ H2,FrzOf L H' H2->Gr ι H ι H2/\Rep K ι H2 v d'/\HRep K ι H2 g':=by
 obtain ⟨m,rfl,hm⟩:=g.pre;have tk:(ι++m).take ι.length=ι:=by simp
 have ab:agw H' m:=ajj hr m λa ha=>aV _ ha;have hL:∀ (i:Nat) a,(ι++m)[i]? = some a->ι.length<=i->a∈m:=λi a e hi=>by
  rw [aF hi] at e;exact aM e
 refine ⟨m,ab,λH2 f=>?_⟩;unfold agx at e;simp only at e
 split at e
 ·rename_i dd gg e1 e2;cases e
  refine ⟨by simpa using ax6 g f ab hm (m:=[]) (by simp),by have:=aap hr hL f ab FU rb e1;rwa [tk] at this,?_⟩
  obtain ⟨l,gt⟩:=a4f e2;have hl:=hr.len;have ln:ι.length<=h1.length:=by rw [<-hl];simp
  refine ⟨(bY.mp hr.nd).1,by rw [<-l,bC];omega,λi a o q1 q2=>?_⟩
  obtain ⟨x,hx,fx⟩:=gt i o q2;have hi:i<ι.length:=(ah.mp q1).1;rw [eZ,aL hi] at hx;have q3:(ι++m)[i]? = some a:=by rw [aC hi];exact q1
  have na:a ∉ m:=λz=>(bY.mp hr.nd).2.2 a (aM q1) a z rfl;have:=asj hr hL f ab na (hr.obj i a x q3 hx) fx
  rwa [tk] at this
 ·cases e
theorem an8(g:Gr ι H ι' H')(rb:Rep K ι' H' v d)(hr:HRep K ι' H' h1)(e:auw ι.length (.ok d h1) = .ok d' g') :
  ∃ b,H b=none/\Gr ι H (ι++[b]) H'/\Rep K (ι++[b]) H' v d'/\HRep K (ι++[b]) H' g':=by
 obtain ⟨m,rfl,hm⟩:=g.pre;have tk:(ι++m).take ι.length=ι:=by simp
 have up:∀ b,Gw ι H' (ι++[b]) H':=λb=>⟨⟨[b],rfl⟩,λ_ _ h=>h,λ_ _ _ h=>h⟩
 cases rb with
 | @ref b i hb =>
  unfold auw at e;simp only at e
  split at e
  ·rename_i ob ho
   split at e
   ·rename_i hc;obtain ⟨hi,c1,c2⟩:=hc;cases e
    have hb':=hb;rw [aF hi] at hb';have bm:b∈m:=aM hb';obtain ⟨nd1,nd2,nd3⟩:=bY.mp hr.nd;have hl:=hr.len;have ln:ι.length<=h1.length:=by rw [<-hl];simp
    have lt:(h1.take ι.length).length=ι.length:=by rw [bC];omega
    refine ⟨b,hm b bm,⟨⟨[b],rfl,by simpa using hm b bm⟩,g.tup,g.frz,g.oth,g.kp⟩, .ref (by simp),?_⟩
    refine ⟨bY.mpr ⟨nd1,by simp,λa ha c hc z=>nd3 a ha c (by rw [ai.mp hc];exact bm) z⟩,by simp [lt],λj a o q1 q2=>?_⟩
    by_cases hj:j<ι.length
    ·rw [aC hj] at q1;rw [aC (by omega)] at q2
     have q2':=q2;rw [eZ,aL hj] at q2';have:=(hr.obj j a o (by rw [aC hj];exact q1) q2').cut (c2 o (aM q2))
     rw [tk] at this;exact this.monoW (up b) rfl
    ·have hj2:j<(ι++[b]).length:=(ah.mp q1).1;have:j=ι.length:=by simp at hj2;omega
     subst this;rw [aF (ax _)] at q1;rw [aF (by omega),lt] at q2
     simp at q1 q2
     subst q1 q2;have:=(hr.obj i b ob hb ho).cut c1;rw [tk] at this;exact this.monoW (up b) rfl
   ·cases e
  ·cases e
 | _=>cases e
end
noncomputable def sZ(f:SE):SE:=λτ h=>agx h.length (f τ h)
abbrev b3x(Q:VK):VK:=λv H1=>∃ L,agw H1 L/\∀ H2,FrzOf L H1 H2->Q v H2
theorem b0z(q:lift K E (a0a K) (sZ fa) σ H Q):lift K E (a0a K) fa σ H (b3x Q):=by
 obtain ⟨ι,τ,h,S,Rh,o⟩:=q;refine ⟨ι,τ,h,S,Rh,?_⟩;unfold sZ at o;rw [<-Rh.len] at o
 cases hf:fa τ h with
 | ok d h1 =>
  rw [hf] at o
  intro ι' H' v g r hr
  cases hz:agx ι.length (.ok d h1) with
  | ok d' g' =>
   rw [hz] at o;obtain ⟨L,ab,k⟩:=ajk g r hr hz;refine ⟨L,ab,λH2 f=>?_⟩;obtain ⟨k1,k2,k3⟩:=k H2 f;exact o ι H2 v k1 k2 k3
  | ex c hx=>unfold agx at hz;simp only at hz;split at hz<;>cases hz
  | no=>rw [hz] at o;exact o.elim
 | ex c h1=>rw [hf] at o;exact o.elim
 | no=>rw [hf] at o;exact o.elim
theorem a7h(ha:ME X E e fa):ME X E e (sZ fa):=PE.weak (aji ha) λσ H Q q=>b0z q
def refOf:D->Option Nat
 | .ref i=>some i
 | _=>none
def a5d(ds:List D):List Nat:=ds.filterMap refOf
def a3n:Nat->List D->List D
 | _,[]=>[]
 | k,d::ds=>match d with
  | .ref _=>.ref k::a3n (k+1) ds
  | d=>d::a3n k ds
def yh:Hd->List Nat->List O->Hd
 | h,i::is,o::os=>yh (h.set i o) is os
 | h,_,_=>h
def isRef(d:D):Prop:=∃ i,d = .ref i
open Classical in
noncomputable def ax7(m:Bool)(F:SF)(ds:List D)(h:Hd):R D:=match a3c (λi=>h[i]?) (a5d ds) with
 | none=>.no
 | some os=>if (a5d ds).Nodup/\(∀ d∈ds,clo 0 d\/isRef d)/\(∀ o∈os,a6n 0 o) then
   (match (if m then auw os.length (F (a3n 0 ds) os) else agx os.length (F (a3n 0 ds) os)) with
   | .ok d h1=>if ∀ o∈h1,a6n 0 o then
     (if m then .ok (.ref h.length) (yh h (a5d ds) h1++h1.drop os.length)
      else if clo 0 d then .ok d (yh h (a5d ds) h1) else .no) else .no
   | _=>.no)
  else .no
noncomputable def kj(m:Bool)(n:Nat)(F:SF):SF:=λds h=>if ds.length=n then ax7 m F ds h else .no
section
variable{K:PySem.W.Frag}{ι ι':List Addr}{H H' H2:Hp}{h h1:Hd}{n:Nat}
theorem apt(κ:List Addr):Gw [] H κ H:=⟨⟨κ,rfl⟩,λ_ _ h=>h,λ_ _ _ h=>h⟩
theorem Rep.any(r:Rep K ι H v d)(c:MI.clo 0 d)(κ:List Addr):Rep K κ H v d:=by
 have:=r.cut c
 rw [List.take_zero] at this;exact this.monoW (apt κ)
theorem ORep.any(r:ORep K ι H a o)(c:a6n 0 o)(κ:List Addr):ORep K κ H a o:=by
 have:=r.cut c
 rw [List.take_zero] at this;exact this.monoW (apt κ) rfl
theorem acn{α:Type}(l:List α):∀ {is:List Nat},(∀ i∈is,i<l.length)->∃ ys,a3c (λi=>l[i]?) is=some ys
 | [],_=>⟨[],rfl⟩
 | i::is,hi=>by
  obtain ⟨ys,e⟩:=acn l (is:=is) λj hj=>hi j (aG _ hj);have:=hi i aK;exact ⟨l[i]::ys,by unfold a3c;rw [e,af this]⟩
theorem a6q:∀ {ds:List D} {vs:List V} {pre κ:List Addr},Reps K ι H vs ds->(∀ d∈ds,clo 0 d\/isRef d)->a3c (λi=>ι[i]?) (a5d ds)=some κ->Reps K (pre++κ) H vs (a3n pre.length ds)
 | [],_,_,_, .nil,_,_=>.nil
 | d::ds,_,pre,κ, .cons r rs,hc,e=>by
  have hc':∀ d∈ds,clo 0 d\/isRef d:=λx hx=>hc x (aG _ hx)
  by_cases hd:isRef d
  ·obtain ⟨i,rfl⟩:=hd;have e':a3c (λi=>ι[i]?) (i::a5d ds)=some κ:=e;unfold a3c at e'
   split at e'
   ·rename_i a κ' h1 h2
    cases e'
    cases r with
    | ref ha =>
     rw [ha] at h1;cases h1
     have:=a6q (pre:=pre++[a]) rs hc' h2
     simp only [fq,List.singleton_append,aw,ay] at this;refine .cons (.ref ?_) this;rw [aF (ax _)];simp
   ·cases e'
  ·have c:=(hc d aK).resolve_right hd;have e1:a5d (d::ds)=a5d ds:=by
    unfold a5d
    cases d<;>first | rfl | exact absurd ⟨_,rfl⟩ hd
   have e2:a3n pre.length (d::ds)=d::a3n pre.length ds:=by
    cases d<;>first | rfl | exact absurd ⟨_,rfl⟩ hd
   rw [e1] at e;rw [e2];exact .cons (r.any c _) (a6q rs hc' e)
theorem a1r:∀ {is:List Nat} {os:List O} {h:Hd},(yh h is os).length=h.length
 | [],_,_=>by simp [yh]
 | _::_,[],_=>by simp [yh]
 | i::is,o::os,h=>by rw [yh,a1r,fP]
theorem a6r:∀ {is:List Nat} {os:List O} {h:Hd},i ∉ is->(yh h is os)[i]? = h[i]?
 | [],_,_,_=>by simp [yh]
 | _::_,[],_,_=>by simp [yh]
 | j::is,o::os,h,n=>by
  rw [yh,a6r λz=>n (aG _ z),d0 λz=>n (by rw [z];exact aK)]
theorem aco:∀ {is:List Nat} {os:List O} {h:Hd} {j:Nat},is.Nodup->is[j]? = some i->os[j]? = some o->i<h.length->(yh h is os)[i]? = some o
 | [],_,_,_,_,e,_,_=>by simp at e
 | _::_,[],_,_,_,_,e,_=>by simp at e
 | k::is,o'::os,h,j,nd,e1,e2,hl=>by
  cases j with
  | zero =>
   simp at e1 e2
   subst e1 e2;rw [yh,a6r (cU.mp nd).1,cE hl]
  | succ j =>
   rw [yh];exact aco (j:=j) (cU.mp nd).2 (by simpa using e1) (by simpa using e2) (by simpa using hl)
theorem acp{α:Type}{l:List α}(nl:l.Nodup){is:List Nat}{ys:List α}(e:a3c (λi=>l[i]?) is=some ys)(ni:is.Nodup):ys.Nodup:=by
 obtain ⟨le,g⟩:=a4f e;refine bv.mpr λi j hi hj lt z=>?_;obtain ⟨x,h1,h2⟩:=g i _ (af hi);obtain ⟨y,h3,h4⟩:=g j _ (af hj);rw [<-z] at h4;have:=a8a nl h2 h4;subst this;have:=a8a ni h1 h3;omega
theorem afm{is:List Nat}{κ m:List Addr}{g:Hd}(hr:HRep K ι H h)(e1:a3c (λi=>ι[i]?) is=some κ)(nd:is.Nodup)(gr:Gr κ H (κ++m) H2)(hg:HRep K (κ++m) H2 g)(cg:∀ o∈g,a6n 0 o)(hm:m.length<=1) :
  Gr ι H (ι++m) H2/\HRep K (ι++m) H2 (yh h is g++g.drop κ.length):=by
 obtain ⟨l1,g1⟩:=a4f e1;have mn:∀ a∈m,H a=none:=by
  obtain ⟨m',e,hm'⟩:=gr.pre;rw [List.append_cancel_left e];exact hm'
 have sub:∀ a∈κ,a∈ι:=λa ha=>by
  obtain ⟨j,hj⟩:=bR ha;obtain ⟨i,_,q⟩:=g1 j a hj;exact aM q
 have some_of:∀ a∈ι,∃ u,H a=some u:=λa ha=>by
  obtain ⟨i,hi⟩:=bR ha;obtain ⟨o,_,q⟩:=hr.at hi;obtain ⟨u,q,_⟩:=q.some;exact ⟨u,q⟩
 have G:Gr ι H (ι++m) H2:=⟨⟨m,rfl,mn⟩,gr.tup,gr.frz,λa u e n=>gr.oth a u e λz=>n (sub a z),gr.kp⟩;have lg:=hg.len;rw [aw] at lg;refine ⟨G,?_,?_,λj a o q1 q2=>?_⟩
 ·refine bY.mpr ⟨hr.nd,(bY.mp hg.nd).2.1,λa ha b hb z=>?_⟩;obtain ⟨u,q⟩:=some_of a ha;rw [z,mn b hb] at q;cases q
 ·rw [aw,aw,a1r,bP,hr.len];omega
 ·by_cases hj:j<ι.length
  ·rw [aC hj] at q1;rw [aC (by rw [a1r,<-hr.len];exact hj)] at q2
   by_cases hp:j∈is
   ·obtain ⟨k,hk⟩:=bR hp;have hkl:k<κ.length:=by rw [<-l1];exact (ah.mp hk).1
    obtain ⟨i,h3,h4⟩:=g1 k _ (af hkl);rw [hk] at h3;cases h3
    rw [q1] at h4;have hkg:k<g.length:=by omega
    have e5:=aco (h:=h) nd hk (af hkg) (by rw [<-hr.len];exact hj)
    rw [e5] at q2;cases q2
    have ea:(κ++m)[k]? = some a:=by rw [aC hkl,af hkl];exact h4.symm
    exact (hg.obj k a _ ea (af hkg)).any (cg _ (bJ hkg)) _
   ·rw [a6r hp] at q2;have r:=hr.obj j a o q1 q2;obtain ⟨u,hu,_⟩:=r.some;have na:a ∉ κ:=λz=>by
     obtain ⟨k,hk⟩:=bR z;obtain ⟨i,h3,h4⟩:=g1 k a hk;have:=a8a hr.nd q1 h4;subst this;exact hp (aM h3)
    exact r.mono G (by rw [hu];exact gr.oth a u hu na)
  ·have q1':=q1;rw [aF (by omega)] at q1
   rw [aF (by rw [a1r,<-hr.len];omega),a1r,<-hr.len,List.getElem?_drop] at q2
   have ea:(κ++m)[κ.length+(j - ι.length)]? = some a:=by rw [aF (by omega)];simpa using q1
   exact (hg.obj _ a o ea q2).any (cg o (aM q2)) _
theorem ajl{m:Bool}{F:SF}{vs:List V}{ds:List D}{Q:VK}(r:Reps K ι H vs ds)(hr:HRep K ι H h)(o:out K X0 (a0a K) ι H (kj m n F ds h) Q)(E:XK) :
  qw K n F vs H (λv H1=>∃ L,agw H1 L/\∀ H2,FrzOf L H1 H2->Q v H2) E:=by
 unfold kj at o
 split at o
 ·rename_i hl;refine ⟨by rw [r.len];exact hl,?_⟩
  unfold ax7 at o
  split at o
  ·exact o.elim
  ·rename_i os hos
   split at o
   ·rename_i hc;obtain ⟨nd,hd,hcl⟩:=hc;obtain ⟨l0,g0⟩:=a4f hos;obtain ⟨κ,e1⟩:=acn ι (is:=a5d ds) λi hi=>by
     obtain ⟨j,hj⟩:=bR hi;have hjl:j<os.length:=by rw [<-l0];exact (ah.mp hj).1
     obtain ⟨x,h3,h4⟩:=g0 j _ (af hjl);rw [hj] at h3;cases h3
     rw [hr.len];exact (ah.mp h4).1
    obtain ⟨l1,g1⟩:=a4f e1;have lk:κ.length=os.length:=by omega
    have R0:Reps K κ H vs (a3n 0 ds):=by simpa using a6q (pre:=[]) r hd e1
    have H0:HRep K κ H os:=by
     refine ⟨acp hr.nd e1 nd,lk,λj a ob q1 q2=>?_⟩;obtain ⟨i,h3,h4⟩:=g1 j a q1;obtain ⟨i',h5,h6⟩:=g0 j ob q2;rw [h3] at h5;cases h5
     exact (hr.obj i a ob h4 h6).any (hcl ob (aM q2)) _
    refine ⟨κ,a3n 0 ds,os,R0,H0,?_⟩
    cases hF:F (a3n 0 ds) os with
    | no=>rw [hF] at o;cases m<;>exact o.elim
    | ex c hx=>rw [hF] at o;cases m<;>exact o.elim
    | ok d h1 =>
     rw [hF] at o
     intro ι' H' v g rb hr1
     rw [<-lk] at o
     cases m with
     | false =>
      simp only [cb,dP] at o
      cases hz:agx κ.length (.ok d h1) with
      | ok d' g' =>
       rw [hz] at o;simp only at o;obtain ⟨L,ab,k⟩:=ajk g rb hr1 hz;refine ⟨L,ab,λH2 f=>?_⟩;obtain ⟨k1,k2,k3⟩:=k H2 f
       split at o
       ·rename_i cg
        split at o
        ·rename_i cd;have q:=afm (m:=[]) hr e1 nd (by simpa using k1) (by simpa using k3) cg (by simp)
         have lg:=k3.len;have dr:g'.drop κ.length=[]:=cr (by omega)
         rw [dr,bW,bW] at q;exact o ι H2 v q.1 (k2.any cd _) q.2
        ·exact o.elim
       ·exact o.elim
      | ex c hx=>rw [hz] at o;exact o.elim
      | no=>rw [hz] at o;exact o.elim
     | true =>
      simp only [dv] at o
      cases hz:auw κ.length (.ok d h1) with
      | ok d' g' =>
       rw [hz] at o;simp only at o;obtain ⟨b,hb,k1,k2,k3⟩:=an8 g rb hr1 hz;refine ⟨[],λa ha=>(by simp at ha),λH2 f=>?_⟩
       have e2:H2=H':=by funext a;exact (f a).1 (by simp)
       subst e2
       split at o
       ·rename_i cg;have q:=afm (m:=[b]) hr e1 nd k1 k3 cg (by simp)
        refine o (ι++[b]) H2 v q.1 ?_ q.2;have hd':d' = .ref κ.length:=by
         unfold auw at hz
         split at hz
         ·rename_i i h2 hh
          injection hh with z1 z2
          split at hz
          ·split at hz
           ·injection hz with z3 z4;exact z3.symm
           ·cases hz
          ·cases hz
         ·cases hz
        subst hd'
        cases k2 with
        | ref hk =>
         rw [aF (ax _)] at hk;simp at hk;subst hk;exact .ref (by rw [<-hr.len];simp)
       ·exact o.elim
      | ex c hx=>rw [hz] at o;exact o.elim
      | no=>rw [hz] at o;exact o.elim
   ·exact o.elim
 ·exact o.elim
end
theorem cj(m:Bool){X:Cx}(G:Dn X.prog X.w X.K X.mg X.base k x ps (qw X.K n F) f fd)(hr:Room k X.A)(hg:Gl X x)(ha:MA X X0 (e::es) ka)
  (hdb:(x == ("__debug__" : Str))=false:=by decide) (he:starEach (e::es) X.env=(false,eval e X.env)::starEach es X.env:=by rfl) (hpl:(backTo pos (starEach es X.env)).any (·.1)=false:=by rfl):ME X X0 (.Call (.Name x p) (e::es) [] pos) (sA (kj m n F) ka):=by
 refine PE.weak (aji (ar5 G.ok hr hg G.m G.kp G.b .nil awa ha hdb he hpl)) λσ H Q ⟨ι,τ,h,S,Rh,o⟩=>?_;refine ⟨ι,τ,h,S,Rh,ig o λds h1 ι1 H1 vs g1 r1 hr1 o1=>?_⟩;rw [bW];exact ajl r1 hr1 o1 _
theorem acq(m:Bool){X:Cx}(G:Dn X.prog X.w X.K X.mg X.base k x ps (qw X.K n F) f fd)(hr:Room k X.A)(hg:Gl X x)(hdb:(x == ("__debug__" : Str))=false:=by decide) :
  ME X X0 (.Call (.Name x p) [] [] pos) (sA (kj m n F) dh):=by
 refine PE.weak (aji (amg G.ok hr hg G.m G.kp G.b .nil awa hdb)) λσ H Q ⟨ι,τ,h,S,Rh,o⟩=>?_;exact ajl (vs:=[]) .nil Rh o E0
def asl:SS:=λ_ _=>.no
section
variable{X:Cx}{E:XD}
theorem afn:MSs X E st asl:=λ_ _ _ _ _ _ ⟨_,_,_,_,_,o⟩=>o.elim
end
theorem apu(h:PS X st t):PS X st (λD σ H=>t { D with nx:=λσ' H1=>∃ L,agw H1 L/\∀ H2,FrzOf L H1 H2->D.nx σ' H2 } σ H):=λpins s σ H D I q =>
 thn (h pins s σ H _ I q) λf s' k=>by
  cases f with
  | next =>
   obtain ⟨σ',H1,I1,L,ab,k⟩:=k;obtain ⟨H2,f,I2⟩:=Inv.frz I1 ab;exact ⟨σ',H2,I2,k H2 f⟩
  | brk=>exact k
  | cont=>exact k
  | ret u=>exact k
theorem ajm(q:aaf K E (m5 i f) N σ H):lift K E (a0a K) f σ H (λv H1=>N.nx (σ.set i (some v)) H1):=by
 obtain ⟨ι,τ,h,S,Rh,o⟩:=q;exact ⟨ι,τ,h,S,Rh,vh o λd h1 ι1 H1 v g1 r1 hr1 o1=>o1 ι1 H1 _ (.refl _ _) ((S.mono g1).set r1 i) hr1⟩
theorem ajn(ht:aj2 K n g t)(q:lift K E (a0a K) (m9 fi t fe ix) σ H Q):amr (lift K E (awn K) fi) (ql n ix) g (lift K E (a0a K) fe) σ H Q:=by
 obtain ⟨ι,τ,h,Sr,Rh,o⟩:=q;refine ⟨ι,τ,h,Sr,Rh,ig o λit h1 ι1 H1 J g1 r1 hr1 o1=>?_⟩
 by_cases hl:it.xs.length<=LINE
 ·rw [aL hl] at o1;exact afb r1 ht (a5n (Sr.mono g1) ix) hr1 hl o1
 ·rw [aY hl] at o1;exact o1.elim
theorem an9(ht:aj2 K n g t)(q:lift K E (a0a K) (qu fi t fc fe ix) σ H Q):aad (lift K E (awn K) fi) (ql n ix) g (lift K E apk fc) (lift K E (a0a K) fe) σ H Q:=by
 obtain ⟨ι,τ,h,Sr,Rh,o⟩:=q;refine ⟨ι,τ,h,Sr,Rh,ig o λit h1 ι1 H1 J g1 r1 hr1 o1=>?_⟩
 by_cases hl:it.xs.length<=LINE
 ·rw [aL hl] at o1;exact ach r1 ht (a5n (Sr.mono g1) ix) hr1 hl o1
 ·rw [aY hl] at o1;exact o1.elim
section
variable{X:Cx}{E:XD}{elt tg iter cnd:Expr}{scope:Scope}{pos spos pos':Pos}{cl:List (Str × Addr)}{ts fr:List Str}{ix:List Nat}{fi:SI}{g:TG}{t:D->Option Sd}{fe:SE}{fc:ST}{i:Nat}{x:Str}
theorem asm(hN:X.N.Nodup)(hi':X.N[i]? = some x)(hx:Loc X.env.scope x)(hc:X.calm=true)(S:CSc X scope cl ts fr ix)(hi:MI X E tg iter fi)(hg:∀ C fp s H,PG (cxC X (ts++fr) scope cl C fp s H) tg g)(ht:aj2 X.K ts.length g t)(he:∀ C fp s H,ME (cxC X (ts++fr) scope cl C fp s H) E elt fe)
  (hs:∀ x,foldedSetIterable iter X.env x=pure x:=by intro _;rfl) (hsw:swapsWith (.ListComp elt [⟨tg,iter,[],0⟩] scope pos) (some (.Name x pos')) spos.line X.env=pure true:=by rfl) (hf:X.fn x=true\/X.env.scope.names.lookup x=some .local:=by first | exact .inl rfl | exact .inr rfl | assumption) :
  MS X E (.Assign [.Name x pos'] (.ListComp elt [⟨tg,iter,[],0⟩] scope pos) spos) (m5 i (m9 fi t fe ix)) :=
 PS.weak (af6 (te:=lift X.K E (a0a X.K) fe) hN hi' hx hc S hi hg he hs hsw hf) λN σ H q=>ajn ht (ajm q)
theorem a7i(hN:X.N.Nodup)(hi':X.N[i]? = some x)(hx:Loc X.env.scope x)(hc:X.calm=true)(S:CSc X scope cl ts fr ix)(hi:MI X E tg iter fi)(hg:∀ C fp s H,PG (cxC X (ts++fr) scope cl C fp s H) tg g)(ht:aj2 X.K ts.length g t)(he:∀ C fp s H,ME (cxC X (ts++fr) scope cl C fp s H) E elt fe)
  (hs:∀ x,foldedSetIterable iter X.env x=pure x:=by intro _;rfl) (hsw:swapsWith (.ListComp elt [⟨tg,iter,[],0⟩] scope pos) (some (.Name x pos')) spos.line X.env=pure true:=by rfl) (hf:X.fn x=true\/X.env.scope.names.lookup x=some .local:=by first | exact .inl rfl | exact .inr rfl | assumption) :
  MS X E (.Assign [.Name x pos'] (.ListComp elt [⟨tg,iter,[],0⟩] scope pos) spos) (m5 i (sZ (m9 fi t fe ix))) :=
 PS.weak (apu (af6 (te:=lift X.K E (a0a X.K) fe) hN hi' hx hc S hi hg he hs hsw hf)) λN σ H q=>ajn ht (b0z (ajm q))
theorem a5t(hN:X.N.Nodup)(hi':X.N[i]? = some x)(hx:Loc X.env.scope x)(hc:X.calm=true)(S:CSc X scope cl ts fr ix)(hi:MI X E tg iter fi)(hg:∀ C fp s H,PG (cxC X (ts++fr) scope cl C fp s H) tg g)(ht:aj2 X.K ts.length g t)(he:∀ C fp s H,ME (cxC X (ts++fr) scope cl C fp s H) E elt fe)
  (hq:∀ C fp s H,MT (cxC X (ts++fr) scope cl C fp s H) E cnd fc)
  (hs:∀ x,foldedSetIterable iter X.env x=pure x:=by intro _;rfl) (hsw:swapsWith (.ListComp elt [⟨tg,iter,[cnd],0⟩] scope pos) (some (.Name x pos')) spos.line X.env=pure true:=by rfl) (hf:X.fn x=true\/X.env.scope.names.lookup x=some .local:=by first | exact .inl rfl | exact .inr rfl | assumption) :
  MS X E (.Assign [.Name x pos'] (.ListComp elt [⟨tg,iter,[cnd],0⟩] scope pos) spos) (m5 i (sZ (qu fi t fc fe ix))) :=
 PS.weak (apu (agr (te:=lift X.K E (a0a X.K) fe) (tc:=lift X.K E apk fc) hN hi' hx hc S hi hg he hq hs hsw hf)) λN σ H q=>an9 ht (b0z (ajm q))
end
theorem nu(Fu:Fun K x qual st f fd)(S:FnScope N ps (dq st))
  (hb:∀ (cdv:Value) (A:Around) (outer:List Env) (s:Shared) (H:Hp) (E:XK),Room k (A.deeper (PyProof.Rows.envOfC qual (dq st) s.heap.objs.size f cdv))->MSs (amh CX0 P w K mg base N qual (dq st) f cdv A outer s H E).nox X0 (a1f st) b) :
  FnOk P w K mg base CX0 (k+1) f fd ps (qw K ps.length (qg b N.length)):=awq Fu S hb λds h _ _ _=>Rf.same rfl
end MI
namespace MI
open PySem PySem.Spec L2 HT
theorem agy{s:Shared}(ht:PyProof.Rows.IsTup s.heap t items)(hs:s.heap.IsSliceOf sl vl vu .none)(pl:IsPart vl lo)(pu:IsPart vu hi)
  (hw:HT.sIx items.size 0 lo=0/\HT.sIx items.size items.size hi=items.size) (h:Q (.ref t) s):wpAny (model prog w) A (getItem (.ref t) (.ref sl)) Q E s:=by
 obtain ⟨os,f1,f2,f3⟩:=id hs;have ty:s.TypeIs (.ref sl) "slice":=⟨os,f1,f2⟩;have tt:s.TypeIs (.ref t) "tuple":=ht.typeIs;rw [getItem]
 try apply cD
 first | (apply ag;apply aB) | skip
 apply ag;apply wpAny_sequenceKey tt (by decide)
 apply ag
 apply cc (name:=Str.ofString "__getitem__") tt bX
 apply bU bX tt PyProof.Rows.entry_tuple_getitem _ (PyProof.Rows.args_tuple_getitem _ _)
 change wpAny (model prog w) A.in1 (Builtin.Tuple.tupleItemsOf (.ref t)>>=_) _ _ s
 apply ag;apply PyProof.Rows.tupleItemsOf_ ht
 apply ag;apply fY ty
 rw [aL (by decide)]
 apply ag;apply HT.a2s hs pl pu
 rw [hw.1,hw.2];dsimp only;rw [aL (by simp)]
 apply ag
 rw [Builtin.Tuple.tupleIsExact]
 apply ag;apply fY tt
 apply aB
 rw [aL (by decide)]
 apply ag;apply eT
 apply aB
 exact ⟨_,rfl,aB h⟩
def b2d(K:PySem.W.Frag):V->Option Int->Option Int->Hp->VK->Prop:=λx lo hi H Q=>∃ a xs,x = .ref a/\SqT K H a xs/\whole xs.length lo hi/\Q (.ref a) H
theorem ana:SlR X (b2d X.K):=by
 intro pins s σ H x v vl vu lo hi sl Q I rx hs pl pu h
 obtain ⟨a,xs,rfl,hx,hw,q⟩:=h;cases rx
 obtain ⟨its,r,ht,hz⟩:=I.tuple hx;have hlen:its.toArray.size=xs.length:=by rw [aI];exact r.length.symm
 exact ⟨"tuple",_,bX.lookup,ht.typeIs,agy ht hs pl pu (by rw [hlen];exact hw) ⟨.ref a,H,I,rfl,q⟩⟩
def am3(d:D)(lo hi:Option Int)(h:Hd):R D:=match d with
 | .tup xs=>if whole xs.length lo hi then .ok (.tup xs) h else .ok (.tup (a9a xs lo hi)) h
 | d=>gSl d lo hi h
def a6s(f:SE)(l u:SO):SE:=λτ h=>(f τ h).bind λd h1=>(l τ h1).bind λlo h2=>(u τ h2).bind λhi h3=>am3 d lo hi h3
theorem asn(rx:Rep K ι H x d)(hr:HRep K ι H h)(o:out K E (a0a K) ι H (am3 d lo hi h) Q):(b0r x lo hi H Q\/b0g K x lo hi H Q\/b0i K x lo hi H Q)\/b2d K x lo hi H Q:=by
 cases rx with
 | @tup p vs xs hp r =>
  by_cases hc:whole xs.length lo hi
  ·simp only [am3,aL hc] at o;exact .inr ⟨p,vs,rfl,SqT.of hp,by rw [r.len];exact hc,ans o (.tup hp r) hr⟩
  ·simp only [am3,aY hc] at o;exact .inl (.inr (.inl ⟨p,vs,rfl,SqT.of hp,by rw [r.len];exact hc,a5b (a5o r lo hi) hr o⟩))
 | non=>exact o.elim
 | bl _=>exact o.elim
 | int _=>exact o.elim
 | ty _=>exact o.elim
 | str z=>exact .inl (afg (.str z) hr o)
 | rol a b=>exact .inl (afg (.rol a b) hr o)
 | scr a b=>exact .inl (afg (.scr a b) hr o)
 | rod a b c=>exact o.elim
 | rdT a b c=>exact o.elim
 | exc a b c=>exact o.elim
 | ref a=>exact .inl (afg (.ref a) hr o)
theorem ud(he:ME X E e fa)(hl:MO X E lo l)(hu:MO X E hi u):ME X E (.Subscript e (.Slice lo hi none p2) pos) (a6s fa l u):=by
 refine PE.weak (amj ((awh.or (aw5.or arc)).or ana) he hl hu) λσ H Q ⟨ι,τ,h,S,Rh,o⟩=>?_;refine ⟨ι,τ,h,S,Rh,ig o λd h1 ι1 H1 v g1 r1 hr1 o1=>?_⟩;refine ⟨ι1,τ,h1,S.mono g1,hr1,ig o1 λlo h2 ι2 H2 lv g2 r2 hr2 o2=>?_⟩;refine ⟨ι2,τ,h2,(S.mono g1).mono g2,hr2,ig o2 λhi h3 ι3 H3 hv g3 r3 hr3 o3=>?_⟩
 cases r2;cases r3
 exact asn ((r1.mono g2).mono g3) hr3 o3
end MI
namespace TPM
open PySem PySem.Spec PySem.W L2 HT MI
end TPM
namespace MI
open PySem PySem.Spec L2 TPM
end MI
namespace L2
open PySem PySem.Spec PyProof.Rows
theorem anb:b1u X (azg X.K):=by
 intro pins s σ H o i ov iv Q I ro ri h
 obtain ⟨p,xs,k,z,rfl,rfl,hq,he,q⟩:=h;cases ro
 obtain ⟨t,rfl⟩:=ri;obtain ⟨its,r,pl,hz⟩:=I.list hq;obtain ⟨j,h1,h2,h3,h4,h5⟩:=aa7 he;obtain ⟨w,ew,rw'⟩:=r.get h2;have len:=r.length;have l63:=a72;have done:EP X pins σ Q w s:=⟨z,H,I,rw',q⟩
 by_cases neg:k<0
 ·have ej:(k+(its.toArray.size:Int)).toNat=j:=by
   rw [hZ neg h4] at h1;rw [aI,<-len];exact bM h1
  exact wpAny_getItem_list_neg pl.isList neg (by rw [aI];omega) (by omega) (by rw [ej];simpa using ew) done
 ·have ej:k.toNat=j:=by
   rw [ij (by omega) h5] at h1
   exact bM h1
  exact wpAny_getItem_list pl.isList (by omega) (by omega) (by rw [ej];simpa using ew) done
theorem acr(bs:List Bool):((List.range bs.length).any λi=>(bs[i]?).getD true)=bs.any id:=by
 have e:(List.range bs.length).map (λi=>(bs[i]?).getD true)=bs:=by
  apply fE (by simp)
  intro i h1 h2
  simp [h2]
 have f:((List.range bs.length).map λi=>(bs[i]?).getD true).any id=bs.any id:=by rw [e]
 rw [<-f,gi];rfl
theorem ae6{X:Cx}(hc:X.calm=true):CallR X (.builtin "any") (λxs H Q=>∃ (p:Addr) (bs:List Bool),xs=[.ref p]/\SqL X.K H p (bs.map V.bl)/\Q (.bl (bs.any id)) H):=by
 intro pins s σ H xs us Q I r h
 obtain ⟨p,bs,rfl,hq,q⟩:=h;obtain ⟨u,rfl,rx⟩:=vals1 r;cases rx
 obtain ⟨its,r',pl,hz⟩:=I.list hq;have hl:=r'.length;rw [aA] at hl;have hlt:p<s.heap.objs.size:=by obtain ⟨_,e,_⟩:=pl.isList;exact aH e
 refine call_any_walk (eC pl.isList ?_);refine ⟨s.heap.objs.size,[s.heap.objs.size,p],[s.heap.objs.size],its.toArray.size,_,_,λi=>(bs[i]?).getD true,rfl,Walks.list (A:=X.A.in1) (I.ok.hd hc) _ p (bp hlt) its.toArray,
  ⟨⟨_,aJ _ rfl,rfl,rfl⟩,pl.isList.push _⟩,λi v s' Q' E' hP hQ=>?_,λh' tk hk=>?_⟩
 ·have hP':its[i]? = some v:=by simpa using hP
  have hi:i<bs.length:=by
   have:=(ah.mp hP').1
   omega
  obtain ⟨u,e,ru⟩:=r'.get (i:=i) (x:=.bl bs[i]) (by simp [hi])
  rw [hP'] at e;cases e
  cases ru
  simp only [af hi,cK] at hQ;exact eA hQ
 ·have e:((List.range its.toArray.size).any λi=>(bs[i]?).getD true)=bs.any id:=by
   rw [aI,<-hl];exact acr bs
  rw [e];exact ⟨.bl _,H,I.kept λb x e=>hk b x (λhm=>by rw [ai.mp hm] at e;exact bQ _ (aH e)) (am _ e),rfl,q⟩
end L2
namespace MI
open PySem PySem.Spec L2
def am4(x y:D)(h:Hd):R D:=match x,y with
 | .ref p, .int i=>(match h[p]? with | some (.lst xs)=>(match atI xs i with | some d=>.ok d h | none=>.no) | _=>.no)
 | _,_=>.no
theorem aso:a5m K am4 (azg K):=by
 intro E ι H h x y dx dy Q rx ry hr o
 cases rx with
 | @ref p i hp =>
  cases ry with
  | int k =>
   simp only [am4] at o
   split at o
   ·rename_i xs hx;obtain ⟨vs,h3,h4⟩:=hr.lst hp hx
    split at o
    ·rename_i d he;obtain ⟨v,h1,h2⟩:=afe h4 he;exact ⟨p,vs,k,v,rfl,rfl,SqL.of h3,h1,ans o h2 hr⟩
    ·exact o.elim
   ·exact o.elim
  | _=>exact o.elim
 | _=>exact o.elim
def a4s(g:D->D->Hd->R D)(fo fi fe:SE):SS:=λτ h=>(fo τ h).fl λo h1=>(fi τ h1).fl λi h2=>(am4 o i h2).fl λx h3=>(fe τ h3).fl λy h4=>(g x y h4).fl λz h5=>match put o i z h5 with | some h6=>.nx τ h6 | none=>.no
section
variable{X:Cx}{E:XD}{e o i:Expr}{fa fb fc:SE}{pos:Pos}
theorem ae7(ho:ME X E o fa)(hi:ME X E i fb)(he:ME X E e fc)(hp:OpR X (inplaceOp op) r)(hs:a5m X.K gg r)
  (ha:∀ ov iv new,augStore i ov iv new=(do holding [new,ov,iv] (setItem ov iv new);release [new,ov,iv] [];pure .next):=by intros;rfl):MS X E (.AugAssign (.Subscript o i tpos) op e pos) (a4s gg fa fb fc):=by
 refine PS.weak (aqy ho hi anb he hp set_list ha) λN σ H ⟨ι,τ,h,S,Rh,oo⟩=>?_;refine ⟨ι,τ,h,S,Rh,vh oo λd h1 ι1 H1 v g1 r1 hr1 o1=>?_⟩;refine ⟨ι1,τ,h1,S.mono g1,hr1,vh o1 λd2 h2 ι2 H2 u g2 r2 hr2 o2=>?_⟩;refine aso E ι2 H2 h2 v u d d2 _ (r1.mono g2) r2 hr2 (vh o2 λd3 h3 ι3 H3 w g3 r3 hr3 o3=>?_);have S3:=((S.mono g1).mono g2).mono g3;refine ⟨ι3,τ,h3,S3,hr3,vh o3 λd4 h4 ι4 H4 y g4 r4 hr4 o4=>?_⟩;refine hs E ι4 H4 h4 w y d3 d4 _ (r3.mono g4) r4 hr4 (vh o4 λd5 h5 ι5 H5 z g5 r5 hr5 o5=>?_)
 cases hq:put d d2 d5 h5 with
 | none=>rw [hq] at o5;exact o5.elim
 | some h6 =>
  rw [hq] at o5;exact aiz ((((r1.mono g2).mono g3).mono g4).mono g5) (((r2.mono g3).mono g4).mono g5) r5 hr5 hq λH' g6 hr6=>o5 ι5 H' σ g6 (((S3.mono g4).mono g5).mono g6) hr6
end
def auy:List D->Hd->R D
 | [.ref i],h=>(match h[i]? with | some (.lst xs)=>(match an1 xs with | some bs=>.ok (.bl (bs.any id)) h | none=>.no) | _=>.no)
 | [.rol xs],h=>(match an1 xs with | some bs=>.ok (.bl (bs.any id)) h | none=>.no)
 | _,_=>.no
theorem asp:af7 K auy (λxs H Q=>∃ (p:Addr) (bs:List Bool),xs=[.ref p]/\SqL K H p (bs.map V.bl)/\Q (.bl (bs.any id)) H):=by
 intro E ι H h xs ds Q r hr o
 unfold auy at o
 split at o
 ·cases r with
  | cons r rs =>
   cases rs
   cases r with
   | @ref p _ hp =>
    split at o
    ·rename_i xs hx;obtain ⟨vs,h3,h4⟩:=hr.lst hp hx
     split at o
     ·rename_i bs hb;exact ⟨p,bs,rfl,SqL.of (by rw [h3,a88 h4 hb]),ans o (.bl _) hr⟩
     ·exact o.elim
    ·exact o.elim
 ·cases r with
  | cons r rs =>
   cases rs
   cases r with
   | @rol p vs xs hp r =>
    split at o
    ·rename_i bs hb;exact ⟨p,bs,rfl,by rw [<-a88 r hb];exact hp.l,ans o (.bl _) hr⟩
    ·exact o.elim
 ·exact o.elim
end MI
namespace TPM
open PySem PySem.Spec PySem.W L2 HT MI
theorem agz(t b:Addr)(items2:Array Value)(n n2:Nat)(dd dd2:Option Addr)(sl sl2:Array (Option Value)) :
  Meets (Builtin.«tuple.__add__» ⟨[.ref t, .ref b],[]⟩) (λ_ R s=>s.heap.get? t=some { cls:=.type "tuple",dict:=dd,data:=.seq #[] n,slots:=sl }/\s.heap.get? b=some { cls:=.type "tuple",dict:=dd2,data:=.seq items2 n2,slots:=sl2 }/\R (.ok (.ret (.ref b))) s):=by
 refine .of_wp λprog w A R s h=>?_;obtain ⟨hp,g,d,tk,os⟩:=s;obtain ⟨hl,hb,h⟩:=h
 wp_walk
 refine fz sub_tuple_self ?_
 wp_walk
 exact ⟨_,rfl,h⟩
def ax8(K:PySem.W.Frag):R2:=λx y H Q=>∃ a b ys,x = .ref a/\y = .ref b/\SqT K H a []/\SqT K H b ys/\Q (.ref b) H
theorem asq:OpR X (binaryOp .Add) (ax8 X.K):=by
 intro pins s σ H x y v u Q I rx ry h
 obtain ⟨a,b,ys,rfl,rfl,ha,hb,q⟩:=h;cases rx
 cases ry
 obtain ⟨its,r1,p1,_⟩:=I.tuple ha;obtain ⟨its2,r2,p2,_⟩:=I.tuple hb;cases r1
 obtain ⟨⟨cls,dd,data,sl⟩,ho,hc,n,hd⟩:=id p1;obtain ⟨⟨cls2,dd2,data2,sl2⟩,ho2,hc2,n2,hd2⟩:=id p2;simp only at hc hd hc2 hd2;subst hc hd hc2 hd2;exact concat_meets ⟨_,ho,rfl⟩ ⟨_,ho2,rfl⟩ gZ seq_tuple_add F.slot_tuple_add F.entry_tuple_add (F.args_tuple_add_2 _ _) (agz a b its2.toArray n n2 dd dd2 sl sl2) ⟨ho,ho2,⟨.ref b,H,I,rfl,q⟩⟩
end TPM
namespace MI
open PySem PySem.Spec L2 TPM
end MI
namespace TPM
open PySem PySem.Spec PySem.W L2 HT MI PyProof.Rows
end TPM
namespace MI
open PySem PySem.Spec L2 TPM
end MI
namespace L2
open PySem PySem.Spec PyProof.Rows
section
variable{X:Cx}
theorem Inv.lstR(I:Inv X pins σ H s)(hH:Rd H l (.lst xs)):xs.length<=sizeLine/\∃ (its:List Value) (n:Nat),Vals xs its/\xs.length=its.length/\s.heap.get? l=some { cls:=.type "list",data:=.seq its.toArray n }:=by
 obtain ⟨z,its,n,r,e⟩:=hH.ok I.hok;exact ⟨z,its,n,r,r.length,e⟩
def ax9:R2:=λx y H Q=>∃ l b xs zs,x = .ref l/\y = .ref b/\Rd H l (.lst xs)/\Rd H b (.lst zs)/\xs.length+zs.length<=sizeLine/\∀ p,H p=none->Q (.ref p) (upd H p (.lst (xs++zs)))
theorem asr:OpR X (binaryOp .Add) ax9:=λpins s σ H x y v u Q I rx ry ⟨l,b,xs,zs,ex,ey,h1,h2,hz,q⟩=>by
 subst ex ey;cases rx
 cases ry
 obtain ⟨_,as,_,va,la,ea⟩:=I.lstR h1;obtain ⟨_,bs,_,vb,lb,eb⟩:=I.lstR h2;have app:as.toArray++bs.toArray=(as++bs).toArray:=by simp
 refine PySem.P.add_list ea eb ?_ (by simp;omega)
 rw [app];exact ⟨.ref _,_,I.lnew (t':=s.toks) (va.append vb) (by simpa using hz),rfl,q _ I.fresh⟩
def axa:R2:=λx y H Q=>∃ l k xs,x = .ref l/\y = .int k/\Rd H l (.lst xs) /\ -(2 ^ 63)<=k/\k<2 ^ 63/\xs.length*k.toNat<=sizeLine/\∀ p,H p=none->Q (.ref p) (upd H p (.lst (List.replicate k.toNat xs).flatten))
theorem ass(its:List Value)(k:Nat):List.foldl (λx1 x2=>x1++x2) #[] (List.replicate (if its.toArray.isEmpty=true then 0 else k) its.toArray)=(List.replicate k its).flatten.toArray:=by
 have g:∀ m:Nat,List.foldl (λx1 x2=>x1++x2) #[] (List.replicate m its.toArray)=(List.replicate m its).flatten.toArray:=λm=>by simpa using foldl_rep its m []
 cases its with
 | nil=>simp
 | cons a r=>rw [aY (by simp),g]
theorem asu:OpR X (binaryOp .Mult) axa:=λpins s σ H x y v u Q I rx ry ⟨l,k,xs,ex,ey,h1,k1,k2,hz,q⟩=>by
 subst ex ey;cases rx
 obtain ⟨t,rfl⟩:=ry;obtain ⟨_,as,n,va,la,ea⟩:=I.lstR h1;have few:as.toArray.size*k.toNat<=sizeLine:=by rw [aI,<-la];exact hz
 have top:(sizeLine:Nat)<=(2 ^ 63 - 1) / 8:=by decide
 refine wpAny_binaryOp_repeat_ref (T := "list") (U := "int") (by decide) ⟨_,ea,rfl⟩ (λs'=>typeIs_int s' k t) noFill_list_mul F.fills_int_mul F.slot_int_rmul repeat_list F.slot_int_index.lookup
  (fv F.slot_int_rmul (typeIs_int s k t) F.entry_int_rmul (F.args_int_rmul_2 _ _) (int___rmul___int_list k t l as.toArray n)
   ⟨ea,rfl,⟨_,ea,rfl⟩,fv F.slot_list_mul ⟨_,ea,rfl⟩ F.entry_list_mul (F.args_list_mul_2 _ _)
    (AutoListH.list___mul___list_int_3 l as.toArray n k t (by rw [fitsIndex_both k1 k2];exact bE) (by omega) (by rw [amk few];exact bE)) ⟨ea,?_⟩⟩)
 rw [ass];exact ⟨.ref _,_,I.lnew (t':=s.toks) (va.rep k.toNat) (by rw [len_rep,Nat.mul_comm];exact hz),rfl,q _ I.fresh⟩
end
end L2
namespace MI
open PySem PySem.Spec L2 TPM
def a0m(d:D)(h:Hd):Option (List D):=match d with
 | .rol xs=>some xs
 | .ref i=>(match h[i]? with | some (.lst xs)=>some xs | _=>none)
 | _=>none
section
variable{K:PySem.W.Frag}{ι:List Addr}{H:Hp}{h:Hd}
theorem a4g(r:Rep K ι H x d)(hr:HRep K ι H h)(e:a0m d h=some xs):∃ a vs,x = .ref a/\Rd H a (.lst vs)/\Reps K ι H vs xs:=by
 cases r with
 | @rol a vs ys hp rs=>cases e;exact ⟨a,vs,rfl, .inr hp,rs⟩
 | @ref a i hp =>
  obtain ⟨ob,e1,e2⟩:=hr.at hp;simp only [a0m,e1] at e
  cases ob with
  | lst ys=>cases e;obtain ⟨vs,h3,h4⟩:=e2;exact ⟨a,vs,rfl, .inl h3,h4⟩
  | _=>cases e
 | _=>cases e
def jz:D->D->Hd->R D
 | .int i, .int j,h=>.ok (.int (i+j)) h
 | .str x, .str y,h=>if x.length+y.length<=LINE then .ok (.str (x++y)) h else .no
 | .tup [], .tup ys,h=>.ok (.tup ys) h
 | .tup (x::xs), .tup ys,h=>if (x::xs).length+ys.length<=LINE then .ok (.tup (x::xs++ys)) h else .no
 | x,y,h=>match a0m x h,a0m y h with
  | some xs,some ys=>if xs.length+ys.length<=LINE then .ok (.ref h.length) (h++[.lst (xs++ys)]) else .no
  | _,_=>.no
theorem ajo(e1:a0m x h=some xs)(e2:a0m y h=some ys):jz x y h=if xs.length+ys.length<=LINE then .ok (.ref h.length) (h++[.lst (xs++ys)]) else .no:=by
 cases x<;>first | (cases e1;done) | (cases y<;>first | (cases e2;done) | (simp only [jz,e1,e2]))
theorem asv(x y:D)(h:Hd):(∃ i j,x = .int i/\y = .int j)\/(∃ i j,x = .str i/\y = .str j)\/(∃ xs ys,x = .tup xs/\y = .tup ys)\/(∃ xs ys,a0m x h=some xs/\a0m y h=some ys)\/jz x y h = .no:=by
 cases e1:a0m x h with
 | some xs =>
  cases e2:a0m y h with
  | some ys=>exact .inr (.inr (.inr (.inl ⟨xs,ys,rfl,rfl⟩)))
  | none =>
   refine .inr (.inr (.inr (.inr ?_)))
   cases x<;>first | (cases e1;done) | (simp only [jz,e1,e2])
 | none =>
  cases x with
  | int i=>cases y<;>first | exact .inl ⟨_,_,rfl,rfl⟩ | exact .inr (.inr (.inr (.inr rfl)))
  | str i=>cases y<;>first | exact .inr (.inl ⟨_,_,rfl,rfl⟩) | exact .inr (.inr (.inr (.inr rfl)))
  | tup i=>cases y<;>first | exact .inr (.inr (.inl ⟨_,_,rfl,rfl⟩)) | (cases i<;>exact .inr (.inr (.inr (.inr rfl))))
  | _=>refine .inr (.inr (.inr (.inr ?_)));simp only [jz,e1]
theorem anc:a5m K jz (λx y H Q=>(rI0 (λi j=>.int (i+j)) x y H Q\/(∃ i j,x = .str i/\y = .str j/\i.length+j.length<=sizeLine/\Q (.str (i++j)) H)\/aw6 K x y H Q\/ax9 x y H Q)\/ax8 K x y H Q):=by
 intro E ι H h x y dx dy Q rx ry hr o
 rcases asv dx dy h with ⟨i,j,rfl,rfl⟩ | ⟨i,j,rfl,rfl⟩ | ⟨xs,ys,rfl,rfl⟩ | ⟨xs,ys,e1,e2⟩ | e
 ·cases rx;cases ry
  exact .inl (.inl ⟨i,j,rfl,rfl,ans o (.int _) hr⟩)
 ·cases rx;cases ry
  simp only [jz] at o
  split at o
  ·rename_i hc;exact .inl (.inr (.inl ⟨i,j,rfl,rfl,ll hc,ans o (.str _) hr⟩))
  ·exact o.elim
 ·cases rx with
  | @tup a vs _ ha r1 =>
  cases ry with
  | @tup b us _ hb r2 =>
  cases xs with
  | nil=>cases r1;exact .inr ⟨a,b,us,rfl,rfl,SqT.of ha,SqT.of hb,ans o (.tup hb r2) hr⟩
  | cons z xs =>
   simp only [jz] at o
   split at o
   ·rename_i hc;refine .inl (.inr (.inr (.inl ⟨a,b,vs,us,rfl,rfl,SqT.of ha,SqT.of hb,λz=>(by subst z;cases r1),ll (by rw [r1.len,r2.len];exact hc),λz=>?_,λ_=>?_⟩)))
    ·subst z;cases r2
     rw [bW] at o;exact ans o (.tup ha r1) hr
    ·exact a5b (r1.app r2) hr o
   ·exact o.elim
 ·rw [ajo e1 e2] at o;obtain ⟨a,vs,rfl,h1,h2⟩:=a4g rx hr e1;obtain ⟨b,us,rfl,h3,h4⟩:=a4g ry hr e2
  split at o
  ·rename_i hc;exact .inl (.inr (.inr (.inr ⟨a,b,vs,us,rfl,rfl,h1,h3,ll (by rw [h2.len,h4.len];exact hc),a1g (h2.app h4) hr o⟩)))
  ·exact o.elim
 ·rw [e] at o;exact o.elim
theorem km(ha:ME X E a fa)(hb:ME X E b fb):ME X E (.BinOp a .Add b pos) (s2 jz fa fb) :=
 agt (OpR.or (avs.or (agj.or (ara.or asr))) asq) anc ha hb
open Classical in
noncomputable def a0b:D->D->Hd->R D
 | .int i, .int j,h=>if CMul i j then .ok (.int (i*j)) h else .no
 | x, .int k,h=>match a0m x h with
  | some xs=>if (-(2 ^ 63)<=k/\k<2 ^ 63)/\xs.length*k.toNat<=LINE then .ok (.ref h.length) (h++[.lst (List.replicate k.toNat xs).flatten]) else .no
  | none=>.no
 | _,_,_=>.no
theorem ane:a5m K a0b (λx y H Q=>rI CMul (λi j=>.int (i*j)) x y H Q\/axa x y H Q):=by
 intro E ι H h x y dx dy Q rx ry hr o
 cases ry with
 | int k =>
  cases hx:a0m dx h with
  | some xs =>
   obtain ⟨a,vs,rfl,h1,h2⟩:=a4g rx hr hx;have o':out K E (a0a K) ι H (if (-(2 ^ 63)<=k/\k<2 ^ 63)/\xs.length*k.toNat<=LINE then .ok (.ref h.length) (h++[.lst (List.replicate k.toNat xs).flatten]) else .no) Q:=by
    cases dx<;>first | (cases hx;done) | (simp only [a0b,hx] at o;exact o)
   split at o'
   ·rename_i hc;exact .inr ⟨a,k,vs,rfl,rfl,h1,hc.1.1,hc.1.2,ll (by rw [h2.len];exact hc.2),a1g (h2.flat _) hr o'⟩
   ·exact o'.elim
  | none =>
   cases rx with
   | int i =>
    by_cases hc:CMul i k
    ·simp only [a0b,aL hc] at o;exact .inl ⟨i,k,rfl,rfl,hc,ans o (.int _) hr⟩
    ·simp only [a0b,aY hc] at o;exact o.elim
   | _=>simp only [a0b,hx] at o;exact o.elim
 | _=>cases rx<;>exact o.elim
theorem a6t(ha:ME X E a fa)(hb:ME X E b fb):ME X E (.BinOp a .Mult b pos) (s2 a0b fa fb):=agt (avu.or asu) ane ha hb
end
end MI
namespace MI
open PySem PySem.Spec L2
def a9j(d:D)(h:Hd):Option (List Int):=match d with
 | .ref i=>(match h[i]? with | some (.lst xs)=>aam xs | _=>none)
 | .rol xs=>aam xs
 | _=>none
theorem acs(r:Rep K ι H v d)(hr:HRep K ι H h)(e:a9j d h=some ns):∃ p,v = .ref p/\SqL K H p (ns.map V.int):=by
 unfold a9j at e
 split at e
 ·cases r with
  | @ref p _ hp =>
   split at e
   ·rename_i xs hx;obtain ⟨vs,h3,h4⟩:=hr.lst hp hx;exact ⟨p,rfl,SqL.of (by rw [h3,a5p h4 e])⟩
   ·cases e
 ·cases r with
  | @rol p vs xs hp r=>exact ⟨p,rfl,by rw [<-a5p r e];exact hp.l⟩
 ·cases e
end MI
namespace L2
open PySem PySem.Spec PyProof.Rows
section
variable{X:Cx}
theorem aar:CallR X (.builtin "sorted") (λxs H Q=>∃ (p:Addr) (ns:List Int),xs=[.ref p]/\SqL X.K H p (ns.map V.int)/\ns.length<64/\∀ l,H l=none->Q (.ref l) (upd H l (.lst ((PySem.W.sortI ns).map V.int)))):=by
 intro pins s σ H xs us Q I r ⟨p,ns,e,hq,h64,q⟩
 subst e;obtain ⟨u,rfl,ru⟩:=vals1 r;cases ru
 obtain ⟨its,r',pl,hz⟩:=I.list hq;have hI:IntsAre its ns:=intsAre_of r';have hl:its.length=ns.length:=by have:=r'.length;simp at this;omega
 refine sorted_ints pl.isList hI (by omega) λout ns' a1 a2 a3=>?_
 obtain ⟨e,he⟩:=sortedAll_at s.heap its out;have e2:ns'=PySem.W.sortI ns:=PySem.W.eq_sortI a2 a3;subst e2;have ln:(PySem.W.sortI ns).length=ns.length:=(gu ns).length_eq;refine ⟨.ref (s.heap.objs.size+1),_,I.laid (t':=s.toks) (λ_ _=>sortedAll_old) (gU _) (show ObjOk X.prog X.w _ _ _ (.lst ((PySem.W.sortI ns).map V.int)) from ⟨by rw [aA,ln];have:=dS;omega,out.toList,e,a5j a1,by simpa [seqObj] using he⟩),rfl,q _ (I.hok.fresh (gU _))⟩
end
end L2
namespace MI
open PySem PySem.Spec L2
def a5e:List D->Hd->R D
 | [d],h=>(match a9j d h with | some ns=>if ns.length<64 then .ok (.ref h.length) (h++[.lst ((PySem.W.sortI ns).map D.int)]) else .no | none=>.no)
 | _,_=>.no
theorem a9k:∀ ns:List Int,Reps K ι H (ns.map V.int) (ns.map D.int)
 | []=>.nil
 | n::ns=>.cons (.int n) (a9k ns)
theorem ah0:af7 K a5e (λxs H Q=>∃ (p:Addr) (ns:List Int),xs=[.ref p]/\SqL K H p (ns.map V.int)/\ns.length<64/\∀ l,H l=none->Q (.ref l) (upd H l (.lst ((PySem.W.sortI ns).map V.int)))):=by
 intro E ι H h xs ds Q r hr o
 unfold a5e at o
 split at o
 ·cases r with
  | cons r rs =>
   cases rs
   split at o
   ·rename_i ns e
    split at o
    ·rename_i hl;obtain ⟨p,rfl,q⟩:=acs r hr e;exact ⟨p,ns,rfl,q,hl,a1g (a9k _) hr o⟩
    ·exact o.elim
   ·exact o.elim
 ·exact o.elim
end MI
namespace L2
open PySem PySem.Spec PyProof.Rows
def ixI(n:Int):List Int->Option Nat
 | []=>none
 | a::l=>if a=n then some 0 else (ixI n l).map (·+1)
theorem afo:∀ {l:List Int} {j:Nat},ixI n l=some j->l[j]? = some n/\∀ i,i<j->l[i]?≠some n
 | [],_,h=>by cases h
 | a::l,j,h=>by
  unfold ixI at h
  split at h
  ·rename_i e;cases h
   exact ⟨by rw [e];rfl,λi hi=>absurd hi (cB i)⟩
  ·rename_i e;obtain ⟨k,hk,rfl⟩:=aO.mp h;obtain ⟨h1,h2⟩:=afo hk;refine ⟨h1,λi hi=>?_⟩
   cases i with
   | zero=>intro z;exact e (bM z)
   | succ i=>exact h2 i (fk hi)
theorem afp:∀ {l:List Int},n∈l->∃ j,ixI n l=some j
 | [],h=>by cases h
 | a::l,h=>by
  unfold ixI
  split
  ·exact ⟨0,rfl⟩
  ·rename_i e
   rcases aD.mp h with h | h
   ·exact absurd h.symm e
   ·obtain ⟨j,hj⟩:=afp h;exact ⟨j+1,by rw [hj];rfl⟩
def eqI(n:Int):Value->Bool
 | .int a _=>a == n
 | _=>false
def ajp(K:PySem.W.Frag):V->List V->Hp->VK->Prop:=λx vs H Q=>∃ (l:Addr) (ns:List Int) (n:Int) (j:Nat),x = .ref l/\vs=[.int n]/\SqL K H l (ns.map V.int)/\ixI n ns=some j/\Q (.int (j:Nat)) H
theorem ajq:MtR X "list.index" (ajp X.K):=by
 intro pins s σ H x vs v us Q I rx rv h
 obtain ⟨l,ns,n,j,rfl,rfl,hq,hj,q⟩:=h;cases rx
 obtain ⟨u,rfl,ru⟩:=rv.one;obtain ⟨t,rfl⟩:=ru;obtain ⟨its,r,⟨⟨cls,dict,data,slots⟩,m,e1,e2,e3,e4⟩,hz⟩:=I.list hq;have e2:cls = .type "list":=e2;have e3:dict=none:=e3;have e4:data = .seq its.toArray m:=e4;subst e2 e3 e4;have hl:its.length=ns.length:=by have:=r.length;simp at this;omega
 have each:∀ i (h:i<its.length),∃ a t,its[i] = .int a t/\ns[i]? = some a:=λi h=>by
  obtain ⟨y,h1,h2⟩:=r.get (show (ns.map V.int)[i]? = some (V.int (ns[i]'(by omega))) by rw [aE,af (by omega)];rfl)
  obtain ⟨t,rfl⟩:=h2;exact ⟨_,t,(ah.mp h1).2,af _⟩
 obtain ⟨p1,p2⟩:=afo hj;have jl:j<ns.length:=(ah.mp p1).1;rw [aA] at hz;rw [dS] at hz;refine fv F.slot_list_index ⟨_,e1,rfl⟩ F.entry_list_index (F.args_list_index_2 _ _)
  (SeqAt.list_indexAt l its.toArray m none slots (.int n t) (eqI n) j (by simp;omega) (by omega) ?_ ?_) ⟨e1,λy hy=>?_, .int (j:Nat),H,I.tok _,⟨_,rfl⟩,q⟩
 ·obtain ⟨a,t,h1,h2⟩:=each j (by omega)
  rw [p1] at h2;cases h2
  rw [List.getElem_toArray,h1];exact fG _
 ·intro i hi hij
  obtain ⟨a,t,h1,h2⟩:=each i (by simpa using hi)
  rw [List.getElem_toArray,h1];exact cG.mpr λz=>p2 i hij (by rw [h2,z])
 ·obtain ⟨i,hi,rfl⟩:=eR (List.mem_toArray.mp hy);obtain ⟨a,t',h1,_⟩:=each i hi;rw [h1];exact SeqAt.EqAt.int_int a t' n t
end L2
namespace MI
open PySem PySem.Spec L2
def a8b(d:D)(ds:List D)(h:Hd):R D:=match a9j d h,ds with
 | some ns,[.int n]=>(match ixI n ns with | some j=>.ok (.int (j:Nat)) h | none=>.no)
 | _,_=>.no
theorem ah1:asa K a8b (ajp K):=by
 intro E ι H h x dx xs ds Q rx r hr o
 unfold a8b at o
 split at o
 ·rename_i ns n e
  cases r with
  | cons r rs =>
   cases r;cases rs
   split at o
   ·rename_i j hj;obtain ⟨p,rfl,q⟩:=acs rx hr e;exact ⟨p,ns,n,j,rfl,rfl,q,hj,ans o (.int _) hr⟩
   ·exact o.elim
 ·exact o.elim
def am5:D->Option Key
 | .int i=>some (.inl i)
 | .str x=>some (.inr x)
 | _=>none
def auz:D->Option (List Key)
 | .tup xs=>a3c am5 xs
 | _=>none
def a8c{κ:Type}[DecidableEq κ](kvs:List (κ × D))(k:κ):Option D:=(kvs.find? λkv=>decide (kv.1=k)).map (·.2)
def putD{κ:Type}[DecidableEq κ](kvs:List (κ × D))(k:κ)(d:D):List (κ × D):=if (kvs.any λkv=>decide (kv.1=k))=true then kvs.map λkv=>if kv.1=k then (kv.1,d) else kv else kvs++[(k,d)]
section
variable{K:PySem.W.Frag}{ι:List Addr}{H:Hp}{h:Hd}
theorem aas{v:V}{d:D}{k:Key}(r:Rep K ι H v d)(e:am5 d=some k):v=kV k:=by
 cases r with
 | int i=>cases e;rfl
 | str x=>cases e;rfl
 | _=>cases e
theorem afq:∀ {vs:List V} {ds:List D} {ks:List Key},Reps K ι H vs ds->a3c am5 ds=some ks->vs=ks.map kV
 | _,_,_, .nil,e=>by cases e;rfl
 | _,d::ds,_, .cons r rs,e=>by
  unfold a3c at e
  split at e
  ·rename_i y ys h1 h2;cases e
   rw [aas r h1,afq rs h2];rfl
  ·cases e
theorem ajr{v:V}{d:D}{ks:List Key}(r:Rep K ι H v d)(e:auz d=some ks):∃ b,v = .ref b/\H b=some (.tup (ks.map kV)):=by
 cases r with
 | @tup a vs xs hp rs=>exact ⟨a,rfl,by rw [<-afq rs e];exact hp⟩
 | _=>cases e
theorem aat{κ:Type}[DecidableEq κ](k:κ):∀ {us:List (κ × V)} {kvs:List (κ × D)},KRep K ι H us kvs->match a8c kvs k with | some d=>∃ v,af0 us k=some v/\Rep K ι H v d | none=>af0 us k=none
 | [],[],_=>rfl
 | [],_::_,r=>by have:=av List.length r.1;simp at this
 | _::_,[],r=>by have:=av List.length r.1;simp at this
 | (a,v)::us,(b,d)::kvs,r=>by
  obtain ⟨e,rs⟩:=r;simp only [aZ,List.cons.injEq] at e;obtain ⟨e1,e2⟩:=e;subst e1
  cases rs with
  | cons r1 rs =>
   by_cases hk:a=k
   ·simp only [a8c,af0,cW,hk,decide_true,i4];exact ⟨v,rfl,r1⟩
   ·have ih:=aat k (us:=us) (kvs:=kvs) ⟨e2,rs⟩;simp only [a8c,af0,cW,hk,i5] at ih ⊢;exact ih
theorem afr{κ:Type}[DecidableEq κ]{us:List (κ × V)}{kvs:List (κ × D)}(k:κ){v:V}{d:D}(r:KRep K ι H us kvs)(rv:Rep K ι H v d):KRep K ι H (putK us k v) (putD kvs k d):=by
 have anyEq:∀ {us:List (κ × V)} {kvs:List (κ × D)},us.map (·.1)=kvs.map (·.1)->(us.any λkv=>decide (kv.1=k))=(kvs.any λkv=>decide (kv.1=k)):=λ{us kvs} e=>by
  have h1:(us.any λkv=>decide (kv.1=k))=(us.map (·.1)).any λa=>decide (a=k):=by rw [gi];rfl
  have h2:(kvs.any λkv=>decide (kv.1=k))=(kvs.map (·.1)).any λa=>decide (a=k):=by rw [gi];rfl
  rw [h1,h2,e]
 have rmap:∀ {us:List (κ × V)} {kvs:List (κ × D)},KRep K ι H us kvs->KRep K ι H (us.map λkv=>if kv.1=k then (kv.1,v) else kv) (kvs.map λkv=>if kv.1=k then (kv.1,d) else kv):=λ{us}=>by
  induction us with
  | nil=>intro kvs r;cases kvs with
   | nil=>exact ⟨rfl, .nil⟩
   | cons _ _=>have:=av List.length r.1;simp at this
  | cons a us ih=>intro kvs r;cases kvs with
   | nil=>have:=av List.length r.1;simp at this
   | cons b kvs =>
    obtain ⟨e,rs⟩:=r;simp only [aZ,List.cons.injEq] at e;obtain ⟨e1,e2⟩:=e
    cases rs with
    | cons r1 rs =>
     obtain ⟨i1,i2⟩:=ih ⟨e2,rs⟩;obtain ⟨a1,a2⟩:=a;obtain ⟨b1,b2⟩:=b;simp only at e1;subst e1
     by_cases hk:a1=k
     ·simp only [aZ,hk,dv];exact ⟨by simp only [aZ,i1], .cons rv i2⟩
     ·simp only [aZ,hk,dP];exact ⟨by simp only [aZ,i1], .cons r1 i2⟩
 have ae:=anyEq r.1;unfold putK putD;rw [ae]
 split
 ·exact rmap r
 ·exact ⟨by simp [r.1],by simpa using r.2.snoc rv⟩
def axb(x y:D)(h:Hd):Option (Option D):=match x with
 | .ref i=>(match h[i]? with
  | some (.dK kvs)=>(am5 y).map λk=>a8c kvs k
  | some (.dT kvs)=>(auz y).map λk=>a8c kvs k
  | _=>none)
 | .rod ks xs=>(am5 y).map λk=>a8c (ks.zip xs) k
 | .rdT ks xs=>(auz y).map λk=>a8c (ks.zip xs) k
 | _=>none
def b1a(K:PySem.W.Frag)(ι:List Addr)(H:Hp)(a:Addr)(y:V):Option D->Prop
 | some d=>∃ v,arf H a y (some v)/\Rep K ι H v d
 | none=>arf H a y none
theorem ajs{κ:Type}{us:List (κ × V)}{ks:List κ}{xs:List D}(e:us.map (·.1)=ks)(r:Reps K ι H (us.map (·.2)) xs):KRep K ι H us (ks.zip xs):=aaq e r
theorem ajt(rx:Rep K ι H x dx)(ry:Rep K ι H y dy)(hr:HRep K ι H h)(e:axb dx dy h=some r):∃ a,x = .ref a/\b1a K ι H a y r:=by
 have goK:∀ {a:Addr} {us:List (Key × V)} {kvs:List (Key × D)},Rd H a (.dK us)->KRep K ι H us kvs->(am5 dy).map (λk=>a8c kvs k)=some r->b1a K ι H a y r:=λ{a us kvs} rd kr e=>by
  simp only [aO] at e;obtain ⟨k,ek,rfl⟩:=e;have ey:=aas ry ek;have q:=aat k kr
  cases hv:a8c kvs k with
  | none=>rw [hv] at q;exact .inl ⟨us,k,rd,ey,q.symm⟩
  | some d=>rw [hv] at q;obtain ⟨v,q1,q2⟩:=q;exact ⟨v, .inl ⟨us,k,rd,ey,q1.symm⟩,q2⟩
 have goT:∀ {a:Addr} {us:List (List Key × V)} {kvs:List (List Key × D)},Rd H a (.dT us)->KRep K ι H us kvs->(auz dy).map (λk=>a8c kvs k)=some r->b1a K ι H a y r:=λ{a us kvs} rd kr e=>by
  simp only [aO] at e;obtain ⟨k,ek,rfl⟩:=e;obtain ⟨b,ey,eb⟩:=ajr ry ek;have q:=aat k kr
  cases hv:a8c kvs k with
  | none=>rw [hv] at q;exact .inr ⟨us,k,b,rd,ey,eb,q.symm⟩
  | some d=>rw [hv] at q;obtain ⟨v,q1,q2⟩:=q;exact ⟨v, .inr ⟨us,k,b,rd,ey,eb,q1.symm⟩,q2⟩
 cases rx with
 | @ref a i ha =>
  obtain ⟨ob,e1,e2⟩:=hr.at ha;simp only [axb,e1] at e
  cases ob with
  | lst _=>cases e
  | dK kvs=>obtain ⟨us,h3,h4⟩:=e2;exact ⟨a,rfl,goK (.inl h3) h4 e⟩
  | dT kvs=>obtain ⟨us,h3,h4⟩:=e2;exact ⟨a,rfl,goT (.inl h3) h4 e⟩
 | @rod a o us ks xs hp ek rs=>exact ⟨a,rfl,goK (.inr ⟨o,hp⟩) (ajs ek rs) e⟩
 | @rdT a o us ks xs hp ek rs=>exact ⟨a,rfl,goT (.inr ⟨o,hp⟩) (ajs ek rs) e⟩
 | _=>cases e
def aju(x y:D)(h:Hd):R D:=match axb x y h with
 | some (some d)=>.ok d h
 | _=>.no
def apv(neg:Bool)(y x:D)(h:Hd):R D:=match axb x y h with
 | some r=>.ok (.bl (if neg then !r.isSome else r.isSome)) h
 | none=>.no
def ajv:R2:=λy x H Q=>∃ a o,x = .ref a/\arf H a y o/\Q (.bl (!o.isSome)) H
theorem u1{A:Around}(hu:A.units+64<cLine):A.units+1<cLine:=by omega
theorem acu{X:Cx}(hu:X.A.units+64<cLine):OpR X (compareOp .NotIn) ajv:=λpins s σ H y x v u Q I ry rx ⟨a,o,ex,g,q⟩=>by
 subst ex;obtain rfl:u=Value.ref a:=rx;exact arh (u1 hu) I g ry λs3 I3=>⟨.bl (!o.isSome),H,I3,rfl,q⟩
theorem a9l:a5m K (apv true) ajv:=by
 intro E ι H h y x dy dx Q ry rx hr o
 unfold apv at o
 split at o
 ·rename_i r e;obtain ⟨a,rfl,q⟩:=ajt rx ry hr e
  cases r with
  | none=>exact ⟨a,none,rfl,q,ans o (.bl _) hr⟩
  | some d=>obtain ⟨v,q,_⟩:=q;exact ⟨a,some v,rfl,q,ans o (.bl _) hr⟩
 ·exact o.elim
variable{X:Cx}{E:XD}{a b e o i:Expr}{fa fb fc:SE}{pos:Pos}
theorem asw(hu:X.A.units+64<cLine)(ha:ME X E a fa)(hb:ME X E b fb)(hs:b0n b):ME X E (.Subscript a b pos) (s2 aju fa fb):=by
 refine PE.weak (arj (u1 hu) ha hb hs) λσ H Q ⟨ι,τ,h,S,Rh,o⟩=>?_;refine ⟨ι,τ,h,S,Rh,ig o λd h1 ι1 H1 v g1 r1 hr1 o1=>?_⟩;refine ⟨ι1,τ,h1,S.mono g1,hr1,ig o1 λd2 h2 ι2 H2 u g2 r2 hr2 o2=>?_⟩;unfold aju at o2
 split at o2
 ·rename_i dd e;obtain ⟨p,rfl,w,q1,q2⟩:=ajt (r1.mono g2) r2 hr2 e;exact ⟨p,w,rfl,q1,ans o2 q2 hr2⟩
 ·exact o2.elim
def asx(o k v:D)(h:Hd):Option Hd:=match o with
 | .ref i=>(match h[i]? with
  | some (.dK kvs)=>(match am5 k with | some kk=>if kvs.length<LINE then some (h.set i (.dK (putD kvs kk v))) else none | none=>none)
  | some (.dT kvs)=>(match auz k with | some kk=>if kvs.length<LINE then some (h.set i (.dT (putD kvs kk v))) else none | none=>none)
  | _=>none)
 | _=>none
def a94(fe fo fi:SE):SS:=λτ h=>(fe τ h).fl λv h1=>(fo τ h1).fl λo h2=>(fi τ h2).fl λk h3=>match asx o k v h3 with | some h4=>.nx τ h4 | none=>.no
theorem KRep.mono{κ:Type}{ι':List Addr}{H':Hp}{us:List (κ × V)}{kvs:List (κ × D)}(g:Gr ι H ι' H')(r:KRep K ι H us kvs):KRep K ι' H' us kvs:=⟨r.1,r.2.mono g⟩
theorem anf{h':Hd}{o k v:V}{od kd vd:D}{Q:Hp->Prop}(r1:Rep K ι H o od)(r2:Rep K ι H k kd)(r3:Rep K ι H v vd)(hr:HRep K ι H h)(e:asx od kd vd h=some h')(q:∀ H',Gr ι H ι H'->HRep K ι H' h'->Q H') :
  ∃ a H4,o = .ref a/\b0m H a k v H4/\Q H4:=by
 cases r1 with
 | @ref a i ha =>
  obtain ⟨ob,h1,h2⟩:=hr.at ha;simp only [asx,h1] at e
  cases ob with
  | lst _=>cases e
  | dK kvs =>
   obtain ⟨us,h3,h4⟩:=h2
   cases hk:am5 kd with
   | none=>simp only [hk] at e;cases e
   | some kk =>
    simp only [hk] at e
    split at e
    ·rename_i hl;cases e
     have lu:us.length=kvs.length:=by simpa using av List.length h4.1
     exact ⟨a,_,rfl, .inl ⟨us,kk,h3,aas r2 hk,by rw [aro,lu];exact hl,rfl⟩,q _ (a4t hr ha _) (hr.put ha ⟨_,qd,(afr kk h4 r3).mono (a4t hr ha _)⟩)⟩
    ·cases e
  | dT kvs =>
   obtain ⟨us,h3,h4⟩:=h2
   cases hk:auz kd with
   | none=>simp only [hk] at e;cases e
   | some kk =>
    simp only [hk] at e
    split at e
    ·rename_i hl;cases e
     have lu:us.length=kvs.length:=by simpa using av List.length h4.1
     obtain ⟨b,eb,tb⟩:=ajr r2 hk;exact ⟨a,_,rfl, .inr ⟨us,kk,b,h3,eb,tb,by rw [aro,lu];exact hl,rfl⟩,q _ (a4t hr ha _) (hr.put ha ⟨_,qd,(afr kk h4 r3).mono (a4t hr ha _)⟩)⟩
    ·cases e
 | _=>cases e
theorem ajw(hu:X.A.units+64<cLine)(he:ME X E e fa)(ho:ME X E o fb)(hi:ME X E i fc)(hs:swapsWith e (some (.Subscript o i pos')) pos.line X.env=pure false:=by rfl):MS X E (.Assign [.Subscript o i pos'] e pos) (a94 fa fb fc):=by
 refine PS.weak (ark (u1 hu) ho hi he hs) λN σ H ⟨ι,τ,h,S,Rh,oo⟩=>?_;refine ⟨ι,τ,h,S,Rh,vh oo λd h1 ι1 H1 v g1 r1 hr1 o1=>?_⟩;refine ⟨ι1,τ,h1,S.mono g1,hr1,vh o1 λd2 h2 ι2 H2 u g2 r2 hr2 o2=>?_⟩;refine ⟨ι2,τ,h2,(S.mono g1).mono g2,hr2,vh o2 λd3 h3 ι3 H3 w g3 r3 hr3 o3=>?_⟩
 cases hp:asx d2 d3 d h3 with
 | none=>rw [hp] at o3;exact o3.elim
 | some h4 =>
  rw [hp] at o3;exact anf (r2.mono g3) r3 ((r1.mono g2).mono g3) hr3 hp λH' g4 hr4=>o3 ι3 H' σ g4 ((((S.mono g1).mono g2).mono g3).mono g4) hr4
def gD1(x y:D)(h:Hd):R D:=match am5 x with
 | some k=>.ok (.ref h.length) (h++[.dK [(k,y)]])
 | none=>.no
theorem ajx{p:Addr}{o:HO}{ob:O}(hr:HRep K ι H h)(pn:p ∉ ι)(gw:Gw ι H (ι++[p]) (upd H p o))(q:ORep K (ι++[p]) (upd H p o) p ob):HRep K (ι++[p]) (upd H p o) (h++[ob]):=by
 refine ⟨bY.mpr ⟨hr.nd,by simp,λa ha b hb z=>pn (by rw [ai.mp hb] at z;rw [<-z];exact ha)⟩,by simp [hr.len],λj a o' q1 q2=>?_⟩
 by_cases hj:j<ι.length
 ·rw [aC hj] at q1;rw [aC (by rw [<-hr.len];exact hj)] at q2
  exact (hr.obj j a o' q1 q2).monoW gw (jj λz=>pn (by rw [<-z];exact aM q1))
 ·have hj2:j<(ι++[p]).length:=(ah.mp q1).1;have:j=ι.length:=by simp at hj2;omega
  subst this;rw [aF (ax _)] at q1;rw [hr.len,aF (ax _)] at q2;simp at q1 q2;subst q1 q2;exact q
theorem b1b(ha:ME X E a fa)(hb:ME X E b fb):ME X E (.Dict [some a] [b] pos) (s2 gD1 fa fb):=by
 refine PE.weak (arn (amq ha hb arl) rfl rfl (by simp) (by simp)) λσ H Q ⟨ι,τ,h,S,Rh,o⟩ p hp=>?_
 have pn:p ∉ ι:=Rh.notin hp;have g0:Gr ι H ι (upd H p (.dK [])):=a0w hp _;unfold s2 at o;refine ⟨ι,τ,h,S.mono g0,Rh.aside hp _,?_⟩
 cases hfa:fa τ h with
 | no=>rw [hfa] at o;exact o.elim
 | ex c hx=>rw [hfa] at o;exact a0x (Rp:=a0a X.K) (r:=.ex c hx) (Q:=Q) o g0
 | ok d h1 =>
  rw [hfa] at o
  intro ι1 H1 v g1 r1 hr1
  refine ⟨ι1,τ,h1,(S.mono g0).mono g1,hr1,?_⟩;simp only [R.bind] at o
  cases hfb:fb τ h1 with
  | no=>rw [hfb] at o;exact o.elim
  | ex c hx=>rw [hfb] at o;exact a0x (Rp:=a0a X.K) (r:=.ex c hx) (Q:=Q) o (g0.trans g1)
  | ok d2 h2 =>
   rw [hfb] at o
   intro ι2 H2 u g2 r2 hr2
   have g12:=g1.trans g2;have e2:H2 p=some (.dK []):=g12.oth p _ qd pn;simp only [gD1] at o
   cases hk:am5 d with
   | none=>rw [hk] at o;exact o.elim
   | some k =>
    rw [hk] at o;refine ⟨e2,[(k,u)],?_,by simp,?_⟩
    ·rw [aas (r1.mono g2) hk];rfl
    ·obtain ⟨m,em,hm⟩:=g12.pre;have nm:∀ c∈m,c≠p/\H c=none:=λc hc=>by
      have q:=hm c hc
      by_cases z:c=p
      ·subst z;rw [qd] at q;cases q
      ·rw [jj z] at q;exact ⟨z,q⟩
     have pn2:p ∉ ι2:=λz=>by
      rw [em] at z
      rcases aS.mp z with z | z
      ·exact pn z
      ·exact (nm p z).1 rfl
     have ne:∀ {c u'},H c=some u'->c≠p:=λe=>jf e hp;have up:∀ {c u'},H c=some u'->(upd H p (.dK [])) c=some u':=λe=>by rw [jj (ne e)];exact e
     have gw:Gw ι2 H2 (ι2++[p]) (upd H2 p (.dK [(k,u)])):=⟨⟨[p],rfl⟩,λc vs e=>by rw [jj (λz=>by subst z;rw [e2] at e;cases e)];exact e,λc o u' e=>by rw [jj (λz=>by subst z;rw [e2] at e;cases e)];exact e⟩
     have G:Gr ι H (ι2++[p]) (upd H2 p (.dK [(k,u)])):=by
      refine ⟨⟨m++[p],by rw [em];simp,λc hc=>?_⟩,λc vs e=>?_,λc o u' e=>?_,λc u' e hn=>?_,λc u' e=>?_⟩
      ·rcases aS.mp hc with hc | hc
       ·exact (nm c hc).2
       ·rw [ai.mp hc];exact hp
      ·rw [jj (ne e)];exact g12.tup _ _ (up e)
      ·rw [jj (ne e)];exact g12.frz _ _ _ (up e)
      ·rw [jj (ne e)];exact g12.oth _ _ (up e) hn
      ·obtain ⟨w,q⟩:=g12.kp _ _ (up e);exact ⟨w,by rw [jj (ne e)];exact q⟩
     refine o (ι2++[p]) _ (.ref p) G (.ref (by rw [aF (by rw [hr2.len];exact ax _),hr2.len];simp)) (ajx hr2 pn2 gw ⟨_,qd,rfl, .cons (r2.monoW gw) .nil⟩)
end
end MI
namespace ZP
open PySem PySem.Spec PySem.Builtin PySem.Builtin.SmallTypes L2
def a77(it:Addr):Obj:={ cls:=.type "enumerate",data:=.fields #[.none, .bool false, .ref it,rawInt 0, .none, .none] }
theorem ajy(t:Tok)(k:Srk)(us:List Value):Meets (Builtin.«enumerate.__new__» ⟨[.type "enumerate",val t k],[]⟩)
  (λ_ R s=>cont s.heap k us/\R (.ok (.ret (.ref (s.heap.objs.size+1)))) { s with heap:=(s.heap.push (iob t k)).push (a77 s.heap.objs.size) }) :=
 .of_wp λprog w A R s h=>by
  obtain ⟨hp,g,d,tk,os⟩:=s;obtain ⟨c,h⟩:=h;have sub:=sub_enumerate;have c':cont (Shared.heap ⟨hp,g,d,tk,os⟩) k us:=c;have fin:R (.ok (.ret (.ref (hp.push (iob t k)).objs.size))) { heap:=(hp.push (iob t k)).push (a77 hp.objs.size),gens:=g,drawn:=d,toks:=tk,os:=os }:=by simpa [cC] using h
  wp_walk
  refine wpAny_stack_any λst=>aB ?_
  split
  ·rename_i cl _ _ _ _ _
   cases (cl == Value.type "enumerate")
   ·wp_walk using a5s (t:=t) c'
    exact ⟨_,rfl,fin⟩
   ·wp_walk using a5s (t:=t) c'
    exact ⟨_,rfl,fin⟩
  ·wp_walk using a5s (t:=t) c'
   exact ⟨_,rfl,fin⟩
def ItE(k:Srk):It where
 go:=λi H=>∃ xs x,its H k=some xs/\xs[i]? = some x
 yld:=λi H v H'=>∃ xs x p,its H k=some xs/\xs[i]? = some x/\H p=none/\v = .ref p/\H'=upd H p (.tup [.int i,x])
 stop:=λi H=>∃ xs,its H k=some xs/\i=xs.length
def tnE(e it:Addr)(t:Tok)(k:Srk)(i:Nat)(h:Heap):Prop:=(∃ old,IsEnum h e it i old)/\own it t k i h
theorem ajz(ne:e≠it):Turn P w K (.Tuple elts x1 pos) (ItE k) [e,it] e (tnE e it t k) where
 mem:=by simp
 obj:=λi h st b hb=>by
  obtain ⟨⟨old,h1⟩,h4⟩:=st;simp only [aD,aN,bT] at hb
  rcases hb with rfl | rfl
  ·exact ⟨_,h1,λv z=>(by cases z)⟩
  ·exact a6o h4
 keep:=λi h h' st kk=>by
  obtain ⟨⟨old,h1⟩,h4⟩:=st;exact ⟨⟨old,kk e (by simp) _ h1⟩,a4e h4 λob q=>kk it (by simp) ob q⟩
 item:=by
  intro X hP hw hK hc i pins s σ H E I hf st hg
  subst hP hw hK;obtain ⟨xs,x,e1,g1⟩:=hg;obtain ⟨⟨old,h1⟩,h4⟩:=st;have n:∀ c∈[e,it],H c=none:=λc hc=>(hf c hc).1;obtain ⟨cs,P1,S1,D1,a1,b1,c1,d1⟩:=a6p I (t:=t) e1 (n it (by simp))
  have hd:=I.ok.hd hc;have ef:e ∉ it::cs:=by
   intro z
   rcases aD.mp z with z | z
   ·exact ne z
   ·exact c1 e z (n e (by simp))
  refine wpAny_pyNext_enum_itemD (D1 X.A.in1 hd) h1 (a1 i h4) (ah.mp g1).1 ne ef λu h' tk pu eo s1' pr sz kp=>?_;obtain ⟨x',q1,r1⟩:=d1 i u pu;rw [g1] at q1;cases q1
  refine ⟨_,rfl,wpAny_letOwnedTupleGo_enum eo λh2' z2' sb=>?_⟩;have hp:H s.heap.objs.size=none:=I.hok.fresh (ax _);have lt:∀ c∈[e,it],c<s.heap.objs.size:=λc hc=>by
   simp only [aD,aN,bT] at hc
   rcases hc with rfl | rfl
   ·exact aH h1
   ·obtain ⟨_,q,_⟩:=a6o h4;exact aH q
  have nT:∀ c∈[e,it],c≠s.heap.objs.size:=λc hc=>bp (lt c hc);have all:∀ c o,c ∉ [e,it]->s.heap.get? c=some o->h2'.get? c=some o:=λc o nc q=>by
   simp only [aD,aN,bT,not_or] at nc;exact (sb.2 c nc.1).trans (kp c o nc.1 nc.2 q)
  have I0:Inv X pins σ (upd H s.heap.objs.size (.tup [.int i,x])) { s with heap:=s.heap.push { cls:=.type "tuple",data:=.seq #[.int i tk,u] } } :=
   I.laid (t':=s.toks) (o:=.tup [.int i,x]) (λb o q=>am _ q) (ax _) ⟨by show 2<=sizeLine;decide,[.int i tk,u], .cons ⟨tk,rfl⟩ (.cons r1 .nil),⟨_,aJ _ rfl,rfl,_,rfl⟩⟩
  have I1:Inv X pins σ (upd H s.heap.objs.size (.tup [.int i,x])) { s with heap:=h2',toks:=tk+1 }:=by
   refine aao (s:={ s with heap:=s.heap.push { cls:=.type "tuple",data:=.seq #[.int i tk,u] } }) (ch:=[e,it]) I0 (λb hb=>?_) λc o nc q=>?_
   ·obtain ⟨f0,f1⟩:=hf b hb;exact ⟨by rw [jj (nT b hb)];exact f0,f1⟩
   ·rcases Heap.get?_push_cases q with ⟨rfl,rfl⟩ | q
    ·exact (sb.2 _ (nT e (by simp)).symm).trans pr
    ·exact all c o nc q
  refine ⟨.ref s.heap.objs.size,_,I1,rfl,⟨xs,x,_,e1,g1,hp,rfl,rfl⟩,⟨⟨u,by simpa using z2'⟩,a4e (b1 _ _ s1') λob q=>(sb.2 _ ne.symm).trans q⟩,λb hb=>?_⟩
  rw [jj (nT b hb)];exact n b hb
 done:=by
  intro X hP hw hK hc i pins s σ H E I hf st hg
  subst hP hw hK;obtain ⟨xs,e1,rfl⟩:=hg;obtain ⟨⟨old,h1⟩,h4⟩:=st;have n:∀ c∈[e,it],H c=none:=λc hc=>(hf c hc).1;obtain ⟨cs,P1,S1,D1,a1,b1,c1,d1⟩:=a6p I (t:=t) e1 (n it (by simp))
  have hd:=I.ok.hd hc;refine wpAny_pyNext_enum_endD (D1 X.A.in1 hd) h1 (a1 _ h4) λh' ex=>⟨rfl,aao (t':=s.toks) I hf λc o nc q=>?_⟩;simp only [aD,aN,bT,not_or] at nc;exact ex c o nc.2 q
 self:=λ_ _ _ _ _ st h=>by
  obtain ⟨⟨old,h1⟩,_⟩:=st;exact wpAny_pyIter_enum h1 h
section
variable{X:Cx}{elts:List Expr}{x1:Nat}{tpos:Pos}
def b1c(ta:TA):TI:=λσ H R=>ta σ H λvs H1=>∃ k xs,vs=[Srk.v k]/\its H1 k=some xs/\R (ItE k) H1
theorem asy(hg:Gl X "enumerate")(hm:X.mg "enumerate" = none)(ha:PA X [e1] ta)
  (h1:starEach [e1] X.env=[(false,eval e1 X.env)]:=by rfl):PI X (.Tuple elts x1 tpos) (.Call (.Name "enumerate" p) [e1] [] pos) (b1c ta):=by
 intro pins s σ H R I h
 refine dB (a5h I hg hm PyProof.Rows.boot_enumerate ?_ (by decide) (by decide))
 refine bV (thn (ha pos pins s σ H _ I h) λus s1 ⟨vs,H1,I1,r1,q1⟩=>?_) (by rw [h1];rfl) (by rfl)
 obtain ⟨k,xs,rfl,e1,q⟩:=q1;obtain ⟨v1,rfl,rv1⟩:=vals1 r1;obtain ⟨t,rfl⟩:=aje rv1;obtain ⟨us1,c1,_⟩:=a89 I1 e1;refine callType_new F.called_enumerate (by decide) (F.typeCall_enumerate_1 _) (F.newCall_enumerate_1 _) (λobj=>F.args_object_init_2 obj _) F.entry_enumerate_new (ajy t k us1) ⟨c1,?_⟩
 have at0:((s1.heap.push (iob t k)).push (a77 s1.heap.objs.size)).get? s1.heap.objs.size=some (iob t k):=am _ (aJ _ (by cases k<;>rfl))
 have at1:IsEnum ((s1.heap.push (iob t k)).push (a77 s1.heap.objs.size)) (s1.heap.objs.size+1) s1.heap.objs.size 0 .none:=by
  have:=aJ (o:=a77 s1.heap.objs.size) (s1.heap.push (iob t k)) rfl
  rw [cC] at this;exact this
 have keepA:∀ b o,s1.heap.get? b=some o->((s1.heap.push (iob t k)).push (a77 s1.heap.objs.size)).get? b=some o:=λb o q=>am _ (am _ q);have I2:Inv X pins σ H1 { s1 with heap:=(s1.heap.push (iob t k)).push (a77 s1.heap.objs.size) }:=I1.kept (t':=s1.toks) keepA
 refine ⟨⟨_,at1,rfl⟩,?_⟩;refine wpAny_pyIter_enum (s:={ s1 with heap:=(s1.heap.push (iob t k)).push (a77 s1.heap.objs.size) }) at1 ?_
 refine ⟨s1.heap.objs.size+1,[s1.heap.objs.size+1,s1.heap.objs.size],tnE _ _ t k,ItE k,H1,rfl,I2,ajz (by intro z;have z:(_:Nat)=_:=z;omega),⟨⟨.none,at1⟩,b0x at0⟩,λb hb=>?_,q⟩
 have:s1.heap.objs.size<=b:=by
  simp only [aD,aN,bT] at hb
  rcases hb with rfl | rfl
  ·exact gU _
  ·exact ax _
 exact I1.fpOk this (I1.hok.fresh this)
end
end ZP
namespace MI
open PySem PySem.Spec L2 ZP
def ak0(x:D)(h:Hd):R Itm:=match srcOf x h with
 | some (xs,c)=>.ok ⟨((List.range xs.length).zip xs).map λp=>.tup [.int (p.1:Nat),p.2],c⟩ h
 | none=>.no
def a8d(f:SE):SI:=λτ h=>(f τ h).bind ak0
theorem ae8(hg:Gl X "enumerate")(hm:X.mg "enumerate" = none)(ha:ME X E e1 f)
  (h1:starEach [e1] X.env=[(false,eval e1 X.env)]:=by rfl):MI X E (.Tuple elts x1 tpos) (.Call (.Name "enumerate" p) [e1] [] pos) (a8d f):=by
 intro pins s σ H Rr I ⟨ι,τ,h,S,Rh,o⟩
 refine asy hg hm (a7s ha aev (by rw [h1];rfl)) h1 pins s σ H Rr I ?_
 refine ⟨ι,τ,h,S,Rh,ig o λd h1 ι1 H1 v g1 r1 hr1 o1=>?_⟩;unfold ak0 at o1
 split at o1
 ·rename_i xs c q1;obtain ⟨k,rfl,kc,kf⟩:=ajf r1 hr1 q1;obtain ⟨vs,w1,w2⟩:=kf ι1 H1 h1 (.refl _ _) hr1 kc;refine ⟨k,vs,rfl,w1,o1 ι1 H1 _ (.refl _ _) ?_ hr1⟩
  intro ι3 H3 h3 g3 hr3 c3
  obtain ⟨us,a1,a2⟩:=kf ι3 H3 h3 g3 hr3 c3;refine ⟨λi d ed=>?_,us,a1,?_⟩
  ·simp only [aE,aO] at ed;obtain ⟨⟨j,y⟩,ez,rfl⟩:=ed;obtain ⟨ex,ey⟩:=cR.mp ez;have hj:j=i:=by
    obtain ⟨_,q⟩:=ah.mp ex;simpa using q.symm
   subst hj;obtain ⟨v2,b3,b4⟩:=a2.get ey;refine ⟨⟨us,v2,a1,b3⟩,λx H' yl=>?_⟩;obtain ⟨xs',x',p,c1,c3,c5,rfl,rfl⟩:=yl;rw [a1] at c1;cases c1
   rw [b3] at c3;cases c3
   exact ⟨a0w c5 _, .tup qd (.cons (.int _) (.cons (b4.mono (a0w c5 _)) .nil)),hr3.aside c5 _⟩
  ·rw [aA,List.length_zip,aT,a2.len];omega
 ·exact o1.elim
end MI
namespace L2
open PySem PySem.Spec PyProof.Rows
end L2
namespace MI
open PySem PySem.Spec L2
end MI
namespace L2
open PySem PySem.Spec PyProof.Rows
def Itd(lo:Int)(n:Nat):It:=⟨λi _=>i<n,λi H x H'=>H'=H/\x = .int (lo - i),λi _=>n<=i⟩
theorem ak1{P:Program}{w:World}{K:PySem.W.Frag}{tg:Expr}(it:Addr)(lo:Int)(n:Nat):Turn P w K tg (Itd lo n) [it] it (λi h=>IsRangeIter h it (lo - (i:Nat)) ((n:Int) - (i:Nat)) (-1)) where
 mem:=by simp
 obj:=λi h st b hb=>by
  cases ai.mp hb
  exact ⟨_,st,λv z=>nomatch (show Data.fields _=Data.cell v from z)⟩
 keep:=λi h h' st k=>k it (by simp) _ st
 item:=by
  intro X hP hw hK hc i pins s σ H E I hf st hg
  subst hP hw hK;obtain ⟨f0,f1,f2,f3,f4,f5⟩:=hf it (by simp)
  have hg:i<n:=hg;refine wpAny_pyNext_range_item st (by omega) λh' st' sb=>?_
  have I1:Inv X pins σ H { s with heap:=h',toks:=s.toks+1 }:=I.turned (λb o hb e=>sb.extBut b o hb e) f0 f1 f3 f4 f5
  have e1:lo - (i:Nat) + -1=lo - ((i+1:Nat):Int):=by omega
  have e2:(n:Int) - (i:Nat) - 1=(n:Int) - ((i+1:Nat):Int):=by omega
  have st2:IsRangeIter h' it (lo - ((i+1:Nat):Int)) ((n:Int) - ((i+1:Nat):Int)) (-1):=by rw [<-e1,<-e2];exact st'
  exact ⟨_,rfl,ai3 (s:={ s with heap:=h',toks:=s.toks+1 }) (n := "range_iterator") st' rfl rfl (by decide) ⟨.int (lo - i),H,I1,⟨_,rfl⟩,⟨rfl,rfl⟩,st2,λb hb=>(hf b hb).1⟩⟩
 done:=by
  intro X hP hw hK hc i pins s σ H E I hf st hg
  subst hP hw hK;obtain ⟨f0,f1,f2,f3,f4,f5⟩:=hf it (by simp)
  exact wpAny_pyNext_range_end (I.ok.hd hc) st (by have:n<=i:=hg;omega) λh' eb=>⟨rfl,I.turned (t':=s.toks) (λb o hb e=>eb b o hb e) f0 f1 f3 f4 f5⟩
 self:=λ_ _ _ _ _ st h=>fg st h
end L2
namespace MI
open PySem PySem.Spec L2
def ang(lo:Int)(n:Nat):List D:=(List.range n).map λi=>D.int (lo - (i:Nat))
def axc(ds:List D)(h:Hd):R Itm:=match ds with
 | [.int i, .int j, .int k]=>if k = -1/\B62 i/\B62 j then .ok ⟨ang i (i - j).toNat,λ_=>True⟩ h else .no
 | _=>.no
theorem axd(lo:Int)(n:Nat):amw K ι0 H0 (Itd lo n) ⟨ang lo n,λ_=>True⟩:=by
 intro ι H h g hr _
 refine ⟨λi d ed=>?_,by show n<=(ang lo n).length;simp [ang]⟩
 simp only [ang,aE,aO] at ed;obtain ⟨j,ej,rfl⟩:=ed;obtain ⟨hj,e⟩:=ah.mp ej;simp at e hj;subst e;refine ⟨hj,λy H' q=>?_⟩;obtain ⟨rfl,rfl⟩:=q;exact ⟨.refl _ _, .int _,hr⟩
theorem axe:bootBuiltins "any" = some (.builtin "any"):=by decide +kernel
theorem ak2:bootBuiltins "sorted" = some (.builtin "sorted"):=by decide +kernel
theorem cu{α β:Type}(a:α)(h:Hd)(k:α->Hd->R β):(R.ok a h).bind k=k a h:=rfl
theorem a1s{α:Type}(a:α)(h:Hd)(k:α->Hd->Fl):(R.ok a h).fl k=k a h:=rfl
def thn(r:Fl)(g:SS):Fl:=match r with | .nx τ h=>g τ h | r=>r
theorem yr(f g:SS)(τ:Sd)(h:Hd):j6 f g τ h=thn (f τ h) g:=by unfold j6 thn;cases f τ h<;>rfl
theorem a1t(τ:Sd)(h:Hd)(g:SS):thn (.nx τ h) g=g τ h:=rfl
theorem acv(d:D)(h:Hd)(g:SS):thn (.rt d h) g = .rt d h:=rfl
def toR(r:Fl):R D:=match r with | .rt d h1=>.ok d h1 | .nx _ h1=>.ok .non h1 | .ex c h1=>.ex c h1 | _=>.no
theorem jd(b:SS)(n:Nat)(ds:List D)(h:Hd):qg b n ds h=toR (b (a84 n ds) h):=by unfold qg toR;cases b (a84 n ds) h<;>rfl
theorem acw(d:D)(h:Hd):toR (.rt d h) = .ok d h:=rfl
theorem afs(τ:Sd)(h:Hd):toR (.nx τ h) = .ok .non h:=rfl
theorem a4h:∀ {xs:List D},clos n xs↔∀ x∈xs,clo n x
 | []=>by simp [clos]
 | x::xs=>by simp [clos,a4h (xs:=xs)]
theorem jk(i:Int):clo n (.int i):=by simp [clo]
theorem m7(i:Str):clo n (.str i):=by simp [clo]
theorem qj(i:Bool):clo n (.bl i):=by simp [clo]
theorem a6u:clo n .non:=by simp [clo]
theorem yt:clos n []:=by simp [clos]
theorem mj(a:clo n x)(b:clos n xs):clos n (x::xs):=by simp only [clos];exact ⟨a,b⟩
theorem u5(h:clos n xs):clo n (.tup xs):=by simpa [clo] using h
theorem wu(h:clos n xs):clo n (.rol xs):=by simpa [clo] using h
theorem jq{α:Type}{n:Nat}{f:α->D}{l:List α}(h:∀ a∈l,clo n (f a)):clos n (l.map f):=by
 rw [a4h]
 intro x hx
 obtain ⟨a,ha,rfl⟩:=bA.mp hx;exact h a ha
mutual
theorem ak3(hm:n<=m):∀ {d:D},clo n d->clo m d
 | .non,_=>by simp [clo]
 | .bl _,_=>by simp [clo]
 | .int _,_=>by simp [clo]
 | .str _,_=>by simp [clo]
 | .ty _,_=>by simp [clo]
 | .tup xs,h=>by simp only [clo] at h ⊢;exact a2d hm h
 | .rol xs,h=>by simp only [clo] at h ⊢;exact a2d hm h
 | .scr xs,h=>by simp only [clo] at h ⊢;exact a2d hm h
 | .rod _ xs,h=>by simp only [clo] at h ⊢;exact a2d hm h
 | .rdT _ xs,h=>by simp only [clo] at h ⊢;exact a2d hm h
 | .exc _,_=>by simp [clo]
 | .ref i,h=>by simp only [clo] at h ⊢;omega
theorem a2d(hm:n<=m):∀ {xs:List D},clos n xs->clos m xs
 | [],_=>by simp [clos]
 | x::xs,h=>by simp only [clos] at h ⊢;exact ⟨ak3 hm h.1,a2d hm h.2⟩
end
theorem ww(hm:n<=m)(h:a6n n o):a6n m o:=by
 cases o with
 | lst xs=>exact a2d hm h
 | dK kvs=>exact a2d hm h
 | dT kvs=>exact a2d hm h
theorem aau{α:Type}{f:α->Option α}:∀ {xs:List α},(∀ x∈xs,f x=some x)->a3c f xs=some xs
 | [],_=>rfl
 | x::xs,h=>by
  unfold a3c;rw [h x aK,aau λy hy=>h y (aG _ hy)]
theorem aav(c:clo n d):a6g n h (k+1) d=some d:=by unfold a6g;rw [aL c]
theorem anh(c:a6n n o):ax5 n h k o=some o:=by unfold ax5;rw [aL c]
theorem aaw{n k i:Nat}{h:Hd}{xs:List D}(hi:n<=i)(e:h[i]? = some (.lst xs))(c:clos n xs):a6g n h (k+2) (.ref i)=some (.rol xs):=by
 unfold a6g;rw [aY (by simp only [clo];omega)]
 simp only [e];rw [aau λx hx=>aav (a4h.mp c x hx)];rfl
theorem ani(e:a3c (a6g n h k) xs=some ys)(nc:¬ clos n xs):a6g n h (k+1) (.tup xs)=some (.tup ys):=by
 unfold a6g;rw [aY (by simpa only [clo] using nc)]
 simp only [e,i4]
theorem aax{n:Nat}{d d':D}{h1:Hd}(e:a6g n h1 FU d=some d')(c:∀ o∈h1.take n,a6n n o):agx n (.ok d h1) = .ok d' (h1.take n):=by
 unfold agx;simp only [e];rw [aau λo ho=>anh (c o ho)]
theorem ju{h1:Hd}(e:clo n d)(c:∀ o∈h1.take n,a6n n o):agx n (.ok d h1) = .ok d (h1.take n):=aax (aav e) c
theorem a0z(hi:n<=i)(e:h1[i]? = some (.lst xs))(cx:clos n xs)(c:∀ o∈h1.take n,a6n n o):agx n (.ok (.ref i) h1) = .ok (.rol xs) (h1.take n):=aax (aaw hi e cx) c
theorem xq(e:f τ h = .ok (.ref h.length) (h++[.lst xs]))(cx:clos h.length xs)(c:∀ o∈h,a6n h.length o):sZ f τ h = .ok (.rol xs) h:=by
 unfold sZ;rw [e,a0z (ax _) (by simp) cx (by simpa using c)]
 simp
def Pu(F:SF)(n:Nat)(ds:List D)(d:D):Prop:=∀ h,kj false n F ds h = .ok d h
def Dr(F:SF)(n:Nat)(ds:List D)(o:O)(d:D)(o':O):Prop:=∀ p h,h[p]? = some o->kj false n F (.ref p::ds) h = .ok d (h.set p o')
theorem a7j:∀ {ds:List D},(∀ d∈ds,clo 0 d)->a5d ds=[]/\a3n 0 ds=ds/\∀ k,a3n k ds=ds
 | [],_=>⟨rfl,rfl,λ_=>rfl⟩
 | d::ds,h=>by
  obtain ⟨a,b,c⟩:=a7j (ds:=ds) λx hx=>h x (aG _ hx);have hd:=h d aK;have nr:refOf d=none:=by cases d<;>first | rfl | (simp only [clo] at hd;omega)
  refine ⟨?_,?_,λk=>?_⟩
  ·simpa [a5d,nr] using a
  ·cases d<;>first | (simp only [clo] at hd;omega) | (simp only [a3n,b])
  ·cases d<;>first | (simp only [clo] at hd;omega) | (simp only [a3n,c])
theorem Pu.of{ds:List D}(hn:ds.length=n)(cd:∀ x∈ds,clo 0 x)(e:F ds []=r)(z:agx 0 r = .ok d [])(c:clo 0 d):Pu F n ds d:=λh=>by
 obtain ⟨p1,p2,_⟩:=a7j cd;unfold kj;rw [aL hn];unfold ax7;rw [p1];simp only [a3c,dW,cb,dP];rw [aL ⟨gC,λx hx=>.inl (cd x hx),λo ho=>by simp at ho⟩,p2,e,z]
 simp [c,yh]
theorem Dr.of{ds:List D}(hn:ds.length+1=n)(cd:∀ x∈ds,clo 0 x)(co:a6n 0 o)(e:F (.ref 0::ds) [o]=r)(z:agx 1 r = .ok d [o'])(c:clo 0 d)(co':a6n 0 o'):Dr F n ds o d o':=λp h hp=>by
 obtain ⟨p1,_,p3⟩:=a7j cd;have e1:a5d (.ref p::ds)=[p]:=by
  have:a5d (.ref p::ds)=p::a5d ds:=rfl
  rw [this,p1]
 have e2:a3n 0 (.ref p::ds) = .ref 0::ds:=by
  have:a3n 0 (.ref p::ds) = .ref 0::a3n 1 ds:=rfl
  rw [this,p3]
 unfold kj;rw [aL (by simpa using hn)]
 unfold ax7;rw [e1];simp only [a3c,hp,ay,cb,dP];have all:∀ x∈(D.ref p::ds),clo 0 x\/isRef x:=λx hx=>by
  rcases aD.mp hx with rfl | hx
  ·exact .inr ⟨p,rfl⟩
  ·exact .inl (cd x hx)
 rw [aL ⟨by simp,all,λu hu=>by rw [ai.mp hu];exact co⟩,e2,e,z]
 simp [c,co',yh]
theorem axf{ds:List D}(hn:ds.length=n)(cd:∀ x∈ds,clo 0 x)(e:F ds [] = .ok (.ref i) h1)(ho:h1[i]? = some o)(co:a6n 0 o)(h:Hd):kj true n F ds h = .ok (.ref h.length) (h++[o]):=by
 obtain ⟨p1,p2,_⟩:=a7j cd;unfold kj;rw [aL hn];unfold ax7;rw [p1];simp only [a3c,dW,dv];rw [aL ⟨gC,λx hx=>.inl (cd x hx),λo ho=>by simp at ho⟩,p2,e]
 unfold auw;simp only [ho];rw [aL ⟨bL _,co,by simp⟩]
 simp [co,yh]
theorem anj(g:SG)(b:SS)(τ:Sd)(h:Hd):forL (λ_=>True) g b [] τ h = .nx τ h:=by rw [forL,aL True.intro]
def trn(r:Fl)(k:Sd->Hd->Fl):Fl:=match r with | .nx τ h=>k τ h | .ct τ h=>k τ h | .bk τ h=>.nx τ h | r=>r
theorem ak4(g:SG)(b:SS)(x:D)(xs:List D)(τ τ1:Sd)(h h1:Hd)(e:g x τ h = .nx τ1 h1):forL (λ_=>True) g b (x::xs) τ h=trn (b τ1 h1) (forL (λ_=>True) g b xs):=by
 rw [forL,aL True.intro,e];dsimp only;unfold trn
 cases b τ1 h1<;>rfl
theorem axg(τ:Sd)(h:Hd)(k:Sd->Hd->Fl):trn (.nx τ h) k=k τ h:=rfl
theorem axh(d:D)(h:Hd)(k:Sd->Hd->Fl):trn (.rt d h) k = .rt d h:=rfl
theorem a4i{g:SG}{b:SS}{α:Type}(f:α->D)(I:List α->Sd->Hd->Prop)(Rt:D->Hd->Prop):∀ (xs pre:List α) (τ:Sd) (h:Hd),
  (∀ pre' x post τ h,pre++xs=pre'++x::post->I pre' τ h->∃ τ1 h1,g (f x) τ h = .nx τ1 h1/\((∃ τ2 h2,b τ1 h1 = .nx τ2 h2/\I (pre'++[x]) τ2 h2)\/∃ d h2,b τ1 h1 = .rt d h2/\Rt d h2))->I pre τ h->
  (∃ τ' h',forL (λ_=>True) g b (xs.map f) τ h = .nx τ' h'/\I (pre++xs) τ' h')\/∃ d h',forL (λ_=>True) g b (xs.map f) τ h = .rt d h'/\Rt d h'
 | [],pre,τ,h,_,i0=>.inl ⟨τ,h,anj ..,by simpa using i0⟩
 | x::xs,pre,τ,h,st,i0=>by
  obtain ⟨τ1,h1,e1,q⟩:=st pre x xs τ h rfl i0;rw [aZ,ak4 _ _ _ _ _ _ _ _ e1]
  rcases q with ⟨τ2,h2,e2,i2⟩ | ⟨d,h2,e2,r⟩
  ·rw [e2,axg];have:=a4i f I Rt xs (pre++[x]) τ2 h2 (λpre' y post τ h e=>st pre' y post τ h (by simpa using e)) i2
   simpa using this
  ·rw [e2,axh];exact .inr ⟨d,h2,rfl,r⟩
theorem qp{g:SG}{b:SS}{α:Type}(f:α->D)(I:List α->Sd->Hd->Prop)(xs:List α)(τ:Sd)(h:Hd)
  (st:∀ pre x post τ h,xs=pre++x::post->I pre τ h->∃ τ1 h1,g (f x) τ h = .nx τ1 h1/\∃ τ2 h2,b τ1 h1 = .nx τ2 h2/\I (pre++[x]) τ2 h2) (i0:I [] τ h) :
  ∃ τ' h',forL (λ_=>True) g b (xs.map f) τ h = .nx τ' h'/\I xs τ' h':=by
 rcases a4i f I (λ_ _=>False) xs [] τ h (λpre' x post τ h e i=>let ⟨τ1,h1,a,b⟩:=st pre' x post τ h e i; ⟨τ1,h1,a, .inl b⟩) i0 with ⟨τ',h',a,b⟩ | ⟨_,_,_,z⟩
 ·exact ⟨τ',h',a,b⟩
 ·exact z.elim
theorem aay{f:D->Hd->R D}{α:Type}(g:α->D)(I:List α->List D->Hd->Prop):∀ (xs pre:List α) (ys:List D) (h:Hd),
  (∀ pre' x post ys h,pre++xs=pre'++x::post->I pre' ys h->∃ y h',f (g x) h = .ok y h'/\I (pre'++[x]) (ys++[y]) h')->I pre ys h->∃ zs h',mapR (λ_=>True) f (xs.map g) h = .ok zs h'/\I (pre++xs) (ys++zs) h'
 | [],pre,ys,h,_,i0=>⟨[],h,by rw [db,mapR,aL True.intro],by simpa using i0⟩
 | x::xs,pre,ys,h,st,i0=>by
  obtain ⟨y,h1,e1,i1⟩:=st pre x xs ys h rfl i0;obtain ⟨zs,h',e2,i2⟩:=aay g I xs (pre++[x]) (ys++[y]) h1 (λpre' z post ys h e=>st pre' z post ys h (by simpa using e)) i1
  refine ⟨y::zs,h',?_,by simpa using i2⟩
  rw [aZ,mapR,aL True.intro,e1];show (mapR _ f (xs.map g) h1).bind _=_;rw [e2];rfl
theorem acx{f:D->Hd->R D}{α:Type}(g F:α->D){h:Hd}:∀ {xs:List α},(∀ x∈xs,f (g x) h = .ok (F x) h)->mapR (λ_=>True) f (xs.map g) h = .ok (xs.map F) h
 | [],_=>by rw [db,mapR,aL True.intro];rfl
 | x::xs,st=>by
  rw [aZ,mapR,aL True.intro,st x aK];show (mapR _ f (xs.map g) h).bind _=_;rw [acx g F λy hy=>st y (aG _ hy)];rfl
theorem acy{f:D->Hd->R (Option D)}{α:Type}(g:α->D)(F:α->Option D){h:Hd}:∀ {xs:List α},(∀ x∈xs,f (g x) h = .ok (F x) h)->am1 (λ_=>True) f (xs.map g) h = .ok (xs.filterMap F) h
 | [],_=>by rw [db,am1,aL True.intro];rfl
 | x::xs,st=>by
  rw [aZ,am1,aL True.intro,st x aK];show (am1 _ f (xs.map g) h).bind _=_;rw [acy g F λy hy=>st y (aG _ hy)];show R.ok ((F x).toList++xs.filterMap F) h=_
  cases e:F x<;>simp [cM,e]
theorem ank(I:Nat->Sd->Hd->Prop)(N:Sd->Hd->Prop)(Rt:D->Hd->Prop)
  (st:∀ m τ h,I m τ h->(∃ h1,c τ h = .ok false h1/\N τ h1)\/∃ h1,c τ h = .ok true h1/\((∃ τ2 h2 m',f τ h1 = .nx τ2 h2/\m'<m/\I m' τ2 h2)\/∃ d h2,f τ h1 = .rt d h2/\Rt d h2)) :
  ∀ (m n:Nat) (τ:Sd) (h:Hd),m<n->I m τ h->(∃ τ' h',sWh c f n τ h = .nx τ' h'/\N τ' h')\/∃ d h',sWh c f n τ h = .rt d h'/\Rt d h':=by
 intro m
 induction m using Nat.strongRecOn with
 | ind m ih =>
  intro n τ h hn i0
  cases n with
  | zero=>omega
  | succ n =>
   rcases st m τ h i0 with ⟨h1,e1,q⟩ | ⟨h1,e1,q⟩
   ·exact .inl ⟨τ,h1,by rw [sWh,e1];rfl,q⟩
   ·rcases q with ⟨τ2,h2,m',e2,lt,i2⟩ | ⟨d,h2,e2,r⟩
    ·have e3:sWh c f (n+1) τ h=sWh c f n τ2 h2:=by
      rw [sWh,e1,a1s,aL rfl,e2]
     rw [e3];exact ih m' lt n τ2 h2 (by omega) i2
    ·refine .inr ⟨d,h2,?_,r⟩;rw [sWh,e1,a1s,aL rfl,e2]
structure KD (P:Program) (w:World) (K:PySem.W.Frag) (a:Addr) (kvs:List (Str × Str)):Prop where
 sys:(a == sysModules)=false
 ex:∃ (o:Obj) (vs:List (Key × Value)),K.lookup a=some o/\KV (kvs.map λp=>((.inr p.1:Key),V.str p.2)) vs/\∀ h:Heap,h.get? a=some o->h.DictOf (uh P w) a vs
section
variable{X:Cx}{E:XD}{e:Expr}{fa:SE}{pos p:Pos}{a:Addr}{kvs:List (Str × Str)}{x:Str}
theorem KD.at(kd:KD X.prog X.w X.K a kvs)(I:Inv X pins σ H s):∃ vs,KV (kvs.map λp=>((.inr p.1:Key),V.str p.2)) vs/\s.heap.DictOf (uh X.prog X.w) a vs:=by
 obtain ⟨o,vs,l,r,d⟩:=kd.ex;exact ⟨vs,r,d _ (I.bk _ _ (I.mod.kin _ _ l))⟩
end
mutual
def toPy:D->Option PyData
 | .non=>some .none
 | .bl b=>some (.bool b)
 | .int i=>some (.int i)
 | .str x=>some (.str x)
 | .tup xs=>(asz xs).map .tuple
 | .rol xs=>(asz xs).map .list
 | .rod [] []=>some (.dict [])
 | _=>none
def asz:List D->Option (List PyData)
 | []=>some []
 | x::xs=>match toPy x,asz xs with | some p,some ps=>some (p::ps) | _,_=>none
end
mutual
def noL:D->Bool
 | .rol _=>false
 | .tup xs=>b2e xs
 | _=>true
def b2e:List D->Bool
 | []=>true
 | x::xs=>noL x && b2e xs
end
open Classical in
theorem a3o:CallR X (.builtin "isinstance") (λxs H Q=>∃ a o us T b,xs=[.ref a, .ty T]/\H a=some (.frz o (.dK us))/\PySem.W.kitOne X.K (.type "dict") (.type T)=some b/\Q (.bl b) H):=by
 intro pins s σ H xs us Q I r h
 obtain ⟨a,o,kv,T,b,rfl,ea,e,q⟩:=h;obtain ⟨u,w',rfl,rx,rt⟩:=vals2 r;cases rt
 obtain rfl:u=Value.ref a:=rx
 obtain ⟨_,_,_,vs,_,p⟩:=(show ObjOk X.prog X.w H s.heap a (.frz o (.dK kv)) from I.hok a _ ea)
 obtain ⟨o',es,ep,h1,h2,_⟩:=p;exact cy gG I.kIn ⟨o',h1,h2.1⟩ e (λz=>nomatch z) λtk=>⟨.bl b,H,I.tok tk,rfl,q⟩
def a8e:List D->Hd->R D
 | [.rod ks xs, .ty T],h=>(match as8 "dict" T with | some b=>.ok (.bl b) h | none=>.no)
 | ds,h=>awv ds h
theorem aaz:af7 K a8e (λxs H Q=>(∃ x T t b,xs=[x, .ty T]/\TyOf K H x t/\PySem.W.kitOne K t (.type T)=some b/\Q (.bl b) H)\/∃ a o us T b,xs=[.ref a, .ty T]/\H a=some (.frz o (.dK us))/\PySem.W.kitOne K (.type "dict") (.type T)=some b/\Q (.bl b) H):=by
 intro E ι H h xs ds Q r hr o
 unfold a8e at o
 split at o
 ·split at o
  ·rename_i b hb
   cases r with
   | cons r1 rs =>
    cases rs with
    | cons r2 rs2 =>
     cases rs2
     cases r2
     cases r1 with
     | rod hp ek rr=>exact .inr ⟨_,_,_,_,b,rfl,hp,aj7 hb,ans o (.bl _) hr⟩
  ·exact o.elim
 ·exact .inl (as9 E ι H h xs _ Q r hr o)
end MI
namespace TPM
open PySem PySem.Spec PySem.W L2 HT MI PyProof.Rows
end TPM
namespace MI
open PySem PySem.Spec L2 TPM
end MI
namespace SRC
open PySem PySem.Spec L2 MI
noncomputable def a0n:SE :=
 (s2 jz (s2 a0b (sC (.int 2)) (sA azj (ak (sV 0) dh))) (sA as6 (ak (s2 gLt (sV 0) (sC (.int 0))) dh)))
noncomputable def a1a:SS :=
 (j6 (m5 1 (sZ (m9 (sIt (sZ (a6s (sV 0) oN (oS (sC (.int 63)))))) t1 a0n [])))
 (qx (sA a6k (ak (sV 1) (ak (sC (.int 0)) (ak (sC (.int 0)) (ak (sC (.int 0)) (ak (s2 a75 (sA awy (ak (sV 1) dh)) (sC (.int 2147483647))) dh))))))))
noncomputable def a4j:SS :=
 (j6 (a4s a1q (sV 0) (sC (.int 3)) (sC (.int 1)))
 (j6 (sIf (a82 (sT (s2 hEq (s2 gIx (sV 0) (sC (.int 2))) (sC (.int 0)))) (sT (s2 gLt (s2 gIx (sV 0) (sC (.int 1))) (sA v6 (ak (s2 gIx (sV 0) (sC (.int 0))) dh)))))
 (j6 (m5 2 (s2 gIx (s2 gIx (sV 0) (sC (.int 0))) (s2 gIx (sV 0) (sC (.int 1)))))
 (j6 (a4s a1q (sV 0) (sC (.int 1)) (sC (.int 1)))
 (sIf (sT (s2 gGe (sV 2) (s2 a93 (sC (.int 10)) (sC (.int 18)))))
 (af8 (sV 2) (sV 0) (sC (.int 2)))
 (af8 (s2 a75 (s2 jz (s2 a0b (s2 gIx (sV 0) (sC (.int 4))) (sC (.int 31))) (sV 2)) (sC (.int 2147483647))) (sV 0) (sC (.int 4))))))
 sNx)
 (j6 (sIf (sT (s2 gGt (s2 gIx (sV 0) (sC (.int 2))) (sC (.int 0))))
 (j6 (m5 3 (s2 a75 (s2 gIx (sV 0) (sC (.int 2))) (sV 1)))
 (j6 (a4s adq (sV 0) (sC (.int 2)) (sV 1))
 (qx (sV 3))))
 sNx)
 (j6 (m5 3 (s2 a75 (s2 a93 (s2 jz (s2 jz (s2 gIx (sV 0) (sC (.int 4))) (sC (.int 1))) (s2 a0b (s2 gIx (sV 0) (sC (.int 3))) (sC (.int 7919)))) (sC (.int 3))) (sC (.int 2147483647))))
 (qx (s2 a75 (s2 adq (s2 a75 (s2 a93 (s2 jz (s2 a0b (sV 3) (sC (.int 48271))) (s2 gIx (sV 0) (sC (.int 3)))) (sC (.int 2))) (sC (.int 2147483629))) (sC (.int 64))) (sV 1)))))))
noncomputable def a0o:SS :=
 (j6 (m5 0 (sC (.str " !\"#$&'()*+,-./0123456789:;<=>?@ABCDEFGHIJKLMNOPQRSTUVWXYZ[\\]^_`")))
 (qx (s2 jz (sV 0) (sC (.str "abcdefghijklmnopqrstuvwxyz{|}~\n")))))
noncomputable def a0p(aj:SF)(du:SF):SS :=
 (j6 (m5 4 (sA (kj false 2 aj) (ak (sV 0) (ak (sA v6 (ak (sV 1) dh)) dh))))
 (j6 (ae1 2 a1q (s2 gIx (sV 1) (sV 4)))
 (m5 1 (s2 jz (a6s (sV 1) oN (oS (sV 4))) (a6s (sV 1) (oS (s2 jz (sV 4) (sC (.int 1)))) oN)))))
noncomputable def a1b(aj:SF)(du:SF):SS :=
 (j6 (m5 1 (sA (kj false 0 du) dh))
 (j6 (m5 2 (sC (.str "")))
 (j6 (a5c (sRg xj (ak (s2 jz (sC (.int 1)) (sA (kj false 2 aj) (ak (sV 0) (ak (sC (.int 6)) dh)))) dh)) (kN 3) (a0p aj du))
 (qx (sV 2)))))
noncomputable def yu(aj:SF):SS :=
 (a2b (sML a9h (sV 3) (ak (acg (sT (s2 gLt (sA (kj false 2 aj) (ak (sV 0) (ak (sC (.int 5)) dh))) (sC (.int 2)))) (sA (kj false 2 aj) (ak (sV 0) (ak (sC (.int 6)) dh))) (s1 a6f (sC (.int 1)))) dh)))
noncomputable def yw(aj:SF):SE :=
 (sA (kj false 2 aj) (ak (sV 1) (ak (sV 2) dh)))
noncomputable def a4v(aj:SF):SE :=
 (acg (a82 (sT (s2 gLt (s2 gIx (sV 2) (sV 0)) (sC (.int 0)))) (sT (s2 gLe (sV 0) (sV 3)))) (s2 abu (sV 1) (sC (.int 1))) (sV 0))
noncomputable def a1h(aj:SF):SE :=
 (sV 1)
noncomputable def yx(aj:SF):SS :=
 (j6 (m5 7 (sZ (m9 (sIt (sV 1)) t1 (yw aj) [0,2])))
 (j6 (sIf (sT (s2 gGt (sV 5) (sC (.int 0))))
 (m5 7 (sZ (m9 (sIt (sV 7)) t1 (a4v aj) [2,3,4])))
 sNx)
 (j6 (sIf (a82 (sT (s2 hEq (sV 5) (sC (.int 1)))) (sT (s2 hEq (sV 4) (s2 abu (sV 2) (sC (.int 1))))))
 (m5 7 (sZ (m9 (sIt (sV 7)) t1 (a1h aj) [4])))
 sNx)
 (a2b (sML a9h (sV 6) (ak (sV 7) dh))))))
noncomputable def a2e(aj:SF):SS :=
 (j6 (m5 3 (sA a6k (ak (s1 a6f (sC (.int 1))) dh)))
 (j6 (a5c (sRg a6m (ak (sC (.int 1)) (ak (sV 2) dh))) (kN 4) (yu aj))
 (j6 (m5 5 (sA (kj false 2 aj) (ak (sV 0) (ak (sC (.int 3)) dh))))
 (j6 (m5 6 (sA a6k dh))
 (j6 (a5c (sRg xj (ak (sV 2) dh)) (kN 4) (yx aj))
 (qx (sA a4d (ak (sV 6) (ak (sV 3) dh)))))))))
noncomputable def yz(aj:SF)(jg:SF)(j5:SF):SS :=
 (sIf (sT (s2 (gIn true) (sV 8) (sV 6)))
 (a2b (sML a9h (sV 6) (ak (sV 8) dh)))
 sNx)
noncomputable def a1i(aj:SF)(jg:SF)(j5:SF):ST :=
 (sT (s2 gLt (sV 7) (sA v6 (ak (sV 6) dh))))
noncomputable def zb(aj:SF)(jg:SF)(j5:SF):SS :=
 (j6 (a5c (sIt (s2 gIx (sV 4) (s2 gIx (sV 6) (sV 7)))) (kN 8) (yz aj jg j5))
 (ae1 7 a1q (sC (.int 1))))
noncomputable def a1j(aj:SF)(jg:SF)(j5:SF):SE :=
 (sML a8b (sV 1) (ak (sV 0) dh))
noncomputable def zc(aj:SF)(jg:SF)(j5:SF):SE :=
 (sA vo (ak (sZ (m9 (sIt (s2 gIx (sV 1) (sV 0))) t1 (a1j aj jg j5) [2])) dh))
noncomputable def zf(aj:SF)(jg:SF)(j5:SF):SE :=
 (s2 gIx (sV 1) (sV 0))
noncomputable def a2f(aj:SF)(jg:SF)(j5:SF):SS :=
 (j6 (m5 2 (sA (kj false 1 j5) (ak (sV 0) dh)))
 (j6 (m5 3 (s2 jz (sC (.int 2)) (sA (kj false 2 aj) (ak (sV 0) (ak (sC (.int 7)) dh)))))
 (j6 (sIf (sT (s2 hEq (sA (kj false 2 aj) (ak (sV 0) (ak (sC (.int 6)) dh))) (sC (.int 0))))
 (m5 3 (s2 jz (sC (.int 1)) (sA (kj false 2 aj) (ak (sV 0) (ak (sV 1) dh)))))
 sNx)
 (j6 (a91 (sA (kj false 3 jg) (ak (sV 0) (ak (sV 2) (ak (sA ack (ak (sV 3) (ak (sV 1) dh))) dh)))) (a6l 2 (n6 (kN 4) (n6 (kN 5) a74))))
 (j6 (m5 6 (sA a6k (ak (sC (.int 0)) dh)))
 (j6 (m5 7 (sC (.int 0)))
 (j6 (sWh (a1i aj jg j5) (zb aj jg j5) 100000)
 (j6 (m5 6 (sA a5e (ak (sV 6) dh)))
 (j6 (m5 9 (sA vo (ak (sZ (m9 (sIt (sV 6)) t1 (zc aj jg j5) [4,6])) dh)))
 (qx (sA a4d (ak (sV 2) (ak (sV 9) (ak (sA vo (ak (sZ (m9 (sIt (sV 6)) t1 (zf aj jg j5) [5])) dh)) dh))))))))))))))
end SRC
namespace L2
open PySem PySem.Spec PySem.W PyProof.Rows
end L2
namespace L2
open PySem PySem.Spec PySem.W PyProof.Rows Builtin Builtin.ObjectAttr Builtin.Getset_descriptor
section
variable{prog:Program}{w:World}{A:Around}{E:Value->Shared->Prop}{s:Shared}{K:Frag}{x D:Addr}{ox:Obj}{odo:Option Obj}
structure XKit (K:Frag) (D:Addr):Prop where
 ga:findIn K (.ref D) "__getattribute__" = some (some (.builtin "BaseException.__getattribute__"))
 gn:findIn K (.ref D) "__getattr__" = some none
 cl:(clsIn K D).isSome=true
 ca:findIn K (.ref D) "__class__" = some (some (.builtin "object.__class__"))
 sp:specialIn K (.builtin "object.__class__") "__get__" = some (some (.builtin "getset_descriptor.__get__"))
 tk:takesIn K (.builtin "object.__class__")=some true
 ob:mroIn K D (.type "object")=some true
 be:subIn K (.ref D) (.type "BaseException")=some true
 kc:kitCls K (.ref D) (.ref D)=some true
abbrev ExAt(x D:Addr)(h:Heap):Prop:=∃ o,h.get? x=some o/\o.cls = .ref D
theorem ExAt.ty(I:ExAt x D h):Looks M h (typeOf (.ref x)) (.ref D):=by
 obtain ⟨o,q,c⟩:=I;exact c ▸ (Looks.ld q).andThen .now
theorem XKit.at(Z:XKit K D):∃ c o cd sl,K.lookup D=some ⟨c,o, .cls cd,sl⟩:=by
 have:=Z.cl
 unfold clsIn at this
 split at this
 ·exact ⟨_,_,_,_, ‹_›⟩
 ·cases this
theorem XKit.no(Z:XKit K D){its:List Value}(X:K.In h)(q:h.get? tp=some ⟨.type "tuple",dd, .seq its.toArray n,sl⟩):(Value.ref D == .ref tp)=false :=
 cG.mpr λe=>by
  obtain ⟨_,_,_,_,lo⟩:=Z.at;rw [Value.ref.inj e] at lo;have:=X _ _ lo;rw [q] at this;cases this
end
end L2
namespace L2
open PySem PySem.Spec PySem.W PyProof.Rows
end L2
namespace MI
open PySem PySem.Spec L2
end MI
namespace EVX
open PySem PySem.Spec L2 MI
end EVX
namespace MI
open PySem PySem.Spec L2
end MI
namespace EVX
open PySem PySem.Spec L2 MI
end EVX
namespace ZP
open PySem PySem.Spec PySem.Builtin PySem.Builtin.SmallTypes L2
end ZP
namespace MI
open PySem PySem.Spec L2 ZP
end MI
namespace AT
open L2
theorem anl{α:Type}(x0:α)(xs:List α):atI (x0::xs) 0=some x0:=yj (j:=0) rfl
theorem anm{α:Type}(x0 x1:α)(xs:List α):atI (x0::x1::xs) 1=some x1:=yj (j:=1) rfl
theorem ano{α:Type}(x0 x1 x2:α)(xs:List α):atI (x0::x1::x2::xs) 2=some x2:=yj (j:=2) rfl
theorem anp{α:Type}(x0 x1 x2 x3:α)(xs:List α):atI (x0::x1::x2::x3::xs) 3=some x3:=yj (j:=3) rfl
theorem anq{α:Type}(x0 x1 x2 x3 x4:α)(xs:List α):atI (x0::x1::x2::x3::x4::xs) 4=some x4:=yj (j:=4) rfl
theorem anr{α:Type}(x0 x1 x2 x3 x4 x5:α)(xs:List α):atI (x0::x1::x2::x3::x4::x5::xs) 5=some x5:=yj (j:=5) rfl
theorem ant{α:Type}(x0 x1 x2 x3 x4 x5 x6:α)(xs:List α):atI (x0::x1::x2::x3::x4::x5::x6::xs) 6=some x6:=yj (j:=6) rfl
theorem anu{α:Type}(x0 x1 x2 x3 x4 x5 x6 x7:α)(xs:List α):atI (x0::x1::x2::x3::x4::x5::x6::x7::xs) 7=some x7:=yj (j:=7) rfl
theorem x10:ixN 1 0=some 0:=rfl
theorem x20:ixN 2 0=some 0:=rfl
theorem x21:ixN 2 1=some 1:=rfl
theorem x30:ixN 3 0=some 0:=rfl
theorem x31:ixN 3 1=some 1:=rfl
theorem x32:ixN 3 2=some 2:=rfl
theorem x40:ixN 4 0=some 0:=rfl
theorem x41:ixN 4 1=some 1:=rfl
theorem x42:ixN 4 2=some 2:=rfl
theorem x43:ixN 4 3=some 3:=rfl
theorem x50:ixN 5 0=some 0:=rfl
theorem x51:ixN 5 1=some 1:=rfl
theorem x52:ixN 5 2=some 2:=rfl
theorem x53:ixN 5 3=some 3:=rfl
theorem x54:ixN 5 4=some 4:=rfl
theorem x60:ixN 6 0=some 0:=rfl
theorem x61:ixN 6 1=some 1:=rfl
theorem x62:ixN 6 2=some 2:=rfl
theorem x63:ixN 6 3=some 3:=rfl
theorem x64:ixN 6 4=some 4:=rfl
theorem x65:ixN 6 5=some 5:=rfl
theorem x70:ixN 7 0=some 0:=rfl
theorem x71:ixN 7 1=some 1:=rfl
theorem x72:ixN 7 2=some 2:=rfl
theorem x73:ixN 7 3=some 3:=rfl
theorem x74:ixN 7 4=some 4:=rfl
theorem x75:ixN 7 5=some 5:=rfl
theorem x76:ixN 7 6=some 6:=rfl
def b2f(x:Int):Int:=if x<0 then -x else x
theorem ak5(x:Int)(h:MI.Hd):MI.azj [.int x] h = .ok (.int (b2f x)) h:=rfl
theorem p18(h:MI.Hd):MI.a93 (.int 10) (.int 18) h = .ok (.int 1000000000000000000) h:=by rw [MI.a93,aL (by decide)];rfl
theorem at5{i:Int}(c:0<=j/\j<=1000000/\i.natAbs<2 ^ 64):MI.a93 (.int i) (.int j) h = .ok (.int (i ^ j.toNat)) h:=by rw [MI.a93,aL c]
end AT
namespace MI
open PySem PySem.Spec L2 SeqAt
def b2g(neg:Bool)(K:PySem.W.Frag):R2:=λx y H Q=>∃ (ι:List Addr) (p q:Addr) (vs us:List V) (xs ys:List D),x = .ref p/\y = .ref q/\Rd H p (.lst vs)/\Rd H q (.lst us)/\Reps K ι H vs xs/\Reps K ι H us ys/\xs.all (pur 59)=true/\ys.all (pur 59)=true/\Q (.bl (if neg then !afk xs ys else afk xs ys)) H
theorem anv(I:Inv X pins σ H s)(hu:X.A.units+64<cLine)(h1:Rd H p (.lst vs))(h2:Rd H q (.lst us))(rs:Reps X.K ι H vs xs)(qs:Reps X.K ι H us ys)(p1:xs.all (pur 59)=true)(p2:ys.all (pur 59)=true) :
  RcAt X.A s (.ref p) (.ref q) (afk xs ys)/\RcNeAt X.A s (.ref p) (.ref q) (!afk xs ys):=by
 obtain ⟨its,r1,pl1,z1⟩:=I.list (.inl h1);obtain ⟨its2,r2,pl2,z2⟩:=I.list (.inl h2);have l1:its.toArray.size=xs.length:=by rw [aI,<-r1.length,rs.len]
 have l2:its2.toArray.size=ys.length:=by rw [aI,<-r2.length,qs.len]
 by_cases hl:xs.length=ys.length
 ·have step:∀ j (h1:j<its.toArray.size) (h2:j<its2.toArray.size),EqAt X.A.in1 s its.toArray[j] its2.toArray[j] (pairE xs ys j):=λj h1 h2=>by
   have j1:j<xs.length:=by omega
   have j2:j<ys.length:=by omega
   obtain ⟨v1,e1,q1⟩:=rs.get (af j1);obtain ⟨v2,e2,q2⟩:=qs.get (af j2);obtain ⟨u1,e3,q3⟩:=r1.get e1;obtain ⟨u2,e4,q4⟩:=r2.get e2;have f1:its.toArray[j]=u1:=by simpa using (ah.mp e3).2
   have f2:its2.toArray[j]=u2:=by simpa using (ah.mp e4).2
   have pe:pairE xs ys j=eqD xs[j] ys[j]:=by simp [pairE,af j1,af j2]
   rw [f1,f2,pe];rw [bn] at p1 p2;exact aps I.hok 59 X.A.in1 q1 q2 q3 q4 (p1 _ (bJ j1)) (p2 _ (bJ j2)) (by rw [hR];omega)
  have c1:=RcAt.lists (A:=X.A) (s:=s) (e:=pairE xs ys) pl1.isList pl2.isList (by omega) (by omega) step
  have c2:=RcNeAt.lists (A:=X.A) (s:=s) (e:=pairE xs ys) pl1.isList pl2.isList (by omega) (by omega) step
  have ea:=a5q xs ys;rw [hl,Nat.min_self,fG,iq,<-hl] at ea;rw [l1,ea] at c1 c2;exact ⟨c1,c2⟩
 ·have ne:(its.toArray.size != its2.toArray.size)=true:=by rw [l1,l2];simpa using hl
  have ea:=a5q xs ys;rw [cG.mpr hl,ib] at ea;rw [<-ea];exact ⟨RcAt.lists_lengths pl1.isList pl2.isList ne (by omega),RcNeAt.lists_lengths pl1.isList pl2.isList ne (by omega)⟩
theorem axi{X:Cx}(hu:X.A.units+64<cLine):OpR X (compareOp .NotEq) (b2g true X.K):=by
 intro pins s σ H x y v u Q I rx ry h
 obtain ⟨ι,p,q,vs,us,xs,ys,rfl,rfl,h1,h2,r1,r2,p1,p2,hq⟩:=h
 cases rx;cases ry
 exact (anv I hu h1 h2 r1 r2 p1 p2).2 X.prog X.w X.xe _ ⟨.bl _,H,I,rfl,hq⟩
def av0(neg:Bool)(x y:D)(h:Hd):R D:=match a0m x h,a0m y h with
 | some xs,some ys=>if xs.all (pur 59)=true/\ys.all (pur 59)=true then .ok (.bl (if neg then !afk xs ys else afk xs ys)) h else .no
 | _,_=>.no
theorem at6(neg:Bool):a5m K (av0 neg) (b2g neg K):=by
 intro E ι H h x y dx dy Q rx ry hr o
 unfold av0 at o
 split at o
 ·rename_i xs ys e1 e2
  split at o
  ·rename_i hc;obtain ⟨a,vs,rfl,h1,r1⟩:=a4g rx hr e1;obtain ⟨b,us,rfl,h2,r2⟩:=a4g ry hr e2;exact ⟨ι,a,b,vs,us,xs,ys,rfl,rfl,h1,h2,r1,r2,hc.1,hc.2,ans o (.bl _) hr⟩
  ·exact o.elim
 ·exact o.elim
end MI
namespace SETA
open PySem PySem.SetTable
def ahw(xs:Array Nat):Prop:=∀ i j (hi:i<xs.size) (hj:j<xs.size),i<j->xs[i]<xs[j]
theorem at7(xs:Array Nat)(ri:ahw xs)(j:Nat):∀ (fuel lo hi:Nat),hi - lo<=fuel->lo<=hi->hi<=xs.size->(∀ i (h:i<xs.size),i<lo->xs[i]<j)->(∀ i (h:i<xs.size),hi<=i->j<=xs[i])->
  lo<=below.go xs j fuel lo hi/\below.go xs j fuel lo hi<=hi/\(∀ i (h:i<xs.size),i<below.go xs j fuel lo hi->xs[i]<j)/\∀ i (h:i<xs.size),below.go xs j fuel lo hi<=i->j<=xs[i]:=by
 intro fuel
 induction fuel with
 | zero =>
  intro lo hi h1 h2 h3 a b
  have:lo=hi:=by omega
  subst this;exact ⟨ax _,ax _,a,b⟩
 | succ fuel ih =>
  intro lo hi h1 h2 h3 a b
  unfold below.go
  split
  ·rename_i c;have hm:(lo+hi) / 2<xs.size:=by omega
   have e:xs.getD ((lo+hi) / 2) j=xs[(lo+hi) / 2]:=by simp [Array.getD,hm]
   dsimp only;rw [e]
   split
   ·rename_i q;have r:=ih ((lo+hi) / 2+1) hi (by omega) (by omega) h3 (λi h z=>by
     by_cases y:i=(lo+hi) / 2
     ·subst y;exact q
     ·exact Nat.lt_trans (ri i _ h hm (by omega)) q) b
    exact ⟨by omega,r.2.1,r.2.2⟩
   ·rename_i q;have r:=ih lo ((lo+hi) / 2) (by omega) (by omega) (by omega) a (λi h z=>by
     by_cases y:i=(lo+hi) / 2
     ·subst y;omega
     ·have:=ri _ i hm h (by omega);omega)
    exact ⟨r.1,by omega,r.2.2⟩
  ·have:lo=hi:=by omega
   subst this;exact ⟨ax _,ax _,a,b⟩
theorem a1u(ri:ahw xs)(j:Nat):below xs j<=xs.size/\(∀ i (h:i<xs.size),i<below xs j->xs[i]<j)/\∀ i (h:i<xs.size),below xs j<=i->j<=xs[i]:=by
 have:=at7 xs ri j xs.size 0 xs.size (by omega) (by omega) (ax _) (λi _ z=>absurd z (cB i)) λi h z=>absurd h (by omega)
 exact ⟨this.2.1,this.2.2⟩
theorem below_at(ri:ahw xs)(hk:k<xs.size):below xs xs[k]=k:=by
 obtain ⟨h1,h2,h3⟩:=a1u ri xs[k]
 apply cT
 intro z
 rcases gc z with c | c
 ·have:=h3 (below xs xs[k]) (by omega) (ax _)
  have:=ri (below xs xs[k]) k (by omega) hk c
  omega
 ·have:=h2 k hk c
  omega
theorem ah2(ri:ahw xs)(hk:k<xs.size):below xs (xs[k]+1)=k+1:=by
 obtain ⟨h1,h2,h3⟩:=a1u ri (xs[k]+1)
 apply cT
 intro z
 rcases gc z with c | c
 ·have:=h3 k hk (by omega)
  omega
 ·have:=h2 (k+1) (by omega) c
  have:=ri k (k+1) hk (by omega) (by omega)
  omega
theorem at8(ri:ahw xs):below xs 0=0:=by
 obtain ⟨h1,h2,h3⟩:=a1u ri 0
 apply cT
 intro z
 have:=h2 0 (by omega) (by omega)
 omega
structure Gd (t:SetTable):Prop where
 ri:ahw t.place
 dm:t.dummies = #[]
theorem ah3:ahw #[]:=λi j hi=>absurd hi (by simp)
theorem anw(f m:Nat)(l:Bool):Gd (.fresh f m l):=⟨ah3,rfl⟩
theorem ah4(n:Nat):ahw (Array.range n):=λi j hi hj h=>by simpa using h
theorem a8f{l:List Nat}(h:l.Pairwise (· < ·)):ahw l.toArray:=λi j hi hj c=>by
 have:=bv.mp h i j (by simpa using hi) (by simpa using hj) c
 simpa using this
theorem acz(h:ahw xs):xs.toList.Pairwise (· < ·):=bv.mpr λi j hi hj c=>by
 have:=h i j (by simpa using hi) (by simpa using hj) c
 simpa using this
theorem a9m(t:SetTable)(n:Nat):Gd (t.standIn n):=⟨ah4 n,rfl⟩
theorem ad0(g:Gd t)(n:Nat):Gd (t.orStandIn n):=by
 unfold SetTable.orStandIn
 split
 ·exact g
 ·exact a9m t n
theorem a8g(j:Nat):has #[] j=false:=by simp [has]
theorem ah5(g:Gd t)(h:t.slot j = .empty):∀ k (hk:k<t.place.size),t.place[k]≠j:=λk hk e=>by
 subst e;unfold SetTable.slot at h;simp only [below_at g.ri hk] at h;rw [aL (by simp [hk])] at h
 cases h
theorem anx(g:Gd t):∀ (fuel:Nat) (p:Probe) (j:Nat) (d:Option Nat),p.dummy=none->SetTable.probe.go t ha h fuel p=some (.empty j d)->t.slot j = .empty/\d=none:=by
 intro fuel
 induction fuel with
 | zero=>intro p j d _ z;simp [SetTable.probe.go] at z
 | succ fuel ih =>
  intro p j d hp z
  unfold SetTable.probe.go at z
  cases e:t.slot p.j with
  | empty =>
   rw [e] at z;simp only [gN,Met.empty.injEq] at z;obtain ⟨rfl,rfl⟩:=z;exact ⟨e,hp⟩
  | dummy =>
   exfalso
   unfold SetTable.slot at e;rw [g.dm,a8g] at e;dsimp only at e
   split at e<;>simp at e
  | live i =>
   rw [e] at z;dsimp only at z
   split at z
   ·cases z
   ·refine ih _ j d ?_ z;unfold SetTable.advance
    split
    ·exact hp
    ·exact hp
theorem a8h(g:Gd t)(e:t.freeSlot h=some (j,b)):(∀ k (hk:k<t.place.size),t.place[k]≠j)/\b=false:=by
 unfold SetTable.freeSlot at e
 split at e
 ·rename_i j' d q;obtain ⟨h1,h2⟩:=anx g _ _ _ _ rfl q;subst h2;simp only [hG,Option.isSome_none,gN,Prod.mk.injEq] at e;obtain ⟨rfl,rfl⟩:=e;exact ⟨ah5 g h1,rfl⟩
 ·cases e
theorem ae9(ri:ahw xs)(h:∀ k (hk:k<xs.size),xs[k]≠j):ahw (SetTable.insertAt xs (below xs j) j):=by
 obtain ⟨h1,h2,h3⟩:=a1u ri j;have e:(SetTable.insertAt xs (below xs j) j)=(xs.toList.take (below xs j)++j::xs.toList.drop (below xs j)).toArray:=by
  exact Array.ext' ((SetTable.toList_insertAt _ _ _).trans (by simp))
 rw [e];refine a8f ?_;have rl:=acz ri;rw [fJ];refine ⟨rl.sublist (gI _ _),gy.mpr ⟨λa ha=>?_,rl.sublist (List.drop_sublist _ _)⟩,λa ha b hb=>?_⟩
 ·obtain ⟨i,hi,rfl⟩:=eG.mp ha;rw [List.getElem_drop];rw [bP,br] at hi;have h4:=h3 (below xs j+i) (by omega) (by omega)
  have h5:=h (below xs j+i) (by omega)
  rw [fK];omega
 ·obtain ⟨i,hi,rfl⟩:=eG.mp ha;rw [List.getElem_take];rw [bC,br] at hi;have h4:=h2 i (by omega) (by omega)
  rw [fK]
  rcases aD.mp hb with rfl | hb
  ·exact h4
  ·obtain ⟨k,hk,rfl⟩:=eG.mp hb;rw [List.getElem_drop];rw [bP,br] at hk;have h6:=h3 (below xs j+k) (by omega) (by omega)
   rw [fK];omega
theorem apw(g:Gd t)(h:∀ k (hk:k<t.place.size),t.place[k]≠j):Gd (t.put j).1:=by
 refine ⟨ae9 g.ri h,?_⟩;show (if has t.dummies j=true then _ else t.dummies) = #[]
 rw [g.dm,a8g];rfl
theorem ak6(g:Gd t)(es:Array (Int × Value))(h:Int)(x:Value):Gd (layNew t es h x).2.1/\(layNew t es h x).2.2.1=false:=by
 unfold layNew
 split
 ·rename_i slot wd e;obtain ⟨h1,h2⟩:=a8h g e;exact ⟨ad0 (apw g h1) _,h2⟩
 ·exact ⟨a9m _ _,rfl⟩
theorem ak7{mask f m:Nat}{t:SetTable}(e:SetTable.laid mask f m l p hs=some (t,o)):Gd t/\t.led=l:=by
 unfold SetTable.laid at e
 cases q:layClean mask hs with
 | none=>rw [q] at e;cases e
 | some owner =>
  rw [q] at e;simp only [Option.bind_eq_bind,Option.bind_some,Option.pure_def,gN,Prod.mk.injEq] at e;obtain ⟨rfl,rfl⟩:=e;refine ⟨⟨a8f ?_,rfl⟩,rfl⟩;have:∀ l:List Nat,l.Pairwise (· < ·)->((l.filterMap λj=>(owner.getD j none).map (j, ·)).map (·.1)).Pairwise (· < ·):=λl hl=>by
   have sub:((l.filterMap λj=>(owner.getD j none).map (j, ·)).map (·.1)).Sublist l:=by
    clear hl
    induction l with
    | nil=>exact .slnil
    | cons a l ih =>
     cases q:owner.getD a none with
     | none =>
      rw [eU (by rw [q];rfl)]
      exact .cons _ ih
     | some b =>
      rw [eV (b:=(a,b)) (by rw [q];rfl),aZ]
      exact .cons₂ _ ih
   exact hl.sublist sub
  exact this _ List.pairwise_lt_range
theorem ab0(t:SetTable)(n:Nat):(t.orStandIn n).led=t.led:=by
 unfold SetTable.orStandIn
 split<;>rfl
theorem ah6(t:SetTable)(es:Array (Int × Value))(h:Int)(x:Value):(layNew t es h x).2.1.led=t.led:=by
 unfold layNew
 split
 ·exact ab0 _ _
 ·rfl
theorem ak8(t:SetTable)(es:Array (Int × Value))(n:Nat):(relayAll t es n).2.1.led=t.led:=by
 unfold relayAll
 split
 ·rename_i t' o e;dsimp only
  split
  ·exact (ak7 e).2
  ·rfl
 ·rfl
end SETA
namespace SETH
def it:Nat->Nat->Nat
 | 0,x=>x
 | n+1,x=>it n (5*x+1)
theorem ak9(m:Nat):∀ (n x:Nat),it (n+m) x=it m (it n x)
 | 0,x=>by rw [dY];rfl
 | n+1,x=>by rw [show n+1+m=(n+m)+1 by omega];exact ak9 m n _
theorem apx:∀ k:Nat,∃ c,∀ x,it (2 ^ k) x=(4*(2 ^ k*(2*c+1))+1)*x+2 ^ k*(2*c+1)
 | 0=>⟨0,λx=>by show 5*x+1=_;omega⟩
 | k+1=>by
  obtain ⟨c,h⟩:=apx k;refine ⟨2*c*(2 ^ k*(2*c+1))+c+2 ^ k*(2*c+1),λx=>?_⟩;have e:2 ^ (k+1)=2 ^ k+2 ^ k:=by rw [gz];omega
  rw [e,ak9,h,h]
  generalize 2 ^ k=P
  grind
theorem full:∀ (k x y:Nat),∃ n,n<2 ^ k/\it n x % 2 ^ k=y % 2 ^ k
 | 0,x,y=>⟨0,by decide,by rw [Nat.pow_zero,Nat.mod_one,Nat.mod_one]⟩
 | k+1,x,y=>by
  obtain ⟨n,hn,e⟩:=full k x y;obtain ⟨c,h⟩:=apx k;have hp:0<2 ^ k:=Nat.pow_pos (by decide)
  rw [gz]
  by_cases q:it n x / 2 ^ k % 2=y / 2 ^ k % 2
  ·exact ⟨n,by omega,by rw [ip,ip,e,q]⟩
  ·refine ⟨n+2 ^ k,by omega,?_⟩
   rw [ak9,h]
   generalize 2 ^ k=P at *
   generalize it n x=z at *
   have:(4*(P*(2*c+1))+1)*z+P*(2*c+1)=(z+P)+P*2*(2*(2*c+1)*z+c):=by grind
   rw [this,Nat.add_mul_mod_self_left,ip,ip,Nat.add_mod_right,e,Nat.add_div_right _ hp]
   congr 2
   omega
def im(M:Nat):Nat->Nat->Nat
 | 0,x=>x
 | n+1,x=>im M n ((x*5+1) % M)
theorem axj(M:Nat):∀ (n x:Nat),im M n x % M=it n x % M
 | 0,x=>rfl
 | n+1,x=>by
  show im M n _ % M=it n _ % M;rw [axj M n];have:∀ n a b,a % M=b % M->it n a % M=it n b % M:=by
   intro n
   induction n with
   | zero=>exact λa b h=>h
   | succ n ih=>exact λa b h=>ih _ _ (by rw [Nat.add_mod,Nat.mul_mod,h,<-Nat.mul_mod,<-Nat.add_mod])
  exact this n _ _ (by rw [Nat.mod_mod,Nat.mul_comm])
theorem axk(hM:0<M):∀ (n x:Nat),x<M->im M n x<M
 | 0,x,h=>h
 | n+1,x,h=>axk hM n _ (fA _ hM)
theorem at9(hx:x<2 ^ k)(hy:y<2 ^ k):∃ n,n<2 ^ k/\im (2 ^ k) n x=y:=by
 obtain ⟨n,hn,e⟩:=full k x y;refine ⟨n,hn,?_⟩;rw [<-axj,Nat.mod_eq_of_lt hy,Nat.mod_eq_of_lt (axk (by omega) n x hx)] at e
 exact e
open PySem PySem.SetTable
def ls(mask:Nat):Nat->Nat × Nat->Nat × Nat
 | 0,x=>x
 | n+1,x=>ls mask n (leap mask x.1 x.2)
theorem apy(mask m:Nat):∀ (n:Nat) (x:Nat × Nat),ls mask (n+m) x=ls mask m (ls mask n x)
 | 0,x=>by rw [dY];rfl
 | n+1,x=>by rw [show n+1+m=(n+m)+1 by omega];exact apy mask m n _
theorem a9n(mask:Nat):∀ (n:Nat) (x:Nat × Nat),(ls mask n x).2=x.2 / 32 ^ n
 | 0,x=>by rw [Nat.pow_zero,Nat.div_one];rfl
 | n+1,x=>by
  show (ls mask n _).2=_;rw [a9n mask n,gz,Nat.mul_comm,<-Nat.div_div_eq_div_mul];rfl
theorem axl(mask:Nat):∀ (n:Nat) (x:Nat × Nat),x.1<=mask->(ls mask n x).1<=mask
 | 0,x,h=>h
 | n+1,x,h=>axl mask n _ (de (fA _ (cX _)))
theorem axm(mask:Nat):∀ (n i:Nat),ls mask n (i,0)=(im (mask+1) n i,0)
 | 0,i=>rfl
 | n+1,i=>by
  show ls mask n (leap mask i 0)=(im (mask+1) n _,0);rw [<-axm mask n];rfl
theorem hit{mask k i p y:Nat}(hk:mask+1=2 ^ k)(hi:i<=mask)(hp:p<2 ^ 64)(hy:y<=mask):∃ m,m<mask+14/\(ls mask m (i,p)).1=y:=by
 have e:ls mask 13 (i,p)=((ls mask 13 (i,p)).1,0):=by
  refine Prod.ext rfl ?_;rw [a9n];show p / 32 ^ 13=0;exact Nat.div_eq_of_lt (by omega)
 have h13:=axl mask 13 (i,p) hi;obtain ⟨n,hn,en⟩:=at9 (k:=k) (x:=(ls mask 13 (i,p)).1) (y:=y) (by omega) (by omega)
 refine ⟨13+n,by omega,?_⟩
 rw [apy,e,axm];show im (mask+1) n _=y;rw [hk];exact en
end SETH
namespace SETH
open PySem PySem.SetTable SETA
theorem a8i(mask i:Nat):i<=runEnd mask i:=by unfold runEnd;split<;>omega
theorem a8j{mask i:Nat}(h:i<=mask):runEnd mask i<=mask:=by unfold runEnd;split<;>omega
theorem aft(mask i:Nat):runEnd mask i - i<=9:=by unfold runEnd;split<;>omega
theorem ad1{mask:Nat}{owner:Array (Option Nat)}:∀ (fuel i p m:Nat),m<fuel->i<=mask->owner.getD (ls mask m (i,p)).1 (some 0)=none->∃ j,layClean.free mask owner fuel i p=some j/\j<=mask/\owner.getD j (some 0)=none
 | 0,i,p,m,h,_,_=>absurd h (cB _)
 | fuel+1,i,p,m,h,hi,e=>by
  unfold layClean.free;have ge:=a8i mask i;have le:=a8j hi
  split
  ·rename_i k hk;refine ⟨_,rfl,?_,?_⟩
   ·have:=eJ hk
    rw [aP] at this;omega
   ·have:=i6 hk
    exact gD.mp this
  ·rename_i hk
   cases m with
   | zero =>
    have:=cY.mp hk 0 (aP.mpr (by omega))
    exact absurd (gD.mpr e) this
   | succ m=>exact ad1 fuel _ _ m (by omega) (de (fA _ (cX _))) e
theorem a78{t:SetTable}{p:Probe}(h:p.more > 0):t.advance p={ p with j:=p.j+1,more:=p.more - 1 }:=by unfold advance;rw [aL h]
theorem a79{t:SetTable}{p:Probe}(h:p.more=0):t.advance p={ p with j:=(leap t.mask p.i p.perturb).1,more:=runEnd t.mask (leap t.mask p.i p.perturb).1 - (leap t.mask p.i p.perturb).1,i:=(leap t.mask p.i p.perturb).1,perturb:=(leap t.mask p.i p.perturb).2 }:=by unfold advance;rw [aY (by omega)]
theorem aea{t:SetTable}:∀ (fuel m:Nat) (p:Probe),p.more+10*m+1<fuel->t.slot (ls t.mask (m+1) (p.i,p.perturb)).1 = .empty->∃ j d,probe.go t (λ_=>h+1) h fuel p=some (.empty j d)
 | 0,m,p,hf,_=>absurd hf (cB _)
 | fuel+1,m,p,hf,e=>by
  have ne:(h+1 == h)=false:=by simpa using (by omega:h+1≠h)
  have next:∀ d,∃ j d',probe.go t (λ_=>h+1) h fuel (t.advance { p with dummy:=d })=some (.empty j d'):=λd=>by
   by_cases hm:p.more > 0
   ·rw [a78 (by exact hm)]
    exact aea fuel m _ (by show p.more - 1+10*m+1<fuel;omega) e
   ·rw [a79 (by show p.more=0;omega)]
    cases m with
    | zero =>
     cases fuel with
     | zero=>omega
     | succ fuel =>
      have e:t.slot (leap t.mask p.i p.perturb).1 = .empty:=e;unfold probe.go;simp only [e];exact ⟨_,_,rfl⟩
    | succ m =>
     have:=aft t.mask (leap t.mask p.i p.perturb).1
     exact aea fuel m _ (by show runEnd t.mask (leap t.mask p.i p.perturb).1 - (leap t.mask p.i p.perturb).1+10*m+1<fuel;omega) e
  unfold probe.go
  split
  ·exact ⟨_,_,rfl⟩
  ·exact next _
  ·rw [ne];exact next p.dummy
theorem aka{t:SetTable}(hd:t.dummies = #[])(hy:∀ k (hk:k<t.place.size),t.place[k]≠y):t.slot y = .empty:=by
 unfold slot;dsimp only;rw [aY,hd,a8g]
 ·rfl
 ·intro c
  have c:t.place[below t.place y]? = some y:=by simpa using c
  obtain ⟨hk,e⟩:=fW.mp c;exact hy _ hk e
theorem ab1{t:SetTable}(hk:t.mask+1=2 ^ k)(hd:t.dummies = #[])(hy:y<=t.mask)(fr:∀ k (hk:k<t.place.size),t.place[k]≠y)(h:Int):∃ r,t.freeSlot h=some r:=by
 have sl:=aka hd fr;have hi:bits h % (t.mask+1)<=t.mask:=de (fA _ (cX _));have hb:bits h<2 ^ 64:=by unfold bits;omega
 obtain ⟨m,hm,e⟩:=hit hk hi hb hy;have r9:=aft t.mask (bits h % (t.mask+1));have:∃ j d,t.probe (λ_=>h+1) h (t.probeStart h)=some (.empty j d):=by
  unfold probe turns
  cases m with
  | zero =>
   have e:bits h % (t.mask+1)=y:=e;rw [show 10*(t.mask+15)=(10*(t.mask+15) - 1)+1 by omega]
   unfold probe.go probeStart;simp only [e,sl];exact ⟨_,_,rfl⟩
  | succ m=>exact aea _ m _ (by show runEnd t.mask (bits h % (t.mask+1)) - bits h % (t.mask+1)+10*m+1<_;omega) (by rw [<-e] at sl;exact sl)
 obtain ⟨j,d,x⟩:=this;unfold freeSlot;rw [x];exact ⟨_,rfl⟩
theorem akb:∀ l:List (Option Nat),(l.filterMap id).length<l.length->∃ i,∃ h:i<l.length,l[i]=none
 | [],h=>absurd h (bQ _)
 | none::l,_=>⟨0,cX _,rfl⟩
 | some x::l,h=>by
  obtain ⟨i,hi,e⟩:=akb l (by simpa using h)
  exact ⟨i+1,Nat.succ_lt_succ hi,e⟩
theorem afu(k:Nat):∀ (l:List (Option Nat)) (i:Nat) (h:i<l.length),l[i]=none->((l.set i (some k)).filterMap id).Perm (k::l.filterMap id)
 | x::l,0,_,e=>by
  have e:x=none:=e;subst e;simp
 | x::l,i+1,h,e=>by
  have ih:=afu k l i (fk h) e
  cases x with
  | none=>simpa using ih
  | some x =>
   simp only [List.set_cons_succ,cM,id];exact (ih.cons x).trans (List.Perm.swap ..)
structure Own (mask n:Nat) (o:Array (Option Nat)):Prop where
 size:o.size=mask+1
 all:(o.toList.filterMap id).Perm (List.range n)
theorem b1d(mask:Nat):Own mask 0 (Array.replicate (mask+1) none) where
 size:=by simp
 all:=by simp
theorem Own.free{mask n:Nat}{o:Array (Option Nat)}(w:Own mask n o)(hn:n<=mask):∃ y,y<=mask/\o.getD y (some 0)=none:=by
 have:=w.all.length_eq
 rw [aT] at this;obtain ⟨i,hi,e⟩:=akb o.toList (by rw [this,br,w.size];omega)
 have hs:i<o.size:=by simpa using hi
 refine ⟨i,by have:=w.size;omega,?_⟩
 simp only [Array.getD,hs,dif_pos];simpa using e
theorem Own.put{mask n j:Nat}{o:Array (Option Nat)}(w:Own mask n o)(hj:j<=mask)(e:o.getD j (some 0)=none):Own mask (n+1) (o.setIfInBounds j (some n)) where
 size:=by rw [Array.size_setIfInBounds];exact w.size
 all:=by
  have hs:j<o.size:=by have:=w.size;omega
  have e:o.toList[j]'(by simpa using hs)=none:=by
   simp only [Array.getD,hs,dif_pos] at e;simpa using e
  rw [Array.toList_setIfInBounds,dX];exact (afu n _ _ _ e).trans ((w.all.cons n).trans (List.perm_append_singleton n _).symm)
theorem afv{mask k:Nat}(hk:mask+1=2 ^ k)
  (hF:∀ o n h j,layClean.free mask o (turns mask) (bits h % (mask+1)) (bits h)=some j->F (some (o,n)) h=some (o.setIfInBounds j (some n),n+1)) :
  ∀ (hs:List Int) (o:Array (Option Nat)) (n:Nat),Own mask n o->n+hs.length<=mask+1->∃ o',hs.foldl F (some (o,n))=some (o',n+hs.length)/\Own mask (n+hs.length) o'
 | [],o,n,w,_=>⟨o,rfl,w⟩
 | h::hs,o,n,w,le=>by
  rw [ba] at le ⊢;obtain ⟨y,hy,e⟩:=w.free (by omega)
  have hi:bits h % (mask+1)<=mask:=de (fA _ (cX _));obtain ⟨m,hm,em⟩:=hit hk hi (p:=bits h) (by unfold bits;omega) hy
  obtain ⟨j,ej,hj,fj⟩:=ad1 (turns mask) (bits h % (mask+1)) (bits h) m (by unfold turns;omega) hi (by rw [em];exact e)
  obtain ⟨o',eo,wo⟩:=afv hk hF hs _ (n+1) (w.put hj fj) (by omega)
  refine ⟨o',?_,by rw [show n+(hs.length+1)=n+1+hs.length by omega];exact wo⟩
  rw [fQ,hF o n h j ej,eo,show n+(hs.length+1)=n+1+hs.length by omega]
theorem anz{mask k:Nat}(hk:mask+1=2 ^ k)(hs:Array Int)(le:hs.size<=mask+1)
  (hF:∀ o n h j,layClean.free mask o (turns mask) (bits h % (mask+1)) (bits h)=some j->F (some (o,n)) h=some (o.setIfInBounds j (some n),n+1)) :
  ∃ o,(hs.toList.foldl F (some (Array.replicate (mask+1) none,0))).map (·.1)=some o/\Own mask hs.size o:=by
 obtain ⟨o,e,w⟩:=afv hk hF hs.toList _ 0 (b1d mask) (by simpa using le)
 rw [e];exact ⟨o,rfl,by simpa using w⟩
theorem ah7{mask k:Nat}(hk:mask+1=2 ^ k)(hs:Array Int)(le:hs.size<=mask+1):∃ o,layClean mask hs=some o/\Own mask hs.size o:=by
 unfold layClean;rw [<-Array.foldl_toList];refine anz hk hs le λo n h j ej=>?_;simp only [Option.bind_eq_bind,Option.bind_some,ej];rfl
theorem ao0{mask n:Nat}{o:Array (Option Nat)}(w:Own mask n o):((List.range (mask+1)).filterMap λj=>(o.getD j none).map (j, ·)).map (·.2)=o.toList.filterMap id:=by
 have e:o.toList=(List.range (mask+1)).map λj=>o.getD j none:=by
  refine fE (by simp [w.size]) λi h1 h2=>?_
  have hs:i<o.size:=by simpa using h1
  simp [Array.getD,hs]
 rw [e,List.filterMap_map,List.map_filterMap]
 congr 1
 funext j
 show _=o.getD j none
 cases o.getD j none<;>rfl
theorem akc{mask k f m:Nat}(hk:mask+1=2 ^ k)(hs:Array Int)(le:hs.size<=mask+1):∃ t o,laid mask f m l p hs=some (t,o)/\t.mask=mask/\t.dummies = #[]/\t.plain=p/\t.place.size=hs.size/\(∀ i (h:i<t.place.size),t.place[i]<=mask)/\o.toList.Perm (List.range hs.size):=by
 obtain ⟨o,e,w⟩:=ah7 hk hs le;unfold laid;rw [e];have ls:=ao0 w;have len:((List.range (mask+1)).filterMap λj=>(o.getD j none).map (j, ·)).length=hs.size:=by
  have:=w.all.length_eq
  rw [<-ls,aA,aT] at this;exact this
 refine ⟨_,_,rfl,rfl,rfl,rfl,by simpa using len,λi hi=>?_,?_⟩
 ·have hm:=gO hi;simp only [List.mem_toArray,bA,fX,aP] at hm;obtain ⟨⟨a,b⟩,⟨j,hj,x⟩,y⟩:=hm
  cases g:o.getD j none with
  | none=>rw [g] at x;cases x
  | some z =>
   rw [g] at x;cases x
   exact de (y ▸ hj)
 ·show List.Perm (List.map _ _) _;exact (ls ▸ w.all)
theorem afw(n:Nat):∀ (fuel a:Nat),n<2 ^ (a+fuel)->∃ b,a<=b/\sizeAbove.go n fuel (2 ^ a)=2 ^ b/\n<2 ^ b
 | 0,a,h=>⟨a,ax _,rfl,h⟩
 | fuel+1,a,h=>by
  unfold sizeAbove.go
  split
  ·obtain ⟨b,h1,h2,h3⟩:=afw n fuel (a+1) (by rw [show a+1+fuel=a+(fuel+1) by omega];exact h)
   exact ⟨b,by omega,h2,h3⟩
  ·exact ⟨a,ax _,rfl,by omega⟩
theorem above(h:n<2 ^ 67):∃ b,3<=b/\sizeAbove n=2 ^ b/\n<2 ^ b:=afw n 64 3 h
theorem gap:∀ (l:List Nat) (a:Nat),l.Pairwise (· < ·)->(∀ x∈l,a<=x)->∃ y,a<=y/\y<=a+l.length/\y ∉ l
 | [],a,_,_=>⟨a,ax _,ax _,aN⟩
 | x::l,a,p,g=>by
  obtain ⟨p1,p2⟩:=gy.mp p;have gx:=g x (aK ..);rw [ba]
  by_cases e:x=a
  ·obtain ⟨y,h1,h2,h3⟩:=gap l (a+1) p2 λz hz=>by have:=p1 z hz;omega
   exact ⟨y,by omega,by omega,λc=>(aD.mp c).elim (λc=>by omega) h3⟩
  ·exact ⟨a,ax _,by omega,λc=>(aD.mp c).elim (λc=>e c.symm) λc=>by have:=p1 a c;omega⟩
structure Gs (t:SetTable):Prop where
 gd:Gd t
 pow:∃ k,t.mask+1=2 ^ k
 big:7<=t.mask
 le:∀ i (h:i<t.place.size),t.place[i]<=t.mask
 plain:t.plain=true
theorem ao1(f m:Nat)(l:Bool):Gs (.fresh f m l):=⟨anw f m l,⟨3,rfl⟩,ax _,λi h=>absurd h (cB _),rfl⟩
theorem ab2(g:Gd t):t.fill=t.place.size:=by unfold fill;rw [g.dm];rfl
theorem a9o{t:SetTable}{p:Probe}(h:p.j+p.more<=t.mask):(t.advance p).j+(t.advance p).more<=t.mask:=by
 by_cases hm:p.more > 0
 ·rw [a78 hm];show p.j+1+(p.more - 1)<=_;omega
 ·rw [a79 (by omega)]
  have h1:(leap t.mask p.i p.perturb).1<=t.mask:=de (fA _ (cX _));have h2:=a8j h1;have h3:=a8i t.mask (leap t.mask p.i p.perturb).1;show (leap t.mask p.i p.perturb).1+(runEnd t.mask (leap t.mask p.i p.perturb).1 - (leap t.mask p.i p.perturb).1)<=_;omega
theorem ata{t:SetTable}:∀ (fuel:Nat) (p:Probe) (j:Nat) (d:Option Nat),p.j+p.more<=t.mask->probe.go t ha h fuel p=some (.empty j d)->j<=t.mask
 | 0,p,j,d,_,e=>by cases e
 | fuel+1,p,j,d,hp,e=>by
  unfold probe.go at e
  split at e
  ·cases e
   omega
  ·exact ata fuel _ j d (a9o (p:={ p with dummy:=some p.j }) hp) e
  ·split at e
   ·cases e
   ·exact ata fuel _ j d (a9o hp) e
theorem atb{t:SetTable}(e:t.freeSlot h=some (j,b))(hb:b=false):j<=t.mask:=by
 unfold freeSlot at e
 split at e
 ·rename_i j' d x;have:=ata _ _ j' d (by
   have h1:bits h % (t.mask+1)<=t.mask:=de (fA _ (cX _));have h2:=a8j h1;have h3:=a8i t.mask (bits h % (t.mask+1));show bits h % (t.mask+1)+(runEnd t.mask (bits h % (t.mask+1)) - bits h % (t.mask+1))<=t.mask;omega) x
  cases d with
  | none=>cases e;exact this
  | some d=>cases e;cases hb
 ·cases e
theorem apz{xs:Array Nat}(h:z∈xs.extract a b):z∈xs:=by
 obtain ⟨i,hi,e⟩:=fB.mp h;rw [Array.getElem_extract] at e;exact e ▸ gO _
theorem a8k{α:Type}(xs:Array α)(p:Nat)(x:α)(hp:p<=xs.size):(insertAt xs p x).size=xs.size+1:=by
 simp [insertAt]
 omega
theorem akd(g:Gs t)(es:Array (Int × Value))(hs:t.place.size=es.size)(rest:t.fill*5<t.mask*3)(h:Int)(x:Value) :
  Gs (layNew t es h x).2.1/\(layNew t es h x).2.2.2=false/\(layNew t es h x).2.1.fits (layNew t es h x).1.size=true/\(layNew t es h x).2.1.mask=t.mask/\(layNew t es h x).2.1.place.size=es.size+1:=by
 have big:=g.big;have fl:=ab2 g.gd;obtain ⟨k,hk⟩:=g.pow;obtain ⟨y,_,hy,ny⟩:=gap t.place.toList 0 (acz g.gd.ri) λ_ _=>bL _;rw [br] at hy;obtain ⟨⟨j,b⟩,e⟩:=ab1 hk g.gd.dm (y:=y) (by omega) (λi hi c=>ny (by rw [<-c];simp)) h
 obtain ⟨f1,f2⟩:=a8h g.gd e;have hj:=atb e f2;have bl:=(a1u g.gd.ri j).1;have sz1:(t.put j).1.place.size=es.size+1:=by
  show (insertAt t.place _ j).size=_;rw [a8k _ _ _ bl,hs]
 have sz2:(insertAt es (t.put j).2 (h,x)).size=es.size+1:=a8k _ _ _ (by show below t.place j<=_;omega)
 have gp:=apw g.gd f1;have ft:(t.put j).1.fits (insertAt es (t.put j).2 (h,x)).size=true:=by
  unfold fits;rw [ab2 gp,sz1,sz2];have:es.size+1<=(t.put j).1.mask:=by show _<=t.mask;omega
  simp [this]
 have pl:∀ z∈(t.put j).1.place,z<=t.mask:=λz hz=>by
  have hz:z∈insertAt t.place (below t.place j) j:=hz;simp only [insertAt,Array.mem_append,Array.mem_push] at hz
  rcases hz with (hz | hz) | hz
  ·obtain ⟨i,hi,e⟩:=fB.mp (apz hz);exact e ▸ g.le i hi
  ·omega
  ·obtain ⟨i,hi,e⟩:=fB.mp (apz hz);exact e ▸ g.le i hi
 have gs:Gs (t.put j).1:=⟨gp,g.pow,g.big,λi hi=>pl _ (gO hi),g.plain⟩;have eq:layNew t es h x=(insertAt es (t.put j).2 (h,x),(t.put j).1,b,false):=by
  unfold layNew;rw [e];simp only [ft,orStandIn,dv,Bool.not_true]
 rw [eq];exact ⟨gs,rfl,ft,rfl,sz1⟩
theorem aq0{es:Array (Int × Value)}:∀ l:List Nat,(∀ x∈l,x<es.size)->(l.filterMap (es[·]?)).length=l.length
 | [],_=>rfl
 | x::l,h=>by
  rw [cM,bO (h x (aK ..))];exact av (·+1) (aq0 l λz hz=>h z (aG _ hz))
theorem ao2(g:Gs t)(es:Array (Int × Value))(hn:n<2 ^ 67)(big:es.size*2<=n)(pos:0<es.size) :
  Gs (relayAll t es n).2.1/\(relayAll t es n).2.2=false/\(relayAll t es n).2.1.fits (relayAll t es n).1.size=true/\(relayAll t es n).2.1.fill*5<(relayAll t es n).2.1.mask*3:=by
 obtain ⟨b,h3,eb,lb⟩:=above hn;have p8:2 ^ 3<=2 ^ b:=Nat.pow_le_pow_right (by decide) h3
 have hk:sizeAbove n - 1+1=2 ^ b:=by omega
 obtain ⟨t',o,e,hm,hd,hp,hs,hl,ho⟩:=akc (f:=t.finger) (m:=t.movedTo (sizeAbove n - 1)) (l:=t.led) (p:=t.plain) hk (es.map (·.1)) (by rw [Array.size_map];omega)
 rw [Array.size_map] at hs ho;have gd':=(ak7 e).1;have cov:coversAll o es.size=true:=List.isPerm_iff.mpr ho;have sz:(o.filterMap (es[·]?)).size=es.size:=by
  rw [<-br,Array.toList_filterMap,aq0 _ λx hx=>aP.mp (ho.mem_iff.mp hx),ho.length_eq,aT]
 have fl:=ab2 gd';have ft:t'.fits (o.filterMap (es[·]?)).size=true:=by
  unfold fits;rw [fl,sz,hs];have:es.size<=t'.mask:=by omega
  simp [this]
 have eq:relayAll t es n=(o.filterMap (es[·]?),t',false):=by
  unfold relayAll relaid;rw [e];simp only [cov,ft,Bool.and_self,dv]
 rw [eq];exact ⟨⟨gd',⟨b,by rw [hm];exact hk⟩,by rw [hm];omega,λi hi=>by rw [hm];exact hl i hi,hp.trans g.plain⟩,rfl,ft,by show t'.fill*5<t'.mask*3;omega⟩
end SETH
namespace SETB
open PySem PySem.Spec PyProof.Rows SETA
def kOf:Int × Value->Int
 | (_, .int k _)=>k
 | _=>0
def AllI(l:List (Int × Value)):Prop:=∀ e∈l,∃ k t,e=(hashInt k,Value.int k t)
def Gr(t:SetTable):Prop:=SETH.Gs t/\t.fill*5<t.mask*3
def SetI(b:Bool)(a:Addr)(ks:List Int)(h:Heap):Prop :=
 ∃ o es ep t,h.get? a=some o/\o.ExactSet/\o.data = .set es ep t/\AllI es.toList/\(es.toList.map kOf).Perm ks/\es.size<scanBound/\t.fits es.size=true/\Gr t/\t.led=b
theorem SetI.keep{h':Heap}(x:SetI b a ks h)(k:∀ o,h.get? a=some o->h'.get? a=some o):SetI b a ks h':=by
 obtain ⟨o,es,ep,t,ho,r⟩:=x;exact ⟨o,es,ep,t,k o ho,r⟩
theorem SetI.len(x:SetI b a ks h):ks.length<scanBound:=by
 obtain ⟨o,es,ep,t,_,_,_,_,p,hb,_⟩:=x;have:=p.length_eq;rw [aA,br] at this;omega
section
variable{prog:Program}{w:World}{E:Value->Shared->Prop}{A:Around}{s:Shared}
theorem AllI.el(h:AllI l):ElemsOf (intKind prog w) l:=λe he=>by
 obtain ⟨k,t,rfl⟩:=h e he;exact ⟨⟨k,by simp [intKind,Value.isInt],rfl⟩,rfl⟩
theorem b2h(h:e=(hashInt j,Value.int j t)):(intKind prog w).is k e.2=decide (k=j):=by
 subst h
 by_cases q:k=j
 ·subst q;simp [intKind,Value.isInt]
 ·rw [aU q];show Value.isInt k (Value.int j t)=false;simp only [Value.isInt,cG,ne_eq]
  first | exact q | exact λz=>q z.symm
theorem afx(h:AllI l):l.findIdx? (λe=>(intKind prog w).is k e.2)=none↔k ∉ l.map kOf:=by
 rw [List.findIdx?_eq_none_iff]
 constructor
 ·intro n m
  obtain ⟨e,he,q⟩:=bA.mp m;have:=n e he;obtain ⟨j,t,rfl⟩:=h e he;rw [b2h rfl] at this;have:¬ k=j:=gA this;exact this q.symm
 ·intro n e he
  obtain ⟨j,t,rfl⟩:=h e he;rw [b2h rfl];exact aU λz=>n (bA.mpr ⟨_,he,z.symm⟩)
theorem stored(prog:Program)(w:World){es':Array (Int × Value)}{t':SetTable}{h:Heap}(ho:h.get? a=some o)(hex:o.ExactSet)(hd:o.data = .set es ep t)(al:AllI es'.toList)(p:(es'.toList.map kOf).Perm ks)(sz:es'.size<scanBound)(f:t'.fits es'.size=true)(g:Gr t')(l:t'.led=b) :
  SetI b a ks (h.update a (Obj.putSet es' t')):=by
 have e:=SetOf_store (knd:=intKind prog w) (S':=λk=>es'.toList.any λe=>(intKind prog w).is k e.2) ho hex hd al.el (λk=>bD) sz f;exact ⟨_,es',ep+1,t',e.1,hex,rfl,al,p,sz,f,g,l⟩
theorem held(prog:Program)(w:World){es':Array (Int × Value)}{t':SetTable}{h:Heap}(ho:h.get? a=some o)(hex:o.ExactSet)(hd:o.data = .set es ep t)(al:AllI es'.toList)(sz:es'.size<scanBound)(f:t'.fits es'.size=true) :
  ∃ o1 ep1,(h.update a (Obj.putSet es' t')).get? a=some o1/\o1.ExactSet/\o1.data = .set es' ep1 t':=by
 have e:=SetOf_store (knd:=intKind prog w) (S':=λk=>es'.toList.any λe=>(intKind prog w).is k e.2) ho hex hd al.el (λk=>bD) sz f;exact ⟨_,ep+1,e.1,hex,rfl⟩
theorem size_of{t:SetTable}(hf:t.fits n=true):t.place.size=n:=by
 simp only [SetTable.fits,aX,gL] at hf;exact hf.1
theorem atc{b:Bool}{a:Addr}{o:Obj}{es es1:Array (Int × Value)}{ep:Nat}{t t2:SetTable}{ks:List Int}{wd:Bool}{g:Bool->Sem Unit}{R:Option Bool->Shared->Prop}{rl:Array (Int × Value) × SetTable × Bool}
  (hrl:rl=relayAll t2 es1 (SetTable.grown es1.size))
  (hg:∀ (c:Bool) (z:Shared) (R':Unit->Shared->Prop),R' () z->wpAny (model prog w) A (g c) R' E z)
  (ho:s.heap.get? a=some o) (hex:o.ExactSet) (hd:o.data = .set es ep t) (al:AllI es1.toList) (pm:(es1.toList.map kOf).Perm ks) (sz:es1.size<scanBound) (f:t2.fits es1.size=true) (gs:SETH.Gs t2) (ld:t2.led=b) (hwd:wd=false)
  (fin:∀ h',Heap.SameBut a s.heap h'->SetI b a ks h'->R (some true) { s with heap:=h' }) :
  wpAny (model prog w) A (storeSet a es1 t2>>=λ_=>if (!wd && t2.tooFull)=true then (g rl.2.2>>=λ_=>storeSet a rl.1 rl.2.1>>=λ_=>pure (some true)) else pure (some true)) R E s:=by
 have fl:=SETH.ab2 gs.gd;have ps:=size_of f;have big:=gs.big;have sb:=cO s.heap a (Obj.putSet es1 t2);refine ag (wpAny_storeSet_of ho hd ?_ (fits_of_scanBound sz))
 split
 ·rename_i full;have full:t2.fill*5≥t2.mask*3:=by
   rw [hwd] at full;simpa [SetTable.tooFull] using full
  have lt:es1.size<4096:=sz;have p2:=relayAll_perm t2 es1 (SetTable.grown es1.size);obtain ⟨g2,_,f2,r2⟩:=SETH.ao2 gs es1 (n:=SetTable.grown es1.size) (by unfold SetTable.grown;split<;>omega) (by unfold SetTable.grown;split<;>omega) (by omega)
  have l2:=ak8 t2 es1 (SetTable.grown es1.size);rw [<-hrl] at p2 f2 g2 l2 r2
  clear hrl
  obtain ⟨es2,t3,gv⟩:=rl;have z2:es2.size<scanBound:=by
   have:=p2.length_eq
   simp only [br] at this;omega
  obtain ⟨o1,p1,ho1,hex1,hd1⟩:=held prog w ho hex hd al sz f;refine ag (hg _ _ _ (ag (wpAny_storeSet_of ho1 hd1 (aB (fin _ (sb.trans (cO _ a _)) ?_)) (fits_of_scanBound z2))));exact stored prog w ho1 hex1 hd1 (λe he=>al e (p2.mem_iff.mp he)) ((p2.map kOf).trans pm) z2 f2 ⟨g2,r2⟩ (l2.trans ld)
 ·rename_i full;have full:t2.fill*5<t2.mask*3:=by
   rw [hwd] at full;simpa [SetTable.tooFull] using full
  exact aB (fin _ sb (stored prog w ho hex hd al pm sz f ⟨gs,full⟩ ld))
theorem ah8{b:Bool}{a:Addr}{ks:List Int}{k:Int}{tk:Tok}{Q:Bool->Shared->Prop}(hS:SetI b a ks s.heap)(few:ks.length+1<scanBound)
  (q:∀ (h':Heap) (r:Bool),Heap.SameBut a s.heap h'->SetI b a (L2.stepK ks k) h'->Q r { s with heap:=h' }):wpAny (model prog w) A (setAddHashed a (.int k tk) (hashInt k)) Q E s:=by
 obtain ⟨o,es,ep,t,ho,hex,hd,al,pm,sz,ft,gd,ld⟩:=hS;have hk:(intKind prog w).is k (Value.int k tk)=true:=by simp [intKind,Value.isInt]
 have lk:es.size=ks.length:=by have:=pm.length_eq;rwa [aA,br] at this
 unfold setAddHashed setAddHashedIn;refine cD (ag (cQ ho hd ft ?_));dsimp only;rw [byScan_of (knd:=intKind prog w) rfl sz al.el,aL rfl];unfold setAddByScan;refine ag (ag (eT (ag (wpAny_setScan_of (knd:=intKind prog w) hk ho hd ft al.el ?_))))
 cases c:es.toList.findIdx? (λe=>(intKind prog w).is k e.2) with
 | some j =>
  have mem:k∈ks:=by
   apply cT
   intro n
   have:=(afx (prog:=prog) (w:=w) al (k:=k)).mpr λm=>n (pm.mem_iff.mp m)
   rw [this] at c;cases c
  refine aB (aB ?_);have:=q s.heap false (Heap.SameBut.refl a s.heap) (by rw [show L2.stepK ks k=ks from aL mem];exact ⟨o,es,ep,t,ho,hex,hd,al,pm,sz,ft,gd,ld⟩)
  exact this
 | none =>
  have nm:k ∉ ks:=λm=>(afx (prog:=prog) (w:=w) al).mp c (pm.mem_iff.mpr m);have es1p:=layNew_perm t es (hashInt k) (.int k tk);have wd1:=(ak6 gd.1.gd es (hashInt k) (.int k tk)).2;obtain ⟨gs1,_,ft1,_,_⟩:=SETH.akd gd.1 es (size_of ft) gd.2 (hashInt k) (.int k tk);have ld1:=ah6 t es (hashInt k) (.int k tk)
  generalize layNew t es (hashInt k) (.int k tk)=L at es1p ft1 gs1 ld1 wd1 ⊢
  obtain ⟨es1,t1,wd,gave⟩:=L;dsimp only at es1p ft1 gs1 ld1 wd1 ⊢;rw [Array.toList_push] at es1p;have al1:AllI es1.toList:=λe he=>by
   rcases aS.mp (es1p.mem_iff.mp he) with m | m
   ·exact al e m
   ·rw [ai] at m;exact ⟨k,tk,m⟩
  have pm1:(es1.toList.map kOf).Perm (L2.stepK ks k):=by
   rw [show L2.stepK ks k=ks++[k] from aY nm]
   refine (es1p.map kOf).trans ?_;rw [bb];exact pm.append_right _
  have sz1:es1.size<scanBound:=by
   have:=es1p.length_eq
   rw [br,aw,br,ay] at this;omega
  have fin:∀ h':Heap,Heap.SameBut a s.heap h'->SetI b a (L2.stepK ks k) h'->wpAny (model prog w) A (pure true) Q E { s with heap:=h' }:=λh' sb x=>aB (q h' true sb x)
  have way:∀ (c:Bool) (z:Shared) (R:Unit->Shared->Prop),R () z->wpAny (model prog w) A (match c with | true=>rule "set.scan.the-table-gave-way" | false=>pure ()) R E z:=λc z R h=>by
   cases c
   ·exact aB h
   ·exact eT h
  refine ag (way gave _ _ ?_)
  split
  ·refine ag ?_;rw [hashByValue_scannable 8 (x:=.int k tk) rfl];refine aB ?_;exact atc rfl way ho hex hd al1 pm1 sz1 ft1 gs1 (ld1.trans ld) wd1 fin
  ·rename_i z;exact absurd gs1.plain z
end
section
variable{prog:Program}{w:World}{E:Value->Shared->Prop}{A:Around}{s:Shared}
theorem SetI.typeIs(x:SetI b a ks s.heap):s.TypeIs (.ref a) "set":=by
 obtain ⟨o,_,_,_,ho,hex,_⟩:=x;exact ⟨o,ho,hex.1⟩
theorem ao3(hS:SetI b a ks s.heap)(few:ks.length+1<scanBound)
  (q:∀ h':Heap,Heap.SameBut a s.heap h'->SetI b a (L2.stepK ks k) h'->Q .none { s with heap:=h',toks:=s.toks+1 }):wpAny (model prog w) A (call (.builtin "set.add") [.ref a, .int k tk]) Q E s:=by
 refine bU F.slot_set_add hS.typeIs F.entry_set_add ?_ (F.args_set_add_2 _ _);show wpAny (model prog w) _ (Builtin.«set.add» ⟨[.ref a, .int k tk],[]⟩) _ _ s;have e:Builtin.«set.add» ⟨[.ref a, .int k tk],[]⟩=(setAdd a (.int k tk)>>=λ_=>ret .none):=by
  unfold Builtin.«set.add» Builtin.Frozenset.oneOther;rfl
 rw [e];unfold setAdd;refine ag (cD (ag ((intKind prog w).pyHash (k:=k) (by simp [intKind,Value.isInt]) ?_)))
 exact ah8 (s:={ s with toks:=s.toks+1 }) hS few λh' r sb x=>aB ⟨_,rfl,q h' sb x⟩
def atd(b:Bool):Obj:={ cls:=.type "set",dict:=none,data:=.set #[] 0 (.fresh 0 0 b) }
theorem ate{h:Heap}(e:h.get? a=some (atd b)):SetI b a [] h :=
 ⟨_, #[],0,_,e,⟨rfl,rfl,rfl⟩,rfl,λe he=>by simp at he,by simp,by decide,by simp [SetTable.fits,SetTable.fresh,SetTable.fill],⟨SETH.ao1 _ _ _,by show 0*5<7*3;decide⟩,rfl⟩
def byT(w:World):Bool:=w.params.followText "set-order"
theorem atf(q:Q (.ref s.heap.objs.size) { s with heap:=s.heap.push (atd (!byT w)) }):wpAny (model prog w) A (newSet (.type "set")) Q E s:=by
 unfold newSet setsByText;refine ag (ag (eM (aB ?_)));exact cn q
end
end SETB
set_option maxHeartbeats 1000000
namespace SETB
open PySem PySem.Spec PyProof.Rows SETA PySem.Builtin
def itO(f:Value)(i:Nat)(a:Addr)(n ep:Nat):Obj:={ cls:=.type "set_iterator",data:=.fields #[f,rawInt i, .ref a,rawInt n,rawInt ep] }
theorem slot_next:Slot "set_iterator" "__next__" "set_iterator.__next__" :=
 .of (owner := "set_iterator") (n := "__next__") (by rw [typeLookup_type,builtinLookup_eq_fast];kernel_rfl) (by decide +kernel) (by decide +kernel) (by decide +kernel)
  (Or.inl (by decide +kernel)) (by rw [gE];kernel_rfl)
theorem entry_next:entryFor table "set_iterator.__next__" = some Builtin.«set_iterator.__next__»:=entryFor_of_fast (by kernel_rfl)
theorem args_next(a:Value):argsOk "set_iterator.__next__" ⟨[a],[]⟩:=by unfold argsOk;kernel_rfl
theorem ah9:entryFor table "set.__iter__" = some Builtin.«frozenset.__iter__» :=
 entryFor_alias (id' := "frozenset.__iter__") (by kernel_rfl) rfl (by decide +kernel) (by kernel_rfl)
theorem ake(a:Value):argsOk "set.__iter__" ⟨[a],[]⟩:=by unfold argsOk;kernel_rfl
section
variable{prog:Program}{w:World}{E:Value->Shared->Prop}{A:Around}{s:Shared}
theorem ab3(q:Q (byT w) s):wpAny (model prog w) A setsByText Q E s:=by
 unfold setsByText;exact ag (eM (aB q))
theorem a8l(ho:s.heap.get? a=some o)(hd:o.data = .set es ep t)(hf:t.fits es.size=true)(bt:byT w=false)(pl:t.plain=true\/es.size<=1)(ld:t.led=true)(hk:SetTable.below t.place slot=k)
  (hr:(∃ h x j,es[k]? = some (h,x)/\t.place[k]? = some j/\r=some (x,j+1))\/(es[k]? = none/\r=none)) (q:Q r s):wpAny (model prog w) A (setNext a slot i ep') Q E s:=by
 subst hk;unfold setNext
 apply ag
 apply cQ ho hd hf
 apply ag
 apply ab3
 simp only [bt,cb,dP]
 split
 ·rename_i z;have z:(!t.plain && decide (es.size > 1))=true:=z
  rcases pl with p | p
  ·rw [p] at z;cases z
  ·rw [aU (by omega),ib] at z
   cases z
 have led:∀ R:Unit->Shared->Prop,R () s->wpAny (model prog w) A (if (!t.led && !es.isEmpty)=true then unsupported "set:maker-not-led" else pure ()) R E s:=λR r=>by
  rw [ld];exact aB r
 refine ag (led _ (aB ?_))
 rcases hr with ⟨h,x,j,e,f,rfl⟩ | ⟨e,rfl⟩
 ·rw [e,f];exact q
 ·rw [e];exact q
def Tells(w:World)(a:Addr)(slot i ep:Nat)(r:Option (Value × Nat))(s:Shared):Prop:=∀ (prog:Program) (A:Around) (E:Value->Shared->Prop) (Q:Option (Value × Nat)->Shared->Prop),Q r s->wpAny (model prog w) A (setNext a slot i ep) Q E s
theorem next_item{o:Obj}{es:Array (Int × Value)}{ep i slot nx:Nat}{t:SetTable}(hi:s.heap.get? it=some (itO (rawInt slot) i a es.size ep))(ho:s.heap.get? a=some o)(hd:o.data = .set es ep t)(hf:t.fits es.size=true)(hn:Tells w a slot i ep (some (x,nx)) s)
  (q:∀ h':Heap,h'.get? it=some (itO (rawInt nx) (i+1) a es.size ep)->Heap.SameBut it s.heap h'->Q (some x) { s with heap:=h' }):wpAny (model prog w) A (pyNext (.ref it)) Q E s:=by
 have hT:s.TypeIs (.ref it) "set_iterator":=⟨_,hi,rfl⟩;unfold pyNext;refine ag (gT (cc (name:=Str.ofString "__next__") hT slot_next (bU slot_next hT entry_next ?_ (args_next _))));unfold Builtin.«set_iterator.__next__»;have hn':∀ {A:Around} {E:Value->Shared->Prop} {Q:Option (Value × Nat)->Shared->Prop},Q _ s->wpAny (model prog w) A (setNext a (slot:Int).toNat (i:Int).toNat (ep:Int).toNat) Q E s:=λ{A E Q} r=>hn prog A E Q r
 wp_walk using hn',cQ ho hd hf
 exact ⟨x,rfl,aB (q _ (cV _ (cV _ hi rfl) rfl) ((cO ..).trans (cO ..)))⟩
theorem akf{o:Obj}{es:Array (Int × Value)}{ep i slot:Nat}{t:SetTable}(hh:A.handled=none)(hi:s.heap.get? it=some (itO (rawInt slot) i a es.size ep))(ho:s.heap.get? a=some o)(hd:o.data = .set es ep t)(hf:t.fits es.size=true)(hn:Tells w a slot i ep none s)
  (q:∀ h':Heap,Heap.ExtBut it s.heap h'->Q none { s with heap:=h' }):wpAny (model prog w) A (pyNext (.ref it)) Q E s:=by
 have hT:s.TypeIs (.ref it) "set_iterator":=⟨_,hi,rfl⟩;unfold pyNext;refine ag (gT (cc (name:=Str.ofString "__next__") hT slot_next (bU slot_next hT entry_next ?_ (args_next _))));unfold Builtin.«set_iterator.__next__»;have hn':∀ {A:Around} {E:Value->Shared->Prop} {Q:Option (Value × Nat)->Shared->Prop},Q _ s->wpAny (model prog w) A (setNext a (slot:Int).toNat (i:Int).toNat (ep:Int).toNat) Q E s:=λ{A E Q} r=>hn prog A E Q r
 wp_walk using hn',cQ ho hd hf
 unfold raiseNew
 apply ag
 apply wpAny_handled
 rw [show A.in1.handled=_ from hh]
 wp_walk
 show wpAny (model prog w) A (isSubtype (.type "StopIteration") (.type "StopIteration")) _ _ _;rw [isSubtype_stop];exact aB (aB (q _ λb o hb e=>am _ (am _ ((cO s.heap it _).extBut b o hb e))))
end
end SETB
set_option maxHeartbeats 1000000
namespace SETB
open PySem PySem.Spec PyProof.Rows SETA PySem.Builtin
def slotAt(t:SetTable)(i:Nat):Nat:=if i=0 then 0 else t.place.getD (i - 1) 0+1
theorem akg(g:Gd t)(h:i<=t.place.size):SetTable.below t.place (slotAt t i)=i:=by
 unfold slotAt
 split
 ·rename_i z;subst z;exact at8 g.ri
 ·have hk:i - 1<t.place.size:=by omega
  have e:t.place.getD (i - 1) 0=t.place[i - 1]:=by simp [Array.getD,hk]
  rw [e,ah2 g.ri hk];omega
section
variable{prog:Program}{w:World}{E:Value->Shared->Prop}{A:Around}{s:Shared}{a:Addr}{o:Obj}{es:Array (Int × Value)}{ep i:Nat}{t:SetTable}
theorem aha(ho:s.heap.get? a=some o)(hd:o.data = .set es ep t)(hf:t.fits es.size=true)(bt:byT w=false)(pl:t.plain=true\/es.size<=1)(ld:t.led=true)(g:Gd t)(hi:i<es.size):Tells w a (slotAt t i) i ep (some (es[i].2,slotAt t (i+1))) s:=λprog A E Q q=>by
 have sz:=size_of hf;refine a8l ho hd hf bt pl ld (akg g (by omega)) (.inl ⟨_,_,_,bO hi,bO (by omega),rfl⟩) ?_
 have e:slotAt t (i+1)=t.place[i]'(by omega)+1:=by
  unfold slotAt;rw [aY (by omega)]
  simp [Array.getD,show i<t.place.size by omega]
 rw [e] at q;exact q
theorem ahb(ho:s.heap.get? a=some o)(hd:o.data = .set es ep t)(hf:t.fits es.size=true)(bt:byT w=false)(pl:t.plain=true\/es.size<=1)(ld:t.led=true)(g:Gd t):Tells w a (slotAt t es.size) es.size ep none s:=λprog A E Q q=>by
 have sz:=size_of hf;exact a8l ho hd hf bt pl ld (akg g (by omega)) (.inr ⟨Array.getElem?_eq_none (by omega),rfl⟩) q
theorem ao4(ho:s.heap.get? a=some o)(hex:o.ExactSet)(hd:o.data = .set es ep t)(hf:t.fits es.size=true)(nd:byT w=true\/t.plain=true\/es.size<=1)
  (q:Q (.ref s.heap.objs.size) { s with heap:=s.heap.push (itO (rawInt 0) 0 a es.size ep) }):wpAny (model prog w) A (pyIter (.ref a)) Q E s:=by
 have ht:s.TypeIs (.ref a) "set":=⟨_,ho,hex.1⟩;refine wpAny_pyIter_slot ht F.slot_set_iter (bU F.slot_set_iter ht ah9 ?_ (ake _));have dr:∀ {A:Around} {E:Value->Shared->Prop} {Q:Bool->Shared->Prop},Q false s->wpAny (model prog w) A (setDrawn a) Q E s:=λ{A E Q} r=>by
  unfold setDrawn;refine ag (cQ ho hd hf (ag (ab3 (aB ?_))));have:(!byT w && (!t.plain && decide (es.size > 1)))=false:=by
   rcases nd with z | z | z
   ·rw [z];rfl
   ·rw [z];simp
   ·rw [aU (by omega)];simp
  rw [<-this] at r;exact r
 unfold Builtin.«frozenset.__iter__»
 wp_walk using dr,cQ ho hd hf
 exact ⟨_,rfl, "set_iterator",_,⟨_,aJ _ rfl,rfl⟩,slot_next.lookup,q⟩
end
end SETB
set_option maxHeartbeats 1000000
namespace SETB
open PySem PySem.Spec PyProof.Rows SETA PySem.Builtin
theorem a9p{α:Type}:∀ (l:List α) (i:Nat) (h:i<l.length),(l[i]::l.eraseIdx i).Perm l
 | x::l,0,_=>.refl _
 | x::l,i+1,h=>(List.Perm.swap ..).trans ((a9p l i (fk h)).cons x)
theorem akh{α:Type}(nx:Nat->Nat):∀ (n k:Nat) (l:List α) (out:Array α),l.length=n->(pickOrder.go nx n k l out).toList.Perm (out.toList++l)
 | 0,k,l,out,e=>by
  cases l with
  | nil=>simp [pickOrder.go]
  | cons x l=>cases e
 | n+1,k,l,out,e=>by
  have hi:nx k % l.length<l.length:=fA _ (by omega)
  unfold pickOrder.go;rw [af hi];refine (akh nx n (k+1) _ _ (by rw [List.length_eraseIdx_of_lt hi];omega)).trans ?_
  rw [Array.toList_push,fq];exact (a9p l _ hi).append_left _
theorem aki{α:Type}(nx:Nat->Nat)(xs:Array α):(pickOrder nx xs).toList.Perm xs.toList:=by
 have:=akh nx xs.size 0 xs.toList #[] (by simp)
 simpa [pickOrder] using this
def afy(w:World)(a:Addr)(ep:Nat)(es:Array (Int × Value)):Array (Int × Value):=if byT w then pickOrder (w.params.setOrder a ep) es else es
theorem afz(w:World)(a:Addr)(ep:Nat)(es:Array (Int × Value)):(afy w a ep es).toList.Perm es.toList:=by
 unfold afy
 split
 ·exact aki _ _
 ·exact .refl _
theorem a5u(w:World)(a:Addr)(ep:Nat)(es:Array (Int × Value)):(afy w a ep es).size=es.size:=by
 have:=(afz w a ep es).length_eq
 simpa using this
def ab4(w:World)(t:SetTable)(i:Nat):Nat:=if byT w then 0 else slotAt t i
section
variable{prog:Program}{w:World}{E:Value->Shared->Prop}{A:Around}{s:Shared}{a:Addr}{o:Obj}{es:Array (Int × Value)}{ep i:Nat}{t:SetTable}
theorem ad3(ho:s.heap.get? a=some o)(hd:o.data = .set es ep t)(hf:t.fits es.size=true)(bt:byT w=true)(q:Q (pickOrder (w.params.setOrder a ep) es) s):wpAny (model prog w) A (setWalk a) Q E s:=by
 unfold setWalk
 apply ag
 apply cQ ho hd hf
 apply ag
 apply ab3
 simp only [bt,dv];exact ag (eM (aB q))
theorem ad4(ho:s.heap.get? a=some o)(hd:o.data = .set es ep t)(hf:t.fits es.size=true)(bt:byT w=true)
  (q:Q (((pickOrder (w.params.setOrder a ep) es)[i]?).map λe=>(e.2,slot)) s):wpAny (model prog w) A (setNext a slot i ep) Q E s:=by
 unfold setNext
 apply ag
 apply cQ ho hd hf
 apply ag
 apply ab3
 simp only [bt,dv,bne_self_eq_false,cb,dP]
 first
 | exact ag (ad3 ho hd hf bt (aB q))
 | exact ag (aB (ag (ad3 ho hd hf bt (aB q))))
theorem atg(ho:s.heap.get? a=some o)(hd:o.data = .set es ep t)(hf:t.fits es.size=true)(nd:byT w=true\/t.plain=true\/es.size<=1)(ld:t.led = !byT w)(g:Gd t)(hi:i<(afy w a ep es).size):Tells w a (ab4 w t i) i ep (some ((afy w a ep es)[i].2,ab4 w t (i+1))) s:=by
 have sz:=a5u w a ep es
 cases bt:byT w with
 | true =>
  intro prog A E Q q
  refine ad4 ho hd hf bt ?_;have e:pickOrder (w.params.setOrder a ep) es=afy w a ep es:=by unfold afy;rw [bt];rfl
  rw [e,bO hi];unfold ab4 at q ⊢;rw [bt] at q ⊢;exact q
 | false =>
  have e:afy w a ep es=es:=by unfold afy;rw [bt];rfl
  rw [bt] at ld;have:=aha (i:=i) ho hd hf bt (nd.resolve_left (by rw [bt];decide)) ld g (by omega)
  unfold ab4;rw [bt];simp only [e,cb,dP];exact this
theorem akj(ho:s.heap.get? a=some o)(hd:o.data = .set es ep t)(hf:t.fits es.size=true)(nd:byT w=true\/t.plain=true\/es.size<=1)(ld:t.led = !byT w)(g:Gd t):Tells w a (ab4 w t es.size) es.size ep none s:=by
 have sz:=a5u w a ep es
 cases bt:byT w with
 | true =>
  intro prog A E Q q
  refine ad4 ho hd hf bt ?_;have e:pickOrder (w.params.setOrder a ep) es=afy w a ep es:=by unfold afy;rw [bt];rfl
  rw [e,Array.getElem?_eq_none (by omega)]
  exact q
 | false =>
  rw [bt] at ld;have:=ahb ho hd hf bt (nd.resolve_left (by rw [bt];decide)) ld g
  unfold ab4;rw [bt];exact this
end
end SETB
set_option maxHeartbeats 1000000
namespace SETB
open PySem PySem.Spec PyProof.Rows SETA PySem.Builtin
theorem slot_self:Slot "set_iterator" "__iter__" "set_iterator.__iter__" :=
 .of (owner := "set_iterator") (n := "__iter__") (by rw [typeLookup_type,builtinLookup_eq_fast];kernel_rfl) (by decide +kernel) (by decide +kernel) (by decide +kernel)
  (Or.inl (by decide +kernel)) (by rw [gE];kernel_rfl)
theorem entry_self:entryFor table "set_iterator.__iter__" = some Builtin.«dict_keyiterator.__iter__»:=entryFor_alias (id' := "dict_keyiterator.__iter__") (by kernel_rfl) rfl (by decide +kernel) (by kernel_rfl)
theorem args_self(a:Value):argsOk "set_iterator.__iter__" ⟨[a],[]⟩:=by unfold argsOk;kernel_rfl
section
variable{prog:Program}{w:World}{A:Around}{a I:Addr}{o:Obj}{es:Array (Int × Value)}{ep:Nat}{t:SetTable}
theorem ath{s:Shared}(ht:s.TypeIs (.ref I) "set_iterator")(q:Q (.ref I) s):wpAny (model prog w) A (pyIter (.ref I)) Q E s:=by
 refine wpAny_pyIter_slot ht slot_self (bU slot_self ht entry_self ?_ (args_self _));show wpAny (model prog w) _ (ret (.ref I)) _ _ s;exact aB ⟨_,rfl, "set_iterator",_,ht,slot_next.lookup,q⟩
theorem akk(hh:A.handled=none)(ne:a≠I)(hd:o.data = .set es ep t)(hf:t.fits es.size=true)(nd:byT w=true\/t.plain=true\/es.size<=1)(ld:t.led = !byT w)(g:Gd t) :
  Walks prog w A I [I,a] [I] es.size (λi v=>((afy w a ep es)[i]?).map (·.2)=some v) (λi h=>h.get? I=some (itO (rawInt (ab4 w t i)) i a es.size ep)/\h.get? a=some o) where
 sub:=λb hb=>aD.mpr (.inl (ai.mp hb))
 frame:=λ_ _ _ st hk=>⟨hk I (by simp) _ st.1,hk a (by simp) _ st.2⟩
 item:=λi s Q E hi st q=>by
  have hi':i<(afy w a ep es).size:=by rw [a5u];exact hi
  refine next_item st.1 st.2 hd hf (atg st.2 hd hf nd ld g hi') λh' e sb=>?_;exact q _ h' s.toks (by rw [bO hi'];rfl) ⟨e,sb.extBut a o ne st.2⟩ λb o hb e=>sb.extBut b o (λh=>hb (by simp [h])) e
 done:=λs Q E st q=>akf hh st.1 st.2 hd hf (akj st.2 hd hf nd ld g) λh' e=>q h' s.toks λb o hb x=>e b o (λh=>hb (by simp [h])) x
 self:=λi s Q E st q=>ath ⟨_,st.1,rfl⟩ q
end
theorem akl{A:Around}{s:Shared}(hh:A.handled=none)(hS:SetI (!byT w) a ks s.heap)
  (q:∀ (es:Array (Int × Value)) (St:Nat->Heap->Prop),AllI es.toList->(es.toList.map kOf).Perm ks->∀ h':Heap,(∀ b o,s.heap.get? b=some o->h'.get? b=some o)->h'.objs.size=s.heap.objs.size+1->St 0 h'->
   Walks prog w A s.heap.objs.size [s.heap.objs.size,a] [s.heap.objs.size] es.size (λi v=>(es[i]?).map (·.2)=some v) St->Q (.ref s.heap.objs.size) { s with heap:=h' }):wpAny (model prog w) A (pyIter (.ref a)) Q E s:=by
 obtain ⟨o,es,ep,t,ho,hex,hd,al,pm,sz,ft,gr,ld⟩:=hS;have nd:byT w=true\/t.plain=true\/es.size<=1:=.inr (.inl gr.1.plain);refine ao4 ho hex hd ft nd ?_;have ne:a≠s.heap.objs.size:=λc=>by
  rw [c] at ho;simp [Heap.get?] at ho
 have W:=akk (prog:=prog) (I:=s.heap.objs.size) hh ne hd ft nd ld gr.1.gd;have pp:=afz w a ep es;rw [<-a5u w a ep es] at W;refine q (afy w a ep es) _ (λe he=>al e (pp.mem_iff.mp he)) ((pp.map kOf).trans pm) _ (λb o e=>am _ e) (by simp [Heap.push]) ⟨?_,am _ ho⟩ W
 have s0:ab4 w t 0=0:=by unfold ab4 slotAt;simp
 rw [s0,a5u];exact aJ _ rfl
end SETB
set_option maxHeartbeats 1000000
namespace SETB
open PySem PySem.Spec PyProof.Rows SETA PySem.Builtin
section
variable{prog:Program}{w:World}{A:Around}{s:Shared}{E:Value->Shared->Prop}{a:Addr}{ks:List Int}
theorem ao5(ht:s.TypeIs (.ref a) "set")(q:Q false s):wpAny (model prog w) A (Builtin.List.listLengthHint (.ref a)) Q E s:=by
 unfold Builtin.List.listLengthHint;refine ag (fS ht F.slot_set_len.lookup ?_);have sp:splitId "set.__len__" = some ("set", "__len__"):=by decide +kernel
 dsimp only;rw [sp];dsimp only
 apply ag
 apply wpAny_isInstance (T := "set") (b:=true) ht (by rw [gE];kernel_rfl)
 rw [aY (by decide)]
 refine wpAny_ite_split (λ_=>?_) λn=>absurd (by decide +kernel) n
 apply ag
 apply fY ht
 exact aB q
theorem aeb(hh:A.handled=none)(hS:SetI (!byT w) a ks s.heap)
  (q:∀ (vs:List Value) (js:List Int) (s':Shared),js.Perm ks->vs.length=js.length->(∀ (i:Nat) (v:Value),vs[i]? = some v->∃ k t,js[i]? = some k/\v=Value.int k t)->Moved [] (λx y=>y=x) s s'->s.heap.objs.size<=s'.heap.objs.size->Q vs s'):wpAny (model prog w) A (collect (.ref a)) Q E s:=by
 unfold collect
 apply ag
 apply wpAny_runValue
 apply i7 F.entry_proto_collect
 rw [fL F.plain_proto_collect _];unfold Builtin.«proto.collect»
 wp_walk
 refine ⟨plainId_quiet F.plain_list_iadd _,i7 F.entry_list_iadd ?_⟩;rw [fL F.plain_list_iadd _];obtain ⟨o,ho,hT⟩:∃ o,s.heap.get? a=some o/\o.cls = .type "set":=by
  obtain ⟨o,es,ep,t,ho,hex,_⟩:=hS;exact ⟨o,ho,hex.1⟩
 have lt:=aH ho;have up:∀ b x,s.heap.get? b=some x->(s.heap.push { cls:=.type "list",data:=.seq #[] }).get? b=some x:=λb x e=>am _ e;have sz0:(s.heap.push { cls:=.type "list",data:=.seq #[] }).objs.size=s.heap.objs.size+1:=by simp [Heap.push]
 have hL:(s.heap.push { cls:=.type "list",data:=.seq #[] }).get? s.heap.objs.size=some { cls:=.type "list",data:=.seq #[] }:=aJ _ rfl;have hS0:=hS.keep λx e=>up a x e;have few:=hS.len
 generalize s.heap.push { cls:=.type "list",data:=.seq #[] }=h0 at up sz0 hL hS0 ⊢
 show wpAny (model prog w) A.in1 (Builtin.List.listExtendWith (.ref s.heap.objs.size) (.ref a) (.ref s.heap.objs.size)) _ _ _;unfold Builtin.List.listExtendWith
 apply ag
 have ht0:({ s with heap:=h0 }:Shared).TypeIs (.ref a) "set":=⟨o,up a o ho,hT⟩
 apply fY ht0
 have far:s.heap.objs.size≠a:=hU lt;rw [aY (by simp [Builtin.List.listSameRef,far])]
 apply ag
 refine akl (s:={ s with heap:=h0 }) hh hS0 λes St al pm h1 ext sz1 st W=>?_
 apply ag
 apply cD
 have ht1:({ s with heap:=h1 }:Shared).TypeIs (.ref a) "set":=⟨o,ext a o (up a o ho),hT⟩
 apply ao5 ht1
 refine wpAny_ite_split (λ_=>?_) λn=>absurd (by decide +kernel) n
 apply ag
 apply eT
 apply ag
 have n1:es.size=ks.length:=by
  have:=pm.length_eq
  rwa [aA,br] at this
 have hL1:=ext _ _ hL;show wpAny (model prog w) A.in1 (updateSeq s.heap.objs.size (·.push .none)>>=λ_=>updateSeq s.heap.objs.size (·.pop)) _ _ _;refine ag (wpAny_updateSeq hL1 rfl ?_);have hL2:=cV (Obj.mapSeq (·.push Value.none)) hL1 rfl;refine wpAny_updateSeq hL2 rfl ?_;have hL3:=cV (Obj.mapSeq (·.pop)) hL2 rfl;have oth:∀ b x,b≠s.heap.objs.size->h1.get? b=some x->((h1.update s.heap.objs.size (Obj.mapSeq (·.push Value.none))).update s.heap.objs.size (Obj.mapSeq (·.pop))).get? b=some x :=
  λb x hb e=>(cL _ _ (eQ hb)).trans ((cL _ _ (eQ hb)).trans e)
 have hf:s.heap.objs.size ∉ [h0.objs.size,a]:=λc=>by
  simp only [aD,aN,bT] at c
  rcases c with c | c
  ·exact bp (Nat.lt_of_lt_of_eq (fF _) sz0.symm) c
  ·exact far c
 refine aB ⟨plainId_quiet F.plain_extend_loop _,codeAny_extend_loopS W.toS (by have:ks.length<4096:=few;rw [n1];unfold sizeLine;omega) _ hf _ es.size 0 _ _ _ rfl (bL _)
  (W.frame 0 h1 _ st λb hb x e=>oth b x (λc=>hf (c ▸ hb)) e) hL3 (ItemsOf.nil _) λs' acc c' hm hA hI=>?_⟩
 show wpAny (model prog w) A (load s.heap.objs.size>>=_) _ _ s'
 apply ag
 apply wpAny_load hA
 refine aB (q acc.toList (es.toList.map kOf) s' pm (by rw [br,hI.1,aA,br]) (λi v e=>?_) ⟨λb x _ e=>?_,hm.gens,hm.drawn,hm.os,hm.toks⟩ (dR (aH hA)))
 ·have this:(es[i]?).map (·.2)=some v:=hI.2 i v (by simpa using e)
  cases g:es[i]? with
  | none=>rw [g] at this;cases this
  | some y =>
   rw [g] at this;have m:y∈es.toList:=by
    obtain ⟨hi,z⟩:=fW.mp g;rw [<-z];simp
   obtain ⟨k,t,rfl⟩:=al y m;cases this
   exact ⟨k,t,by simp [g,kOf],rfl⟩
 ·have lb:=aH e;refine hm.heap b x (λc=>?_) (oth b x (bp lb) (ext b x (up b x e)));simp only [aD,aN,bT] at c
  rcases c with c | c
  ·exact bp lb c
  ·exact bp (Nat.lt_of_lt_of_eq (eE lb) sz0.symm) c
end
end SETB
set_option maxHeartbeats 1000000
namespace SETB
open PySem PySem.Spec PyProof.Rows SETA PySem.Builtin
section
variable{prog:Program}{w:World}{A:Around}{s:Shared}{E:Value->Shared->Prop}{a:Addr}{ks:List Int}
theorem ints_of{vs:List Value}{js:List Int}(len:vs.length=js.length)(h:∀ (i:Nat) (v:Value),vs[i]? = some v->∃ k t,js[i]? = some k/\v=Value.int k t):IntsAre vs js:=by
 have all:∀ v,v∈vs->∃ n t,v=Value.int n t:=λv hv=>by
  obtain ⟨i,hi,e⟩:=eG.mp hv;obtain ⟨k,t,_,z⟩:=h i v (by rw [af hi,e])
  exact ⟨k,t,z⟩
 have e:vs.map numOf=js:=by
  refine fE (by rw [aA,len]) λi h1 h2=>?_
  have hi:i<vs.length:=by omega
  obtain ⟨k,t,x,z⟩:=h i vs[i] (af hi);rw [List.getElem_map,z];rw [af h2] at x;cases x
  rfl
 have:=intsAre_map vs all
 rwa [e] at this
theorem ahc(hh:A.handled=none)(hS:SetI (!byT w) a ks s.heap)(h64:ks.length<64)
  (q:∀ (l:Addr) (out:Array Value) (e:Nat) (s':Shared),s.heap.objs.size<=l->IntsAre out.toList (PySem.W.sortI ks)->s'.heap.get? l=some (seqObj "list" out e)->Moved [] (λx y=>y=x) s s'->Q (.ref l) s') :
  wpAny (model prog w) A (call (.builtin "sorted") [.ref a]) Q E s:=by
 refine Calls.call_function_entry kind_sorted plain_sorted entry_sorted (args_sorted1 _) ?_;unfold Builtin.«sorted»
 apply ag (m:=checkCount "sorted" 1 1 _)
 apply aB
 apply ag
 refine aeb hh hS λvs js s1 pj len it mv up=>?_;have hI:=ints_of len it;have l64:vs.length<64:=by rw [len,pj.length_eq];exact h64
 apply ag
 refine wpAny_newList ?_ (hsz:=by rw [dS];omega)
 have hL:(s1.heap.push (seqObj "list" vs.toArray 0)).get? s1.heap.objs.size=some (seqObj "list" vs.toArray 0):=aJ _ rfl
 apply ag
 apply cD
 refine bU slot_list_sort (s:={ s1 with heap:=s1.heap.push (seqObj "list" vs.toArray 0) }) ⟨_,hL,rfl⟩ entry_list_sort (list_sort_tree hL hI l64 λout ns a1 a2 a3=>⟨_,rfl,?_⟩) (args_list_sort _)
 have e2:ns=PySem.W.sortI ks:=PySem.W.eq_sortI (a2.trans pj) a3;subst e2;obtain ⟨e,he⟩:=sortedHeap_at (out:=out) hL;refine aB ⟨_,rfl,q _ out e _ ?_ a1 he ⟨λb x hb g=>?_,mv.gens,mv.drawn,mv.os,mv.toks⟩⟩
 ·exact up
 ·have g1:=mv.heap b x hb g;have lt:=aH g1;show (sortedHeap _ _ _ _).get? b=some x;rw [sortedHeap_old (bp lt) (by rw [size_push'];exact eE lt)]
  exact am _ g1
end
end SETB
set_option maxHeartbeats 1000000
namespace L2
open PySem PySem.Spec PyProof.Rows SETB
def axn(w:World)(a:Addr)(ks:List Int):HO:=.ext λh=>SetI (!byT w) a ks h
section
variable{X:Cx}
theorem a8m(hc:X.calm=true):CallR X (.builtin "sorted") (λxs H Q=>∃ (p:Addr) (ks:List Int),xs=[.ref p]/\H p=some (axn X.w p ks)/\ks.length<64/\∀ l,H l=none->Q (.ref l) (upd H l (.lst ((PySem.W.sortI ks).map V.int)))):=by
 intro pins s σ H xs us Q I r ⟨p,ks,e,hp,h64,q⟩
 subst e;obtain ⟨u,rfl,ru⟩:=vals1 r;cases ru
 obtain ⟨hS,_⟩:=I.hok p _ hp;refine ahc (I.ok.hd hc) hS h64 λl out e s' hl a1 he mv=>?_;obtain ⟨h',g',d',t',o'⟩:=s';obtain ⟨mh,mg,md,mo,mt⟩:=mv;dsimp only at mh mg md mo mt he;subst mg md mo;have ln:(PySem.W.sortI ks).length=ks.length:=(gu ks).length_eq;refine ⟨.ref l,_,I.laid (t':=t') (λb u g=>mh b u (by simp) g) hl (show ObjOk X.prog X.w _ _ _ (.lst ((PySem.W.sortI ks).map V.int)) from ⟨by rw [aA,ln];have:=dS;omega,out.toList,e,a5j a1,by simpa [seqObj] using he⟩),rfl,q _ (I.hok.fresh hl)⟩
theorem ati(x:SetI (!byT w) a ks h):ObjOk P w H h a (axn w a ks):=by
 refine ⟨x,?_,λh1 h2 p k=>p.keep k⟩;obtain ⟨o,_,_,_,ho,_⟩:=x;exact ⟨o,ho⟩
end
end L2
set_option maxHeartbeats 1000000
namespace L2
open PySem PySem.Spec PyProof.Rows SETB
section
variable{prog:Program}{w:World}{A:Around}{R:Result->Shared->Prop}{s:Shared}{elt t0 i0 t1 i1:Expr}{scope:Scope}{pos:Pos}{it acc:Value}{env:Env}
theorem ahd(J:Nat->Shared->Prop)
  (step:∀ m z,J m z->wpAny (model prog w) A (pyNext it) (λgot z1=>match got with
   | none=>R (.ok .next) z1
   | some v=>wpAny (model prog w) A (letOwnedTupleGo t1 it v) (λ_ z2=>wpAny (model prog w) A (assign t1 env v) (λ_ z3=>wpAny (model prog w) A (eval elt env) (λx z4 =>
     wpAny (model prog w) A (call (.builtin "set.add") [acc,x]) (λ_ z5=>∃ m',m'<m/\J m' z5) (λ_ _=>False) z4)
     (λ_ _=>False) z3) (λ_ _=>False) z2) (λ_ _=>False) z1) (λ_ _=>False) z)
  (m:Nat) (j0:J m s):codeAny (model prog w) A (.compLoop (.SetComp elt [⟨t0,i0,[],0⟩,⟨t1,i1,[],0⟩] scope pos) 1 it acc env) R s:=by
 refine i3 rfl J (λm z hj=>(io ?_:wpAny _ _ ((compTurn (.SetComp elt [⟨t0,i0,[],0⟩,⟨t1,i1,[],0⟩] scope pos) 1 it acc env).onRaise _) _ _ z)) m j0;show wpAny (model prog w) _ (standAt i1.pos>>=λ_=>pyNext it>>=_) _ _ z
 apply ag
 apply cI
 apply ag
 refine bq (step m z hj) (λgot z1 h1=>?_) λ_ _ no=>no.elim
 match got,h1 with
 | none,h1=>exact aB h1
 | some v,h1 =>
  apply ag
  refine bq h1 (λ_ z2 h2=>?_) λ_ _ no=>no.elim
  apply ag
  refine bq h2 (λ_ z3 h3=>?_) λ_ _ no=>no.elim;show wpAny (model prog w) _ ((eval elt env>>=λx=>standAt elt.pos>>=λ_=>call (.builtin "set.add") [acc,x]>>=λ_=>pure ())>>=_) _ _ _
  apply ag
  apply ag
  refine bq h3 (λx z4 h4=>?_) λ_ _ no=>no.elim
  apply ag
  apply cI
  apply ag
  exact bq h4 (λ_ z5 h5=>aB (aB ⟨rfl,h5⟩)) λ_ _ no=>no.elim
theorem aec(h0:codeAny (model prog w) A (.compLoop (.SetComp elt [⟨t0,i0,[],0⟩,⟨t1,i1,[],0⟩] scope pos) 1 it acc env) R s)
  (h:wpAny (model prog w) A (pyIter it) (λit' s'=>codeAny (model prog w) A (.compLoop (.SetComp elt [⟨t0,i0,[],0⟩,⟨t1,i1,[],0⟩] scope pos) 1 it' acc env) R s') (λ_ _=>False) s) :
  codeAny (model prog w) A (.compStart (.SetComp elt [⟨t0,i0,[],0⟩,⟨t1,i1,[],0⟩] scope pos) 1 it acc env) R s:=by
 apply i8
 show wpAny (model prog w) _ ((compStart (.SetComp elt [⟨t0,i0,[],0⟩,⟨t1,i1,[],0⟩] scope pos) 1 it acc env).onRaise _) _ _ s
 apply gS
 unfold compStart;show wpAny (model prog w) _ (ask>>=_) _ _ s
 apply ag
 apply eM
 refine wpAny_ite ?_
 split
 ·first
  | exact aB ⟨rfl,h0⟩
  | exact ag (aB (aB ⟨rfl,h0⟩))
 ·apply ag
  apply eT
  show wpAny (model prog w) _ (standAt i1.pos>>=_) _ _ s
  apply ag
  apply cI
  apply ag
  exact bq h (λit' s' h'=>aB ⟨rfl,h'⟩) λ_ _ no=>no.elim
theorem aed(J:Nat->Shared->Prop)
  (step:∀ m z,J m z->wpAny (model prog w) A (pyNext it) (λgot z1=>match got with
   | none=>R (.ok .next) z1
   | some v=>wpAny (model prog w) A (letOwnedTupleGo t0 it v) (λ_ z2=>wpAny (model prog w) A (assign t0 env v) (λ_ z3=>wpAny (model prog w) A (eval i1 env) (λx z4 =>
     wpAny (model prog w) A (foldedSetIterable i1 env x) (λy z5=>wpAny (model prog w) A (pyIter y) (λit1 z6 =>
      codeAny (model prog w) A (.compStart (.SetComp elt [⟨t0,i0,[],0⟩,⟨t1,i1,[],0⟩] scope pos) 1 it1 acc env) (λr z7=>∃ f,r = .ok f/\∃ m',m'<m/\J m' z7) z6) (λ_ _=>False) z5) (λ_ _=>False) z4)
     (λ_ _=>False) z3) (λ_ _=>False) z2) (λ_ _=>False) z1) (λ_ _=>False) z)
  (m:Nat) (j0:J m s):codeAny (model prog w) A (.compLoop (.SetComp elt [⟨t0,i0,[],0⟩,⟨t1,i1,[],0⟩] scope pos) 0 it acc env) R s:=by
 refine i3 rfl J (λm z hj=>(io ?_:wpAny _ _ ((compTurn (.SetComp elt [⟨t0,i0,[],0⟩,⟨t1,i1,[],0⟩] scope pos) 0 it acc env).onRaise _) _ _ z)) m j0;show wpAny (model prog w) _ (standAt i0.pos>>=λ_=>pyNext it>>=_) _ _ z
 apply ag
 apply cI
 apply ag
 refine bq (step m z hj) (λgot z1 h1=>?_) λ_ _ no=>no.elim
 match got,h1 with
 | none,h1=>exact aB h1
 | some v,h1 =>
  apply ag
  refine bq h1 (λ_ z2 h2=>?_) λ_ _ no=>no.elim
  apply ag
  refine bq h2 (λ_ z3 h3=>?_) λ_ _ no=>no.elim;show wpAny (model prog w) _ (eval i1 env>>=_) _ _ _
  apply ag
  refine bq h3 (λx z4 h4=>?_) λ_ _ no=>no.elim
  apply ag
  apply cI
  show wpAny (model prog w) _ (foldedSetIterable i1 env x>>=_) _ _ _
  apply ag
  refine bq h4 (λy z5 h5=>?_) λ_ _ no=>no.elim;show wpAny (model prog w) _ (holding [y] (pyIter y)>>=_) _ _ _
  apply ag
  apply cD
  refine bq h5 (λit1 z6 h6=>?_) λ_ _ no=>no.elim
  apply ag
  refine wpAny_runOwn (hV h6 λr z7 h7=>?_);obtain ⟨f,rfl,h8⟩:=h7;exact aB ⟨rfl,h8⟩
end
theorem akm:eval (.SetComp elt gens scope pos) env =
  comprehension (.SetComp elt gens scope pos) scope env (firstIterPos gens pos) (newSet (.type "set")) (firstAsync gens) (firstIter gens env):=rfl
section
variable{prog:Program}{w:World}{A:Around}{R:Result->Shared->Prop}{s:Shared}{elt t0 i0 t1 i1:Expr}{scope:Scope}{pos:Pos}{it acc:Value}{env:Env}
theorem ad5(h0:codeAny (model prog w) A (.compLoop (.SetComp elt [⟨t0,i0,[],0⟩,⟨t1,i1,[],0⟩] scope pos) 0 it acc env) R s)
  (h:wpAny (model prog w) A (pyIter it) (λit' s'=>codeAny (model prog w) A (.compLoop (.SetComp elt [⟨t0,i0,[],0⟩,⟨t1,i1,[],0⟩] scope pos) 0 it' acc env) R s') (λ_ _=>False) s) :
  codeAny (model prog w) A (.compStart (.SetComp elt [⟨t0,i0,[],0⟩,⟨t1,i1,[],0⟩] scope pos) 0 it acc env) R s:=by
 apply i8
 show wpAny (model prog w) _ ((compStart (.SetComp elt [⟨t0,i0,[],0⟩,⟨t1,i1,[],0⟩] scope pos) 0 it acc env).onRaise _) _ _ s
 apply gS
 unfold compStart;show wpAny (model prog w) _ (ask>>=_) _ _ s
 apply ag
 apply eM
 refine wpAny_ite ?_
 split
 ·first
  | exact aB ⟨rfl,h0⟩
  | exact ag (aB (aB ⟨rfl,h0⟩))
 ·apply ag
  apply eT
  show wpAny (model prog w) _ (standAt i0.pos>>=_) _ _ s
  apply ag
  apply cI
  apply ag
  exact bq h (λit' s' h'=>aB ⟨rfl,h'⟩) λ_ _ no=>no.elim
end
section
variable{X:Cx}
theorem ahe(I:Inv X pins σ H s)
  (hf:∀ b∈fp,FpOk X pins H b) (hC:s.heap.objs.size<=C) (hacc:s.heap.objs.size<=acc)
  (J:Inv (cxC X N scope cl C fp s H) [] σ' H' s') (hn:H' acc=none) (hob:ObjOk X.prog X.w (upd H' acc ho) h' acc ho) (sb:Heap.SameBut C s'.heap h') :
  Inv X pins σ (upd H' acc ho) { s' with heap:=h' }:=by
 have k:∀ b o,b≠C->s'.heap.get? b=some o->h'.get? b=some o:=λb o hb e=>sb.extBut b o hb e;have old:∀ b o,s.heap.get? b=some o->b≠C/\b≠acc:=λb o e=>⟨bp (aR (aH e) hC),bp (aR (aH e) hacc)⟩;have u0:Un (frs X.stack) fp H H' s.heap s'.heap:=J.base;have fC:H' C=none:=J.free;have u:Un (frs X.stack) fp H (upd H' acc ho) s.heap h':=by
  refine ⟨λb o e n' hb hx=>k b o (old b o e).1 (u0.keep b o e n' hb hx),λb o e n' hb hx=>?_,λb o e n' hx=>?_,λb o e hx=>?_,λb xs e=>?_,λb o v e=>?_,λb ps e=>?_⟩
  ·obtain ⟨sl,e1⟩:=u0.slot b o e n' hb hx;exact ⟨sl,k b _ (old b o e).1 e1⟩
  ·rw [jj (old b o e).2];exact u0.free b o e n' hx
  ·obtain ⟨o',e1⟩:=u0.there b o e hx;exact ⟨o',k b _ (old b o e).1 e1⟩
  ·rw [jj (jf (u0.tups b xs e) hn)];exact u0.tups b xs e
  ·rw [jj (jf (u0.frzs b o v e) hn)];exact u0.frzs b o v e
  ·obtain ⟨more,e1⟩:=u0.tbls b ps e;exact ⟨more,by rw [jj (jf e1 hn)];exact e1⟩
 have hok:HOk X.prog X.w (upd H' acc ho) h':=λb o e=>by
  by_cases hb:b=acc
  ·subst hb;rw [qd] at e;cases e
   exact hob
  ·rw [jj hb] at e;refine (J.hok b o e).stay (λc v hc q=>k c v ?_ q) (λc q=>by rw [jj (jf q hn)];exact q) λc xs q=>by rw [jj (jf q hn)];exact q
   rcases hc with z | z
   ·rw [z];exact jf e fC
   ·exact jf z fC
 have J':=I.call (g':=s'.gens) (t':=s'.toks) (d':=s'.drawn) (ch:=fp) u hok J.bare λb hb=>⟨(hf b hb).2.2.2.1,(hf b hb).2.1,(hf b hb).2.2.2.2.1,(hf b hb).2.2.2.2.2⟩;have eo:s'.os=s.os:=J.os;obtain ⟨hp,g,d,t,o⟩:=s';have eo':o=s.os:=eo;subst eo';exact J'
theorem FpOk.on(f:FpOk Y pins H b)(hp:Y.pn=[])(hn:H' b=none)(ne:b ∉ L):FpOk Y (zq L h) H' b:=by
 obtain ⟨_,f1,f2,f3,f4,_⟩:=f;refine ⟨hn,f1,f2,f3,f4,λp hq z=>ne ?_⟩;rw [hp] at hq;have:=(abx (show p∈zq L h from hq)).1
 rw [<-z];exact this
def b2j(w:World)(wi1:TI)(s0:St)(g0 g1:TG)(te:TE)(Q:VK)(J0:It)(H1:Hp):Prop :=
 ∃ W:Nat->Nat->List Int->Hp->Prop,(∃ m,W 0 m [] H1)/\∀ i m ks H,W i m ks H->
  (J0.stop i H/\∀ p,H p=none->Q (.ref p) (upd H p (axn w p ks))) \/
  (J0.go i H/\∀ x H',J0.yld i H x H'->g0 x s0 H' λσ2 H2=>Ext s0 σ2/\wi1 σ2 H2 λJ1 H3=>∃ V:Nat->Nat->List Int->Hp->Prop,(∃ n,V 0 n ks H3)/\∀ j n ks H,V j n ks H->
   (J1.stop j H/\∃ m',m'<m/\W (i+1) m' ks H) \/
   (J1.go j H/\∀ y H',J1.yld j H y H'->g1 y σ2 H' λσ3 H4=>Ext σ2 σ3/\te σ3 H4 λz H5=>∃ k,z = .int k/\ks.length+1<scanBound/\∃ n',n'<n/\V (j+1) n' (stepK ks k) H5))
def b1e(w:World)(wi0 wi1:TI)(s0:St->St)(g0 g1:TG)(te:TE):TE:=λσ H Q=>wi0 σ H λJ0 H1=>b2j w wi1 (s0 σ) g0 g1 te Q J0 H1
theorem atj(hc:X.calm=true)(S:CSc X scope cl ts fr ix)(hi0:PI X t0 i0 wi0)
  (hg0:∀ C fp s H,PG (cxC X (ts++fr) scope cl C fp s H) t0 g0) (hi1:∀ C fp s H,PI (cxC X (ts++fr) scope cl C fp s H) t1 i1 wi1) (hg1:∀ C fp s H,PG (cxC X (ts++fr) scope cl C fp s H) t1 g1) (he:∀ C fp s H,PE (cxC X (ts++fr) scope cl C fp s H) elt te)
  (hs0:∀ x,foldedSetIterable i0 X.env x=pure x:=by intro _;rfl) (hs1:∀ env x,foldedSetIterable i1 env x=pure x:=by intro _ _;rfl) :
  PE X (.SetComp elt [⟨t0,i0,[],0⟩,⟨t1,i1,[],0⟩] scope pos) (b1e X.w wi0 wi1 (ql ts.length ix) g0 g1 te):=by
 intro pins s σ H Q I h
 rw [akm];refine eS (use:=none) rfl hs0 S.clos S.kind S.names (thn (hi0 pins s σ H _ I h) λv s1 h1=>thn h1 λitv s2 h2=>?_);obtain ⟨it,fp,tn,J,H2,e,I2,T,st2,f2,W,⟨m0,w0⟩,turn⟩:=h2;subst e;have hob:∀ b∈fp,b<s2.heap.objs.size:=λb hb=>let ⟨o,e,_⟩:=T.obj _ _ st2 b hb;aH e;refine atf (fI S.nocell (by intro y hy;simp at hy) (λh4 hns4 hsb4=>?_) S.kind)
 dsimp only at hns4 hsb4 ⊢
 generalize hH2:s2.heap.push (atd (!byT X.w))=G at hns4 hsb4 ⊢
 have hCs:G.objs.size=s2.heap.objs.size+1:=by rw [<-hH2,cC]
 have hCle:s2.heap.objs.size<=G.objs.size:=by omega
 have hne:G.objs.size≠s2.heap.objs.size:=by omega
 have old:∀ b o,s2.heap.get? b=some o->h4.get? b=some o:=λb o e=>by
  have hlt:=aH e;exact hsb4.extBut b o (bp (aR hlt hCle)) (am _ (hH2 ▸ am _ e))
 have hacc:SetI (!byT X.w) s2.heap.objs.size [] h4 :=
  ate (hsb4.extBut _ _ (eQ hne) (am _ (hH2 ▸ aJ _ rfl)))
 have K0:Inv (cxC X (ts++fr) scope cl G.objs.size fp s2 H2) [] (ql ts.length ix σ) H2 { s2 with heap:=h4,toks:=s2.toks+([]:List (Str × Value)).length } :=
  adz S I2 f2 hob hCle old hns4 rfl rfl
 have st4:tn 0 h4:=T.keep _ _ _ st2 λb _ o e=>old b o e;have accF:s2.heap.objs.size ∉ fp:=λz=>bQ _ (hob _ z)
 generalize hY:cxC X (ts++fr) scope cl G.objs.size fp s2 H2=Y at K0
 have Yc:Y.calm=true:=by rw [<-hY];exact hc
 have Yp:Y.prog=X.prog:=by rw [<-hY];rfl
 have Yw:Y.w=X.w:=by rw [<-hY];rfl
 have YK:Y.K=X.K:=by rw [<-hY];rfl
 have YA:Y.A=X.A:=by rw [<-hY];rfl
 have Yn:Y.pn=[]:=by rw [<-hY];rfl
 have Ye:Y.env=compEnvC scope cl G.objs.size X.env:=by rw [<-hY];rfl
 have Yx:Y.xe=λ_ _=>False:=by rw [<-hY];rfl
 have YG0:PG Y t0 g0:=by rw [<-hY];exact hg0 _ _ _ _
 have YG1:PG Y t1 g1:=by rw [<-hY];exact hg1 _ _ _ _
 have YI1:PI Y t1 i1 wi1:=by rw [<-hY];exact hi1 _ _ _ _
 have YE:PE Y elt te:=by rw [<-hY];exact he _ _ _ _
 have stat:∀ {H':Hp},(∀ b∈fp,H' b=none)->∀ b∈fp,FpOk Y [] H' b:=λhn b hb=>by
  rw [<-hY];exact ⟨hn b hb,λz=>by have h1:=hob b hb;have z':b=G.objs.size:=z;exact bp (aR h1 hCle) z',λz=>(a7z S I2 f2 hob hCle).exfs b hb z, .inl hb,λx c e=>(f2 b hb).2.2.2.2.1 x c (S.sub x c e),λp hp=>absurd (show p∈([]:List (Addr × Obj)) from hp) (by simp)⟩
 have statA:∀ {H':Hp},H' s2.heap.objs.size=none->FpOk Y [] H' s2.heap.objs.size:=λhn=>by
  rw [<-hY];exact ⟨hn,λz=>hne (show G.objs.size=s2.heap.objs.size from z.symm),λz=>by
   obtain ⟨_,o,ho,_⟩:=(a7z S I2 f2 hob hCle).funs.mem z;exact bQ _ (aH ho), .inr (ax _),λx c e z=>by
   obtain ⟨v,o,ho,_⟩:=I2.cell x c (S.sub x c e);rw [z] at ho;exact bQ _ (aH ho),λp hp=>absurd (show p∈([]:List (Addr × Obj)) from hp) (by simp)⟩
 generalize hacca:s2.heap.objs.size=ac at hacc accF statA hne hCle
 rw [<-Yw] at hacc;have loop:∀ s4:Shared,s4={ s2 with heap:=h4,toks:=s2.toks+([]:List (Str × Value)).length }->
   codeAny (model X.prog X.w) X.A (.compLoop (.SetComp elt [⟨t0,i0,[],0⟩,⟨t1,i1,[],0⟩] scope pos) 0 (.ref it) (.ref ac) (compEnvC scope cl G.objs.size X.env))
    (compPost (model X.prog X.w) X.A X.xe none (EP X pins σ Q) (.ref ac) G.objs.size) s4:=by
  rintro s4 rfl
  refine aed (λn s'=>∃ i σ' H' ks,Inv Y [] σ' H' s'/\Ext (ql ts.length ix σ) σ'/\tn i s'.heap/\(∀ b∈fp,H' b=none)/\H' ac=none /\
   SetI (!byT Y.w) ac ks s'.heap/\W i n ks H') ?_ m0
   ⟨0,_,H2,[],K0,⟨rfl,λ_ _ z=>z⟩,st4,λb hb=>(f2 b hb).1,I2.hok.fresh (by omega),hacc,w0⟩
  rintro n s5 ⟨i,σ5,H5,ks,I5,x5,st5,fr5,fa5,ac5,w5⟩
  have I5':Inv Y [] (ql ts.length ix σ) H5 s5:=I5.weak x5.1.symm x5.2;have hao:∃ o,s5.heap.get? ac=some o/\∀ v,o.data≠.cell v:=by
   obtain ⟨o,es,ep,t,ho,_,hd,_⟩:=ac5;exact ⟨o,ho,λv z=>by rw [hd] at z;cases z⟩
  have I5p:Inv Y (zq [ac] s5.heap) (ql ts.length ix σ) H5 s5:=Inv.pinned (pins:=[]) (fp:=[ac]) I5' (λb hb=>by rw [ai.mp hb];exact statA fa5) (λb hb=>by rw [ai.mp hb];exact hao)
  have F5:∀ b∈fp,FpOk Y (zq [ac] s5.heap) H5 b:=λb hb=>(stat fr5 b hb).on Yn (fr5 b hb) (λz=>accF (by rw [ai.mp z] at hb;exact hb))
  obtain ⟨ao,hao1,hao2⟩:=hao;have pa:(ac,ao)∈zq [ac] s5.heap:=my (by simp) hao1
  rcases turn i n ks H5 w5 with ⟨stop,qn⟩ | ⟨go,step⟩
  ·rw [<-YA];refine thn (T.done Y Yp Yw YK Yc i _ s5 _ H5 _ I5p F5 st5 stop) λr s6 ⟨hr,I6⟩=>?_;subst hr;have e6:=(I6.pin (ac,ao) (aV _ pa)).1;have S6:SetI (!byT Y.w) ac ks s6.heap:=ac5.keep λo ho=>by rw [hao1] at ho;cases ho;exact e6
   have I6':Inv (cxC X (ts++fr) scope cl G.objs.size fp s2 H2) [] (ql ts.length ix σ) H5 s6:=by rw [hY];exact I6.unpinned'
   obtain ⟨m6,hn6,_⟩:=I6'.loc;rw [YA];refine aac (X:=X) ac G.objs.size s6 (upd H5 ac (axn X.w ac ks)) m6 hn6 (I2.fpOk (by omega) (by rw [jj hne];exact I6'.free)) (λh' sb=>?_) (qn _ fa5)
   exact ahe I2 f2 (by omega) (by omega) I6' fa5 (ati ((by rw [<-Yw];exact S6:SetI (!byT X.w) ac ks s6.heap).keep λo ho=>sb.extBut _ _ (eQ hne) ho)) sb
  ·rw [<-YA];refine thn (T.item Y Yp Yw YK Yc i _ s5 _ H5 _ I5p F5 st5 go) λr s6 ⟨u,hr,h6⟩=>?_;subst hr;refine thn h6 λ_ s7 ⟨x,H7,I7,r7,y7,st7,fr7⟩=>?_;have fa7:H7 ac=none:=(I7.pin (ac,ao) (aV _ pa)).2.1;have ac7:=(I7.pin (ac,ao) (aV _ pa)).1;have S7:SetI (!byT Y.w) ac ks s7.heap:=ac5.keep λo ho=>by rw [hao1] at ho;cases ho;exact ac7
   have obj7:∀ b∈ac::fp,∃ o,s7.heap.get? b=some o/\∀ v,o.data≠.cell v:=λb hb=>by
    rcases aD.mp hb with e | e
    ·subst e;exact ⟨_,ac7,hao2⟩
    ·exact T.obj _ _ st7 b e
   have I7':Inv Y (zq (ac::fp) s7.heap) (ql ts.length ix σ) H7 s7:=by
    refine Inv.pinned (pins:=[]) (fp:=ac::fp) I7.unpinned' (λb hb=>?_) obj7
    rcases aD.mp hb with e | e
    ·subst e;exact statA fa7
    ·exact stat fr7 b e
   rw [<-Ye,<-Yp,<-Yw];refine bq (YG0 _ s7 _ H7 x u _ I7' r7 (step x H7 y7)) (λ_ s8 ⟨σ8,H8,I8,x8,q8⟩=>?_) (λ_ _ z=>by rw [Yx] at z;exact z)
   refine bq (YI1 _ s8 _ H8 _ I8 q8) (λv8 z4 h8=>fz (hs1 _ v8) (bq h8 (λitv z6 h9=>?_) (λ_ _ z=>by rw [Yx] at z;exact z))) (λ_ _ z=>by rw [Yx] at z;exact z)
   obtain ⟨it1,fp1,tn1,J1,H9,e1,I9,T1,st9,f9,V,⟨n0,v0⟩,turn1⟩:=h9;subst e1;have pin9:∀ b∈ac::fp,∀ o,s7.heap.get? b=some o->z6.heap.get? b=some o/\H9 b=none:=λb hb o e=>by
    obtain ⟨z1,z2,_⟩:=I9.pin (b,o) (aV _ (my hb e));exact ⟨z1,z2⟩
   have apart:∀ b∈fp1,b ∉ ac::fp:=λb hb z=>by
    obtain ⟨o,e,_⟩:=obj7 b z;exact (f9 b hb).2.2.2.2.2 (b,o) (aV _ (my z e)) rfl
   have stat1:∀ {H':Hp},(∀ b∈fp1,H' b=none)->∀ b∈fp1,FpOk Y [] H' b:=λhn b hb=>by
    obtain ⟨_,k1,k2,k3,k4,_⟩:=f9 b hb;refine ⟨hn b hb,k1,k2,k3,k4,λp hp=>?_⟩;rw [Yn] at hp;exact absurd (show p∈([]:List (Addr × Obj)) from hp) (by simp)
   have S9:SetI (!byT Y.w) ac ks z6.heap:=S7.keep λo ho=>(pin9 ac (by simp) o ho).1
   have inner:codeAny (model Y.prog Y.w) Y.A (.compLoop (.SetComp elt [⟨t0,i0,[],0⟩,⟨t1,i1,[],0⟩] scope pos) 1 (.ref it1) (.ref ac) Y.env)
     (λr z7=>∃ f,r = .ok f/\∃ m',m'<n/\∃ i σ' H' ks,Inv Y [] σ' H' z7/\Ext (ql ts.length ix σ) σ'/\tn i z7.heap/\(∀ b∈fp,H' b=none)/\H' ac=none/\SetI (!byT Y.w) ac ks z7.heap/\W i m' ks H') z6:=by
    refine ahd (λn s'=>∃ j σ' H' ks,Inv Y [] σ' H' s'/\Ext σ8 σ'/\tn1 j s'.heap/\(∀ b∈fp1,H' b=none)/\(∀ b∈fp,∀ o,s7.heap.get? b=some o->s'.heap.get? b=some o/\H' b=none)/\H' ac=none/\SetI (!byT Y.w) ac ks s'.heap/\V j n ks H') ?_ n0
     ⟨0,_,H9,ks,I9.unpinned',⟨rfl,λ_ _ z=>z⟩,st9,λb hb=>(f9 b hb).1,λb hb=>pin9 b (aG _ hb),(pin9 ac (by simp) _ ac7).2,S9,v0⟩
    rintro k a5 ⟨j,τ5,G5,ks5,Q5,y5,t5,e5,o5,c5,d5,v5⟩
    have Q5':Inv Y [] σ8 G5 a5:=Q5.weak y5.1.symm y5.2;have fp5:∀ b∈fp,G5 b=none:=λb hb=>by
     obtain ⟨o,e,_⟩:=T.obj _ _ st7 b hb;exact (o5 b hb o e).2
    have dob:∃ o,a5.heap.get? ac=some o/\∀ v,o.data≠.cell v:=by
     obtain ⟨o,es,ep,t,ho,_,hd,_⟩:=d5;exact ⟨o,ho,λv z=>by rw [hd] at z;cases z⟩
    have objs:∀ b∈ac::fp,∃ o,a5.heap.get? b=some o/\∀ v,o.data≠.cell v:=λb hb=>by
     rcases aD.mp hb with e | e
     ·subst e;exact dob
     ·obtain ⟨o,e',d⟩:=T.obj _ _ st7 b e;exact ⟨o,(o5 b e o e').1,d⟩
    have Q5p:Inv Y (zq (ac::fp) a5.heap) σ8 G5 a5:=by
     refine Inv.pinned (pins:=[]) (fp:=ac::fp) Q5' (λb hb=>?_) objs
     rcases aD.mp hb with e | e
     ·subst e;exact statA c5
     ·exact stat fp5 b e
    have FF:∀ b∈fp1,FpOk Y (zq (ac::fp) a5.heap) G5 b:=λb hb=>(f9 b hb).on Yn (e5 b hb) (apart b hb);obtain ⟨bo,hbo1,hbo2⟩:=dob;have keep6:∀ {G6:Hp} {τ:St} {a6:Shared} {P:List (Addr × Obj)},Inv Y (zq (ac::fp) a5.heap++P) τ G6 a6->(∀ b∈fp,∀ o,s7.heap.get? b=some o->a6.heap.get? b=some o/\G6 b=none)/\G6 ac=none/\SetI (!byT Y.w) ac ks5 a6.heap:=λ{G6 τ a6 P} I6=>by
     refine ⟨λb hb o e=>?_,?_,?_⟩
     ·obtain ⟨z1,z2,_⟩:=I6.pin (b,o) (aV _ (bG _ (my (aG _ hb) (o5 b hb o e).1)));exact ⟨z1,z2⟩
     ·exact (I6.pin (ac,bo) (aV _ (bG _ (my (by simp) hbo1)))).2.1
     ·exact d5.keep λo ho=>by
       rw [hbo1] at ho;cases ho
       exact (I6.pin (ac,bo) (aV _ (bG _ (my (by simp) hbo1)))).1
    rcases turn1 j k ks5 G5 v5 with ⟨stop1,m',hm',w6⟩ | ⟨go1,step1⟩
    ·refine thn (T1.done Y rfl rfl rfl Yc j _ a5 _ G5 _ Q5p FF t5 stop1) λr a6 ⟨hr,Q6⟩=>?_;subst hr;obtain ⟨kk1,kk2,kk3⟩:=keep6 (P:=[]) (by rw [bW];exact Q6)
     refine ⟨_,rfl,m',hm',i+1,σ8,G5,ks5,Q6.unpinned',x8,?_,fp5,c5,kk3,w6⟩;exact T.keep _ _ _ st7 λb hb o e=>(kk1 b hb o e).1
    ·refine thn (T1.item Y rfl rfl rfl Yc j _ a5 _ G5 _ Q5p FF t5 go1) λr a6 ⟨u1,hr,h6'⟩=>?_;subst hr;refine thn h6' λ_ a7 ⟨y,G7,Q7,ry,yy,t7,e7⟩=>?_;obtain ⟨p1,p2,p3⟩:=keep6 (P:=[]) (by rw [bW];exact Q7)
     have Q7p:Inv Y (zq (ac::fp) a5.heap++zq fp1 a7.heap) σ8 G7 a7:=by
      refine Inv.pinned (fp:=fp1) Q7 (λb hb=>(f9 b hb).on Yn (e7 b hb) (apart b hb)) (T1.obj _ _ t7)
     refine bq (YG1 _ a7 _ G7 y u1 _ Q7p ry (step1 y G7 yy)) (λ_ a8 ⟨τ8,G8,Q8,z8,q8'⟩=>?_) (λ_ _ z=>by rw [Yx] at z;exact z)
     refine bq (YE _ a8 _ G8 _ Q8 q8') (λyv a9 ⟨z,G9,Q9,rz,kz,ez,few,n',hn',v9⟩=>?_) (λ_ _ z=>by rw [Yx] at z;exact z)
     subst ez;obtain ⟨tk,rfl⟩:=rz;obtain ⟨r1,r2,r3⟩:=keep6 Q9;refine ao3 r3 few λh' sb x'=>?_;have qo:∀ b o,b≠ac->a9.heap.get? b=some o->h'.get? b=some o:=λb o hb e=>sb.extBut b o hb e;obtain ⟨a0,a1,a2,a3,a4,a5'⟩:=statA (show G9 ac=none from r2)
     have nac:∀ b∈fp,b≠ac:=λb hb z=>accF (z ▸ hb);have nac1:∀ b∈fp1,b≠ac:=λb hb z=>apart b hb (by rw [z];simp)
     refine ⟨n',hn',j+1,τ8,G9,_,(Q9.unpinned').turned (t':=a9.toks+1) qo a0 a1 a3 a4 a5',z8,?_,?_,?_,r2,x',v9⟩
     ·exact T1.keep _ _ _ t7 λb hb o e=>qo b o (nac1 b hb) (Q9.pin (b,o) (aV _ (aV _ (my hb e)))).1
     ·intro b hb
      obtain ⟨o,e,_⟩:=T1.obj _ _ t7 b hb;exact (Q9.pin (b,o) (aV _ (aV _ (my hb e)))).2.1
     ·intro b hb o e
      obtain ⟨z1,z2⟩:=r1 b hb o e;exact ⟨qo b o (nac b hb) z1,z2⟩
   exact aec inner (T1.self _ 0 _ _ _ st9 inner)
 exact ad5 (loop _ rfl) (T.self _ 0 _ _ _ st4 (loop _ rfl))
end
end L2
namespace MI
open PySem PySem.Spec L2 SETB
open Classical in
noncomputable def setIn(ck:Hd->Prop)(fe:SE)(x:D)(rd:Sd):List D->List Int->Hd->R (List Int)
 | [],ks,h=>if ck h then .ok ks h else .no
 | y::ys,ks,h=>if ck h then (fe (some x::some y::rd) h).bind λd h1=>(match d with
   | .int k=>if ks.length<63 then setIn ck fe x rd ys (stepK ks k) h1 else .no
   | _=>.no) else .no
open Classical in
noncomputable def a4w(ck:Hd->Prop)(fj:SI)(fe:SE)(rd:Sd):List D->List Int->Hd->R (List Int)
 | [],ks,h=>if ck h then .ok ks h else .no
 | x::xs,ks,h=>if ck h then (fj (some x::none::rd) h).bind λjt h1=>(setIn jt.ck fe x rd jt.xs ks h1).bind λks1 h2=>a4w ck fj fe rd xs ks1 h2 else .no
def atk(ks:List Int)(h:Hd):R D:=if ks.length<64 then .ok (.ref h.length) (h++[.lst ((PySem.W.sortI ks).map D.int)]) else .no
noncomputable def ao6(fi fj:SI)(fe:SE)(ix:List Nat):SE:=λτ h=>(fi τ h).bind λit h1=>(a4w it.ck fj fe (frs' ix τ) it.xs [] h1).bind atk
theorem a3p:∀ {K:PySem.W.Frag} {ι:List Addr} {H:Hp} (ns:List Int),Reps K ι H (ns.map V.int) (ns.map D.int)
 | _,_,_,[]=>.nil
 | _,_,_,n::ns=>.cons (.int n) (a3p ns)
def b41(w:World):List V->Hp->VK->Prop:=λxs H Q=>∃ (p:Addr) (ks:List Int),xs=[.ref p]/\H p=some (axn w p ks)/\ks.length<64/\∀ l,H l=none->Q (.ref l) (upd H l (.lst ((PySem.W.sortI ks).map V.int)))
theorem axo{K:PySem.W.Frag}{E:XD}{w:World}{J:It}{jt:Itm}{fe:SE}{x:D}{vx:V}{r:St}{rd:Sd}{k1:List Int->Hd->R D}{ι0:List Addr}{H0:Hp}{h0:Hd}{Q:VK}{M:List Int->Hp->Prop}{ks0:List Int}
  (ir:amw K ι0 H0 J jt) (rx:Rep K ι0 H0 vx x) (S:SRep K ι0 H0 r rd) (Rh:HRep K ι0 H0 h0) (o:out K E (a0a K) ι0 H0 ((setIn jt.ck fe x rd jt.xs ks0 h0).bind k1) Q)
  (fin:∀ ks ι H h,Gr ι0 H0 ι H->HRep K ι H h->out K E (a0a K) ι H (k1 ks h) Q->M ks H) :
  ∃ V:Nat->Nat->List Int->Hp->Prop,(∃ n,V 0 n ks0 H0)/\∀ j n ks H,V j n ks H->
   (J.stop j H/\M ks H) \/
   (J.go j H/\∀ y H',J.yld j H y H'->a6h 1 y (some vx::none::r) H' λσ3 H4=>L2.Ext (some vx::none::r) σ3/\lift K E (a0a K) fe σ3 H4 λz H5=>∃ k,z = .int k/\ks.length+1<scanBound/\∃ n',n'<n/\V (j+1) n' (stepK ks k) H5):=by
 refine ⟨λj n ks H=>n=jt.xs.length - j/\j<=jt.xs.length/\∃ ι h,Gr ι0 H0 ι H/\HRep K ι H h/\out K E (a0a K) ι H ((setIn jt.ck fe x rd (jt.xs.drop j) ks h).bind k1) Q,⟨_,rfl,bL _,ι0,h0, .refl _ _,Rh,o⟩,?_⟩
 rintro j n ks H ⟨rfl,hj,ι,h,g0,Rh,o⟩
 by_cases hlt:j<jt.xs.length
 ·rw [cS hlt,setIn] at o
  by_cases hc:jt.ck h
  ·rw [aL hc,R.bind_assoc] at o;obtain ⟨go,yl⟩:=(ir ι H h g0 Rh hc).1 j _ (af hlt);refine .inr ⟨go,λy H' yy=>?_⟩;obtain ⟨g1,r1,hr1⟩:=yl y H' yy;have o':=a0x o g1;refine ⟨⟨rfl,λi v e=>?_⟩,ι,some x::some jt.xs[j]::rd,h,a0k (rx.mono (g0.trans g1)) (a0k r1 (S.mono (g0.trans g1))),hr1,ig o' λd h1 ι1 H1 u g2 r2 hr2 o2=>?_⟩
   ·match i,e with
    | 0,e=>exact e
    | 1,e=>simp at e
    | i+2,e=>simpa using e
   ·cases d with
    | int k =>
     cases r2
     by_cases h6:ks.length<63
     ·simp only [aL h6] at o2;exact ⟨k,rfl,by have:scanBound=4096:=rfl;omega,jt.xs.length - (j+1),by omega,rfl,hlt,ι1,h1,(g0.trans g1).trans g2,hr2,o2⟩
     ·simp only [aY h6] at o2;exact o2.elim
    | _=>exact o2.elim
  ·rw [aY hc] at o;exact o.elim
 ·have e:j=jt.xs.length:=by omega
  subst e;rw [cr (ax _),setIn] at o
  by_cases hc:jt.ck h
  ·rw [aL hc] at o;exact .inl ⟨(ir ι H h g0 Rh hc).2,fin ks ι H h g0 Rh o⟩
  ·rw [aY hc] at o;exact o.elim
theorem atl
  (ir:amw K ι0 H0 J it) (S:SRep K ι0 H0 r rd) (Rh:HRep K ι0 H0 h0) (o:out K E (a0a K) ι0 H0 ((a4w it.ck fj fe rd it.xs [] h0).bind atk) Q) :
  b2j w (lift K E (awn K) fj) (List.replicate 2 none++r) (a6h 0) (a6h 1) (lift K E (a0a K) fe) (λv H=>b41 w [v] H Q) J H0:=by
 refine ⟨λi m ks H=>m=it.xs.length - i/\i<=it.xs.length/\∃ ι h,Gr ι0 H0 ι H/\HRep K ι H h/\out K E (a0a K) ι H ((a4w it.ck fj fe rd (it.xs.drop i) ks h).bind atk) Q,⟨_,rfl,bL _,ι0,h0, .refl _ _,Rh,o⟩,?_⟩
 rintro i m ks H ⟨rfl,hi,ι,h,g0,Rh,o⟩
 by_cases hlt:i<it.xs.length
 ·rw [cS hlt,a4w] at o
  by_cases hc:it.ck h
  ·rw [aL hc,R.bind_assoc] at o;obtain ⟨go,yl⟩:=(ir ι H h g0 Rh hc).1 i _ (af hlt);refine .inr ⟨go,λx H' y=>?_⟩;obtain ⟨g1,r1,hr1⟩:=yl x H' y;have o':=a0x o g1;refine ⟨⟨rfl,λk v e=>?_⟩,ι,some it.xs[i]::none::rd,h,a0k r1 ?_,hr1,ig o' λjt h1 ι1 H1 J1 g2 r2 hr2 o2=>?_⟩
   ·match k,e with
    | 0,e=>simp at e
    | 1,e=>simp at e
    | k+2,e=>simpa using e
   ·have S':=S.mono (g0.trans g1);refine ⟨by simp [S'.len],λk d e=>?_⟩
    cases k with
    | zero=>simp at e
    | succ k=>simpa using S'.val k d (by simpa using e)
   ·rw [R.bind_assoc] at o2;refine axo (w:=w) (k1:=λks1 h2=>(a4w it.ck fj fe rd (it.xs.drop (i+1)) ks1 h2).bind atk) r2 (r1.mono g2) (S.mono ((g0.trans g1).trans g2)) hr2 o2 λks' ι3 H3 h3 g3 hr3 o3=>?_;exact ⟨it.xs.length - (i+1),by omega,rfl,hlt,ι3,h3,((g0.trans g1).trans g2).trans g3,hr3,o3⟩
  ·rw [aY hc] at o;exact o.elim
 ·have e:i=it.xs.length:=by omega
  subst e;rw [cr (ax _),a4w] at o
  by_cases hc:it.ck h
  ·rw [aL hc] at o;refine .inl ⟨(ir ι H h g0 Rh hc).2,λp hp=>?_⟩;have o1:out K E (a0a K) ι H (atk ks h) Q:=o;unfold atk at o1
   by_cases h6:ks.length<64
   ·rw [aL h6] at o1;exact ⟨p,ks,rfl,qd,h6,a1g (E:=E) (a3p _) (Rh.aside hp _) (a0x o1 (a0w hp _))⟩
   ·rw [aY h6] at o1;exact o1.elim
  ·rw [aY hc] at o;exact o.elim
theorem atm{X:Cx}{E:XD}{elt t0 i0 t1 i1:Expr}{scope:Scope}{p pos spos:Pos}{cl:List (Str × Addr)}{a b:Str}{fr:List Str}{ix:List Nat}{fi fj:SI}{fe:SE}(hg:Gl X "sorted")(hm:X.mg "sorted" = none)(hc:X.calm=true)(S:CSc X scope cl [a,b] fr ix)(hi:MI X E t0 i0 fi)
  (hg0:∀ C fp s H,PG (cxC X ([a,b]++fr) scope cl C fp s H) t0 (a6h 0)) (hj:∀ C fp s H,MI (cxC X ([a,b]++fr) scope cl C fp s H) E t1 i1 fj) (hg1:∀ C fp s H,PG (cxC X ([a,b]++fr) scope cl C fp s H) t1 (a6h 1)) (he:∀ C fp s H,ME (cxC X ([a,b]++fr) scope cl C fp s H) E elt fe)
  (hs0:∀ x,foldedSetIterable i0 X.env x=pure x:=by intro _;rfl) (hs1:∀ env x,foldedSetIterable i1 env x=pure x:=by intro _ _;rfl) :
  ME X E (.Call (.Name "sorted" p) [.SetComp elt [⟨t0,i0,[],0⟩,⟨t1,i1,[],0⟩] scope spos] [] pos) (ao6 fi fj fe ix):=by
 refine PE.weak (aey (a8m hc) hg hm rfl (a7s (atj (te:=lift X.K E (a0a X.K) fe) (wi1:=lift X.K E (awn X.K) fj) hc S hi hg0 hj hg1 he hs0 hs1) aev)) λσ H Q ⟨ι,τ,h,Sr,Rh,o⟩=>?_;refine ⟨ι,τ,h,Sr,Rh,ig o λit h1 ι1 H1 J g1 r1 hr1 o1=>?_⟩;exact atl r1 (a5n (Sr.mono g1) ix) hr1 o1
end MI
namespace RCH
open PySem PySem.Spec L2 MI
noncomputable def xr(iz:SF):SE :=
 (sA (kj false 2 iz) (ak (sV 1) (ak (sV 0) dh)))
noncomputable def xf(iz:SF):SS :=
 (qx (sA vo (ak (sZ (m9 (sRg xj (ak (sA v6 (ak (s2 gIx (sV 0) (sC (.int 1))) dh)) dh)) t1 (xr iz) [0])) dh)))
noncomputable def lq:SS :=
 (j6 (sIf (sT (s2 hNe (s2 gIx (sV 4) (sV 11)) (s1 a6f (sC (.int 1)))))
 (qx (s2 jz (sV 9) (sV 10)))
 sNx)
 (sIf (sT (s2 (apv true) (sV 11) (sV 6)))
 (j6 (a94 (sC (.bl true)) (sV 6) (sV 11))
 (a2b (sML a9h (sV 5) (ak (sA a4d (ak (sV 11) (ak (s2 jz (sV 9) (sV 10)) dh))) dh))))
 sNx))
noncomputable def vp:ST :=
 (sT (s2 gLt (sV 7) (sA v6 (ak (sV 5) dh))))
noncomputable def qt:SS :=
 (j6 (a91 (s2 gIx (sV 5) (sV 7)) (a6l 2 (n6 (kN 8) (n6 (kN 9) a74))))
 (j6 (a5c (ae5 (sV 2) (s2 gIx (sV 3) (sV 8))) (a6l 2 (n6 (kN 10) (n6 (kN 11) a74))) lq)
 (ae1 7 a1q (sC (.int 1)))))
noncomputable def ym:SS :=
 (j6 (a91 (sV 0) (a6l 3 (n6 (kN 2) (n6 (kN 3) (n6 (kN 4) a74)))))
 (j6 (m5 5 (sA a6k (ak (sA a4d (ak (sV 1) (ak (sC (.str "")) dh))) dh)))
 (j6 (m5 6 (s2 gD1 (sV 1) (sC (.bl true))))
 (j6 (m5 7 (sC (.int 0)))
 (j6 (sWh vp qt 100000)
 (qx (sC .non)))))))
noncomputable def a4k(g8:SF):SE :=
 (s2 a85 (sV 0) (sC .non))
noncomputable def a6v(g8:SF):SS :=
 (qx (sA vo (ak (sZ (m9 (sIt (sA (kj false 1 g8) (ak (sV 0) dh))) t1 (a4k g8) [])) dh)))
noncomputable def ahf(n8:SF)(jy:SF):SE :=
 (sV 0)
noncomputable def ahg(n8:SF)(jy:SF):ST :=
 (sT (s2 hNe (sV 1) (s1 a6f (sC (.int 1)))))
noncomputable def ab5(n8:SF)(jy:SF):SS :=
 (j6 (m5 1 (s2 gIx (sV 0) (sC (.int 2))))
 (qx (sA (kj false 3 jy) (ak (sV 0) (ak (sA (kj false 1 n8) (ak (sV 0) dh)) (ak (sZ (qu (a8d (sV 1)) (tN 2) (ahg n8 jy) (ahf n8 jy) [])) dh))))))
noncomputable def a0q:SE :=
 (s2 hNe (s2 gIx (sV 1) (sV 0)) (s1 a6f (sC (.int 1))))
noncomputable def a0r:SE :=
 (sV 0)
noncomputable def ux:ST :=
 (a82 (sT (s2 hEq (s2 gIx (sV 2) (sV 0)) (s1 a6f (sC (.int 1))))) (a1z (s2 gIx (sV 1) (sV 0))))
noncomputable def xu:SS :=
 (j6 (m5 9 (sZ (ao6 (sIt (sV 7)) (sIt (s2 gIx (sV 2) (sV 0))) (sV 1) [4])))
 (j6 (sIf (a1z (sA auy (ak (sZ (m9 (sIt (sV 9)) t1 a0q [5])) dh)))
 (m5 6 (sV 8))
 sNx)
 (j6 (m5 7 (sZ (qu (sIt (sV 9)) t1 ux a0r [1,5])))
 (sIf (a7c (a1z (sV 7)))
 (qx (sV 6))
 sNx))))
noncomputable def a1c:SS :=
 (j6 (a91 (sV 0) (a6l 3 (n6 (kN 3) (n6 (kN 4) (n6 (kN 5) a74)))))
 (j6 (m5 6 (sC (.int 0)))
 (j6 (m5 7 (sV 2))
 (j6 (a5c (sRg a6m (ak (sC (.int 1)) (ak (s2 jz (sA v6 (ak (sV 4) dh)) (sC (.int 2))) dh))) (kN 8) xu)
 (qx (sC .non))))))
noncomputable def a2g:SE :=
 (sC (.bl false))
noncomputable def a2h:SS :=
 (sIf (sOr (sT (s2 gGe (s2 gIx (s2 gIx (sV 0) (sC (.int 2))) (sV 4)) (sC (.int 0)))) (a1z (s2 gIx (sV 1) (sV 4))))
 (af8 (sC (.bl true)) (sV 1) (sV 3))
 sNx)
noncomputable def a0c:SS :=
 (a5c (sIt (s2 gIx (s2 gIx (sV 0) (sC (.int 1))) (sV 3))) (kN 4) a2h)
noncomputable def a0d:SS :=
 (a5c (sRg xj (ak (sA v6 (ak (sV 1) dh)) dh)) (kN 3) a0c)
noncomputable def a4l:SS :=
 (j6 (m5 1 (m9 (sIt (s2 gIx (sV 0) (sC (.int 1)))) t1 a2g []))
 (j6 (a5c (sRg xj (ak (sA v6 (ak (sV 1) dh)) dh)) (kN 2) a0d)
 (qx (sV 1))))
noncomputable def a2i:SS :=
 (sIf (sT (s2 (gIn true) (sV 4) (sV 2)))
 (a2b (sML a9h (sV 2) (ak (sV 4) dh)))
 sNx)
noncomputable def a2j:SS :=
 (a5c (sIt (s2 gIx (s2 gIx (sV 0) (sC (.int 1))) (sV 3))) (kN 4) a2i)
noncomputable def a4m:SS :=
 (j6 (m5 2 (sA a6k dh))
 (j6 (a5c (sIt (sV 1)) (kN 3) a2j)
 (qx (sV 2))))
noncomputable def a1k(iu:SF)(iw:SF):SE :=
 (sV 0)
noncomputable def vq(iu:SF)(iw:SF):ST :=
 (sT (s2 gGe (s2 gIx (s2 gIx (sV 1) (sC (.int 2))) (sV 0)) (sC (.int 0))))
noncomputable def a1l(iu:SF)(iw:SF):SE :=
 (sV 0)
noncomputable def vy(iu:SF)(iw:SF):ST :=
 (a82 (sT (s2 gLt (s2 gIx (s2 gIx (sV 1) (sC (.int 2))) (sV 0)) (sC (.int 0)))) (a1z (s2 gIx (sV 2) (sV 0))))
noncomputable def a1m(iu:SF)(iw:SF):SS :=
 (j6 (m5 1 (sA (kj false 2 iw) (ak (sV 0) (ak (sV 1) dh))))
 (j6 (sIf (sT (s2 (av0 true) (sZ (qu (sIt (sV 1)) t1 (vq iu iw) (a1k iu iw) [0])) (sZ (sA a6k dh))))
 (m5 3 (sV 4))
 sNx)
 (m5 1 (sZ (qu (sIt (sV 1)) t1 (vy iu iw) (a1l iu iw) [0,2])))))
noncomputable def a2k(iu:SF)(iw:SF):SS :=
 (j6 (m5 2 (sA (kj false 1 iu) (ak (sV 0) dh)))
 (j6 (m5 3 (sC (.int 0)))
 (j6 (a5c (sRg a6m (ak (sC (.int 1)) (ak (s2 jz (s2 a0b (sC (.int 2)) (sA v6 (ak (sV 2) dh))) (sC (.int 2))) dh))) (kN 4) (a1m iu iw))
 (qx (acg (sT (s2 gLe (sV 3) (sA v6 (ak (sV 2) dh)))) (sV 3) (sC .non))))))
end RCH
namespace HGT
open PySem PySem.Spec L2 MI
noncomputable def a6w:SE :=
 (sV 0)
noncomputable def a6x:ST :=
 (sT (s2 hNe (sV 1) (s1 a6f (sC (.int 1)))))
noncomputable def uz:SS :=
 (sIf (a82 (a1z (s2 gIx (sV 1) (sV 8))) (sT (s2 (gIn true) (sV 8) (sV 5))))
 (a2b (sML a9h (sV 5) (ak (sV 8) dh)))
 sNx)
noncomputable def a1v:ST :=
 (sT (s2 gLt (sV 6) (sA v6 (ak (sV 5) dh))))
noncomputable def yo:SS :=
 (j6 (m5 7 (s2 gIx (sV 3) (s2 gIx (sV 5) (sV 6))))
 (j6 (a5c (sIt (sV 7)) (kN 8) uz)
 (ae1 6 a1q (sC (.int 1)))))
noncomputable def yp:SE :=
 (s2 (gIn false) (sV 0) (sV 1))
noncomputable def zg:SS :=
 (j6 (a91 (sV 0) (a6l 3 (n6 (kN 2) (n6 (kN 3) (n6 (kN 4) a74)))))
 (j6 (m5 5 (qu (a8d (sV 4)) (tN 2) a6x a6w []))
 (j6 (m5 6 (sC (.int 0)))
 (j6 (sWh a1v yo 100000)
 (qx (m9 (sRg xj (ak (sA v6 (ak (sV 3) dh)) dh)) t1 yp [5]))))))
noncomputable def a7a(zp:SF)(n8:SF)(qi:SF)(m8:SF):SE :=
 (sA (kj false 4 zp) (ak (sV 1) (ak (sV 2) (ak (sV 3) (ak (sV 0) dh)))))
noncomputable def a5v(zp:SF)(n8:SF)(qi:SF)(m8:SF):SS :=
 (j6 (sIf (sT (s2 gIs (sA (kj false 1 qi) (ak (sV 0) dh)) (sC .non)))
 (qx (sC .non))
 sNx)
 (j6 (m5 1 (sA (kj false 1 n8) (ak (sV 0) dh)))
 (j6 (m5 2 (sA (kj false 2 m8) (ak (sV 0) (ak (sV 1) dh))))
 (qx (sA vo (ak (sZ (m9 (sRg xj (ak (sA v6 (ak (sV 2) dh)) dh)) t1 (a7a zp n8 qi m8) [0,1,2])) dh))))))
noncomputable def a7k(jy:SF):SS :=
 (j6 (sIf (a1z (s2 gIx (sV 2) (sV 3)))
 (qx (sA (kj false 3 jy) (ak (sV 0) (ak (sV 1) (ak (sZ (sA a6k (ak (sV 3) dh))) dh)))))
 sNx)
 (qx (acg (a1z (s2 gIx (sV 1) (sV 3))) (s1 a6f (sC (.int 2))) (s1 a6f (sC (.int 1))))))
end HGT
namespace L2
open PySem PySem.Spec PyProof.Rows
theorem a8n:isSubtype (.type "range_iterator") (.type "reversed")=pure false:=by rw [gE];kernel_rfl
section
variable{prog:Program}{w:World}{A:Around}{E:Value->Shared->Prop}{s:Shared}
abbrev av1(n:Int):Obj:={ cls:=.type "range_iterator",data:=.fields #[rawInt (n - 1),rawInt n,rawInt (-1)] }
theorem atn(h:0<=j):Builtin.Range.rangeSize 0 j 1=j:=by
 rw [rangeSize_one];split<;>omega
theorem akn(hr:IsRange s.heap r 0 j 1 t u v)(j0:0<=j)(j1:j<2 ^ 62)(h:Q (.ref s.heap.objs.size) { s with heap:=s.heap.push (av1 j) }) :
  wpAny (model prog w) A (call (.builtin "range.__reversed__") [.ref r]) Q E s:=by
 refine bU fD ⟨_,hr,rfl⟩ F.entry_range_reversed ?_ (F.args_range_reversed_1 _);have sz:=atn j0;have sm:(Builtin.Range.rangeFitsLong 0 && Builtin.Range.rangeFitsLong j && Builtin.Range.rangeFitsLong 1 && Builtin.Range.rangeFitsLong (-1) && Builtin.Range.rangeFitsLong (0 - 1) && Builtin.Range.rangeFitsLong j)=true:=by
  have:Builtin.Range.rangeFitsLong j=true:=by unfold Builtin.Range.rangeFitsLong;simp;omega
  simp only [this,iq]
  decide
 unfold Builtin.«range.__reversed__»;unfold IsRange at hr
 wp_walk
 simp only [sz];simp only [sm,Bool.not_true,cb,dP,dv];have e:(0:Int)+(j - 1)*1=j - 1:=by omega
 rw [e];refine ag ?_;unfold newFields;exact cn (aB ⟨_,rfl,h⟩)
theorem ato(hr:IsRange s.heap r 0 j 1 t u v)(j0:0<=j)(j1:j<2 ^ 62)(h:Q₁ (.ref s.heap.objs.size) { s with heap:=s.heap.push (av1 j) }) :
  codeAny (model prog w) A (.call (.builtin "reversed.__new__") ⟨[.type "reversed", .ref r],[]⟩) (wants Q₁ E) s:=by
 have ty:s.TypeIs (.ref r) "range":=⟨_,hr,rfl⟩
 apply i8
 apply ag
 refine fz (F.newCall_reversed_1 _) ?_;refine aB ⟨plainId_quiet F.plain_reversed_new _,i7 F.entry_reversed_new ?_⟩;simp only [fL F.plain_reversed_new];unfold Builtin.«reversed.__new__»
 apply ag
 refine fz (newClass_reversed _) ?_
 try dsimp only
 apply ag
 refine fz (a:=()) (by first | rfl | kernel_rfl) ?_
 apply ag
 refine fz (a:=()) (by first | rfl | kernel_rfl) ?_
 try dsimp only
 apply ag
 refine fS ty fD.lookup ?_
 try dsimp only
 apply ag
 refine fz (fD.bind _) ?_
 try dsimp only
 have nn:¬ ((Value.builtin "range.__reversed__" == Value.none)=true):=bE
 first
  | rw [aY nn]
  | (show wpAny _ _ (if (Value.builtin "range.__reversed__" == Value.none)=true then _ else _) _ _ _;rw [aY nn])
 apply ag
 apply eT
 refine ag (m:=runValue (.call (.builtin "range.__reversed__") ⟨[.ref r],[]⟩)) (show wpAny _ _ (call (.builtin "range.__reversed__") [.ref r]) _ _ _ from akn hr j0 j1 ?_)
 first
  | exact aB h
  | exact ag (aB (aB h))
theorem ao7(hr:IsRange s.heap r 0 j 1 t u v)(j0:0<=j)(j1:j<2 ^ 62)(h:Q (.ref s.heap.objs.size) { s with heap:=s.heap.push (av1 j) }):wpAny (model prog w) A (call (.type "reversed") [.ref r]) Q E s:=by
 refine callType_other (U := "range_iterator") (Q₁:=λobj s1=>obj = .ref s.heap.objs.size/\s1={ s with heap:=s.heap.push (av1 j) }) (by decide +kernel) F.create_reversed ⟨_,_,F.mro_reversed⟩ F.made_reversed a8n (F.typeCall_reversed_1 _) (ato hr j0 j1 ⟨rfl,rfl⟩) ?_
 rintro obj s1 ⟨rfl,rfl⟩
 exact ⟨⟨_,aJ _ rfl,rfl⟩,h⟩
end
section
variable{X:Cx}{tg:Expr}
def b42(ta:TA):TI:=λσ H R=>ta σ H λvs H1=>∃ j:Int,vs=[.int j]/\0<=j/\j<2 ^ 62/\R (Itd (j - 1) j.toNat) H1
theorem aee:bootBuiltins "reversed" = some (.type "reversed"):=by first | exact PySem.boot_reversed | exact PyProof.Rows.boot_reversed | kernel_rfl
theorem axp(hg:Gl X "reversed")(hm:X.mg "reversed" = none)(hg2:Gl X "range")(hm2:X.mg "range" = none)(ha:PA X [a] ta)(hs:starEach [a] X.env=[(false,eval a X.env)]:=by rfl)
  (hs2:starEach [Expr.Call (.Name "range" p2) [a] [] pos2] X.env=[(false,eval (.Call (.Name "range" p2) [a] [] pos2) X.env)]:=by rfl):PI X tg (.Call (.Name "reversed" p) [.Call (.Name "range" p2) [a] [] pos2] [] pos) (b42 ta):=by
 intro pins s σ H R I h
 have inner:wpAny (model X.prog X.w) X.A (eval (.Call (.Name "range" p2) [a] [] pos2) X.env) (λv s1=>∃ (j:Int) (r:Addr) (t u w:Tok) (H1:Hp),v = .ref r/\IsRange s1.heap r 0 j 1 t u w/\Inv X pins σ H1 s1/\0<=j/\j<2 ^ 62/\R (Itd (j - 1) j.toNat) H1) X.xe s:=by
  refine Call_ (a5h I hg2 hm2 boot_range (bV (thn (ha pos2 pins s σ H _ I h) λus s1 ⟨vs,H1,I1,r1,q1⟩=>?_) hs rfl));obtain ⟨j,e,j0,j1,q⟩:=q1;subst e
  cases r1 with
  | cons r rr =>
   cases rr
   obtain ⟨t,rfl⟩:=r;exact call_range_1 ⟨j,_,_,_,_,H1,rfl,IsRange.new ..,I1.kept λb o e=>am _ e,j0,j1,q⟩
 refine Call_ (a5h I hg hm aee (bV ?_ hs2 rfl));rw [hs2];show wpAny _ _ (spliced ((false,eval (.Call (.Name "range" p2) [a] [] pos2) X.env)::backTo pos (starEach [] X.env))) _ _ s;refine Calls.spliced_cons (thn inner λv s1 ⟨j,r,t,u,w,H1,ev,hr,I1,j0,j1,q⟩=>Calls.spliced_nil ?_);subst ev;refine ao7 hr j0 j1 ?_;have I2:Inv X pins σ H1 { s1 with heap:=s1.heap.push (av1 j) }:=I1.kept (t':=s1.toks) λb o e=>am _ e
 have st:IsRangeIter (s1.heap.push (av1 j)) s1.heap.objs.size (j - 1) j (-1):=aJ _ rfl;refine fg st ?_;refine ⟨s1.heap.objs.size,[s1.heap.objs.size],_,_,H1,rfl,I2,ak1 _ (j - 1) j.toNat,?_,λb hb=>?_,q⟩
 ·show IsRangeIter _ _ (j - 1 - ((0:Nat):Int)) ((j.toNat:Int) - ((0:Nat):Int)) (-1);rw [show j - 1 - ((0:Nat):Int)=j - 1 by omega,show (j.toNat:Int) - ((0:Nat):Int)=j by omega]
  exact st
 ·have e:b=s1.heap.objs.size:=by simpa using hb
  subst e;exact I1.fpOk (ax _) (I1.hok.fresh (ax _))
end
end L2
namespace MI
open PySem PySem.Spec L2
def Bz(j:Int):Prop:=0<=j/\j<2 ^ 62
instance (j:Int):Decidable (Bz j):=by unfold Bz;exact inferInstance
def av2(ds:List D)(h:Hd):R Itm:=match ds with
 | [.int j]=>if Bz j then .ok ⟨ang (j - 1) j.toNat,λ_=>True⟩ h else .no
 | _=>.no
theorem axq(hg:Gl X "reversed")(hm:X.mg "reversed" = none)(hg2:Gl X "range")(hm2:X.mg "range" = none)(ha:MA X E [a] k)(hs:starEach [a] X.env=[(false,eval a X.env)]:=by rfl)
  (hs2:starEach [Expr.Call (.Name "range" p2) [a] [] pos2] X.env=[(false,eval (.Call (.Name "range" p2) [a] [] pos2) X.env)]:=by rfl):MI X E tg (.Call (.Name "reversed" p) [.Call (.Name "range" p2) [a] [] pos2] [] pos) (sRg av2 k):=by
 intro pins s σ H Rr I ⟨ι,τ,h,S,Rh,o⟩
 refine axp hg hm hg2 hm2 ha hs hs2 pins s σ H Rr I ⟨ι,τ,h,S,Rh,ig o λds h1 ι1 H1 vs g1 r1 hr1 o1=>?_⟩;unfold av2 at o1
 split at o1
 ·rename_i j
  cases r1 with
  | cons r rs =>
   cases r;cases rs
   by_cases hb:Bz j
   ·rw [aL hb] at o1;exact ⟨j,rfl,hb.1,hb.2,o1 ι1 H1 _ (.refl _ _) (axd (j - 1) j.toNat) hr1⟩
   ·rw [aY hb] at o1;exact o1.elim
 ·exact o1.elim
theorem ako(h:n<=LINE):Bz (n:Int):=by
 have:n<=16777216:=h
 unfold Bz;omega
theorem ao8(n:Nat):ang ((n:Int) - 1) n=(List.range n).map λi:Nat=>D.int ((n - 1 - i:Nat)):=by
 unfold ang;refine dl λi hi=>?_;have:=aP.mp hi;exact av D.int (by omega)
theorem ao9(h:Hd)(z:n<=LINE):av2 [.int (n:Nat)] h = .ok ⟨(List.range n).map λi:Nat=>D.int ((n - 1 - i:Nat)),λ_=>True⟩ h:=by
 have e:av2 [.int (n:Nat)] h=if Bz (n:Int) then R.ok (⟨ang ((n:Int) - 1) (n:Int).toNat,λ_=>True⟩:Itm) h else .no:=rfl
 have b:=ako z
 clear z
 rw [e,aL b,dG,ao8]
theorem axr{α β:Type}(a:α)(h:Hd)(k:α->Hd->R β):(R.ok a h).bind k=k a h:=rfl
theorem axs(e:f τ h = .ok (.int (n:Nat)) h)(z:n<=LINE):sRg av2 (ak f dh) τ h = .ok ⟨(List.range n).map λi:Nat=>D.int ((n - 1 - i:Nat)),λ_=>True⟩ h:=by
 have a:ak f dh τ h = .ok [.int (n:Nat)] h:=by unfold ak dh;rw [e];rfl
 have q:=ao9 h z;unfold sRg;rw [a];rw [axr,q]
end MI
namespace L2
open PySem PySem.Spec PyProof.Rows
section
variable{prog:Program}{w:World}{A:Around}{E:Value->Shared->Prop}{s:Shared}
theorem ahh(hh:A.handled=none)(hl:s.heap.IsList l (xs++[y]).toArray)(hz:(xs++[y]).length<=sizeLine)
  (q:∀ (s':Shared),(∀ b o,s.heap.get? b=some o->s'.heap.get? b=some o)->s'.gens=s.gens->s'.drawn=s.drawn->s'.os=s.os->Q [.ref s'.heap.objs.size,y] { s' with heap:=s'.heap.push { cls:=.type "list",data:=.seq xs.toArray } }) :
  wpAny (model prog w) A (unpackItems (.ref l) 2 (some 0)) Q E s:=by
 have ll:l<s.heap.objs.size:=by obtain ⟨o,ho,_⟩:=hl;exact aH ho
 unfold unpackItems
 apply ag
 unfold notIterableAtAll
 apply ag
 refine fS hl.typeIs F.slot_list_iter.lookup ?_;refine aB ?_;simp only [cb,dP]
 apply ag
 apply cD
 refine eC hl ?_
 apply ag
 apply cD
 refine aB ?_;rw [aY (by simp)]
 apply ag
 apply cD
 have il:=hl.at (h':=s.heap.push { cls:=.type "list_iterator",data:=.fields #[.ref l,rawInt 0] }) λo e=>am _ e;have W:=(Walks.list (prog:=prog) (w:=w) (A:=A.in1) (by simpa using hh) s.heap.objs.size l (bp ll) (xs++[y]).toArray).toS
 refine wpAny_collect_iter (T := "list_iterator") (.inr (.inr (.inl rfl))) W (λi s1 st=>?_) ?_ ?_ (by simp) (λs' acc mv it=>?_) (by simpa using hz)
 ·obtain ⟨o,e,c,d⟩:=st.1;exact ⟨o,e,c⟩
 ·exact ⟨⟨_,aJ _ rfl,rfl,rfl⟩,il⟩
 ·intro b hb
  show b<(s.heap.push _).objs.size;rw [cC];simp only [aD,aN,bT] at hb
  rcases hb with rfl | rfl
  ·exact fF _
  ·exact eE ll
 ·have ea:acc.toList=xs++[y]:=by
   refine eF λi=>?_;have sz:acc.size=(xs++[y]).length:=by have:=it.1;simpa using this
   by_cases hi:i<acc.size
   ·have:=it.2 i acc[i] (bO hi)
    rw [Array.getElem?_toList,bO hi];simpa using this.symm
   ·rw [bS (by simpa using hi),bS (by omega)]
  rw [ea];have n1:¬ (xs++[y]).length<2 - 1 - 0:=by rw [aw,ay];omega
  rw [aY n1];have n2:(xs++[y]).length - (2 - 1 - 0)=xs.length:=by rw [aw,ay];omega
  rw [n2]
  apply ag
  unfold newList;rw [List.take_left' rfl,List.drop_left' rfl];refine cn (aB ?_) (by
   have:xs.length<=sizeLine:=by rw [aw] at hz;omega
   simpa [sizeOk] using this)
  refine q s' (λb o e=>mv.heap b o (λz=>?_) (am _ e)) mv.gens mv.drawn mv.os;rw [ai] at z;exact absurd (z ▸ aH e) (bQ _)
end
section
variable{X:Cx}{pos pos1 pos2 pos3:Pos}
def b1f(K:PySem.W.Frag)(i j:Nat):TG:=λv σ H Q=>∃ a xs y,v = .ref a/\SqL K H a (xs++[y])/\∀ l,H l=none->Q ((σ.set i (some (.ref l))).set j (some y)) (upd H l (.lst xs))
theorem atp(hc:X.calm=true)(hN:X.N.Nodup)(hi:X.N[i]? = some x)(hx:Loc X.env.scope x)(hj:X.N[j]? = some z)(hx2:Loc X.env.scope z)
  (hf:X.fn x=true\/X.env.scope.names.lookup x=some .local:=by first | exact .inl rfl | exact .inr rfl | assumption) (hf2:X.fn z=true\/X.env.scope.names.lookup z=some .local:=by first | exact .inl rfl | exact .inr rfl | assumption) :
  PG X (.Tuple [.Starred (.Name x pos1) pos2, .Name z pos3] k pos) (b1f X.K i j):=by
 intro pins s σ H v u Q I r ⟨a,xs,y,ev,hq,q⟩
 subst ev;cases r
 obtain ⟨its,rv,pl,hz⟩:=I.list hq;obtain ⟨us,w,eu,r1,r2⟩:∃ us w,its=us++[w]/\Vals xs us/\RelV y w:=by
  clear hq q pl hz
  induction xs generalizing its with
  | nil =>
   cases rv with
   | cons r rs=>cases rs;exact ⟨[],_,rfl, .nil,r⟩
  | cons x xs ih =>
   cases rv with
   | cons r rs =>
    obtain ⟨us,w,e,a,b⟩:=ih _ rs;exact ⟨_::us,w,by rw [e];rfl, .cons r a,b⟩
 subst eu;rw [assign_Tuple];refine ag (cI ?_);unfold unpack;refine ag (cD ?_);show wpAny _ _ (unpackItems (.ref a) 2 (some 0)) _ _ s;refine ahh (I.ok.hd hc) pl.isList (by rw [<-rv.length];exact hz) λs' k1 g1 d1 o1=>?_
 obtain ⟨h',g',d',t',o'⟩:=s';dsimp only at g1 d1 o1 k1;subst g1 d1 o1;have I1:Inv X pins σ H { s with heap:=h',toks:=t' }:=I.kept k1
 have lx:=r1.length;have hzx:xs.length<=sizeLine:=by rw [aw] at hz;omega
 have I2:Inv X pins σ (upd H h'.objs.size (.lst xs)) { s with heap:=h'.push { cls:=.type "list",data:=.seq us.toArray },toks:=t' } :=
  I1.laid (t':=t') (λb u e=>am _ e) (ax _) (show ObjOk X.prog X.w _ _ _ (.lst xs) from ⟨hzx,us,0,r1,aJ _ rfl⟩)
 have q2:=q _ (I1.hok.fresh (ax _));show wpAny _ _ (assignInOrder [assign (.Name x pos1) X.env,assign (.Name z pos3) X.env] [.ref h'.objs.size,w]) _ _ _;refine assignInOrder_cons (fm (a5g (v:=.ref h'.objs.size) I2 hN hi hx rfl (λs3 I3=>?_) hf));refine assignInOrder_cons (fm (a5g (v:=y) I3 hN hj hx2 r2 (λs4 I4=>?_) hf2));exact assignInOrder_nil ⟨_,_,I4,q2⟩
end
end L2
namespace MI
open PySem PySem.Spec L2
def akp(i j:Nat):SG:=λd τ h=>match a0m d h with
 | some xs=>(match xs.reverse with
  | y::r=>.nx ((τ.set i (some (.ref h.length))).set j (some y)) (h++[.lst r.reverse])
  | []=>.no)
 | none=>.no
theorem ad6:∀ {ys:List D} {vs:List V},Reps K ι H vs (ys++[y])->∃ us w,vs=us++[w]/\Reps K ι H us ys/\Rep K ι H w y
 | [],_, .cons r .nil=>⟨[],_,rfl, .nil,r⟩
 | _::ys,_, .cons r rs=>by
  obtain ⟨us,w,e,a,b⟩:=ad6 (ys:=ys) rs;exact ⟨_::us,w,by rw [e];rfl, .cons r a,b⟩
theorem atq{X:Cx}(hc:X.calm=true)(hN:X.N.Nodup)(hi:X.N[i]? = some x)(hx:Loc X.env.scope x)(hj:X.N[j]? = some z)(hx2:Loc X.env.scope z)
  (hf:X.fn x=true\/X.env.scope.names.lookup x=some .local:=by first | exact .inl rfl | exact .inr rfl | assumption) (hf2:X.fn z=true\/X.env.scope.names.lookup z=some .local:=by first | exact .inl rfl | exact .inr rfl | assumption) :
  MG X E (.Tuple [.Starred (.Name x pos1) pos2, .Name z pos3] k pos) (akp i j):=by
 refine PG.weak (atp hc hN hi hx hj hx2 hf hf2) λv σ H Q ⟨ι,τ,h,d,r,S,Rh,o⟩=>?_;unfold akp at o
 cases e:a0m d h with
 | none=>rw [e] at o;exact o.elim
 | some xs =>
  rw [e] at o;simp only at o
  cases er:xs.reverse with
  | nil=>rw [er] at o;exact o.elim
  | cons y l =>
   rw [er] at o;simp only at o;have ex:xs=l.reverse++[y]:=by rw [<-cJ xs,er,dk]
   obtain ⟨a,vs,rfl,h1,h2⟩:=a4g r Rh e;rw [ex] at h2;obtain ⟨us,w,ev,r1,r2⟩:=ad6 h2;subst ev;refine ⟨a,us,w,rfl, .inl h1,λp hp=>?_⟩;have g:=acf (ι:=ι) hp (HO.lst us);have li:(ι++[p])[h.length]? = some p:=by rw [<-Rh.len,aF (ax _)];simp
   refine o (ι++[p]) (upd H p (.lst us)) _ g (((S.mono g).set (.ref li) i).set (r2.mono g) j) ?_;exact Rh.add hp ⟨us,qd,r1.mono g⟩
theorem atr(e:a0m d h=some xs)(ex:xs=ys++[y]):akp i j d τ h = .nx ((τ.set i (some (.ref h.length))).set j (some y)) (h++[.lst ys]):=by
 unfold akp;rw [e,ex];simp
end MI
namespace STP
open PySem PySem.Spec L2 MI
noncomputable def a00:SE :=
 (s2 (gIn false) (sV 0) (sV 1))
noncomputable def vz:SS :=
 (qx (a2a (sA a8e (ak (sV 1) (ak (sC (.ty "str")) dh))) (sA am2 (ak (sZ (m9 (sIt (sV 1)) t1 a00 [0])) dh))))
noncomputable def yq(ik:SF):SS :=
 (qx (s2 gIx (sA (kj false 3 ik) (ak (sV 0) (ak (sV 1) (ak (sV 2) dh)))) (s1 a6f (sC (.int 1)))))
noncomputable def ue:SS :=
 (a2b (sML a9h (sV 6) (ak (s2 gIx (s2 gIx (sV 4) (s2 gIx (sV 6) (s1 a6f (sC (.int 1))))) (sMS acl (sV 3) (ak (sV 7) dh))) dh)))
noncomputable def v4:SS :=
 (j6 (a91 (sV 0) (a6l 3 (n6 (kN 3) (n6 (kN 4) (n6 (kN 5) a74)))))
 (j6 (m5 6 (sA a6k (ak (sV 1) dh)))
 (j6 (a5c (sIt (sV 2)) (kN 7) ue)
 (qx (sV 6)))))
noncomputable def a0e:SS :=
 (sIf (a82 (a1z (s2 gIx (sV 2) (sV 12))) (sT (s2 (apv true) (sV 12) (sV 6))))
 (j6 (a94 (s2 jz (sV 10) (sV 11)) (sV 6) (sV 12))
 (a2b (sML a9h (sV 7) (ak (sA a4d (ak (sV 12) (ak (s2 jz (sV 10) (sV 11)) dh))) dh))))
 sNx)
noncomputable def a5w:ST :=
 (sT (s2 gLt (sV 8) (sA v6 (ak (sV 7) dh))))
noncomputable def a2l:SS :=
 (j6 (a91 (s2 gIx (sV 7) (sV 8)) (a6l 2 (n6 (kN 9) (n6 (kN 10) a74))))
 (j6 (a5c (ae5 (sV 3) (s2 gIx (sV 4) (sV 9))) (a6l 2 (n6 (kN 11) (n6 (kN 12) a74))) a0e)
 (ae1 8 a1q (sC (.int 1)))))
noncomputable def a4n:SS :=
 (j6 (a91 (sV 0) (a6l 3 (n6 (kN 3) (n6 (kN 4) (n6 (kN 5) a74)))))
 (j6 (m5 6 ax0)
 (j6 (m5 7 (sA a6k (ak (sA a4d (ak (sV 1) (ak (sC (.str "")) dh))) dh)))
 (j6 (m5 8 (sC (.int 0)))
 (j6 (sWh a5w a2l 100000)
 (qx (sV 6)))))))
noncomputable def a1d(qz:SF):SE :=
 (s2 aju (sV 1) (sV 0))
noncomputable def a5x(qz:SF):SS :=
 (j6 (m5 1 (sA v6 (ak (s2 gIx (sV 0) (sC (.int 1))) dh)))
 (j6 (m5 2 (sA (kj false 3 qz) (ak (sV 0) (ak (sC (.int 0)) (ak (sZ (s2 a0b (sZ (sA a6k (ak (sC (.bl true)) dh))) (sV 1))) dh)))))
 (qx (sA vo (ak (sZ (s2 jz (sZ (sA a6k (ak (sC (.str "")) dh))) (sZ (m9 (sRg a6m (ak (sC (.int 1)) (ak (sV 1) dh))) t1 (a1d qz) [2])))) dh)))))
noncomputable def a3q(ph:SF)(qi:SF)(mz:SF)(qb:SF):SE :=
 (sV 0)
noncomputable def a3r(ph:SF)(qi:SF)(mz:SF)(qb:SF):ST :=
 (a82 (sT (s2 hNe (sV 1) (s1 a6f (sC (.int 1))))) (sT (s2 hEq (s2 gIx (sV 3) (sV 0)) (sV 2))))
noncomputable def a5y(ph:SF)(qi:SF)(mz:SF)(qb:SF):SS :=
 (j6 (m5 1 (sA (kj false 1 qi) (ak (sV 0) dh)))
 (j6 (sIf (sOr (sT (s2 gIs (sV 1) (sC .non))) (sT (s2 hEq (sV 1) (sC (.int 0)))))
 (qx (sC .non))
 sNx)
 (j6 (m5 2 (sA (kj false 1 ph) (ak (sV 0) dh)))
 (j6 (m5 3 (sZ (qu (a8d (s2 gIx (sV 0) (sC (.int 2)))) (tN 2) (a3r ph qi mz qb) (a3q ph qi mz qb) [1,2])))
 (qx (sA a4d (ak (s2 gIx (sA (kj false 1 qb) (ak (sV 0) dh)) (s2 gIx (sV 3) (sC (.int 0)))) (ak (sA (kj false 3 mz) (ak (sV 0) (ak (sV 2) (ak (s2 gIx (sV 3) (sC (.int 0))) dh)))) dh))))))))
noncomputable def a2m(gk:SF):SE :=
 (sA a4d (ak (sV 0) (ak (sV 1) dh)))
noncomputable def xx(gk:SF):ST :=
 (a1z (sA (kj false 3 gk) (ak (s2 gIx (sV 3) (sV 1)) (ak (s2 gIx (sV 2) (sV 1)) (ak (sV 4) dh)))))
noncomputable def a2n(gk:SF):SS :=
 (j6 (m5 9 (sZ (qu (ae5 (sV 3) (s2 gIx (sV 4) (sV 7))) (tN 2) (xx gk) (a2m gk) [1,5,8])))
 (j6 (a91 (s2 gIx (sV 9) (sC (.int 0))) (a6l 2 (n6 (kN 10) (n6 (kN 7) a74))))
 (ae1 6 a1q (sV 10))))
noncomputable def a4o(gk:SF):SS :=
 (j6 (a91 (sV 0) (a6l 3 (n6 (kN 3) (n6 (kN 4) (n6 (kN 5) a74)))))
 (j6 (m5 6 (sC (.str "")))
 (j6 (m5 7 (sV 2))
 (j6 (a5c (sRg av2 (ak (s2 gIx (sV 1) (sV 2)) dh)) (kN 8) (a2n gk))
 (qx (sV 6))))))
noncomputable def zj:SS :=
 (j6 (sIf (sT (s2 hEq (sV 2) (sC (.int 0))))
 (qx (s2 hNe (sV 0) (s1 a6f (sC (.int 1)))))
 sNx)
 (qx (a2a (s2 hEq (sV 0) (s1 a6f (sC (.int 1)))) (s2 hEq (sV 1) (sV 2)))))
noncomputable def a3s(mq:SF)(ik:SF):SE :=
 (s2 hEq (s2 gIx (sV 1) (sV 0)) (s1 a6f (sC (.int 1))))
noncomputable def a5z(mq:SF)(ik:SF):SS :=
 (j6 (m5 3 (s2 gIx (sV 0) (sC (.int 2))))
 (j6 (m5 4 (sA (kj false 3 mq) (ak (sV 0) (ak (sC (.int 0)) (ak (sV 1) dh)))))
 (j6 (sIf (sOr (sT (s2 hEq (sV 2) (sC (.str "")))) (sT (s2 hEq (s2 gIx (sV 3) (sV 4)) (s1 a6f (sC (.int 1))))))
 (qx (sC (.bl false)))
 sNx)
 (j6 (a91 (sZ (a6s (sA (kj false 3 ik) (ak (sV 0) (ak (sV 4) (ak (sV 2) dh)))) (oS (sC (.int 1))) oN)) (akp 5 6))
 (qx (a2a (s2 hNe (s2 gIx (sV 3) (sV 6)) (s1 a6f (sC (.int 1)))) (sA am2 (ak (sZ (m9 (sIt (sV 5)) t1 (a3s mq ik) [3])) dh))))))))
noncomputable def a4p:SS :=
 (j6 (sIf (a1z (sV 1))
 (qx (s2 gIs (sV 0) (sC (.bl true))))
 sNx)
 (qx (s2 gIs (sV 0) (sC (.bl false)))))
noncomputable def a2o:SS :=
 (m5 2 (s2 gIx (s2 gIx (s2 gIx (sV 0) (sC (.int 1))) (sV 2)) (sMS agv (s2 gIx (sV 0) (sC (.int 0))) (ak (sV 3) dh))))
noncomputable def a4q:SS :=
 (j6 (m5 2 (sC (.int 0)))
 (j6 (a5c (sIt (sV 1)) (kN 3) a2o)
 (qx (sV 2))))
noncomputable def a2y:SS :=
 (sIf (sT (s2 (gIn true) (sV 2) (s2 gIx (sV 0) (sC (.int 0)))))
 (qx (sC (.bl false)))
 sNx)
noncomputable def a0f:SS :=
 (j6 (sIf (a7c (a1z (sA a8e (ak (sV 1) (ak (sC (.ty "str")) dh)))))
 (qx (sC (.bl false)))
 sNx)
 (j6 (a5c (sIt (sV 1)) (kN 2) a2y)
 (qx (sC (.bl true)))))
noncomputable def a06(kh:SF)(ug:SF):SS :=
 (j6 (m5 3 (s2 gIx (s2 gIx (s2 gIx (sV 0) (sC (.int 1))) (sV 3)) (sMS agv (s2 gIx (sV 0) (sC (.int 0))) (ak (s2 gIx (sV 2) (sV 4)) dh))))
 (sIf (sT (s2 hNe (s2 gGe (s2 gIx (s2 gIx (sV 0) (sC (.int 2))) (sV 3)) (sC (.int 0))) (s2 hEq (sV 4) (s2 abu (sA v6 (ak (sV 2) dh)) (sC (.int 1))))))
 (qx (sC (.bl false)))
 sNx))
noncomputable def a0g(kh:SF)(ug:SF):SS :=
 (j6 (sIf (sOr (a7c (a1z (sA (kj false 2 kh) (ak (sV 0) (ak (sV 1) dh))))) (sOr (a7c (a1z (sA (kj false 2 kh) (ak (sV 0) (ak (sV 2) dh))))) (sT (s2 hEq (sV 2) (sC (.str ""))))))
 (qx (sC (.bl false)))
 sNx)
 (j6 (m5 3 (sA (kj false 2 ug) (ak (sV 0) (ak (sV 1) dh))))
 (j6 (sIf (sT (s2 gLt (s2 gIx (s2 gIx (sV 0) (sC (.int 2))) (sV 3)) (sC (.int 0))))
 (qx (sC (.bl false)))
 sNx)
 (j6 (a5c (sRg xj (ak (sA v6 (ak (sV 2) dh)) dh)) (kN 4) (a06 kh ug))
 (qx (sC (.bl true)))))))
noncomputable def v7(aj:SF)(du:SF):SE :=
 (sV 0)
noncomputable def p6(aj:SF)(du:SF):ST :=
 (sT (s2 (gIn true) (sV 0) (sV 1)))
noncomputable def a07(aj:SF)(du:SF):SE :=
 (sV 0)
noncomputable def jm(aj:SF)(du:SF):SS :=
 (j6 (m5 4 (sA (kj false 2 aj) (ak (sV 0) (ak (s2 jz (sA v6 (ak (sV 2) dh)) (sC (.int 1))) dh))))
 (j6 (m5 5 (s2 gIx (sV 1) (sA (kj false 2 aj) (ak (sV 0) (ak (sA v6 (ak (sV 1) dh)) dh)))))
 (j6 (m5 6 (sZ (qu (sIt (sA (kj false 0 du) dh)) t1 (p6 aj du) (v7 aj du) [1])))
 (j6 (sIf (sT (s2 hEq (sV 3) (sC (.int 0))))
 (qx (s2 jz (s2 jz (a6s (sV 2) oN (oS (sV 4))) (sV 5)) (a6s (sV 2) (oS (sV 4)) oN)))
 sNx)
 (j6 (sIf (sT (s2 hEq (sV 3) (sC (.int 1))))
 (qx (s2 jz (a6s (sV 2) oN (oS (sV 4))) (a6s (sV 2) (oS (s2 jz (sV 4) (sC (.int 1)))) oN)))
 sNx)
 (j6 (sIf (sT (s2 hEq (sV 3) (sC (.int 2))))
 (qx (s2 jz (s2 jz (a6s (sV 2) oN (oS (sV 4))) (sV 5)) (a6s (sV 2) (oS (s2 jz (sV 4) (sC (.int 1)))) oN)))
 sNx)
 (j6 (sIf (sT (s2 hEq (sV 3) (sC (.int 3))))
 (qx (s2 jz (s2 jz (a6s (sV 2) oN (oS (sV 4))) (s2 gIx (sV 6) (sA (kj false 2 aj) (ak (sV 0) (ak (sA v6 (ak (sV 6) dh)) dh))))) (a6s (sV 2) (oS (s2 jz (sV 4) (sC (.int 1)))) oN)))
 sNx)
 (j6 (sIf (sT (s2 hEq (sV 3) (sC (.int 4))))
 (qx (sC .non))
 sNx)
 (j6 (sIf (sT (s2 hEq (sV 3) (sC (.int 5))))
 (qx (m9 (sIt (sV 2)) t1 (a07 aj du) []))
 sNx)
 (qx (sC (.str ""))))))))))))
end STP
namespace K41
open PySem PySem.Spec L2 MI
noncomputable def yc(a02:SF)(p7:SF):SS :=
 (j6 (sIf (sOr (a7c (a1z (sA (kj false 2 p7) (ak (s2 gIx (sV 0) (sC (.int 0))) (ak (sV 2) dh))))) (a7c (a1z (sA (kj false 2 p7) (ak (s2 gIx (sV 0) (sC (.int 0))) (ak (sV 3) dh))))))
 (qx (sC (.bl false)))
 sNx)
 (qx (a2a (s2 hEq (sA v6 (ak (sV 3) dh)) (sV 1)) (sA (kj false 3 a02) (ak (sV 0) (ak (sV 2) (ak (sV 3) dh)))))))
noncomputable def a2p(u6:SF):SS :=
 (qx (a2a (sA (kj false 3 u6) (ak (sV 0) (ak (sV 2) (ak (sV 3) dh)))) (s2 hEq (sA v6 (ak (sV 3) dh)) (sV 1))))
noncomputable def a0s(aj:SF)(dg:SF)(oh:SF)(bz:SF)(jc:SF):SS :=
 (j6 (m5 11 (sA (kj false 4 dg) (ak (sV 1) (ak (sV 10) (ak (s2 gIx (sV 9) (sC (.int 0))) (ak (s2 gIx (sV 9) (sC (.int 1))) dh))))))
 (sIf (a7c (a1z (sA (kj false 2 oh) (ak (sA (kj false 4 jc) (ak (sV 1) (ak (sV 10) (ak (s2 gIx (sV 9) (sC (.int 0))) (ak (s2 gIx (sV 9) (sC (.int 1))) dh))))) (ak (sV 11) dh)))))
 asl
 sNx))
noncomputable def ye(aj:SF)(dg:SF)(oh:SF)(bz:SF)(jc:SF):SS :=
 (a5c (sIt (sA a4d (ak (sV 2) (ak (s2 jz (sV 2) (sC (.int 1))) (ak (sA ae3 (ak (sC (.int 0)) (ak (s2 abu (sV 2) (sC (.int 1))) dh))) dh))))) (kN 10) (a0s aj dg oh bz jc))
noncomputable def a1e(aj:SF)(dg:SF)(oh:SF)(bz:SF)(jc:SF):SS :=
 (j6 (m5 5 (s2 gIx (sV 1) (sC (.int 0))))
 (j6 (m5 6 (sA (kj false 2 aj) (ak (sV 0) (ak (sC (.int 14)) dh))))
 (j6 (m5 7 (acg (sT (s2 gLt (sV 6) (sC (.int 7)))) (sA (kj false 4 bz) (ak (sV 0) (ak (sV 5) (ak (sV 3) (ak (sV 6) dh))))) (sV 3)))
 (j6 (m5 8 (acg (sT (s2 gGe (sV 6) (sC (.int 7)))) (sA (kj false 4 bz) (ak (sV 0) (ak (sV 5) (ak (sV 4) (ak (s2 abu (sV 6) (sC (.int 7))) dh))))) (sV 4)))
 (j6 (sIf (sT (s2 a85 (sA (kj false 4 jc) (ak (sV 1) (ak (s2 jz (sV 2) (s2 a93 (sC (.int 10)) (sC (.int 20)))) (ak (sV 3) (ak (sV 4) dh))))) (sC (.bl false))))
 asl
 sNx)
 (j6 (a5c (sIt (sA a4d (ak (sA a4d (ak (sV 3) (ak (sV 4) dh))) (ak (sA a4d (ak (sV 7) (ak (sV 8) dh))) (ak (sA a4d (ak (sV 8) (ak (sV 7) dh))) (ak (sA a4d (ak (sV 7) (ak (sV 4) dh))) (ak (sA a4d (ak (sV 3) (ak (sV 8) dh))) dh))))))) (kN 9) (ye aj dg oh bz jc))
 (qx (sC (.bl true)))))))))
noncomputable def ab6(aj:SF)(dg:SF)(di:SF)(j4:SF)(fu:SF)(ie:SF)(j9:SF):SE :=
 (sV 0)
noncomputable def a65(aj:SF)(dg:SF)(di:SF)(j4:SF)(fu:SF)(ie:SF)(j9:SF):ST :=
 (sT (s2 gGe (s2 gIx (s2 gIx (sV 1) (sC (.int 2))) (sV 0)) (sC (.int 0))))
noncomputable def ab7(aj:SF)(dg:SF)(di:SF)(j4:SF)(fu:SF)(ie:SF)(j9:SF):SE :=
 (s2 gIx (s2 gIx (sV 2) (sC (.int 0))) (sA (kj false 2 aj) (ak (sV 1) (ak (sA v6 (ak (s2 gIx (sV 2) (sC (.int 0))) dh)) dh))))
noncomputable def ab8(aj:SF)(dg:SF)(di:SF)(j4:SF)(fu:SF)(ie:SF)(j9:SF):SE :=
 (s2 gIx (s2 gIx (sV 2) (sC (.int 0))) (sA (kj false 2 aj) (ak (sV 1) (ak (sA v6 (ak (s2 gIx (sV 2) (sC (.int 0))) dh)) dh))))
noncomputable def aoa(aj:SF)(dg:SF)(di:SF)(j4:SF)(fu:SF)(ie:SF)(j9:SF):SS :=
 (j6 (m5 1 (sA (kj true 1 fu) (ak (sV 0) dh)))
 (j6 (m5 2 (sA (kj false 2 ie) (ak (sV 1) (ak (sC (.int 32)) dh))))
 (j6 (m5 3 (sA (kj false 2 j4) (ak (sV 2) (ak (sZ (qu (sRg xj (ak (sA v6 (ak (s2 gIx (sV 2) (sC (.int 2))) dh)) dh)) t1 (a65 aj dg di j4 fu ie j9) (ab6 aj dg di j4 fu ie j9) [2])) dh))))
 (j6 (m5 4 (sA (kj false 1 j9) (ak (sV 2) dh)))
 (j6 (m5 5 (sMS aal (sC (.str "")) (ak (sZ (m9 (sRg xj (ak (s2 jz (sC (.int 1)) (sA (kj false 2 aj) (ak (sV 1) (ak (sC (.int 5)) dh)))) dh)) t1 (ab7 aj dg di j4 fu ie j9) [1,2])) dh)))
 (j6 (m5 6 (sMS aal (sC (.str "")) (ak (sZ (m9 (sRg xj (ak (sA (kj false 2 aj) (ak (sV 1) (ak (sC (.int 4)) dh))) dh)) t1 (ab8 aj dg di j4 fu ie j9) [1,2])) dh)))
 (j6 (sIf (a7c (a1z (sA (kj false 5 di) (ak (sV 1) (ak (sV 2) (ak (sA v6 (ak (sV 6) dh)) (ak (sV 5) (ak (sV 6) dh))))))))
 asl
 sNx)
 (j6 (sIf (sOr (sT (s2 gIs (sV 3) (sC .non))) (sT (s2 hEq (sV 3) (sC (.int 0)))))
 (qx (a2a (s2 gIs (sV 4) (sC .non)) (s2 gIs (sA (kj false 1 j9) (ak (sV 2) dh)) (sC .non))))
 sNx)
 (j6 (sIf (sOr (a7c (a1z (sA a8e (ak (sV 4) (ak (sC (.ty "tuple")) dh))))) (sOr (sT (s2 hNe (sA v6 (ak (sV 4) dh)) (sC (.int 2)))) (a7c (a1z (sA (kj false 4 dg) (ak (sV 2) (ak (sV 3) (ak (s2 gIx (sV 4) (sC (.int 0))) (ak (s2 gIx (sV 4) (sC (.int 1))) dh)))))))))
 asl
 sNx)
 (qx (sA (kj false 5 di) (ak (sV 1) (ak (sV 2) (ak (sV 3) (ak (s2 gIx (sV 4) (sC (.int 0))) (ak (s2 gIx (sV 4) (sC (.int 1))) dh))))))))))))))))
def top(i:Nat):Stmt:=PySem.Challenge.pw_nearreach_k41_steps_as_long_as_the_reach.main.body.getD i (.Pass ⟨0,0,0,0⟩)
structure Nm (mg:Str->Option Value):Prop where
 abs:mg "abs" = none
 all:mg "all" = none
 any:mg "any" = none
 enumerate:mg "enumerate" = none
 int:mg "int" = none
 isinstance:mg "isinstance" = none
 len:mg "len" = none
 max:mg "max" = none
 min:mg "min" = none
 range:mg "range" = none
 reversed:mg "reversed" = none
 sorted:mg "sorted" = none
 str:mg "str" = none
 sum:mg "sum" = none
 tuple:mg "tuple" = none
 zip:mg "zip" = none
section
variable{P:Program}{w:World}{K:PySem.W.Frag}{mg:Str->Option Value}{base:Heap}{f:Addr}
def MD(P:Program)(w:World)(K:PySem.W.Frag)(mg:Str->Option Value)(base:Heap)(f:Addr)(k:Nat)(N:List Str)(x:Str)(t:Stmt)(b:SS):Prop:=∀ (cdv:Value) (A:Around) (outer:List Env) (s:Shared) (H:Hp) (E:XK),Room k (A.deeper (PyProof.Rows.envOfC x (dq t) s.heap.objs.size f cdv))->MSs (amh CX0 P w K mg base N x (dq t) f cdv A outer s H E).nox X0 (a1f t) b
local macro_rules | `(tactic| walk_at "sc") => `(tactic| exact ⟨rfl,rfl,rfl,by decide +kernel,rfl,by decide +kernel,by decide +kernel⟩)
theorem b2k:FnScope ["tongue", "thing"] ["tongue", "thing"] (dq (top 1)):=by walk_at "sc"
theorem m_0(M:Nm mg):MD P w K mg base f k ["tongue", "thing"] "is_text" (top 1) (STP.vz):=λcdv A outer s H E hr =>
 have SC:=b2k
 (bw (jh (a9c (u9 (L2.CallR.or a5a a3o) aaz rfl M.isinstance a1y (aa (bf 1) (aa (ars rfl M.str api) bc))) (a9b (u9 (a7y rfl) aja rfl M.all apj (aa (a7h (xn rfl (CSc.of (ts:=["sign"]) (fr:=["tongue"]) (ix:=[0]) rfl rfl rfl rfl (by intro p hp;cases ai.mp hp;rfl) rfl rfl rfl rfl) (qm (bf 1)) (λ_ _ _ _=>(jw (i:=0) (show (["sign", "tongue"]:List Str).Nodup by decide +kernel) rfl (Or.inl rfl) (.inr rfl))) uo (λ_ _ _ _=>(um (aiw.or ac4) aj6 (bf 0) (bf 1) (by with_unfolding_all rfl))))) bc))))))
theorem b2l:FnScope ["table", "room", "word"] ["table", "room", "word"] (dq (top 3)):=by walk_at "sc"
theorem m_1(D_2:Dn P w K mg base k_2 "rooms_along" ["table", "room", "word"] (qw K 3 F_2) a_2 d_2)(h_2:k_2<=k):MD P w K mg base f k ["table", "room", "word"] "room_from" (top 3) (STP.yq F_2):=λcdv A outer s H E hr =>
 have SC:=b2l
 (bw (jh (bu (cj false D_2 (hr.mono h_2) rfl (aa (bf 0) (aa (bf 1) (aa (bf 2) bc)))) (zy au) (λ_ _=>rfl))))
theorem b2m:FnScope ["table", "room", "word", "tongue", "goes", "kinds", "rooms", "sign"] ["table", "room", "word"] (dq (top 4)):=by walk_at "sc"
theorem m_2:MD P w K mg base f k ["table", "room", "word", "tongue", "goes", "kinds", "rooms", "sign"] "rooms_along" (top 4) (STP.v4):=λcdv A outer s H E hr =>
 have SC:=b2m
 (aq (a3j (bf 0) (a2x rfl (jo (j7 (i:=3) SC.nd rfl (Or.inl rfl)) (jo (j7 (i:=4) SC.nd rfl (Or.inl rfl)) (jo (j7 (i:=5) SC.nd rfl (Or.inl rfl)) a03)))))
 (aq (j8 (i:=6) SC.nd rfl (Or.inl rfl) (a2w (aa (bf 1) bc)))
 (aq (vm bi rfl (qm (bf 2)) (j7 (i:=7) SC.nd rfl (Or.inl rfl)) (bw (a3i (aaj bK bZ zx a3m (bf 6) (aa (bu (bu (bf 4) (bu (bf 6) (zy au) (λ_ _=>rfl)) (λ_ _=>rfl)) (aj8 PySem.F.slot_str_index PySem.F.type_str_index amt aj9 (bf 3) (aa (bf 7) bc)) (λ_ _=>rfl)) bc)))))
 (bw (jh (bf 6))))))
theorem b2n:FnScope ["table", "start", "passed", "tongue", "goes", "kinds", "words", "waiting", "looked", "room", "word", "sign", "to"] ["table", "start", "passed"] (dq (top 5)):=by walk_at "sc"
theorem m_3(M:Nm mg):MD P w K mg base f k ["table", "start", "passed", "tongue", "goes", "kinds", "words", "waiting", "looked", "room", "word", "sign", "to"] "words_to" (top 5) (STP.a4n):=λcdv A outer s H E hr =>
 have SC:=b2n
 (aq (a3j (bf 0) (a2x rfl (jo (j7 (i:=3) SC.nd rfl (Or.inl rfl)) (jo (j7 (i:=4) SC.nd rfl (Or.inl rfl)) (jo (j7 (i:=5) SC.nd rfl (Or.inl rfl)) a03)))))
 (aq (j8 (i:=6) SC.nd rfl (Or.inl rfl) asd)
 (aq (j8 (i:=7) SC.nd rfl (Or.inl rfl) (a2w (aa (a0h (aa (bf 1) (aa a2u bc))) bc)))
 (aq (j8 (i:=8) SC.nd rfl (Or.inl rfl) au)
 (aq (a7e 100000 bi (gq (a7q.or ut) a3k (bf 8) (u9 (L2.CallR.or dw dz) nj rfl M.len qy (aa (bf 7) bc)) (jb _)) (aq (a3j (bu (bf 7) (bf 8) (λ_ _=>rfl)) (a2x rfl (jo (j7 (i:=9) SC.nd rfl (Or.inl rfl)) (jo (j7 (i:=10) SC.nd rfl (Or.inl rfl)) a03))))
 (aq (vm bi rfl (ajg rfl M.zip ajh (bf 3) (bu (bf 4) (bf 9) (λ_ _=>rfl))) (a2x rfl (jo (j7 (i:=11) SC.nd rfl (Or.inl rfl)) (jo (j7 (i:=12) SC.nd rfl (Or.inl rfl)) a03))) (bw (sy (PW.pt (a73 (wz (bu (bf 2) (bf 12) (λ_ _=>rfl))) (a3g (gq (acu hr.u) a9l (bf 12) (bf 6) (by with_unfolding_all rfl)))))
 (aq (ajw hr.u (km (bf 10) (bf 11)) (bf 6) (bf 12))
 (bw (a3i (aaj bK bZ zx a3m (bf 7) (aa (a0h (aa (bf 12) (aa (km (bf 10) (bf 11)) bc))) bc)))))
 jn)))
 (bw (a9e (i:=8) SC.nd rfl (Or.inl rfl) (a3f.or uv) a0y au)))))
 (bw (jh (bf 6))))))))
theorem b2o:FnScope ["table"] ["table"] (dq (top 7)):=by walk_at "sc"
theorem m_4(M:Nm mg)(D_5:Dn P w K mg base k_5 "hope_word" ["table", "start"] (qw K 2 F_5) a_5 d_5)(h_5:k_5<=k):MD P w K mg base f k ["table"] "hope_words" (top 7) (RCH.xf F_5):=λcdv A outer s H E hr =>
 have SC:=b2o
 (bw (jh (a3h (L2.CallR.or sr (uw rfl)) a0l rfl M.tuple a0v (aa (a7h (xn rfl (CSc.of (ts:=["room"]) (fr:=["table"]) (ix:=[0]) rfl rfl rfl rfl (by intro p hp;cases ai.mp hp;rfl) rfl rfl rfl rfl) (a0j rfl M.range (aa (u9 (L2.CallR.or dw dz) nj rfl M.len qy (aa (bu (bf 0) au (λ_ _=>rfl)) bc)) bc)) (λ_ _ _ _=>(jw (i:=0) (show (["room", "table"]:List Str).Nodup by decide +kernel) rfl (Or.inl rfl) (.inr rfl))) uo (λ_ _ _ _=>(cj false D_5 (hr.mono h_5) rfl (aa (bf 1) (aa (bf 0) bc)))))) bc))))
theorem b2p:FnScope ["table", "start", "tongue", "goes", "kinds", "found", "seen", "looked", "room", "word", "sign", "to"] ["table", "start"] (dq (top 8)):=by walk_at "sc"
theorem m_5(M:Nm mg):MD P w K mg base f k ["table", "start", "tongue", "goes", "kinds", "found", "seen", "looked", "room", "word", "sign", "to"] "hope_word" (top 8) (RCH.ym):=λcdv A outer s H E hr =>
 have SC:=b2p
 (aq (a3j (bf 0) (a2x rfl (jo (j7 (i:=2) SC.nd rfl (Or.inl rfl)) (jo (j7 (i:=3) SC.nd rfl (Or.inl rfl)) (jo (j7 (i:=4) SC.nd rfl (Or.inl rfl)) a03)))))
 (aq (j8 (i:=5) SC.nd rfl (Or.inl rfl) (a2w (aa (a0h (aa (bf 1) (aa a2u bc))) bc)))
 (aq (j8 (i:=6) SC.nd rfl (Or.inl rfl) (b1b (bf 1) a3a))
 (aq (j8 (i:=7) SC.nd rfl (Or.inl rfl) au)
 (aq (a7e 100000 bi (gq (a7q.or ut) a3k (bf 7) (u9 (L2.CallR.or dw dz) nj rfl M.len qy (aa (bf 5) bc)) (jb _)) (aq (a3j (bu (bf 5) (bf 7) (λ_ _=>rfl)) (a2x rfl (jo (j7 (i:=8) SC.nd rfl (Or.inl rfl)) (jo (j7 (i:=9) SC.nd rfl (Or.inl rfl)) a03))))
 (aq (vm bi rfl (ajg rfl M.zip ajh (bf 2) (bu (bf 3) (bf 8) (λ_ _=>rfl))) (a2x rfl (jo (j7 (i:=10) SC.nd rfl (Or.inl rfl)) (jo (j7 (i:=11) SC.nd rfl (Or.inl rfl)) a03))) (aq (sy (gq (a5r hr.u) a2c (bu (bf 4) (bf 11) (λ_ _=>rfl)) (zy au) (jb _))
 (bw (jh (km (bf 9) (bf 10))))
 jn)
 (bw (sy (gq (acu hr.u) a9l (bf 11) (bf 6) (by with_unfolding_all rfl))
 (aq (ajw hr.u a3a (bf 6) (bf 11))
 (bw (a3i (aaj bK bZ zx a3m (bf 5) (aa (a0h (aa (bf 11) (aa (km (bf 9) (bf 10)) bc))) bc)))))
 jn))))
 (bw (a9e (i:=7) SC.nd rfl (Or.inl rfl) (a3f.or uv) a0y au)))))
 (bw (jh a2v)))))))
theorem b2q:FnScope ["table"] ["table"] (dq (top 9)):=by walk_at "sc"
theorem m_6(M:Nm mg)(D_4:Dn P w K mg base k_4 "hope_words" ["table"] (qw K 1 F_4) a_4 d_4)(h_4:k_4<=k):MD P w K mg base f k ["table"] "hopes" (top 9) (RCH.a6v F_4):=λcdv A outer s H E hr =>
 have SC:=b2q
 (bw (jh (a3h (L2.CallR.or sr (uw rfl)) a0l rfl M.tuple a0v (aa (a7h (xn rfl (CSc.noFree (ts:=["word"]) rfl (by decide +kernel) (by decide +kernel) (by decide +kernel)) (qm (cj false D_4 (hr.mono h_4) rfl (aa (bf 0) bc))) (λ_ _ _ _=>(jw (i:=0) (show (["word"]:List Str).Nodup by decide +kernel) rfl (Or.inl rfl) (.inr rfl))) uo (λ_ _ _ _=>(um (ai9.or a7x) acj (bf 0) a2v (jb _))))) bc))))
theorem b2r:FnScope ["table", "rooms", "words"] ["table"] (dq (top 11)):=by walk_at "sc"
theorem m_7(M:Nm mg)(D_3:Dn P w K mg base k_3 "words_to" ["table", "start", "passed"] (qw K 3 F_3) a_3 d_3)(h_3:k_3<=k):MD P w K mg base f k ["table", "rooms", "words"] "ways_to" (top 11) (STP.a5x F_3):=λcdv A outer s H E hr =>
 have SC:=b2r
 (aq (j8 (i:=1) SC.nd rfl (Or.inl rfl) (u9 (L2.CallR.or dw dz) nj rfl M.len qy (aa (bu (bf 0) au (λ_ _=>rfl)) bc)))
 (aq (j8 (i:=2) SC.nd rfl (Or.inr rfl) (cj false D_3 (hr.mono h_3) rfl (aa (bf 0) (aa au (aa (a7h (a6t (a7h (a2w (aa a3a bc))) (bf 1))) bc)))))
 (bw (jh (a3h (L2.CallR.or sr (uw rfl)) a0l rfl M.tuple a0v (aa (a7h (km (a7h (a2w (aa a2u bc))) (a7h (xn rfl (CSc.of (ts:=["room"]) (fr:=["words"]) (ix:=[2]) rfl rfl rfl rfl (by intro p hp;cases ai.mp hp;rfl) rfl rfl rfl rfl) (aah rfl M.range (aa au (aa (bf 1) bc))) (λ_ _ _ _=>(jw (i:=0) (show (["room", "words"]:List Str).Nodup by decide +kernel) rfl (Or.inl rfl) (.inr rfl))) uo (λ_ _ _ _=>(asw hr.u (bf 1) (bf 0) (λ_ _=>rfl))))))) bc))))))
theorem b2s:FnScope ["table", "kinds"] ["table"] (dq (top 13)):=by walk_at "sc"
theorem m_8(M:Nm mg)(D_6:Dn P w K mg base k_6 "hopes" ["table"] (qw K 1 F_6) a_6 d_6)(h_6:k_6<=k)(D_9:Dn P w K mg base k_9 "reach_from" ["table", "hope", "starts"] (qw K 3 F_9) a_9 d_9)(h_9:k_9<=k):MD P w K mg base f k ["table", "kinds"] "reach" (top 13) (RCH.ab5 F_6 F_9):=λcdv A outer s H E hr =>
 have SC:=b2s
 (aq (j8 (i:=1) SC.nd rfl (Or.inl rfl) (bu (bf 0) au (λ_ _=>rfl)))
 (bw (jh (cj false D_9 (hr.mono h_9) rfl (aa (bf 0) (aa (cj false D_6 (hr.mono h_6) rfl (aa (bf 0) bc)) (aa (a7h (a7g rfl (CSc.noFree (ts:=["room", "kind"]) rfl (by decide +kernel) (by decide +kernel) (by decide +kernel)) (ae8 rfl M.enumerate (bf 1)) (λ_ _ _ _=>abw rfl (a09 (jw (i:=0) (show (["room", "kind"]:List Str).Nodup by decide +kernel) rfl (Or.inl rfl) (.inr rfl)) (a09 (jw (i:=1) (show (["room", "kind"]:List Str).Nodup by decide +kernel) rfl (Or.inl rfl) (.inr rfl)) a7p))) afa (λ_ _ _ _=>(bf 0)) (λ_ _ _ _=>(gq (a5r hr.u) a2c (bf 1) (zy au) (jb _))))) bc)))))))
theorem b2t:FnScope ["table", "hope", "starts", "tongue", "goes", "kinds", "most", "layer", "count", "led"] ["table", "hope", "starts"] (dq (top 14)):=by walk_at "sc"
theorem m_9(M:Nm mg):MD P w K mg base f k ["table", "hope", "starts", "tongue", "goes", "kinds", "most", "layer", "count", "led"] "reach_from" (top 14) (RCH.a1c):=λcdv A outer s H E hr =>
 have SC:=b2t
 (aq (a3j (bf 0) (a2x rfl (jo (j7 (i:=3) SC.nd rfl (Or.inl rfl)) (jo (j7 (i:=4) SC.nd rfl (Or.inr rfl)) (jo (j7 (i:=5) SC.nd rfl (Or.inr rfl)) a03)))))
 (aq (j8 (i:=6) SC.nd rfl (Or.inl rfl) au)
 (aq (j8 (i:=7) SC.nd rfl (Or.inl rfl) (bf 2))
 (aq (vm bi rfl (aah rfl M.range (aa au (aa (km (u9 (L2.CallR.or dw dz) nj rfl M.len qy (aa (bf 4) bc)) au) bc))) (j7 (i:=8) SC.nd rfl (Or.inl rfl)) (aq (j8 (i:=9) SC.nd rfl (Or.inl rfl) (a7h (atm rfl M.sorted rfl (CSc.of (ts:=["room", "to"]) (fr:=["goes"]) (ix:=[4]) rfl rfl rfl rfl (by intro p hp;cases ai.mp hp;rfl) rfl rfl rfl rfl) (qm (bf 7)) (λ_ _ _ _=>jw (i:=0) (show (["room", "to", "goes"]:List Str).Nodup by decide +kernel) rfl (Or.inl rfl) (.inr rfl)) (λ_ _ _ _=>(qm (bu (bf 2) (bf 0) (λ_ _=>rfl)))) (λ_ _ _ _=>jw (i:=1) (show (["room", "to", "goes"]:List Str).Nodup by decide +kernel) rfl (Or.inl rfl) (.inr rfl)) (λ_ _ _ _=>(bf 1)))))
 (aq (sy (wz (u9 (ae6 rfl) asp rfl M.any axe (aa (a7h (xn rfl (CSc.of (ts:=["to"]) (fr:=["kinds"]) (ix:=[5]) rfl rfl rfl rfl (by intro p hp;cases ai.mp hp;rfl) rfl rfl rfl rfl) (qm (bf 9)) (λ_ _ _ _=>(jw (i:=0) (show (["to", "kinds"]:List Str).Nodup by decide +kernel) rfl (Or.inl rfl) (.inr rfl))) uo (λ_ _ _ _=>(um (a5r hr.u) a2c (bu (bf 1) (bf 0) (λ_ _=>rfl)) (zy au) (jb _))))) bc)))
 (bw (j8 (i:=6) SC.nd rfl (Or.inl rfl) (bf 8)))
 jn)
 (aq (a5t (i:=7) SC.nd rfl (Or.inl rfl) rfl (CSc.of (ts:=["to"]) (fr:=["hope", "kinds"]) (ix:=[1,5]) rfl rfl rfl rfl (by intro p hp;simp only [aD,aN,bT] at hp;rcases hp with rfl | rfl<;>rfl) rfl rfl rfl rfl) (qm (bf 9)) (λ_ _ _ _=>(jw (i:=0) (show (["to", "hope", "kinds"]:List Str).Nodup by decide +kernel) rfl (Or.inl rfl) (.inr rfl))) uo (λ_ _ _ _=>(bf 0)) (λ_ _ _ _=>(PW.pt (a73 (gq (uq hr.u) qe (bu (bf 2) (bf 0) (λ_ _=>rfl)) (zy au) (jb _)) (a3g (wz (bu (bf 1) (bf 0) (λ_ _=>rfl))))))))
 (bw (sy (a4u (wz (bf 7)))
 (bw (jh (bf 6)))
 jn))))))
 (bw (jh a2v))))))
theorem axt:FnScope ["table", "hope", "tongue", "goes", "kinds", "found", "looked", "row", "to"] ["table", "hope"] (dq (top 15)):=by walk_at "sc"
theorem b43(M:Nm mg):MD P w K mg base f k ["table", "hope", "tongue", "goes", "kinds", "found", "looked", "row", "to"] "rooms_behind" (top 15) (HGT.zg):=λcdv A outer s H E hr =>
 have SC:=axt
 (aq (a3j (bf 0) (a2x rfl (jo (j7 (i:=2) SC.nd rfl (Or.inl rfl)) (jo (j7 (i:=3) SC.nd rfl (Or.inl rfl)) (jo (j7 (i:=4) SC.nd rfl (Or.inl rfl)) a03)))))
 (aq (j8 (i:=5) SC.nd rfl (Or.inr rfl) (a7g rfl (CSc.noFree (ts:=["room", "kind"]) rfl (by decide +kernel) (by decide +kernel) (by decide +kernel)) (ae8 rfl M.enumerate (bf 4)) (λ_ _ _ _=>abw rfl (a09 (jw (i:=0) (show (["room", "kind"]:List Str).Nodup by decide +kernel) rfl (Or.inl rfl) (.inr rfl)) (a09 (jw (i:=1) (show (["room", "kind"]:List Str).Nodup by decide +kernel) rfl (Or.inl rfl) (.inr rfl)) a7p))) afa (λ_ _ _ _=>(bf 0)) (λ_ _ _ _=>(gq (a5r hr.u) a2c (bf 1) (zy au) (jb _)))))
 (aq (j8 (i:=6) SC.nd rfl (Or.inl rfl) au)
 (aq (a7e 100000 bi (gq (a7q.or ut) a3k (bf 6) (u9 (L2.CallR.or dw dz) nj rfl M.len qy (aa (bf 5) bc)) (jb _)) (aq (j8 (i:=7) SC.nd rfl (Or.inl rfl) (bu (bf 3) (bu (bf 5) (bf 6) (λ_ _=>rfl)) (λ_ _=>rfl)))
 (aq (vm bi rfl (qm (bf 7)) (j7 (i:=8) SC.nd rfl (Or.inl rfl)) (bw (sy (PW.pt (a73 (wz (bu (bf 1) (bf 8) (λ_ _=>rfl))) (a3g (gq (a1p.or zu) a87 (bf 8) (bf 5) (by with_unfolding_all rfl)))))
 (bw (a3i (aaj bK bZ zx a3m (bf 5) (aa (bf 8) bc))))
 jn)))
 (bw (a9e (i:=6) SC.nd rfl (Or.inl rfl) (a3f.or uv) a0y au)))))
 (bw (jh (xn rfl (CSc.of (ts:=["room"]) (fr:=["found"]) (ix:=[5]) rfl rfl rfl rfl (by intro p hp;cases ai.mp hp;rfl) rfl rfl rfl rfl) (a0j rfl M.range (aa (u9 (L2.CallR.or dw dz) nj rfl M.len qy (aa (bf 3) bc)) bc)) (λ_ _ _ _=>(jw (i:=0) (show (["room", "found"]:List Str).Nodup by decide +kernel) rfl (Or.inl rfl) (.inr rfl))) uo (λ_ _ _ _=>(um (aiw.or ac4) aj6 (bf 0) (bf 1) (by with_unfolding_all rfl))))))))))
theorem axu:FnScope ["table", "hope", "behind"] ["table"] (dq (top 16)):=by walk_at "sc"
theorem b44(M:Nm mg)(D_12:Dn P w K mg base k_12 "height" ["table", "hope", "behind", "room"] (qw K 4 F_12) a_12 d_12)(h_12:k_12<=k)(D_6:Dn P w K mg base k_6 "hopes" ["table"] (qw K 1 F_6) a_6 d_6)(h_6:k_6<=k)(D_8:Dn P w K mg base k_8 "reach" ["table"] (qw K 1 F_8) a_8 d_8)(h_8:k_8<=k)(D_10:Dn P w K mg base k_10 "rooms_behind" ["table", "hope"] (qw K 2 F_10) a_10 d_10)(h_10:k_10<=k):MD P w K mg base f k ["table", "hope", "behind"] "heights" (top 16) (HGT.a5v F_12 F_6 F_8 F_10):=λcdv A outer s H E hr =>
 have SC:=axu
 (aq (sy (gq (a7r.or a1x) a86 (cj false D_8 (hr.mono h_8) rfl (aa (bf 0) bc)) a2v (jb _))
 (bw (jh a2v))
 jn)
 (aq (j8 (i:=1) SC.nd rfl (Or.inr rfl) (cj false D_6 (hr.mono h_6) rfl (aa (bf 0) bc)))
 (aq (j8 (i:=2) SC.nd rfl (Or.inr rfl) (cj false D_10 (hr.mono h_10) rfl (aa (bf 0) (aa (bf 1) bc))))
 (bw (jh (a3h (L2.CallR.or sr (uw rfl)) a0l rfl M.tuple a0v (aa (a7h (xn rfl (CSc.of (ts:=["room"]) (fr:=["table", "hope", "behind"]) (ix:=[0,1,2]) rfl rfl rfl rfl (by intro p hp;simp only [aD,aN,bT] at hp;rcases hp with rfl | rfl | rfl<;>rfl) rfl rfl rfl rfl) (a0j rfl M.range (aa (u9 (L2.CallR.or dw dz) nj rfl M.len qy (aa (bf 2) bc)) bc)) (λ_ _ _ _=>(jw (i:=0) (show (["room", "table", "hope", "behind"]:List Str).Nodup by decide +kernel) rfl (Or.inl rfl) (.inr rfl))) uo (λ_ _ _ _=>(cj false D_12 (hr.mono h_12) rfl (aa (bf 1) (aa (bf 2) (aa (bf 3) (aa (bf 0) bc)))))))) bc)))))))
theorem axv:FnScope ["table", "hope", "behind", "room"] ["table", "hope", "behind", "room"] (dq (top 17)):=by walk_at "sc"
theorem b45(D_9:Dn P w K mg base k_9 "reach_from" ["table", "hope", "starts"] (qw K 3 F_9) a_9 d_9)(h_9:k_9<=k):MD P w K mg base f k ["table", "hope", "behind", "room"] "height" (top 17) (HGT.a7k F_9):=λcdv A outer s H E hr =>
 have SC:=axv
 (aq (sy (wz (bu (bf 2) (bf 3) (λ_ _=>rfl)))
 (bw (jh (cj false D_9 (hr.mono h_9) rfl (aa (bf 0) (aa (bf 1) (aa (a7h (a2w (aa (bf 3) bc))) bc))))))
 jn)
 (bw (jh (a9d (wz (bu (bf 1) (bf 3) (λ_ _=>rfl))) (zy au) (zy au)))))
theorem axw:FnScope ["table", "number", "highs", "starts"] ["table"] (dq (top 19)):=by walk_at "sc"
theorem b46(M:Nm mg)(D_11:Dn P w K mg base k_11 "heights" ["table"] (qw K 1 F_11) a_11 d_11)(h_11:k_11<=k)(D_8:Dn P w K mg base k_8 "reach" ["table"] (qw K 1 F_8) a_8 d_8)(h_8:k_8<=k)(D_14:Dn P w K mg base k_14 "way_down" ["table", "highs", "start"] (qw K 3 F_14) a_14 d_14)(h_14:k_14<=k)(D_7:Dn P w K mg base k_7 "ways_to" ["table"] (qw K 1 F_7) a_7 d_7)(h_7:k_7<=k):MD P w K mg base f k ["table", "number", "highs", "starts"] "needing" (top 19) (STP.a5y F_11 F_8 F_14 F_7):=λcdv A outer s H E hr =>
 have SC:=axw
 (aq (j8 (i:=1) SC.nd rfl (Or.inr rfl) (cj false D_8 (hr.mono h_8) rfl (aa (bf 0) bc)))
 (aq (sy (PW.pt (aag (gq (a7r.or a1x) a86 (bf 1) a2v (jb _)) (a83 (gq (uq hr.u) qe (bf 1) au (jb _)))))
 (bw (jh a2v))
 jn)
 (aq (j8 (i:=2) SC.nd rfl (Or.inr rfl) (cj false D_11 (hr.mono h_11) rfl (aa (bf 0) bc)))
 (aq (a5t (i:=3) SC.nd rfl (Or.inl rfl) rfl (CSc.of (ts:=["room", "kind"]) (fr:=["number", "highs"]) (ix:=[1,2]) rfl rfl rfl rfl (by intro p hp;simp only [aD,aN,bT] at hp;rcases hp with rfl | rfl<;>rfl) rfl rfl rfl rfl) (ae8 rfl M.enumerate (bu (bf 0) au (λ_ _=>rfl))) (λ_ _ _ _=>abw rfl (a09 (jw (i:=0) (show (["room", "kind", "number", "highs"]:List Str).Nodup by decide +kernel) rfl (Or.inl rfl) (.inr rfl)) (a09 (jw (i:=1) (show (["room", "kind", "number", "highs"]:List Str).Nodup by decide +kernel) rfl (Or.inl rfl) (.inr rfl)) a7p))) afa (λ_ _ _ _=>(bf 0)) (λ_ _ _ _=>(PW.pt (a73 (gq (a5r hr.u) a2c (bf 1) (zy au) (jb _)) (a3g (gq (uq hr.u) qe (bu (bf 3) (bf 0) (λ_ _=>rfl)) (bf 2) (jb _)))))))
 (bw (jh (a0h (aa (bu (cj false D_7 (hr.mono h_7) rfl (aa (bf 0) bc)) (bu (bf 3) au (λ_ _=>rfl)) (λ_ _=>rfl)) (aa (cj false D_14 (hr.mono h_14) rfl (aa (bf 0) (aa (bf 2) (aa (bu (bf 3) au (λ_ _=>rfl)) bc)))) bc)))))))))
theorem axx:FnScope ["table", "highs", "start", "tongue", "goes", "kinds", "word", "room", "left", "fitting", "sign"] ["table", "highs", "start"] (dq (top 20)):=by walk_at "sc"
theorem b47(M:Nm mg)(D_15:Dn P w K mg base k_15 "is_next_down" ["kind", "high", "left"] (qw K 3 F_15) a_15 d_15)(h_15:k_15<=k):MD P w K mg base f k ["table", "highs", "start", "tongue", "goes", "kinds", "word", "room", "left", "fitting", "sign"] "way_down" (top 20) (STP.a4o F_15):=λcdv A outer s H E hr =>
 have SC:=axx
 (aq (a3j (bf 0) (a2x rfl (jo (j7 (i:=3) SC.nd rfl (Or.inl rfl)) (jo (j7 (i:=4) SC.nd rfl (Or.inl rfl)) (jo (j7 (i:=5) SC.nd rfl (Or.inr rfl)) a03)))))
 (aq (j8 (i:=6) SC.nd rfl (Or.inl rfl) a2u)
 (aq (j8 (i:=7) SC.nd rfl (Or.inl rfl) (bf 2))
 (aq (vm bi rfl (axq rfl M.reversed rfl M.range (aa (bu (bf 1) (bf 2) (λ_ _=>rfl)) bc)) (j7 (i:=8) SC.nd rfl (Or.inr rfl)) (aq (a5t (i:=9) SC.nd rfl (Or.inl rfl) rfl (CSc.of (ts:=["sign", "to"]) (fr:=["highs", "kinds", "left"]) (ix:=[1,5,8]) rfl rfl rfl rfl (by intro p hp;simp only [aD,aN,bT] at hp;rcases hp with rfl | rfl | rfl<;>rfl) rfl rfl rfl rfl) (ajg rfl M.zip ajh (bf 3) (bu (bf 4) (bf 7) (λ_ _=>rfl))) (λ_ _ _ _=>abw rfl (a09 (jw (i:=0) (show (["sign", "to", "highs", "kinds", "left"]:List Str).Nodup by decide +kernel) rfl (Or.inl rfl) (.inr rfl)) (a09 (jw (i:=1) (show (["sign", "to", "highs", "kinds", "left"]:List Str).Nodup by decide +kernel) rfl (Or.inl rfl) (.inr rfl)) a7p))) afa (λ_ _ _ _=>(a0h (aa (bf 0) (aa (bf 1) bc)))) (λ_ _ _ _=>(wz (cj false D_15 (hr.mono h_15) rfl (aa (bu (bf 3) (bf 1) (λ_ _=>rfl)) (aa (bu (bf 2) (bf 1) (λ_ _=>rfl)) (aa (bf 4) bc)))))))
 (aq (a3j (bu (bf 9) au (λ_ _=>rfl)) (a2x rfl (jo (j7 (i:=10) SC.nd rfl (Or.inl rfl)) (jo (j7 (i:=7) SC.nd rfl (Or.inl rfl)) a03))))
 (bw (a9e (i:=6) SC.nd rfl (Or.inl rfl) (a3f.or uv) a0y (bf 10))))))
 (bw (jh (bf 6)))))))
theorem axy:FnScope ["kind", "high", "left"] ["kind", "high", "left"] (dq (top 21)):=by walk_at "sc"
theorem b48:MD P w K mg base f k ["kind", "high", "left"] "is_next_down" (top 21) (STP.zj):=λcdv A outer s H E hr =>
 have SC:=axy
 (aq (sy (gq (uq hr.u) qe (bf 2) au (jb _))
 (bw (jh (um (a5r hr.u) a2c (bf 0) (zy au) (jb _))))
 jn)
 (bw (jh (a9c (um (uq hr.u) qe (bf 0) (zy au) (jb _)) (a9b (um (uq hr.u) qe (bf 1) (bf 2) (jb _)))))))
theorem axz:FnScope ["table", "u", "z", "kinds", "start", "between", "last"] ["table", "u", "z"] (dq (top 22)):=by walk_at "sc"
theorem b49(M:Nm mg)(D_1:Dn P w K mg base k_1 "room_from" ["table", "room", "word"] (qw K 3 F_1) a_1 d_1)(h_1:k_1<=k)(D_2:Dn P w K mg base k_2 "rooms_along" ["table", "room", "word"] (qw K 3 F_2) a_2 d_2)(h_2:k_2<=k):MD P w K mg base f k ["table", "u", "z", "kinds", "start", "between", "last"] "is_step" (top 22) (STP.a5z F_1 F_2):=λcdv A outer s H E hr =>
 have SC:=axz
 (aq (j8 (i:=3) SC.nd rfl (Or.inr rfl) (bu (bf 0) au (λ_ _=>rfl)))
 (aq (j8 (i:=4) SC.nd rfl (Or.inl rfl) (cj false D_1 (hr.mono h_1) rfl (aa (bf 0) (aa au (aa (bf 1) bc)))))
 (aq (sy (PW.pt (aag (gq (uq hr.u) qe (bf 2) a2u (jb _)) (a83 (gq (uq hr.u) qe (bu (bf 3) (bf 4) (λ_ _=>rfl)) (zy au) (jb _)))))
 (bw (jh a3a))
 jn)
 (aq (a3j (a7h (ud (cj false D_2 (hr.mono h_2) rfl (aa (bf 0) (aa (bf 4) (aa (bf 2) bc)))) (a05 au) a04)) (atq (i:=5) (j:=6) rfl SC.nd rfl (Or.inl rfl) rfl (Or.inl rfl)))
 (bw (jh (a9c (um (a5r hr.u) a2c (bu (bf 3) (bf 6) (λ_ _=>rfl)) (zy au) (jb _)) (a9b (u9 (a7y rfl) aja rfl M.all apj (aa (a7h (xn rfl (CSc.of (ts:=["room"]) (fr:=["kinds"]) (ix:=[3]) rfl rfl rfl rfl (by intro p hp;cases ai.mp hp;rfl) rfl rfl rfl rfl) (qm (bf 5)) (λ_ _ _ _=>(jw (i:=0) (show (["room", "kinds"]:List Str).Nodup by decide +kernel) rfl (Or.inl rfl) (.inr rfl))) uo (λ_ _ _ _=>(um (uq hr.u) qe (bu (bf 1) (bf 0) (λ_ _=>rfl)) (zy au) (jb _))))) bc))))))))))
theorem ay0:FnScope ["table", "number", "u", "z"] ["table", "number", "u", "z"] (dq (top 23)):=by walk_at "sc"
theorem b4a(M:Nm mg)(D_16:Dn P w K mg base k_16 "is_step" ["table", "u", "z"] (qw K 3 F_16) a_16 d_16)(h_16:k_16<=k)(D_0:Dn P w K mg base k_0 "is_text" ["tongue", "thing"] (qw K 2 F_0) a_0 d_0)(h_0:k_0<=k):MD P w K mg base f k ["table", "number", "u", "z"] "needing_holds" (top 23) (yc F_16 F_0):=λcdv A outer s H E hr =>
 have SC:=ay0
 (aq (sy (PW.pt (aag (a4u (wz (cj false D_0 (hr.mono h_0) rfl (aa (bu (bf 0) au (λ_ _=>rfl)) (aa (bf 2) bc))))) (a83 (a4u (wz (cj false D_0 (hr.mono h_0) rfl (aa (bu (bf 0) au (λ_ _=>rfl)) (aa (bf 3) bc))))))))
 (bw (jh a3a))
 jn)
 (bw (jh (a9c (um (uq hr.u) qe (u9 (L2.CallR.or dw dz) nj rfl M.len qy (aa (bf 3) bc)) (bf 1) (jb _)) (a9b (cj false D_16 (hr.mono h_16) rfl (aa (bf 0) (aa (bf 2) (aa (bf 3) bc)))))))))
theorem ay1:FnScope ["_law_found", "_law_wanted"] ["_law_found", "_law_wanted"] (dq (top 25)):=by walk_at "sc"
theorem b4b:MD P w K mg base f k ["_law_found", "_law_wanted"] "_law_said" (top 25) (STP.a4p):=λcdv A outer s H E hr =>
 have SC:=ay1
 (aq (sy (wz (bf 1))
 (bw (jh (um (a7r.or a1x) a86 (bf 0) a3a (jb _))))
 jn)
 (bw (jh (um (a7r.or a1x) a86 (bf 0) a3a (jb _)))))
theorem ay2:FnScope ["_law_script", "_law_cells"] ["_law_script"] (dq (top 26)):=by walk_at "sc"
theorem b4c(M:Nm mg):MD P w K mg base f k ["_law_script", "_law_cells"] "_law_source" (top 26) (SRC.a1a):=λcdv A outer s H E hr =>
 have SC:=ay2
 (aq (a7i (i:=1) SC.nd rfl (Or.inl rfl) rfl (CSc.noFree (ts:=["_law_cell"]) rfl (by decide +kernel) (by decide +kernel) (by decide +kernel)) (qm (a7h (ud (bf 0) a04 (a05 au)))) (λ_ _ _ _=>(jw (i:=0) (show (["_law_cell"]:List Str).Nodup by decide +kernel) rfl (Or.inl rfl) (.inr rfl))) uo (λ_ _ _ _=>(km (a6t au (u9 amf as5 rfl M.abs awj (aa (bf 0) bc))) (a3h aic as7 rfl M.int awk (aa (um (a7q.or ut) a3k (bf 0) au (jb _)) bc)))))
 (bw (jh (a2w (aa (bf 1) (aa au (aa au (aa au (aa (a9f (u9 (ags rfl) asb rfl M.sum ax3 (aa (bf 1) bc)) au) bc)))))))))
theorem ay3:FnScope ["_law_left", "_law_many", "_law_cell", "_law_told"] ["_law_left", "_law_many"] (dq (top 27)):=by walk_at "sc"
theorem b4d(M:Nm mg):MD P w K mg base f k ["_law_left", "_law_many", "_law_cell", "_law_told"] "_law_draw" (top 27) (SRC.a4j):=λcdv A outer s H E hr =>
 have SC:=ay3
 (aq (ae7 (bf 0) au au (a3f.or uv) a0y)
 (aq (sy (PW.pt (a73 (gq (uq hr.u) qe (bu (bf 0) au (λ_ _=>rfl)) au (jb _)) (a3g (gq (a7q.or ut) a3k (bu (bf 0) au (λ_ _=>rfl)) (u9 (L2.CallR.or dw dz) nj rfl M.len qy (aa (bu (bf 0) au (λ_ _=>rfl)) bc)) (jb _)))))
 (aq (j8 (i:=2) SC.nd rfl (Or.inl rfl) (bu (bu (bf 0) au (λ_ _=>rfl)) (bu (bf 0) au (λ_ _=>rfl)) (λ_ _=>rfl)))
 (aq (ae7 (bf 0) au au (a3f.or uv) a0y)
 (bw (sy (gq agh a9g (bf 2) (afc au au) (jb _))
 (bw (aj0 (bf 2) (bf 0) au))
 (bw (aj0 (a9f (km (a6t (bu (bf 0) au (λ_ _=>rfl)) au) (bf 2)) au) (bf 0) au))))))
 jn)
 (aq (sy (gq avz apq (bu (bf 0) au (λ_ _=>rfl)) au (jb _))
 (aq (j8 (i:=3) SC.nd rfl (Or.inl rfl) (a9f (bu (bf 0) au (λ_ _=>rfl)) (bf 1)))
 (aq (ae7 (bf 0) au (bf 1) amd aj4)
 (bw (jh (bf 3)))))
 jn)
 (aq (j8 (i:=3) SC.nd rfl (Or.inl rfl) (a9f (afc (km (km (bu (bf 0) au (λ_ _=>rfl)) au) (a6t (bu (bf 0) au (λ_ _=>rfl)) au)) au) au))
 (bw (jh (a9f (awr (a9f (afc (km (a6t (bf 3) au) (bu (bf 0) au (λ_ _=>rfl))) au) au) au) (bf 1))))))))
theorem ay4:FnScope ["_law_some"] [] (dq (top 28)):=by walk_at "sc"
theorem b4e:MD P w K mg base f k ["_law_some"] "_law_signs" (top 28) (SRC.a0o):=λcdv A outer s H E hr =>
 have SC:=ay4
 (aq (j8 (i:=0) SC.nd rfl (Or.inl rfl) a2u)
 (bw (jh (km (bf 0) a2u))))
theorem ay5:FnScope ["_law_left", "_law_rest", "_law_told", "_law_k", "_law_at"] ["_law_left"] (dq (top 29)):=by walk_at "sc"
theorem b4f(M:Nm mg)(D_20:Dn P w K mg base k_20 "_law_draw" ["_law_left", "_law_many"] (qw K 2 F_20) a_20 d_20)(h_20:k_20<=k)(D_21:Dn P w K mg base k_21 "_law_signs" [] (qw K 0 F_21) a_21 d_21)(h_21:k_21<=k):MD P w K mg base f k ["_law_left", "_law_rest", "_law_told", "_law_k", "_law_at"] "_law_tongue" (top 29) (SRC.a1b F_20 F_21):=λcdv A outer s H E hr =>
 have SC:=ay5
 (aq (j8 (i:=1) SC.nd rfl (Or.inl rfl) (acq false D_21 (hr.mono h_21) rfl))
 (aq (j8 (i:=2) SC.nd rfl (Or.inl rfl) a2u)
 (aq (vm bi rfl (a0j rfl M.range (aa (km au (cj false D_20 (hr.mono h_20) rfl (aa (bf 0) (aa au bc)))) bc)) (j7 (i:=3) SC.nd rfl (Or.inl rfl)) (aq (j8 (i:=4) SC.nd rfl (Or.inl rfl) (cj false D_20 (hr.mono h_20) rfl (aa (bf 0) (aa (u9 (L2.CallR.or dw dz) nj rfl M.len qy (aa (bf 1) bc)) bc))))
 (aq (a9e (i:=2) SC.nd rfl (Or.inl rfl) (a3f.or uv) a0y (bu (bf 1) (bf 4) (λ_ _=>rfl)))
 (bw (j8 (i:=1) SC.nd rfl (Or.inl rfl) (km (ud (bf 1) a04 (a05 (bf 4))) (ud (bf 1) (a05 (km (bf 4) au)) a04)))))))
 (bw (jh (bf 2))))))
theorem ay6:FnScope ["_law_left", "_law_tongue_here", "_law_many", "_law_kinds", "_law_room_here", "_law_manner", "_law_goes", "_law_row"] ["_law_left", "_law_tongue_here", "_law_many"] (dq (top 30)):=by walk_at "sc"
theorem b4g(M:Nm mg)(D_20:Dn P w K mg base k_20 "_law_draw" ["_law_left", "_law_many"] (qw K 2 F_20) a_20 d_20)(h_20:k_20<=k):MD P w K mg base f k ["_law_left", "_law_tongue_here", "_law_many", "_law_kinds", "_law_room_here", "_law_manner", "_law_goes", "_law_row"] "_law_rooms" (top 30) (SRC.a2e F_20):=λcdv A outer s H E hr =>
 have SC:=ay6
 (aq (j8 (i:=3) SC.nd rfl (Or.inr rfl) (a2w (aa (zy au) bc)))
 (aq (vm bi rfl (aah rfl M.range (aa au (aa (bf 2) bc))) (j7 (i:=4) SC.nd rfl (Or.inr rfl)) (bw (a3i (aaj bK bZ zx a3m (bf 3) (aa (a9d (gq (a7q.or ut) a3k (cj false D_20 (hr.mono h_20) rfl (aa (bf 0) (aa au bc))) au (jb _)) (cj false D_20 (hr.mono h_20) rfl (aa (bf 0) (aa au bc))) (zy au)) bc)))))
 (aq (j8 (i:=5) SC.nd rfl (Or.inl rfl) (cj false D_20 (hr.mono h_20) rfl (aa (bf 0) (aa au bc))))
 (aq (j8 (i:=6) SC.nd rfl (Or.inl rfl) (a2w bc))
 (aq (vm bi rfl (a0j rfl M.range (aa (bf 2) bc)) (j7 (i:=4) SC.nd rfl (Or.inr rfl)) (aq (a7i (i:=7) SC.nd rfl (Or.inl rfl) rfl (CSc.of (ts:=["_law_sign"]) (fr:=["_law_left", "_law_many"]) (ix:=[0,2]) rfl rfl rfl rfl (by intro p hp;simp only [aD,aN,bT] at hp;rcases hp with rfl | rfl<;>rfl) rfl rfl rfl rfl) (qm (bf 1)) (λ_ _ _ _=>(jw (i:=0) (show (["_law_sign", "_law_left", "_law_many"]:List Str).Nodup by decide +kernel) rfl (Or.inl rfl) (.inr rfl))) uo (λ_ _ _ _=>(cj false D_20 (hr.mono h_20) rfl (aa (bf 1) (aa (bf 2) bc)))))
 (aq (sy (gq avz apq (bf 5) au (jb _))
 (bw (a7i (i:=7) SC.nd rfl (Or.inl rfl) rfl (CSc.of (ts:=["_law_to"]) (fr:=["_law_many", "_law_kinds", "_law_room_here"]) (ix:=[2,3,4]) rfl rfl rfl rfl (by intro p hp;simp only [aD,aN,bT] at hp;rcases hp with rfl | rfl | rfl<;>rfl) rfl rfl rfl rfl) (qm (bf 7)) (λ_ _ _ _=>(jw (i:=0) (show (["_law_to", "_law_many", "_law_kinds", "_law_room_here"]:List Str).Nodup by decide +kernel) rfl (Or.inl rfl) (.inr rfl))) uo (λ_ _ _ _=>(a9d (PW.pt (a73 (gq (a7q.or ut) a3k (bu (bf 2) (bf 0) (λ_ _=>rfl)) au (jb _)) (a3g (gq (avy.or aca) apo (bf 0) (bf 3) (jb _))))) (aci (bf 1) au) (bf 0)))))
 jn)
 (aq (sy (PW.pt (a73 (gq (uq hr.u) qe (bf 5) au (jb _)) (a3g (gq (uq hr.u) qe (bf 4) (aci (bf 2) au) (jb _)))))
 (bw (a7i (i:=7) SC.nd rfl (Or.inl rfl) rfl (CSc.of (ts:=["_law_to"]) (fr:=["_law_room_here"]) (ix:=[4]) rfl rfl rfl rfl (by intro p hp;cases ai.mp hp;rfl) rfl rfl rfl rfl) (qm (bf 7)) (λ_ _ _ _=>(jw (i:=0) (show (["_law_to", "_law_room_here"]:List Str).Nodup by decide +kernel) rfl (Or.inl rfl) (.inr rfl))) uo (λ_ _ _ _=>(bf 1))))
 jn)
 (bw (a3i (aaj bK bZ zx a3m (bf 6) (aa (bf 7) bc))))))))
 (bw (jh (a0h (aa (bf 6) (aa (bf 3) bc))))))))))
theorem ay7:FnScope ["_law_left", "_law_most", "_law_tongue_here", "_law_many", "_law_goes", "_law_kinds", "_law_met", "_law_at", "_law_to", "_law_rows"] ["_law_left", "_law_most"] (dq (top 31)):=by walk_at "sc"
theorem b4h(M:Nm mg)(D_20:Dn P w K mg base k_20 "_law_draw" ["_law_left", "_law_many"] (qw K 2 F_20) a_20 d_20)(h_20:k_20<=k)(D_23:Dn P w K mg base k_23 "_law_rooms" ["_law_left", "_law_tongue_here", "_law_many"] (qw K 3 F_23) a_23 d_23)(h_23:k_23<=k)(D_22:Dn P w K mg base k_22 "_law_tongue" ["_law_left"] (qw K 1 F_22) a_22 d_22)(h_22:k_22<=k):MD P w K mg base f k ["_law_left", "_law_most", "_law_tongue_here", "_law_many", "_law_goes", "_law_kinds", "_law_met", "_law_at", "_law_to", "_law_rows"] "_law_table" (top 31) (SRC.a2f F_20 F_23 F_22):=λcdv A outer s H E hr =>
 have SC:=ay7
 (aq (j8 (i:=2) SC.nd rfl (Or.inl rfl) (cj false D_22 (hr.mono h_22) rfl (aa (bf 0) bc)))
 (aq (j8 (i:=3) SC.nd rfl (Or.inl rfl) (km au (cj false D_20 (hr.mono h_20) rfl (aa (bf 0) (aa au bc)))))
 (aq (sy (gq (uq hr.u) qe (cj false D_20 (hr.mono h_20) rfl (aa (bf 0) (aa au bc))) au (jb _))
 (bw (j8 (i:=3) SC.nd rfl (Or.inl rfl) (km au (cj false D_20 (hr.mono h_20) rfl (aa (bf 0) (aa (bf 1) bc))))))
 jn)
 (aq (a3j (cj false D_23 (hr.mono h_23) rfl (aa (bf 0) (aa (bf 2) (aa (u9 (aib rfl) an0 rfl M.min ax2 (aa (bf 3) (aa (bf 1) bc))) bc)))) (a2x rfl (jo (j7 (i:=4) SC.nd rfl (Or.inr rfl)) (jo (j7 (i:=5) SC.nd rfl (Or.inr rfl)) a03))))
 (aq (j8 (i:=6) SC.nd rfl (Or.inr rfl) (a2w (aa au bc)))
 (aq (j8 (i:=7) SC.nd rfl (Or.inl rfl) au)
 (aq (a7e 100000 bi (gq (a7q.or ut) a3k (bf 7) (u9 (L2.CallR.or dw dz) nj rfl M.len qy (aa (bf 6) bc)) (jb _)) (aq (vm bi rfl (qm (bu (bf 4) (bu (bf 6) (bf 7) (λ_ _=>rfl)) (λ_ _=>rfl))) (j7 (i:=8) SC.nd rfl (Or.inl rfl)) (bw (sy (gq (a1p.or zu) a87 (bf 8) (bf 6) (by with_unfolding_all rfl))
 (bw (a3i (aaj bK bZ zx a3m (bf 6) (aa (bf 8) bc))))
 jn)))
 (bw (a9e (i:=7) SC.nd rfl (Or.inl rfl) (a3f.or uv) a0y au))))
 (aq (j8 (i:=6) SC.nd rfl (Or.inr rfl) (u9 aar ah0 rfl M.sorted ak2 (aa (bf 6) bc)))
 (aq (j8 (i:=9) SC.nd rfl (Or.inl rfl) (a3h (L2.CallR.or sr (uw rfl)) a0l rfl M.tuple a0v (aa (a7h (xn rfl (CSc.of (ts:=["_law_room_here"]) (fr:=["_law_goes", "_law_met"]) (ix:=[4,6]) rfl rfl rfl rfl (by intro p hp;simp only [aD,aN,bT] at hp;rcases hp with rfl | rfl<;>rfl) rfl rfl rfl rfl) (qm (bf 6)) (λ_ _ _ _=>(jw (i:=0) (show (["_law_room_here", "_law_goes", "_law_met"]:List Str).Nodup by decide +kernel) rfl (Or.inl rfl) (.inr rfl))) uo (λ_ _ _ _=>(a3h (L2.CallR.or sr (uw rfl)) a0l rfl M.tuple a0v (aa (a7h (xn rfl (CSc.of (ts:=["_law_to"]) (fr:=["_law_met"]) (ix:=[2]) rfl rfl rfl rfl (by intro p hp;cases ai.mp hp;rfl) rfl rfl rfl rfl) (qm (bu (bf 1) (bf 0) (λ_ _=>rfl))) (λ_ _ _ _=>(jw (i:=0) (show (["_law_to", "_law_met"]:List Str).Nodup by decide +kernel) rfl (Or.inl rfl) (.inr rfl))) uo (λ_ _ _ _=>(aaj PySem.F.slot_list_index PySem.F.type_list_index ajq ah1 (bf 1) (aa (bf 0) bc))))) bc))))) bc)))
 (bw (jh (a0h (aa (bf 2) (aa (bf 9) (aa (a3h (L2.CallR.or sr (uw rfl)) a0l rfl M.tuple a0v (aa (a7h (xn rfl (CSc.of (ts:=["_law_room_here"]) (fr:=["_law_kinds"]) (ix:=[5]) rfl rfl rfl rfl (by intro p hp;cases ai.mp hp;rfl) rfl rfl rfl rfl) (qm (bf 6)) (λ_ _ _ _=>(jw (i:=0) (show (["_law_room_here", "_law_kinds"]:List Str).Nodup by decide +kernel) rfl (Or.inl rfl) (.inr rfl))) uo (λ_ _ _ _=>(bu (bf 1) (bf 0) (λ_ _=>rfl))))) bc)) bc)))))))))))))))
theorem ay8:FnScope ["_law_table_here", "_law_hope_here", "_law_k", "_law_room_here", "_law_to"] ["_law_table_here"] (dq (top 32)):=by walk_at "sc"
theorem b4i(M:Nm mg):MD P w K mg base f k ["_law_table_here", "_law_hope_here", "_law_k", "_law_room_here", "_law_to"] "_law_hope" (top 32) (RCH.a4l):=λcdv A outer s H E hr =>
 have SC:=ay8
 (aq (asm (i:=1) SC.nd rfl (Or.inl rfl) rfl (CSc.noFree (ts:=["_law_row"]) rfl (by decide +kernel) (by decide +kernel) (by decide +kernel)) (qm (bu (bf 0) au (λ_ _=>rfl))) (λ_ _ _ _=>(jw (i:=0) (show (["_law_row"]:List Str).Nodup by decide +kernel) rfl (Or.inl rfl) (.inr rfl))) uo (λ_ _ _ _=>a3a))
 (aq (vm bi rfl (a0j rfl M.range (aa (u9 (L2.CallR.or dw dz) nj rfl M.len qy (aa (bf 1) bc)) bc)) (j7 (i:=2) SC.nd rfl (Or.inl rfl)) (bw (vm bi rfl (a0j rfl M.range (aa (u9 (L2.CallR.or dw dz) nj rfl M.len qy (aa (bf 1) bc)) bc)) (j7 (i:=3) SC.nd rfl (Or.inl rfl)) (bw (vm bi rfl (qm (bu (bu (bf 0) au (λ_ _=>rfl)) (bf 3) (λ_ _=>rfl))) (j7 (i:=4) SC.nd rfl (Or.inl rfl)) (bw (sy (PW.pt (aag (gq agh a9g (bu (bu (bf 0) au (λ_ _=>rfl)) (bf 4) (λ_ _=>rfl)) au (jb _)) (a83 (wz (bu (bf 1) (bf 4) (λ_ _=>rfl))))))
 (bw (aj0 a3a (bf 1) (bf 3)))
 jn)))))))
 (bw (jh (bf 1)))))
theorem ay9:FnScope ["_law_table_here", "_law_rooms_here", "_law_told", "_law_room_here", "_law_to"] ["_law_table_here", "_law_rooms_here"] (dq (top 33)):=by walk_at "sc"
theorem b4j:MD P w K mg base f k ["_law_table_here", "_law_rooms_here", "_law_told", "_law_room_here", "_law_to"] "_law_next" (top 33) (RCH.a4m):=λcdv A outer s H E hr =>
 have SC:=ay9
 (aq (j8 (i:=2) SC.nd rfl (Or.inl rfl) (a2w bc))
 (aq (vm bi rfl (qm (bf 1)) (j7 (i:=3) SC.nd rfl (Or.inl rfl)) (bw (vm bi rfl (qm (bu (bu (bf 0) au (λ_ _=>rfl)) (bf 3) (λ_ _=>rfl))) (j7 (i:=4) SC.nd rfl (Or.inl rfl)) (bw (sy (gq (a1p.or zu) a87 (bf 4) (bf 2) (by with_unfolding_all rfl))
 (bw (a3i (aaj bK bZ zx a3m (bf 2) (aa (bf 4) bc))))
 jn)))))
 (bw (jh (bf 2)))))
theorem aya:FnScope ["_law_table_here", "_law_rooms_here", "_law_hope_here", "_law_due", "_law_many"] ["_law_table_here", "_law_rooms_here"] (dq (top 34)):=by walk_at "sc"
theorem b4k(M:Nm mg)(D_25:Dn P w K mg base k_25 "_law_hope" ["_law_table_here"] (qw K 1 F_25) a_25 d_25)(h_25:k_25<=k)(D_26:Dn P w K mg base k_26 "_law_next" ["_law_table_here", "_law_rooms_here"] (qw K 2 F_26) a_26 d_26)(h_26:k_26<=k):MD P w K mg base f k ["_law_table_here", "_law_rooms_here", "_law_hope_here", "_law_due", "_law_many"] "_law_reach" (top 34) (RCH.a2k F_25 F_26):=λcdv A outer s H E hr =>
 have SC:=aya
 (aq (j8 (i:=2) SC.nd rfl (Or.inr rfl) (cj false D_25 (hr.mono h_25) rfl (aa (bf 0) bc)))
 (aq (j8 (i:=3) SC.nd rfl (Or.inl rfl) au)
 (aq (vm bi rfl (aah rfl M.range (aa au (aa (km (a6t au (u9 (L2.CallR.or dw dz) nj rfl M.len qy (aa (bf 2) bc))) au) bc))) (j7 (i:=4) SC.nd rfl (Or.inl rfl)) (aq (j8 (i:=1) SC.nd rfl (Or.inl rfl) (cj false D_26 (hr.mono h_26) rfl (aa (bf 0) (aa (bf 1) bc))))
 (aq (sy (gq (axi hr.u) (at6 true) (a7h (a7g rfl (CSc.of (ts:=["_law_room_here"]) (fr:=["_law_table_here"]) (ix:=[0]) rfl rfl rfl rfl (by intro p hp;cases ai.mp hp;rfl) rfl rfl rfl rfl) (qm (bf 1)) (λ_ _ _ _=>(jw (i:=0) (show (["_law_room_here", "_law_table_here"]:List Str).Nodup by decide +kernel) rfl (Or.inl rfl) (.inr rfl))) uo (λ_ _ _ _=>(bf 0)) (λ_ _ _ _=>(gq agh a9g (bu (bu (bf 1) au (λ_ _=>rfl)) (bf 0) (λ_ _=>rfl)) au (jb _))))) (a7h (a2w bc)) (jb _))
 (bw (j8 (i:=3) SC.nd rfl (Or.inl rfl) (bf 4)))
 jn)
 (bw (a5t (i:=1) SC.nd rfl (Or.inl rfl) rfl (CSc.of (ts:=["_law_room_here"]) (fr:=["_law_table_here", "_law_hope_here"]) (ix:=[0,2]) rfl rfl rfl rfl (by intro p hp;simp only [aD,aN,bT] at hp;rcases hp with rfl | rfl<;>rfl) rfl rfl rfl rfl) (qm (bf 1)) (λ_ _ _ _=>(jw (i:=0) (show (["_law_room_here", "_law_table_here", "_law_hope_here"]:List Str).Nodup by decide +kernel) rfl (Or.inl rfl) (.inr rfl))) uo (λ_ _ _ _=>(bf 0)) (λ_ _ _ _=>(PW.pt (a73 (gq (a7q.or ut) a3k (bu (bu (bf 1) au (λ_ _=>rfl)) (bf 0) (λ_ _=>rfl)) au (jb _)) (a3g (wz (bu (bf 2) (bf 0) (λ_ _=>rfl))))))))))))
 (bw (jh (a9d (gq (avy.or aca) apo (bf 3) (u9 (L2.CallR.or dw dz) nj rfl M.len qy (aa (bf 2) bc)) (jb _)) (bf 3) a2v))))))
theorem ayb:FnScope ["_law_table_here", "_law_word", "_law_room_here", "_law_sign"] ["_law_table_here", "_law_word"] (dq (top 35)):=by walk_at "sc"
theorem b4l:MD P w K mg base f k ["_law_table_here", "_law_word", "_law_room_here", "_law_sign"] "_law_room" (top 35) (STP.a4q):=λcdv A outer s H E hr =>
 have SC:=ayb
 (aq (j8 (i:=2) SC.nd rfl (Or.inl rfl) au)
 (aq (vm bi rfl (qm (bf 1)) (j7 (i:=3) SC.nd rfl (Or.inl rfl)) (bw (j8 (i:=2) SC.nd rfl (Or.inl rfl) (bu (bu (bu (bf 0) au (λ_ _=>rfl)) (bf 2) (λ_ _=>rfl)) (aj8 PySem.F.slot_str_find PySem.F.type_str_find aix afh (bu (bf 0) au (λ_ _=>rfl)) (aa (bf 3) bc)) (λ_ _=>rfl)))))
 (bw (jh (bf 2)))))
theorem ayc:FnScope ["_law_table_here", "_law_word", "_law_sign"] ["_law_table_here", "_law_word"] (dq (top 36)):=by walk_at "sc"
theorem b4m(M:Nm mg):MD P w K mg base f k ["_law_table_here", "_law_word", "_law_sign"] "_law_is_word" (top 36) (STP.a0f):=λcdv A outer s H E hr =>
 have SC:=ayc
 (aq (sy (a4u (wz (u9 (L2.CallR.or a5a a3o) aaz rfl M.isinstance a1y (aa (bf 1) (aa (ars rfl M.str api) bc)))))
 (bw (jh a3a))
 jn)
 (aq (vm bi rfl (qm (bf 1)) (j7 (i:=2) SC.nd rfl (Or.inl rfl)) (bw (sy (gq (a1p.or zu) a87 (bf 2) (bu (bf 0) au (λ_ _=>rfl)) (by with_unfolding_all rfl))
 (bw (jh a3a))
 jn)))
 (bw (jh a3a))))
theorem ayd:FnScope ["_law_table_here", "_law_u", "_law_z", "_law_room_here", "_law_at"] ["_law_table_here", "_law_u", "_law_z"] (dq (top 37)):=by walk_at "sc"
theorem b4n(M:Nm mg)(D_29:Dn P w K mg base k_29 "_law_is_word" ["_law_table_here", "_law_word"] (qw K 2 F_29) a_29 d_29)(h_29:k_29<=k)(D_28:Dn P w K mg base k_28 "_law_room" ["_law_table_here", "_law_word"] (qw K 2 F_28) a_28 d_28)(h_28:k_28<=k):MD P w K mg base f k ["_law_table_here", "_law_u", "_law_z", "_law_room_here", "_law_at"] "_law_is_step" (top 37) (STP.a0g F_29 F_28):=λcdv A outer s H E hr =>
 have SC:=ayd
 (aq (sy (PW.pt (aag (a4u (wz (cj false D_29 (hr.mono h_29) rfl (aa (bf 0) (aa (bf 1) bc))))) (aag (a4u (wz (cj false D_29 (hr.mono h_29) rfl (aa (bf 0) (aa (bf 2) bc))))) (a83 (gq (uq hr.u) qe (bf 2) a2u (jb _))))))
 (bw (jh a3a))
 jn)
 (aq (j8 (i:=3) SC.nd rfl (Or.inl rfl) (cj false D_28 (hr.mono h_28) rfl (aa (bf 0) (aa (bf 1) bc))))
 (aq (sy (gq (a7q.or ut) a3k (bu (bu (bf 0) au (λ_ _=>rfl)) (bf 3) (λ_ _=>rfl)) au (jb _))
 (bw (jh a3a))
 jn)
 (aq (vm bi rfl (a0j rfl M.range (aa (u9 (L2.CallR.or dw dz) nj rfl M.len qy (aa (bf 2) bc)) bc)) (j7 (i:=4) SC.nd rfl (Or.inl rfl)) (aq (j8 (i:=3) SC.nd rfl (Or.inl rfl) (bu (bu (bu (bf 0) au (λ_ _=>rfl)) (bf 3) (λ_ _=>rfl)) (aj8 PySem.F.slot_str_find PySem.F.type_str_find aix afh (bu (bf 0) au (λ_ _=>rfl)) (aa (bu (bf 2) (bf 4) (λ_ _=>rfl)) bc)) (λ_ _=>rfl)))
 (bw (sy (gq (a5r hr.u) a2c (um agh a9g (bu (bu (bf 0) au (λ_ _=>rfl)) (bf 3) (λ_ _=>rfl)) au (jb _)) (um (uq hr.u) qe (bf 4) (aci (u9 (L2.CallR.or dw dz) nj rfl M.len qy (aa (bf 2) bc)) au) (jb _)) (jb _))
 (bw (jh a3a))
 jn))))
 (bw (jh a3a))))))
theorem aye:FnScope ["_law_left", "_law_tongue_here", "_law_word", "_law_which", "_law_at", "_law_sign", "_law_rest"] ["_law_left", "_law_tongue_here", "_law_word", "_law_which"] (dq (top 38)):=by walk_at "sc"
theorem b4o(M:Nm mg)(D_20:Dn P w K mg base k_20 "_law_draw" ["_law_left", "_law_many"] (qw K 2 F_20) a_20 d_20)(h_20:k_20<=k)(D_21:Dn P w K mg base k_21 "_law_signs" [] (qw K 0 F_21) a_21 d_21)(h_21:k_21<=k):MD P w K mg base f k ["_law_left", "_law_tongue_here", "_law_word", "_law_which", "_law_at", "_law_sign", "_law_rest"] "_law_word_spoilt" (top 38) (STP.jm F_20 F_21):=λcdv A outer s H E hr =>
 have SC:=aye
 (aq (j8 (i:=4) SC.nd rfl (Or.inl rfl) (cj false D_20 (hr.mono h_20) rfl (aa (bf 0) (aa (km (u9 (L2.CallR.or dw dz) nj rfl M.len qy (aa (bf 2) bc)) au) bc))))
 (aq (j8 (i:=5) SC.nd rfl (Or.inl rfl) (bu (bf 1) (cj false D_20 (hr.mono h_20) rfl (aa (bf 0) (aa (u9 (L2.CallR.or dw dz) nj rfl M.len qy (aa (bf 1) bc)) bc))) (λ_ _=>rfl)))
 (aq (a5t (i:=6) SC.nd rfl (Or.inl rfl) rfl (CSc.of (ts:=["_law_one"]) (fr:=["_law_tongue_here"]) (ix:=[1]) rfl rfl rfl rfl (by intro p hp;cases ai.mp hp;rfl) rfl rfl rfl rfl) (qm (acq false D_21 (hr.mono h_21) rfl)) (λ_ _ _ _=>(jw (i:=0) (show (["_law_one", "_law_tongue_here"]:List Str).Nodup by decide +kernel) rfl (Or.inl rfl) (.inr rfl))) uo (λ_ _ _ _=>(bf 0)) (λ_ _ _ _=>(gq (a1p.or zu) a87 (bf 0) (bf 1) (by with_unfolding_all rfl))))
 (aq (sy (gq (uq hr.u) qe (bf 3) au (jb _))
 (bw (jh (km (km (ud (bf 2) a04 (a05 (bf 4))) (bf 5)) (ud (bf 2) (a05 (bf 4)) a04))))
 jn)
 (aq (sy (gq (uq hr.u) qe (bf 3) au (jb _))
 (bw (jh (km (ud (bf 2) a04 (a05 (bf 4))) (ud (bf 2) (a05 (km (bf 4) au)) a04))))
 jn)
 (aq (sy (gq (uq hr.u) qe (bf 3) au (jb _))
 (bw (jh (km (km (ud (bf 2) a04 (a05 (bf 4))) (bf 5)) (ud (bf 2) (a05 (km (bf 4) au)) a04))))
 jn)
 (aq (sy (gq (uq hr.u) qe (bf 3) au (jb _))
 (bw (jh (km (km (ud (bf 2) a04 (a05 (bf 4))) (bu (bf 6) (cj false D_20 (hr.mono h_20) rfl (aa (bf 0) (aa (u9 (L2.CallR.or dw dz) nj rfl M.len qy (aa (bf 6) bc)) bc))) (λ_ _=>rfl))) (ud (bf 2) (a05 (km (bf 4) au)) a04))))
 jn)
 (aq (sy (gq (uq hr.u) qe (bf 3) au (jb _))
 (bw (jh a2v))
 jn)
 (aq (sy (gq (uq hr.u) qe (bf 3) au (jb _))
 (bw (jh (xn rfl (CSc.noFree (ts:=["_law_one"]) rfl (by decide +kernel) (by decide +kernel) (by decide +kernel)) (qm (bf 2)) (λ_ _ _ _=>(jw (i:=0) (show (["_law_one"]:List Str).Nodup by decide +kernel) rfl (Or.inl rfl) (.inr rfl))) uo (λ_ _ _ _=>(bf 0)))))
 jn)
 (bw (jh a2u)))))))))))
theorem ayf:FnScope ["_law_table_here", "_law_number", "_law_u", "_law_z"] ["_law_table_here", "_law_number", "_law_u", "_law_z"] (dq (top 39)):=by walk_at "sc"
theorem b4p(M:Nm mg)(D_30:Dn P w K mg base k_30 "_law_is_step" ["_law_table_here", "_law_u", "_law_z"] (qw K 3 F_30) a_30 d_30)(h_30:k_30<=k):MD P w K mg base f k ["_law_table_here", "_law_number", "_law_u", "_law_z"] "_law_holds" (top 39) (a2p F_30):=λcdv A outer s H E hr =>
 have SC:=ayf
 (bw (jh (a9c (cj false D_30 (hr.mono h_30) rfl (aa (bf 0) (aa (bf 2) (aa (bf 3) bc)))) (a9b (um (uq hr.u) qe (u9 (L2.CallR.or dw dz) nj rfl M.len qy (aa (bf 3) bc)) (bf 1) (jb _))))))
theorem ayg:FnScope ["_law_left", "_law_table_here", "_law_number", "_law_u", "_law_z", "_law_tongue_here", "_law_which", "_law_one", "_law_other", "_law_pair", "_law_many", "_law_wanted"] ["_law_left", "_law_table_here", "_law_number", "_law_u", "_law_z"] (dq (top 40)):=by walk_at "sc"
theorem b4q(M:Nm mg)(D_20:Dn P w K mg base k_20 "_law_draw" ["_law_left", "_law_many"] (qw K 2 F_20) a_20 d_20)(h_20:k_20<=k)(D_32:Dn P w K mg base k_32 "_law_holds" ["_law_table_here", "_law_number", "_law_u", "_law_z"] (qw K 4 F_32) a_32 d_32)(h_32:k_32<=k)(D_18:Dn P w K mg base k_18 "_law_said" ["_law_found", "_law_wanted"] (qw K 2 F_18) a_18 d_18)(h_18:k_18<=k)(D_31:Dn P w K mg base k_31 "_law_word_spoilt" ["_law_left", "_law_tongue_here", "_law_word", "_law_which"] (qw K 4 F_31) a_31 d_31)(h_31:k_31<=k)(D_17:Dn P w K mg base k_17 "needing_holds" ["table", "number", "u", "z"] (qw K 4 F_17) a_17 d_17)(h_17:k_17<=k):MD P w K mg base f k ["_law_left", "_law_table_here", "_law_number", "_law_u", "_law_z", "_law_tongue_here", "_law_which", "_law_one", "_law_other", "_law_pair", "_law_many", "_law_wanted"] "_law_looked" (top 40) (a1e F_20 F_32 F_18 F_31 F_17):=λcdv A outer s H E hr =>
 have SC:=ayg
 (aq (j8 (i:=5) SC.nd rfl (Or.inl rfl) (bu (bf 1) au (λ_ _=>rfl)))
 (aq (j8 (i:=6) SC.nd rfl (Or.inl rfl) (cj false D_20 (hr.mono h_20) rfl (aa (bf 0) (aa au bc))))
 (aq (j8 (i:=7) SC.nd rfl (Or.inl rfl) (a9d (gq (a7q.or ut) a3k (bf 6) au (jb _)) (cj false D_31 (hr.mono h_31) rfl (aa (bf 0) (aa (bf 5) (aa (bf 3) (aa (bf 6) bc))))) (bf 3)))
 (aq (j8 (i:=8) SC.nd rfl (Or.inl rfl) (a9d (gq agh a9g (bf 6) au (jb _)) (cj false D_31 (hr.mono h_31) rfl (aa (bf 0) (aa (bf 5) (aa (bf 4) (aa (aci (bf 6) au) bc))))) (bf 4)))
 (aq (sy (gq (ai9.or a7x) acj (cj false D_17 (hr.mono h_17) rfl (aa (bf 1) (aa (km (bf 2) (afc au au)) (aa (bf 3) (aa (bf 4) bc))))) a3a (jb _))
 afn
 jn)
 (aq (vm bi rfl (qm (a0h (aa (a0h (aa (bf 3) (aa (bf 4) bc))) (aa (a0h (aa (bf 7) (aa (bf 8) bc))) (aa (a0h (aa (bf 8) (aa (bf 7) bc))) (aa (a0h (aa (bf 7) (aa (bf 4) bc))) (aa (a0h (aa (bf 3) (aa (bf 8) bc))) bc))))))) (j7 (i:=9) SC.nd rfl (Or.inl rfl)) (bw (vm bi rfl (qm (a0h (aa (bf 2) (aa (km (bf 2) au) (aa (u9 (aia rfl) amz rfl M.max ax1 (aa au (aa (aci (bf 2) au) bc))) bc))))) (j7 (i:=10) SC.nd rfl (Or.inl rfl)) (aq (j8 (i:=11) SC.nd rfl (Or.inl rfl) (cj false D_32 (hr.mono h_32) rfl (aa (bf 1) (aa (bf 10) (aa (bu (bf 9) au (λ_ _=>rfl)) (aa (bu (bf 9) au (λ_ _=>rfl)) bc))))))
 (bw (sy (a4u (wz (cj false D_18 (hr.mono h_18) rfl (aa (cj false D_17 (hr.mono h_17) rfl (aa (bf 1) (aa (bf 10) (aa (bu (bf 9) au (λ_ _=>rfl)) (aa (bu (bf 9) au (λ_ _=>rfl)) bc))))) (aa (bf 11) bc)))))
 afn
 jn))))))
 (bw (jh a3a))))))))
theorem ayh:FnScope ["_law_script", "_law_left", "_law_table_here", "_law_due", "_law_found", "_law_u", "_law_z"] ["_law_script"] (dq (top 41)):=by walk_at "sc"
theorem b4r(M:Nm mg)(D_20:Dn P w K mg base k_20 "_law_draw" ["_law_left", "_law_many"] (qw K 2 F_20) a_20 d_20)(h_20:k_20<=k)(D_32:Dn P w K mg base k_32 "_law_holds" ["_law_table_here", "_law_number", "_law_u", "_law_z"] (qw K 4 F_32) a_32 d_32)(h_32:k_32<=k)(D_33:Dn P w K mg base k_33 "_law_looked" ["_law_left", "_law_table_here", "_law_number", "_law_u", "_law_z"] (qw K 5 F_33) a_33 d_33)(h_33:k_33<=k)(D_27:Dn P w K mg base k_27 "_law_reach" ["_law_table_here", "_law_rooms_here"] (qw K 2 F_27) a_27 d_27)(h_27:k_27<=k)(D_19:Dn P w K mg base k_19 "_law_source" ["_law_script"] (qw K 1 F_19) a_19 d_19)(h_19:k_19<=k)(D_24:Dn P w K mg base k_24 "_law_table" ["_law_left", "_law_most"] (qw K 2 F_24) a_24 d_24)(h_24:k_24<=k)(D_13:Dn P w K mg base k_13 "needing" ["table"] (qw K 1 F_13) a_13 d_13)(h_13:k_13<=k):MD P w K mg base f k ["_law_script", "_law_left", "_law_table_here", "_law_due", "_law_found", "_law_u", "_law_z"] "law" (top 41) (aoa F_20 F_32 F_33 F_27 F_19 F_24 F_13):=λcdv A outer s H E hr =>
 have SC:=ayh
 (aq (j8 (i:=1) SC.nd rfl (Or.inr rfl) (cj true D_19 (hr.mono h_19) rfl (aa (bf 0) bc)))
 (aq (j8 (i:=2) SC.nd rfl (Or.inr rfl) (cj false D_24 (hr.mono h_24) rfl (aa (bf 1) (aa au bc))))
 (aq (j8 (i:=3) SC.nd rfl (Or.inl rfl) (cj false D_27 (hr.mono h_27) rfl (aa (bf 2) (aa (a7h (a7g rfl (CSc.of (ts:=["_law_room_here"]) (fr:=["_law_table_here"]) (ix:=[2]) rfl rfl rfl rfl (by intro p hp;cases ai.mp hp;rfl) rfl rfl rfl rfl) (a0j rfl M.range (aa (u9 (L2.CallR.or dw dz) nj rfl M.len qy (aa (bu (bf 2) au (λ_ _=>rfl)) bc)) bc)) (λ_ _ _ _=>(jw (i:=0) (show (["_law_room_here", "_law_table_here"]:List Str).Nodup by decide +kernel) rfl (Or.inl rfl) (.inr rfl))) uo (λ_ _ _ _=>(bf 0)) (λ_ _ _ _=>(gq agh a9g (bu (bu (bf 1) au (λ_ _=>rfl)) (bf 0) (λ_ _=>rfl)) au (jb _))))) bc))))
 (aq (j8 (i:=4) SC.nd rfl (Or.inl rfl) (cj false D_13 (hr.mono h_13) rfl (aa (bf 2) bc)))
 (aq (j8 (i:=5) SC.nd rfl (Or.inl rfl) (aj8 PySem.F.slot_str_join PySem.F.type_str_join aiy afi a2u (aa (a7h (xn rfl (CSc.of (ts:=["_law_k"]) (fr:=["_law_left", "_law_table_here"]) (ix:=[1,2]) rfl rfl rfl rfl (by intro p hp;simp only [aD,aN,bT] at hp;rcases hp with rfl | rfl<;>rfl) rfl rfl rfl rfl) (a0j rfl M.range (aa (km au (cj false D_20 (hr.mono h_20) rfl (aa (bf 1) (aa au bc)))) bc)) (λ_ _ _ _=>(jw (i:=0) (show (["_law_k", "_law_left", "_law_table_here"]:List Str).Nodup by decide +kernel) rfl (Or.inl rfl) (.inr rfl))) uo (λ_ _ _ _=>(bu (bu (bf 2) au (λ_ _=>rfl)) (cj false D_20 (hr.mono h_20) rfl (aa (bf 1) (aa (u9 (L2.CallR.or dw dz) nj rfl M.len qy (aa (bu (bf 2) au (λ_ _=>rfl)) bc)) bc))) (λ_ _=>rfl))))) bc)))
 (aq (j8 (i:=6) SC.nd rfl (Or.inl rfl) (aj8 PySem.F.slot_str_join PySem.F.type_str_join aiy afi a2u (aa (a7h (xn rfl (CSc.of (ts:=["_law_k"]) (fr:=["_law_left", "_law_table_here"]) (ix:=[1,2]) rfl rfl rfl rfl (by intro p hp;simp only [aD,aN,bT] at hp;rcases hp with rfl | rfl<;>rfl) rfl rfl rfl rfl) (a0j rfl M.range (aa (cj false D_20 (hr.mono h_20) rfl (aa (bf 1) (aa au bc))) bc)) (λ_ _ _ _=>(jw (i:=0) (show (["_law_k", "_law_left", "_law_table_here"]:List Str).Nodup by decide +kernel) rfl (Or.inl rfl) (.inr rfl))) uo (λ_ _ _ _=>(bu (bu (bf 2) au (λ_ _=>rfl)) (cj false D_20 (hr.mono h_20) rfl (aa (bf 1) (aa (u9 (L2.CallR.or dw dz) nj rfl M.len qy (aa (bu (bf 2) au (λ_ _=>rfl)) bc)) bc))) (λ_ _=>rfl))))) bc)))
 (aq (sy (a4u (wz (cj false D_33 (hr.mono h_33) rfl (aa (bf 1) (aa (bf 2) (aa (u9 (L2.CallR.or dw dz) nj rfl M.len qy (aa (bf 6) bc)) (aa (bf 5) (aa (bf 6) bc))))))))
 afn
 jn)
 (aq (sy (PW.pt (aag (gq (a7r.or a1x) a86 (bf 3) a2v (jb _)) (a83 (gq (uq hr.u) qe (bf 3) au (jb _)))))
 (bw (jh (a9c (um (a7r.or a1x) a86 (bf 4) a2v (jb _)) (a9b (um (a7r.or a1x) a86 (cj false D_13 (hr.mono h_13) rfl (aa (bf 2) bc)) a2v (jb _))))))
 jn)
 (aq (sy (PW.pt (aag (a4u (wz (u9 (L2.CallR.or a5a a3o) aaz rfl M.isinstance a1y (aa (bf 4) (aa (ars rfl M.tuple a0v) bc))))) (aag (gq (a5r hr.u) a2c (u9 (L2.CallR.or dw dz) nj rfl M.len qy (aa (bf 4) bc)) au (jb _)) (a83 (a4u (wz (cj false D_32 (hr.mono h_32) rfl (aa (bf 2) (aa (bf 3) (aa (bu (bf 4) au (λ_ _=>rfl)) (aa (bu (bf 4) au (λ_ _=>rfl)) bc)))))))))))
 afn
 jn)
 (bw (jh (cj false D_33 (hr.mono h_33) rfl (aa (bf 1) (aa (bf 2) (aa (bf 3) (aa (bu (bf 4) au (λ_ _=>rfl)) (aa (bu (bf 4) au (λ_ _=>rfl)) bc)))))))))))))))))
end
end K41
namespace K40
open PySem PySem.Spec L2 MI
end K40
namespace HND
open PySem PySem.Spec L2 MI
noncomputable def a0o:SS :=
 (j6 (m5 0 (sC (.str " !\"#$&'()*+,-./0123456789:;<=>?@ABCDEFGHIJKLMNOPQRSTUVWXYZ[\\]^_`")))
 (qx (s2 jz (sV 0) (sC (.str "abcdefghijklmnopqrstuvwxyz{|}~\n")))))
end HND
namespace MI
open PySem PySem.Spec L2
abbrev S(l:List Nat):Str:=⟨l.toArray⟩
theorem a1n(l:List Nat):(S l).cps.toList=l:=by simp
theorem aef(l:List Nat):(S l).length=l.length:=by simp [Str.length]
theorem ahi(x:Str):S x.cps.toList=x:=by cases x;simp
theorem atu(a b:List Nat):S a++S b=S (a++b):=by rw [<-ahi (S a++S b),b0s]
theorem b1g(h:S a=S b):a=b:=by
 have:=av (λx:Str=>x.cps.toList) h
 simpa using this
theorem ayi(a b:List Nat):(S a == S b)=decide (a=b):=by
 by_cases h:a=b
 ·subst h;simp
 ·have:¬ S a=S b:=λz=>h (b1g z)
  simp [h]
section
variable{h:Hd}{a b l:List Nat}{i:Nat}{c:Nat}
theorem azk(hl:l.length<=LINE)(e:l[i]? = some c):gIx (.str (S l)) (.int (i:Nat)) h = .ok (.str (S [c])) h:=by
 unfold gIx;simp only [aef,aL hl,a1n,yj e]
theorem a7d(hl:a.length+b.length<=LINE):jz (.str (S a)) (.str (S b)) h = .ok (.str (S (a++b))) h:=by
 unfold jz;simp only [aef,aL hl,atu]
theorem ab9(hl:l.length<=LINE):v6 [.str (S l)] h = .ok (.int l.length) h:=by
 unfold v6;simp only [aef,aL hl]
theorem b2u(k:Nat)(hl:l.length<=LINE):am3 (.str (S l)) none (some (k:Int)) h = .ok (.str (S (l.take k))) h:=by
 show gSl (.str (S l)) none (some (k:Int)) h=_;unfold gSl;simp only [aef,aL hl,a1n,aiu]
theorem akq(k:Nat)(hl:l.length<=LINE):am3 (.str (S l)) (some (k:Int)) none h = .ok (.str (S (l.drop k))) h:=by
 show gSl (.str (S l)) (some (k:Int)) none h=_;unfold gSl;simp only [aef,aL hl,a1n,ace]
end
section
variable{h:Hd}{i j:Int}{xs ys:List D}
theorem a7u:gIx (.tup xs) (.int i) h=(match atI xs i with | some d=>.ok d h | none=>.no):=rfl
theorem a9q:gIx (.rol xs) (.int i) h=(match atI xs i with | some d=>.ok d h | none=>.no):=rfl
theorem a9r:gIx (.ref k) (.int i) h=(match a3e (.ref k) h with | some xs=>(match atI xs i with | some d=>.ok d h | none=>.no) | none=>.no):=rfl
theorem a3t:v6 [.tup xs] h = .ok (.int xs.length) h:=rfl
theorem a2q:v6 [.rol xs] h = .ok (.int xs.length) h:=rfl
theorem a8o:v6 [.ref k] h=(match a3e (.ref k) h with | some xs=>.ok (.int xs.length) h | none=>.no):=rfl
theorem wg:jz (.int i) (.int j) h = .ok (.int (i+j)) h:=rfl
theorem a1o:a1q (.int i) (.int j) h = .ok (.int (i+j)) h:=rfl
open Classical in
theorem a66:a0b (.int i) (.int j) h=if CMul i j then .ok (.int (i*j)) h else .no:=by unfold a0b;rfl
theorem ur(b:Bool):tru (.bl b) h = .ok b h:=rfl
theorem aba:tru (.int i) h = .ok (i != 0) h:=rfl
theorem a8p:tru (.rol xs) h = .ok (!xs.isEmpty) h:=rfl
theorem abb:tru (.tup xs) h = .ok (!xs.isEmpty) h:=rfl
theorem abd:tru .non h = .ok false h:=rfl
theorem ahj:hEq (.int i) (.int j) h = .ok (.bl (i == j)) h:=rfl
theorem ahk:hNe (.int i) (.int j) h = .ok (.bl (!(i == j))) h:=rfl
theorem ayj(a b:Str):hEq (.str a) (.str b) h = .ok (.bl (a == b)) h:=rfl
theorem aob(a b:Bool):hEq (.bl a) (.bl b) h = .ok (.bl (a == b)) h:=rfl
theorem aoc(a b:Bool):hNe (.bl a) (.bl b) h = .ok (.bl (!(a == b))) h:=rfl
theorem a9s(x:D):gIs x .non h = .ok (.bl (a3b x)) h:=by cases x<;>rfl
theorem a3u(x:D):a85 x .non h = .ok (.bl (!a3b x)) h:=by cases x<;>rfl
theorem aod(a b:Bool):gIs (.bl a) (.bl b) h = .ok (.bl (a == b)) h:=rfl
theorem a7l(a b:Bool):a85 (.bl a) (.bl b) h = .ok (.bl (a != b)) h:=rfl
theorem azl:a3b (.int i)=false:=rfl
theorem azm(x:Str):a3b (.str x)=false:=rfl
theorem azn:a3b .non=true:=rfl
theorem azo:a3b (.tup xs)=false:=rfl
end
end MI
namespace HND
open PySem PySem.Spec L2 MI AT
def azp:Str := " !\"#$&'()*+,-./0123456789:;<=>?@ABCDEFGHIJKLMNOPQRSTUVWXYZ[\\]^_`"
def azq:Str := "abcdefghijklmnopqrstuvwxyz{|}~\n"
def sig:List Nat:=azp.cps.toList++azq.cps.toList
theorem abe:sig.length=95:=by decide +kernel
theorem aq1:sig.Nodup:=by decide +kernel
noncomputable def du:SF:=qg a0o 1
theorem lits{h:Hd}:jz (.str azp) (.str azq) h = .ok (.str (S sig)) h:=by
 rw [<-ahi azp,<-ahi azq,a7d (by decide +kernel)]
 rfl
theorem a7m:Pu du 0 [] (.str (S sig)):=by
 refine Pu.of rfl (by simp) (r:=.ok (.str (S sig)) []) ?_ (by rw [ju (m7 _) (by simp)];rfl) (m7 _)
 unfold du;rw [jd];unfold a0o;have e:=@lits [];unfold azp azq at e;show toR (j6 (m5 0 _) _ [none] [])=_;simp only [yr,m5,sC,a1s,a1t,qx,s2,sV,List.set_cons_zero,gR,cu,e,acw]
structure Tongue (l:List Nat):Prop where
 lo:1<=l.length
 hi:l.length<=6
 nd:l.Nodup
 sub:∀ c∈l,c∈sig
theorem akr(a r:List Nat)(i:Nat)(c:Nat)(e:r[i]? = some c):List.Perm (a++r) ((a++[c])++(r.take i++r.drop (i+1))):=by
 obtain ⟨hi,e⟩:=ah.mp e;have:r=r.take i++c::r.drop (i+1):=by rw [<-e];simp
 rw [fq];refine List.Perm.append_left a ?_;rw [List.singleton_append]
 conv=>lhs;rw [this]
 exact List.perm_middle
end HND
namespace MI
open PySem PySem.Spec L2
theorem b1h(n:Nat):rng 0 n=(List.range n).map λi:Nat=>D.int (i:Nat):=by
 unfold rng;exact dl λi _=>by rw [Int.zero_add]
theorem b1i(a:Int)(n:Nat):rng a n=(List.range n).map λi:Nat=>D.int (a+(i:Nat)):=rfl
theorem aeg(h:n<=LINE):B62 (n:Int):=by
 have:n<=16777216:=h
 unfold B62;omega
theorem aks(h:Hd)(z:n<=LINE):xj [.int (n:Nat)] h = .ok ⟨(List.range n).map λi:Nat=>D.int (i:Nat),λ_=>True⟩ h:=by
 unfold xj;simp only [aeg z,dv,dG,b1h]
theorem ayk(h:Hd)(za:a<=LINE)(z:n<=LINE):a6m [.int (a:Nat), .int (n:Nat)] h = .ok ⟨(List.range (n - a)).map λi:Nat=>D.int ((a+i:Nat)),λ_=>True⟩ h:=by
 unfold a6m;simp only [aeg z,aeg za,and_self,dv,b1i];rw [show ((n:Int) - (a:Int)).toNat=n - a by omega]
 congr 2
theorem b1j(e:f τ h = .ok d h):ak f dh τ h = .ok [d] h:=by unfold ak dh;rw [e];rfl
theorem ad7(e:f τ h = .ok c h)(e':g τ h = .ok d h):ak f (ak g dh) τ h = .ok [c,d] h:=by unfold ak;rw [e,cu,e',cu];rfl
theorem a5f(e:f τ h = .ok (.int (n:Nat)) h)(z:n<=LINE):sRg xj (ak f dh) τ h = .ok ⟨(List.range n).map λi:Nat=>D.int (i:Nat),λ_=>True⟩ h:=by
 unfold sRg;rw [b1j e,cu];exact aks h z
theorem abf(e':g τ h = .ok (.int (a:Nat)) h)(e:f τ h = .ok (.int (n:Nat)) h)(za:a<=LINE)(z:n<=LINE):sRg a6m (ak g (ak f dh)) τ h = .ok ⟨(List.range (n - a)).map λi:Nat=>D.int ((a+i:Nat)),λ_=>True⟩ h:=by
 unfold sRg;rw [ad7 e' e,cu];exact ayk h za z
theorem az(e:τ[i]? = some (some d)):sV i τ h = .ok d h:=by unfold sV;rw [e]
theorem uf{fi:SI}{t:D->Option Sd}{fe:SE}{ix:List Nat}{τ:Sd}{h:Hd}{α:Type}(g F:α->D)(xs:List α)(e:fi τ h = .ok ⟨xs.map g,λ_=>True⟩ h)(z:xs.length<=LINE)
  (st:∀ x∈xs,a92 t fe (frs' ix τ) (g x) h = .ok (F x) h):m9 fi t fe ix τ h = .ok (.ref h.length) (h++[.lst (xs.map F)]):=by
 unfold m9;rw [e,cu];dsimp only;rw [aL (by rw [aA];exact z),acx g F st]
 rfl
theorem a0t{fi:SI}{t:D->Option Sd}{c:ST}{fe:SE}{ix:List Nat}{τ:Sd}{h:Hd}{α:Type}(g:α->D)(F:α->Option D)(xs:List α)(e:fi τ h = .ok ⟨xs.map g,λ_=>True⟩ h)(z:xs.length<=LINE)
  (st:∀ x∈xs,ae2 t c fe (frs' ix τ) (g x) h = .ok (F x) h):qu fi t c fe ix τ h = .ok (.ref h.length) (h++[.lst (xs.filterMap F)]):=by
 unfold qu;rw [e,cu];dsimp only;rw [aL (by rw [aA];exact z),acy g F st]
 rfl
theorem vf(fe:SE)(r:Sd)(x:D)(h:Hd):a92 t1 fe r x h=fe (some x::r) h:=rfl
theorem a8q(c:ST)(fe:SE)(r:Sd)(x:D)(h:Hd):ae2 t1 c fe r x h=(c (some x::r) h).bind λb h1=>if b=true then (fe (some x::r) h1).bind λy h2=>.ok (some y) h2 else .ok none h1:=rfl
theorem wj(i:Nat)(ix:List Nat)(τ:Sd):frs' (i::ix) τ=(τ[i]?).join::frs' ix τ:=rfl
theorem a3v(τ:Sd):frs' [] τ=[]:=rfl
section
variable{f k f1 f2 f3:SE}{c c1 c2:ST}{g p q:SS}{τ τ1:Sd}{h h1 h2 h3 h4:Hd}{a b d v:D}{i:Nat}{t u:Bool}
theorem gj(d:D)(τ:Sd)(h:Hd):sC d τ h = .ok d h:=rfl
theorem b2v(e3:G [] h = .ok v h1):sA G dh τ h = .ok v h1:=e3
theorem xg(e1:f τ h = .ok a h1)(e3:G [a] h1 = .ok v h2):sA G (ak f dh) τ h = .ok v h2:=by
 have:ak f dh τ h = .ok [a] h1:=by unfold ak;rw [e1];rfl
 unfold sA;rw [this,cu,e3]
theorem a08(e1:f τ h = .ok a h1)(e2:k τ h1 = .ok b h2)(e3:G [a,b] h2 = .ok v h3):sA G (ak f (ak k dh)) τ h = .ok v h3:=by
 have:ak f (ak k dh) τ h = .ok [a,b] h2:=by unfold ak;rw [e1,cu,e2];rfl
 unfold sA;rw [this,cu,e3]
theorem ahx(e0:f1 τ h = .ok d h1)(e1:f τ h1 = .ok a h2)(e2:k τ h2 = .ok b h3)(e3:G [d,a,b] h3 = .ok v h4):sA G (ak f1 (ak f (ak k dh))) τ h = .ok v h4:=by
 have:ak f1 (ak f (ak k dh)) τ h = .ok [d,a,b] h3:=by unfold ak;rw [e0,cu,e1,cu,e2];rfl
 unfold sA;rw [this,cu,e3]
theorem jx(e:f τ h = .ok d h1):j6 (m5 i f) g τ h=g (τ.set i (some d)) h1:=by
 rw [yr];unfold m5;rw [e];rfl
theorem aq2(e:f τ h = .ok d h1):m5 i f τ h = .nx (τ.set i (some d)) h1:=by
 unfold m5;rw [e];rfl
theorem yf(e:p τ h = .nx τ1 h1):j6 p g τ h=g τ1 h1:=by rw [yr,e];rfl
theorem a3d(e:p τ h = .rt d h1):j6 p g τ h = .rt d h1:=by rw [yr,e];rfl
theorem ifT(e:c τ h = .ok true h1):sIf c p q τ h=p τ h1:=by unfold sIf;rw [e];rfl
theorem ifF(e:c τ h = .ok false h1):sIf c p q τ h=q τ h1:=by unfold sIf;rw [e];rfl
theorem ifN(e:c τ h = .ok false h1):j6 (sIf c p sNx) g τ h=g τ h1:=by rw [yr,ifF e];rfl
theorem tof(e:f τ h = .ok (.bl t) h1):sT f τ h = .ok t h1:=by unfold sT;rw [e];rfl
theorem a0u(e:f τ h = .ok d h1)(e':tru d h1 = .ok t h2):a1z f τ h = .ok t h2:=by unfold a1z;rw [e,cu,e']
theorem aoe(e:c1 τ h = .ok true h1)(e':c2 τ h1 = .ok t h2):a82 c1 c2 τ h = .ok t h2:=by unfold a82;rw [e,cu,aL rfl,e']
theorem ayl(e:c1 τ h = .ok false h1):a82 c1 c2 τ h = .ok false h1:=by unfold a82;rw [e,cu,aY (by simp)]
theorem orT(e:c1 τ h = .ok true h1):sOr c1 c2 τ h = .ok true h1:=by unfold sOr;rw [e,cu,aL rfl]
theorem orF(e:c1 τ h = .ok false h1)(e':c2 τ h1 = .ok t h2):sOr c1 c2 τ h = .ok t h2:=by unfold sOr;rw [e,cu,aY (by simp),e']
theorem ad8(e:c τ h = .ok t h1):a7c c τ h = .ok (!t) h1:=by unfold a7c;rw [e];rfl
theorem aym(e:c τ h = .ok true h1):a7c c τ h = .ok false h1:=ad8 e
theorem b4s(e:c τ h = .ok false h1):a7c c τ h = .ok true h1:=ad8 e
theorem nq(e:f τ h = .ok d h1):qx f τ h = .rt d h1:=by unfold qx;rw [e];rfl
theorem atv(e:f τ h = .ok (.bl true) h1)(e':k τ h1 = .ok d h2):a2a f k τ h = .ok d h2:=by unfold a2a;rw [e,cu];exact e'
theorem a67(e1:f τ h = .ok d h1)(l:isL d h1=true)(e2:A τ h1 = .ok ds h2)(e3:G d ds h2 = .ok v h3):a2b (sML G f A) τ h = .nx τ h3:=by
 unfold a2b sML;rw [e1,cu,aL l,e2,cu,e3];rfl
theorem b1k(e1:f τ h = .ok d h1)(l:isL d h1=true)(e2:A τ h1 = .ok ds h2)(e3:G d ds h2 = .ok v h3):sML G f A τ h = .ok v h3:=by
 unfold sML;rw [e1,cu,aL l,e2,cu,e3]
theorem arg1(e:f τ h = .ok d h1):ak f dh τ h = .ok [d] h1:=by unfold ak dh;rw [e];rfl
theorem dj(e1:f τ h = .ok a h1)(e2:k τ h1 = .ok b h2)(e3:G a b h2 = .ok v h3):s2 G f k τ h = .ok v h3:=by
 unfold s2;rw [e1,cu,e2,cu,e3]
theorem ad9(e1:f τ h = .ok a h1)(e3:G a h1 = .ok v h2):s1 G f τ h = .ok v h2:=by
 unfold s1;rw [e1,cu,e3]
theorem ahl(ht:τ[i]? = some (some a))(e:f τ h = .ok b h1)(e2:G a b h1 = .ok d h2):ae1 i G f τ h = .nx (τ.set i (some d)) h2:=by
 unfold ae1;rw [ht];dsimp only;rw [e,a1s,e2];rfl
theorem a8r(e:f τ h = .ok d h1)(e2:G d τ h1 = .nx τ1 h2):a91 f G τ h = .nx τ1 h2:=by
 unfold a91;rw [e,a1s,e2]
theorem atw(e1:f1 τ h = .ok v h1)(e2:f2 τ h1 = .ok a h2)(e3:f3 τ h2 = .ok b h3)(e4:put a b v h3=some h4):af8 f1 f2 f3 τ h = .nx τ h4:=by
 unfold af8;rw [e1,a1s,e2,a1s,e3,a1s,e4]
theorem aq3(e1:f1 τ h = .ok v h1)(e2:f2 τ h1 = .ok a h2)(e3:f3 τ h2 = .ok b h3)(e4:asx a b v h3=some h4):a94 f1 f2 f3 τ h = .nx τ h4:=by
 unfold a94;rw [e1,a1s,e2,a1s,e3,a1s,e4]
theorem a3w{fi:SI}{G:SG}{b:SS}{xs:List D}{ck:Hd->Prop}(e:fi τ h = .ok ⟨xs,ck⟩ h1):j6 (a5c fi G b) g τ h=thn (forL ck G b xs τ h1) g:=by
 rw [yr];unfold a5c;rw [e];rfl
theorem a6y(e:f τ h = .ok d h1)(e2:amx d h1 = .ok ⟨xs,ck⟩ h1):sIt f τ h = .ok ⟨xs,ck⟩ h1:=by
 unfold sIt;rw [e,cu,e2]
theorem a68(e:h[i]? = some (.lst xs))(z:xs.length<LINE):a9h (.ref i) [a] h = .ok .non (h.set i (.lst (xs++[a]))):=by
 unfold a9h;simp only [e,aL z]
theorem b1l(e:h[i]? = some (.lst xs))(hj:j<xs.length):put (.ref i) (.int (j:Nat)) v h=some (h.set i (.lst (xs.set j v))):=by
 have:ixN xs.length (j:Int)=some j:=by unfold ixN;rw [aL (by omega),aL (by omega)];simp
 unfold put;simp only [e,this]
theorem a3x(e:h[i]? = some (.lst xs))(hj:xs[j]? = some y):gIx (.ref i) (.int (j:Nat)) h = .ok y h:=by
 rw [a9r];unfold a3e;simp only [e,yj hj]
theorem am6(hj:xs[j]? = some y):gIx (.rol xs) (.int (j:Nat)) h = .ok y h:=by
 rw [a9q];simp only [yj hj]
theorem a69(hj:xs[j]? = some y):gIx (.tup xs) (.int (j:Nat)) h = .ok y h:=by
 rw [a7u];simp only [yj hj]
theorem a8s(e:h[i]? = some (.lst xs)):v6 [.ref i] h = .ok (.int (xs.length:Nat)) h:=by
 rw [a8o];unfold a3e;simp only [e]
theorem div_ii(c:0<y/\y<1073741824):adq (.int x) (.int y) h = .ok (.int (x / y)) h:=by unfold adq;exact aL c
theorem a9t(c:0<y):a75 (.int x) (.int y) h = .ok (.int (x % y)) h:=by unfold a75;exact aL c
theorem b2w(c:y<x):gGt (.int x) (.int y) h = .ok (.bl true) h:=by unfold gGt;simp only [c,decide_true]
theorem b2x(c:¬ y<x):gGt (.int x) (.int y) h = .ok (.bl false) h:=by unfold gGt;simp only [c,i5]
theorem aof(c:x<y):gLt (.int x) (.int y) h = .ok (.bl true) h:=by unfold gLt;simp only [c,decide_true]
theorem aq4(c:¬ x<y):gLt (.int x) (.int y) h = .ok (.bl false) h:=by unfold gLt;simp only [c,i5]
theorem a8t(c:x=y):hEq (.int x) (.int y) h = .ok (.bl true) h:=by rw [ahj,c,fG]
theorem abg(c:¬ x=y):hEq (.int x) (.int y) h = .ok (.bl false) h:=by rw [ahj,cG.mpr c]
theorem atx(c:x=y):hNe (.int x) (.int y) h = .ok (.bl false) h:=by rw [ahk,c,fG];rfl
theorem ayn(c:¬ x=y):hNe (.int x) (.int y) h = .ok (.bl true) h:=by rw [ahk,cG.mpr c];rfl
theorem a3y(x:Int):a6f (.int x) h = .ok (.int (-x)) h:=rfl
theorem a9u(x y:Int):MI.abu (.int x) (.int y) h = .ok (.int (x - y)) h:=rfl
theorem iy(h:n<=1000000):n<=LINE:=by show n<=16777216;omega
theorem a3z(h:n<=1000000):n<LINE:=by show n<16777216;omega
theorem ahy:MI.a4d [a,b] h = .ok (.tup [a,b]) h:=by unfold MI.a4d;rw [aL (iy (by simp))]
theorem b2y:MI.a4d [a,b,v] h = .ok (.tup [a,b,v]) h:=by unfold MI.a4d;rw [aL (iy (by simp))]
end
end MI
namespace SRC
open PySem PySem.Spec L2 MI AT
structure Src (o:O) (N:Nat):Prop where
 ex:∃ (cells:List Int) (a l c s:Int),o = .lst [.rol (cells.map D.int), .int a, .int l, .int c, .int s]/\0<=a/\0<=l/\0<=s/\s<2147483647/\0<=c/\c<=N
theorem Src.clo(P:Src o N):a6n 0 o:=by
 obtain ⟨cells,a,l,c,s,rfl,_⟩:=P.ex;exact mj (wu (jq λx _=>jk x)) (mj (jk _) (mj (jk _) (mj (jk _) (mj (jk _) yt))))
theorem Src.up(P:Src o N)(h:N<=M):Src o M:=by
 obtain ⟨cells,a,l,c,s,e,h1,h2,h3,h4,h5,h6⟩:=P.ex;exact ⟨cells,a,l,c,s,e,h1,h2,h3,h4,h5,by omega⟩
noncomputable def aj:SF:=qg a4j 4
abbrev so(cells:List Int)(a l c s:Int):O:=.lst [.rol (cells.map D.int), .int a, .int l, .int c, .int s]
theorem akt(e:h[i]? = some (.lst xs))(hj:xs[j]? = some y):am4 (.ref i) (.int (j:Nat)) h = .ok y h:=by
 unfold am4;simp only [e,yj hj]
theorem b1m(e1:fo τ h = .ok o h)(e2:fi τ h = .ok i h)(e3:am4 o i h = .ok x h)(e4:fe τ h = .ok y h)(e5:G x y h = .ok z h)(e6:put o i z h=some h'):a4s G fo fi fe τ h = .nx τ h':=by
 unfold a4s;rw [e1,a1s,e2,a1s,e3,a1s,e4,a1s,e5,a1s,e6]
theorem b4t(c:y<=x):gGe (.int x) (.int y) h = .ok (.bl true) h:=by show R.ok (D.bl (decide (y<=x))) h=_;rw [aQ c]
theorem b4u(c:¬ y<=x):gGe (.int x) (.int y) h = .ok (.bl false) h:=by show R.ok (D.bl (decide (y<=x))) h=_;rw [aU c]
theorem aku(P:Src o N)(hN:N<=1000000000)(m0:0<m)(m1:m<1073741824):∃ r o',aj [.ref 0, .int m] [o] = .ok (.int r) [o']/\0<=r/\r<m/\Src o' (N+1):=by
 obtain ⟨cells,a,l,c,s,rfl,a0,l0,s0,s1,c0,c1⟩:=P.ex;unfold aj;rw [jd];show ∃ r o',toR (a4j [some (.ref 0),some (.int m),none,none] [so cells a l c s])=_/\_;unfold a4j;have last:∀ s':Int,0<=s'->s'<2147483647->∃ r q,0<=r/\r<m/\(s'+1+(c+1)*7919) ^ (3:Int).toNat % 2147483647=q/\(q*48271+(c+1)) ^ (2:Int).toNat % 2147483629 / 64 % m=r/\CMul (c+1) 7919/\CMul q 48271 /\
   (∀ h,a93 (.int (s'+1+(c+1)*7919)) (.int 3) h = .ok (.int ((s'+1+(c+1)*7919) ^ (3:Int).toNat)) h)/\∀ h,a93 (.int (q*48271+(c+1))) (.int 2) h = .ok (.int ((q*48271+(c+1)) ^ (2:Int).toNat)) h:=λs' h0 h1=>by
  have q0:0<=(s'+1+(c+1)*7919) ^ (3:Int).toNat % 2147483647:=dZ _ (by decide)
  have q1:(s'+1+(c+1)*7919) ^ (3:Int).toNat % 2147483647<2147483647:=dC _ (by decide)
  refine ⟨_,_,dZ _ (by omega),dC _ m0,rfl,rfl, .inr ⟨by decide,by decide⟩, .inr ⟨by decide,by decide⟩,λh=>at5 ⟨by decide,by decide,by omega⟩,λh=>at5 ⟨by decide,by decide,?_⟩⟩
  generalize (s'+1+(c+1)*7919) ^ (3:Int).toNat % 2147483647=q at q0 q1
  omega
 have x0:∀ {a l c s:Int},gIx (.ref 0) (.int 0) [so cells a l c s] = .ok (.rol (cells.map D.int)) [so cells a l c s]:=λ{a l c s}=>a3x (j:=0) rfl rfl;have x1:∀ {a l c s:Int},gIx (.ref 0) (.int 1) [so cells a l c s] = .ok (.int a) [so cells a l c s]:=λ{a l c s}=>a3x (j:=1) rfl rfl;have x2:∀ {a l c s:Int},gIx (.ref 0) (.int 2) [so cells a l c s] = .ok (.int l) [so cells a l c s]:=λ{a l c s}=>a3x (j:=2) rfl rfl;have x3:∀ {a l c s:Int},gIx (.ref 0) (.int 3) [so cells a l c s] = .ok (.int c) [so cells a l c s]:=λ{a l c s}=>a3x (j:=3) rfl rfl
 have x4:∀ {a l c s:Int},gIx (.ref 0) (.int 4) [so cells a l c s] = .ok (.int s) [so cells a l c s]:=λ{a l c s}=>a3x (j:=4) rfl rfl;have u3:∀ {a l c s:Int} {τ:Sd},τ[0]? = some (some (.ref 0))->a4s a1q (sV 0) (sC (.int 3)) (sC (.int 1)) τ [so cells a l c s] = .nx τ [so cells a l (c+1) s]:=λ{a l c s τ} h0=>b1m (az h0) (gj _ _ _) (akt (j:=3) rfl rfl) (gj _ _ _) a1o rfl;have u1:∀ {a l c s:Int} {τ:Sd},τ[0]? = some (some (.ref 0))->a4s a1q (sV 0) (sC (.int 1)) (sC (.int 1)) τ [so cells a l c s] = .nx τ [so cells (a+1) l c s]:=λ{a l c s τ} h0=>b1m (az h0) (gj _ _ _) (akt (j:=1) rfl rfl) (gj _ _ _) a1o rfl
 have p18:∀ {h:Hd},a93 (.int 10) (.int 18) h = .ok (.int 1000000000000000000) h:=λ{h}=>p18 h;have e1:∀ {a l c s:Int} {t2:Option D},0<l->toR (j6 (sIf (sT (s2 gGt (s2 gIx (sV 0) (sC (.int 2))) (sC (.int 0)))) (j6 (m5 3 (s2 a75 (s2 gIx (sV 0) (sC (.int 2))) (sV 1))) (j6 (a4s adq (sV 0) (sC (.int 2)) (sV 1)) (qx (sV 3)))) sNx) (j6 (m5 3 (s2 a75 (s2 a93 (s2 jz (s2 jz (s2 gIx (sV 0) (sC (.int 4))) (sC (.int 1))) (s2 a0b (s2 gIx (sV 0) (sC (.int 3))) (sC (.int 7919)))) (sC (.int 3))) (sC (.int 2147483647)))) (qx (s2 a75 (s2 adq (s2 a75 (s2 a93 (s2 jz (s2 a0b (sV 3) (sC (.int 48271))) (s2 gIx (sV 0) (sC (.int 3)))) (sC (.int 2))) (sC (.int 2147483629))) (sC (.int 64))) (sV 1)))) [some (.ref 0),some (.int m),t2,none] [so cells a l c s]) = .ok (.int (l % m)) [so cells a (l / m) c s]:=λ{a l c s t2} hl=>by
  refine av toR (a3d (ar (ifT (tof (dj (dj (az rfl) (gj _ _ _) x2) (gj _ _ _) (b2w hl)))) ?_));refine ar (jx (dj (dj (az rfl) (gj _ _ _) x2) (az rfl) (a9t m0))) ?_;refine ar (yf (b1m (az rfl) (gj _ _ _) (akt (j:=2) rfl rfl) (az rfl) (div_ii ⟨m0,m1⟩) rfl)) ?_;exact nq (az rfl)
 have e2:∀ {a s':Int} {t2:Option D},0<=s'->s'<2147483647->∃ r,0<=r/\r<m/\toR (j6 (sIf (sT (s2 gGt (s2 gIx (sV 0) (sC (.int 2))) (sC (.int 0)))) (j6 (m5 3 (s2 a75 (s2 gIx (sV 0) (sC (.int 2))) (sV 1))) (j6 (a4s adq (sV 0) (sC (.int 2)) (sV 1)) (qx (sV 3)))) sNx) (j6 (m5 3 (s2 a75 (s2 a93 (s2 jz (s2 jz (s2 gIx (sV 0) (sC (.int 4))) (sC (.int 1))) (s2 a0b (s2 gIx (sV 0) (sC (.int 3))) (sC (.int 7919)))) (sC (.int 3))) (sC (.int 2147483647)))) (qx (s2 a75 (s2 adq (s2 a75 (s2 a93 (s2 jz (s2 a0b (sV 3) (sC (.int 48271))) (s2 gIx (sV 0) (sC (.int 3)))) (sC (.int 2))) (sC (.int 2147483629))) (sC (.int 64))) (sV 1)))) [some (.ref 0),some (.int m),t2,none] [so cells a 0 (c+1) s']) = .ok (.int r) [so cells a 0 (c+1) s']:=λ{a s' t2} h0 h1=>by
  obtain ⟨r,q,r0,r1,eq,er,d1,d2,d3,d4⟩:=last s' h0 h1;refine ⟨r,r0,r1,?_⟩;refine ar (av toR (ifN (tof (dj (dj (az rfl) (gj _ _ _) x2) (gj _ _ _) (b2x (by omega)))))) ?_
  refine ar (av toR (jx (dj (dj (dj (dj (dj (az rfl) (gj _ _ _) x4) (gj _ _ _) wg) (dj (dj (az rfl) (gj _ _ _) x3) (gj _ _ _) (a66.trans (aL d1))) wg) (gj _ _ _) (d3 _)) (gj _ _ _) (a9t (by decide))))) ?_
  rw [eq];refine ar (av toR (nq (dj (dj (dj (dj (dj (dj (az rfl) (gj _ _ _) (a66.trans (aL d2))) (dj (az rfl) (gj _ _ _) x3) wg) (gj _ _ _) (d4 _)) (gj _ _ _) (a9t (by decide))) (gj _ _ _) (div_ii ⟨by decide,by decide⟩)) (az rfl) (a9t m0)))) ?_
  rw [er];rfl
 by_cases hA:l=0/\a<(cells.length:Int)
 ·obtain ⟨rfl,ha⟩:=hA;obtain ⟨j,rfl⟩:=bN a0;have hj:j<cells.length:=by omega
  have gx:∀ {h:Hd},gIx (.rol (cells.map D.int)) (.int (j:Nat)) h = .ok (.int cells[j]) h:=λ{h}=>am6 (by rw [aE,af hj];rfl)
  have tt:∀ {c s:Int} {t2 t3:Option D},a82 (sT (s2 hEq (s2 gIx (sV 0) (sC (.int 2))) (sC (.int 0)))) (sT (s2 gLt (s2 gIx (sV 0) (sC (.int 1))) (sA v6 (ak (s2 gIx (sV 0) (sC (.int 0))) dh)))) [some (.ref 0),some (.int m),t2,t3] [so cells (j:Nat) 0 c s] = .ok true [so cells (j:Nat) 0 c s]:=λ{c s t2 t3} =>
   aoe (tof (dj (dj (az rfl) (gj _ _ _) x2) (gj _ _ _) (a8t rfl))) (tof (dj (dj (az rfl) (gj _ _ _) x1) (xg (dj (az rfl) (gj _ _ _) x0) (a2q.trans (by rw [aA]))) (aof ha)))
  have s2':0<=(s*31+cells[j]) % 2147483647:=dZ _ (by decide)
  have s3:(s*31+cells[j]) % 2147483647<2147483647:=dC _ (by decide)
  have go:∀ {o':O} {g:SS},sIf (sT (s2 gGe (sV 2) (s2 a93 (sC (.int 10)) (sC (.int 18))))) (af8 (sV 2) (sV 0) (sC (.int 2))) (af8 (s2 a75 (s2 jz (s2 a0b (s2 gIx (sV 0) (sC (.int 4))) (sC (.int 31))) (sV 2)) (sC (.int 2147483647))) (sV 0) (sC (.int 4))) [some (.ref 0),some (.int m),some (.int cells[j]),none] [so cells ((j:Nat)+1) 0 (c+1) s] = .nx [some (.ref 0),some (.int m),some (.int cells[j]),none] [o']->
    toR (j6 (a4s a1q (sV 0) (sC (.int 3)) (sC (.int 1))) (j6 (sIf (a82 (sT (s2 hEq (s2 gIx (sV 0) (sC (.int 2))) (sC (.int 0)))) (sT (s2 gLt (s2 gIx (sV 0) (sC (.int 1))) (sA v6 (ak (s2 gIx (sV 0) (sC (.int 0))) dh))))) (j6 (m5 2 (s2 gIx (s2 gIx (sV 0) (sC (.int 0))) (s2 gIx (sV 0) (sC (.int 1))))) (j6 (a4s a1q (sV 0) (sC (.int 1)) (sC (.int 1))) (sIf (sT (s2 gGe (sV 2) (s2 a93 (sC (.int 10)) (sC (.int 18))))) (af8 (sV 2) (sV 0) (sC (.int 2))) (af8 (s2 a75 (s2 jz (s2 a0b (s2 gIx (sV 0) (sC (.int 4))) (sC (.int 31))) (sV 2)) (sC (.int 2147483647))) (sV 0) (sC (.int 4)))))) sNx) g) [some (.ref 0),some (.int m),none,none] [so cells (j:Nat) 0 c s])=toR (g [some (.ref 0),some (.int m),some (.int cells[j]),none] [o']):=λ{o' g} e=>by
   refine ar (av toR (yf (u3 rfl))) ?_;refine av toR (yf (ar (ifT tt) ?_));refine ar (jx (dj (dj (az rfl) (gj _ _ _) x0) (dj (az rfl) (gj _ _ _) x1) gx)) ?_;exact ar (yf (u1 rfl)) e
  generalize cells[j]=x at *
  by_cases hB:(1000000000000000000:Int)<=x
  ·refine ⟨x % m,_,(go (o':=so cells ((j:Nat)+1) x (c+1) s) (ar (ifT (tof (dj (az rfl) (dj (gj _ _ _) (gj _ _ _) p18) (b4t hB)))) (atw (az rfl) (az rfl) (gj _ _ _) rfl))).trans (e1 (by omega)),dZ _ (by omega),dC _ m0,⟨cells,(j:Int)+1,x / m,c+1,s,rfl,by omega,Int.ediv_nonneg (by omega) (by omega),s0,s1,by omega,by omega⟩⟩
  ·obtain ⟨r,r0,r1,e⟩:=e2 (a:=(j:Nat)+1) (t2:=some (.int x)) s2' s3;exact ⟨r,_,(go (o':=so cells ((j:Nat)+1) 0 (c+1) ((s*31+x) % 2147483647)) (ar (ifF (tof (dj (az rfl) (dj (gj _ _ _) (gj _ _ _) p18) (b4u hB)))) (atw (dj (dj (dj (dj (az rfl) (gj _ _ _) x4) (gj _ _ _) (a66.trans (aL (.inr ⟨by decide,by decide⟩)))) (az rfl) wg) (gj _ _ _) (a9t (by decide))) (az rfl) (gj _ _ _) rfl))).trans e,r0,r1,⟨cells,(j:Int)+1,0,c+1,_,rfl,by omega,by omega,s2',s3,by omega,by omega⟩⟩
 ·have tt:a82 (sT (s2 hEq (s2 gIx (sV 0) (sC (.int 2))) (sC (.int 0)))) (sT (s2 gLt (s2 gIx (sV 0) (sC (.int 1))) (sA v6 (ak (s2 gIx (sV 0) (sC (.int 0))) dh)))) [some (.ref 0),some (.int m),none,none] [so cells a l (c+1) s] = .ok false [so cells a l (c+1) s]:=by
   by_cases hl:l=0
   ·exact aoe (tof (dj (dj (az rfl) (gj _ _ _) x2) (gj _ _ _) (a8t hl))) (tof (dj (dj (az rfl) (gj _ _ _) x1) (xg (dj (az rfl) (gj _ _ _) x0) (a2q.trans (by rw [aA]))) (aq4 λz=>hA ⟨hl,z⟩)))
   ·exact ayl (tof (dj (dj (az rfl) (gj _ _ _) x2) (gj _ _ _) (abg hl)))
  by_cases hC:0<l
  ·exact ⟨l % m,_,(av toR (yf (u3 rfl))).trans ((av toR (ifN tt)).trans (e1 hC)),dZ _ (by omega),dC _ m0,⟨cells,a,l / m,c+1,s,rfl,a0,Int.ediv_nonneg (by omega) (by omega),s0,s1,by omega,by omega⟩⟩
  ·have:l=0:=by omega
   subst this;obtain ⟨r,r0,r1,e⟩:=e2 (a:=a) (t2:=none) s0 s1;exact ⟨r,_,(av toR (yf (u3 rfl))).trans ((av toR (ifN tt)).trans e),r0,r1,⟨cells,a,0,c+1,s,rfl,a0,by omega,s0,s1,by omega,by omega⟩⟩
theorem vg(P:Src o N)(hN:N<=1000000000)(m0:0<m)(m1:m<1073741824):∃ r o',Dr aj 2 [.int m] o (.int r) o'/\0<=r/\r<m/\Src o' (N+1):=by
 obtain ⟨r,o',e,r0,r1,P'⟩:=aku P hN m0 m1;refine ⟨r,o',Dr.of rfl (by simp [jk]) P.clo e (ju (jk _) ?_) (jk _) P'.clo,r0,r1,P'⟩
 intro u hu
 simp at hu
 subst hu;exact ww (by omega) P'.clo
end SRC
namespace EVX
open PySem PySem.Spec L2 MI
section
variable{i:Nat}{cs:Str->Bool}{fb fs p g:SS}{τ τ1 τ2:Sd}{h h1 h2:Hd}{c:Str}{f:SE}{ka:SA}{ds:List D}{F:SF}{n:Nat}
theorem azr(e:ka τ h = .ok ds h1):sA F ka τ h=F ds h1:=by unfold sA;rw [e];rfl
theorem uy(e:f τ h = .ok d h1)(e2:ka τ h1 = .ok ds h2):ak f ka τ h = .ok (d::ds) h2:=by
 unfold ak;rw [e,cu,e2];rfl
theorem aty{G:List D->Hd->R D}{f1 f2 f3 f4:SE}{h3 h4 h5:Hd}{a b c d v:D}(e1:f1 τ h = .ok a h1)(e2:f2 τ h1 = .ok b h2)(e3:f3 τ h2 = .ok c h3)(e4:f4 τ h3 = .ok d h4)(e5:G [a,b,c,d] h4 = .ok v h5):sA G (ak f1 (ak f2 (ak f3 (ak f4 dh)))) τ h = .ok v h5:=by
 have:ak f1 (ak f2 (ak f3 (ak f4 dh))) τ h = .ok [a,b,c,d] h4:=by unfold ak;rw [e1,cu,e2,cu,e3,cu,e4];rfl
 unfold sA;rw [this,cu,e5]
end
end EVX
namespace SRC
open PySem PySem.Spec L2 MI AT HND EVX
noncomputable def fu:SF:=qg a1a 2
theorem ints_map:∀ l:List Int,aam (l.map D.int)=some l
 | []=>rfl
 | a::l=>by rw [aZ];simp only [aam,ints_map l,i4]
theorem b4v(e:k τ h = .ok ds h1)(eg:g ds h1 = .ok d h2):sA g k τ h = .ok d h2:=by
 unfold sA;rw [e,cu,eg]
def cell(x:Int):Int:=2*b2f x+(if decide (x<0)=true then 1 else 0)
theorem akv(ns:List Int)(h:Hd):∃ o,Src o 0/\kj true 1 fu [.scr (ns.map D.int)] h = .ok (.ref h.length) (h++[o]):=by
 have cl:clos 0 ((ns.take 63).map D.int):=jq λx _=>jk x;have z1:sZ (a6s (sV 0) oN (oS (sC (.int 63)))) [some (.scr (ns.map D.int)),none] [] = .ok (.rol ((ns.take 63).map D.int)) []:=by
  refine xq (by
   show gSl (.scr (ns.map D.int)) none (some ((63:Nat):Int)) []=_;unfold gSl;simp only [aiu,List.map_take]) cl (by simp)
 have z2:sZ (m9 (sIt (sZ (a6s (sV 0) oN (oS (sC (.int 63)))))) t1 a0n []) [some (.scr (ns.map D.int)),none] [] = .ok (.rol ((ns.take 63).map λx=>D.int (cell x))) []:=by
  refine xq (uf D.int (λx=>D.int (cell x)) (ns.take 63) (a6y z1 rfl) (iy (by simp;omega)) λx _=>?_) (jq λx _=>jk _) (by simp)
  rw [vf];unfold a0n;exact dj (dj (gj _ _ _) (xg (az rfl) (ak5 _ _)) (a66.trans (aL (.inl ⟨by decide,by decide⟩)))) (xg (dj (az rfl) (gj _ _ _) rfl) rfl) wg
 have em:((ns.take 63).map λx=>D.int (cell x))=((ns.take 63).map cell).map D.int:=by rw [cp];rfl
 rw [em] at z2
 generalize (ns.take 63).map cell=cs at z2
 have e:fu [.scr (ns.map D.int)] [] = .ok (.ref 0) [.lst [.rol (cs.map D.int), .int 0, .int 0, .int 0, .int (cs.sum % 2147483647)]]:=by
  unfold fu;rw [jd];show toR (a1a [some (.scr (ns.map D.int)),none] [])=_;unfold a1a;refine ar (av toR (jx z2)) ?_;have su:awy [.rol (cs.map D.int)] [] = .ok (.int cs.sum) []:=by unfold awy;simp only [ints_map]
  exact av toR (nq (b4v (uy (az rfl) (uy (gj _ _ _) (uy (gj _ _ _) (uy (gj _ _ _) (uy (dj (xg (az rfl) su) (gj _ _ _) (a9t (by decide))) rfl))))) rfl))
 have P:Src (.lst [.rol (cs.map D.int), .int 0, .int 0, .int 0, .int (cs.sum % 2147483647)]) 0:=⟨cs,0,0,0,_,rfl,by decide,by decide,dZ _ (by decide),dC _ (by decide),by decide,by decide⟩
 exact ⟨_,P,axf rfl (by simpa [MI.clo] using (jq λx _=>jk x:clos 0 (ns.map D.int))) e rfl P.clo h⟩
noncomputable def du:SF:=qg a0o 1
theorem a7m:Pu du 0 [] (.str (S sig)):=HND.a7m
noncomputable def j5:SF:=qg (a1b aj du) 5
theorem aq5{a b:List Nat}(l:a.length+b.length<=LINE):a1q (.str (S a)) (.str (S b)) h = .ok (.str (S (a++b))) h:=by
 have:=a7d (h:=h) l
 simpa [a1q,jz,b3t] using this
theorem ayo(e:f τ h = .ok (.int i) h1):oS f τ h = .ok (some i) h1:=by unfold oS;rw [e];rfl
theorem ayp(e:f τ h = .ok d h1)(e1:lo τ h1 = .ok a h2)(e2:hi τ h2 = .ok b h3)(e3:am3 d a b h3 = .ok v h4):a6s f lo hi τ h = .ok v h4:=by
 unfold a6s;rw [e,cu,e1,cu,e2,cu,e3]
theorem akx(P:Src o N)(hN:N<=999999000):∃ l o',Tongue l/\Dr j5 1 [] o (.str (S l)) o'/\Src o' (N+7):=by
 obtain ⟨r0,o1,e1,r0a,r0b,P1⟩:=vg (m:=6) P (by omega) (by decide) (by decide)
 have lo:=qp (g:=kN 3) (b:=a0p aj du) (λi:Nat=>D.int (0+(i:Nat)))
  (λpre τ h=>∃ (rest told:List Nat) (u:O) (t3 t4:Option D),τ=[some (.ref 0),some (.str (S rest)),some (.str (S told)),t3,t4]/\h=[u]/\Src u (N+1+pre.length)/\told.length=pre.length/\(told++rest).length=95/\(told++rest).Nodup/\∀ c∈told++rest,c∈sig)
  (List.range (1+r0).toNat) [some (.ref 0),some (.str (S sig)),some (.str (S [])),none,none] [o1] ?_
  ⟨sig,[],o1,none,none,rfl,rfl,P1,rfl,by simp [abe],by simpa using aq1,by simp⟩
 ·obtain ⟨τ',h',e2,rest,told,u,t3,t4,rfl,rfl,P2,l1,l2,nd,sb⟩:=lo;rw [aT] at P2 l1;have T:Tongue told:=⟨by omega,by omega,(bY.mp nd).1,λc hc=>sb c (bG _ hc)⟩
  refine ⟨told,u,T,Dr.of rfl (by simp) P.clo (r:=.ok (.str (S told)) [u]) ?_ (ju (m7 _) (by simpa using ww (by omega) P2.clo)) (m7 _) P2.clo,P2.up (by omega)⟩
  unfold j5;rw [jd];show toR (a1b aj du [some (.ref 0),none,none,none,none] [o])=_;unfold a1b;have c2:kj false 2 aj [.ref 0, .int 6] [o] = .ok (.int r0) [o1]:=e1 0 [o] rfl;have bd:B62 (1+r0):=by unfold B62;omega
  refine ar (av toR (jx (b2v (a7m _)))) ?_;refine ar (av toR (jx (gj _ _ _))) ?_;have it:sRg xj (ak (s2 jz (sC (.int 1)) (sA (kj false 2 aj) (ak (sV 0) (ak (sC (.int 6)) dh)))) dh) [some (.ref 0),some (.str (S sig)),some (.str ""),none,none] [o] = .ok ⟨rng 0 (1+r0).toNat,λ_=>True⟩ [o1]:=by
   unfold sRg;rw [arg1 (dj (gj _ _ _) (a08 (az rfl) (gj _ _ _) c2) wg),cu];exact aL bd
  refine ar (av toR (a3w it)) ?_;refine ar (av (λz=>toR (MI.thn z _)) e2) ?_;exact av toR (nq (az rfl))
 ·rintro pre i post τ h all ⟨rest,told,u,t3,t4,rfl,rfl,P2,l1,l2,nd,sb⟩
  have hlen:pre.length<(1+r0).toNat:=by
   have:=av List.length all
   simp at this;omega
  rw [aw] at l2;obtain ⟨r,u',e2,ra,rb,P3⟩:=vg (m:=(rest.length:Nat)) P2 (by omega) (by omega) (by omega)
  obtain ⟨j,rfl⟩:=bN ra;have hj:j<rest.length:=by omega
  have gx:rest[j]? = some rest[j]:=af hj;have pp:=akr told rest j rest[j] gx;refine ⟨_,_,rfl,_,_,?_,rest.take j++rest.drop (j+1),told++[rest[j]],u',some (.int (0+(i:Nat))),some (.int (j:Nat)),rfl,rfl,by simpa [Nat.add_assoc] using P3,by simp [l1],?_,pp.nodup_iff.mp nd,λc hc=>sb c (pp.mem_iff.mpr hc)⟩
  ·unfold a0p;have L:∀ n:Nat,n<=95->n<=LINE:=λn hn=>by show n<=16777216;omega
   have c2:=e2 0 [u] rfl;have x1:∀ h,gIx (.str (S rest)) (.int (j:Nat)) h = .ok (.str (S [rest[j]])) h:=λh=>azk (L _ (by omega)) gx
   have x2:∀ h,v6 [.str (S rest)] h = .ok (.int rest.length) h:=λh=>ab9 (L _ (by omega))
   have x3:∀ h,a1q (.str (S told)) (.str (S [rest[j]])) h = .ok (.str (S (told++[rest[j]]))) h:=λh=>aq5 (L _ (by simp;omega))
   have x4:∀ h,am3 (.str (S rest)) none (some (j:Int)) h = .ok (.str (S (rest.take j))) h:=λh=>b2u j (L _ (by omega))
   have x5:∀ h,am3 (.str (S rest)) (some ((j:Int)+1)) none h = .ok (.str (S (rest.drop (j+1)))) h:=λh=>akq (j+1) (L _ (by omega))
   have x6:∀ h,jz (.str (S (rest.take j))) (.str (S (rest.drop (j+1)))) h = .ok (.str (S (rest.take j++rest.drop (j+1)))) h:=λh=>a7d (L _ (by simp;omega))
   have c2:kj false 2 aj [.ref 0, .int (rest.length:Nat)] [u] = .ok (.int (j:Nat)) [u']:=c2;refine ar (jx (a08 (az rfl) (xg (az rfl) (x2 _)) c2)) ?_;refine ar (yf (ahl rfl (dj (az rfl) (az rfl) (x1 _)) (x3 _))) ?_;exact aq2 (dj (ayp (az rfl) rfl (ayo (az rfl)) (x4 _)) (ayp (az rfl) (ayo (dj (az rfl) (gj _ _ _) wg)) rfl (x5 _)) (x6 _))
  ·rw [<-pp.length_eq];simpa using l2
end SRC
namespace HND
open PySem PySem.Spec L2 MI AT
theorem a01(h:List.range k=pre++i::post):i=pre.length/\i<k:=by
 have h1:=av (λl=>l[pre.length]?) h;have h2:=av List.length h;simp at h1 h2;have:pre.length<k:=by omega
 rw [ci this] at h1;simp at h1;omega
abbrev KOk(k:Int):Prop := -1<=k/\k<=5
abbrev bj(i:Nat):D:=.int (i:Nat)
theorem jr(l:List Nat):clos k (l.map bj):=jq λx _=>jk _
theorem all_map{α:Type}(f:α->D)(P:α->Prop):∀ (l:List D),(∀ x∈l,∃ r,P r/\x=f r)->∃ G:List α,l=G.map f/\∀ r∈G,P r
 | [],_=>⟨[],rfl,by simp⟩
 | x::l,h=>by
  obtain ⟨r,pr,rfl⟩:=h _ aK;obtain ⟨G,rfl,pG⟩:=all_map f P l λy hy=>h y (aG _ hy);exact ⟨r::G,rfl,λq hq=>by
   rcases aD.mp hq with rfl | h
   ·exact pr
   ·exact pG q h⟩
abbrev a1w(r:List Nat):D:=.tup (r.map bj)
abbrev aky(s n:Nat)(r:List Nat):Prop:=r.length=s/\∀ x∈r,x<n
structure Table where
 tg:List Nat
 go:List (List Nat)
 ks:List Int
def Table.d(T:Table):D:=.tup [.str (S T.tg), .tup (T.go.map a1w), .tup (T.ks.map D.int)]
structure Table.Ok (T:Table):Prop where
 tong:Tongue T.tg
 n1:1<=T.go.length
 n32:T.go.length<=32
 row:∀ r∈T.go,aky T.tg.length T.go.length r
 kl:T.ks.length=T.go.length
 k0:T.ks[0]? = some (-1)
 kk:∀ k∈T.ks,KOk k
theorem Table.clo{T:Table}:clo 0 T.d:=u5 (mj (m7 _) (mj (u5 (jq λx _=>u5 (jr _))) (mj (u5 (jq λx _=>jk x)) yt)))
end HND
namespace MI
open PySem PySem.Spec L2
end MI
namespace PAP
open PySem PySem.Spec L2 MI AT HND
theorem aq6(l:List Nat)(h:Hd):amx (.str (S l)) h = .ok ⟨l.map λc=>.str (S [c]),λ_=>True⟩ h:=by
 show R.ok (⟨a0i (S l),λ_=>True⟩:Itm) _=_;unfold a0i;rw [a1n]
theorem ayq{h h':Hd}(hl:h'.length=h.length)(e:f τ h = .ok (.ref h'.length) (h'++[.lst xs]))(cx:clos h.length xs)(c:∀ o∈h',a6n h.length o):sZ f τ h = .ok (.rol xs) h':=by
 unfold sZ;rw [e,a0z (by omega) (by simp) cx (by rw [<-hl];simpa [hl] using c)]
 rw [<-hl];simp
end PAP
namespace SRC
open PySem PySem.Spec L2 MI AT HND EVX
theorem b2z(c:x<=y):gLe (.int x) (.int y) h = .ok (.bl true) h:=by
 show R.ok (D.bl (decide (x<=y))) h=_;rw [aQ c]
theorem b36(c:¬ x<=y):gLe (.int x) (.int y) h = .ok (.bl false) h:=by
 show R.ok (D.bl (decide (x<=y))) h=_;rw [aU c]
theorem av3(e1:c τ h = .ok true h1)(e2:f τ h1=r):acg c f g τ h=r:=by unfold acg;rw [e1,cu,aL rfl];exact e2
theorem atz(e1:c τ h = .ok false h1)(e2:g τ h1=r):acg c f g τ h=r:=by unfold acg;rw [e1,cu,aY (by simp)];exact e2
noncomputable def jg:SF:=qg (a2e aj) 8
abbrev a95(r:List Nat):D:=.rol (r.map bj)
theorem ahm{ks:List Int}(P:Src o N)(hN:N<=999999000)(l:ks.length<=100) :
  ∃ (u:O) (k:Int),yu aj [some (.ref 0),some t,some n,some (.ref 1),x,y,none,none] [o, .lst (ks.map D.int)] = .nx [some (.ref 0),some t,some n,some (.ref 1),x,y,none,none] [u, .lst ((ks++[k]).map D.int)]/\Src u (N+2)/\KOk k:=by
 obtain ⟨a,o1,e1,a0,a1,P1⟩:=vg (m:=5) P (by omega) (by omega) (by omega)
 obtain ⟨b,o2,e2,b0,b1,P2⟩:=vg (m:=6) P1 (by omega) (by omega) (by omega)
 have c1:kj false 2 aj [.ref 0, .int 5] [o, .lst (ks.map D.int)] = .ok (.int a) [o1, .lst (ks.map D.int)]:=e1 0 _ rfl;have c2:kj false 2 aj [.ref 0, .int 6] [o1, .lst (ks.map D.int)] = .ok (.int b) [o2, .lst (ks.map D.int)]:=e2 0 _ rfl;unfold yu
 by_cases ha:a<2
 ·refine ⟨o2,b,?_,P2,by omega⟩
  rw [bb];exact a67 (az rfl) rfl (arg1 (av3 (tof (dj (a08 (az rfl) (gj _ _ _) c1) (gj _ _ _) (aof ha))) (a08 (az rfl) (gj _ _ _) c2))) (a68 (xs:=ks.map D.int) rfl (by rw [aA];exact a3z (by omega)))
 ·refine ⟨o1, -1,?_,P1.up (by omega),by decide⟩
  rw [bb];exact a67 (az rfl) rfl (arg1 (atz (tof (dj (a08 (az rfl) (gj _ _ _) c1) (gj _ _ _) (aq4 ha))) (ad9 (gj _ _ _) (a3y _)))) (a68 (xs:=ks.map D.int) rfl (by rw [aA];exact a3z (by omega)))
abbrev HR(u:O)(ks:List Int)(rows:List (List Nat)):Hd:=[u, .lst (ks.map D.int), .lst (rows.map a95)]
abbrev τR(tg:List Nat)(n:Nat)(i m:Option D)(r:Option D):Sd:=[some (.ref 0),some (.str (S tg)),some (bj n),some (.ref 1),i,m,some (.ref 2),r]
theorem aq7(P:Src u N)(k:Nat):∀ o∈HR u ks rows,a6n k o:=by
 intro o ho
 simp only [aD,aN,bT] at ho
 rcases ho with rfl | rfl | rfl
 ·exact ww (bL _) P.clo
 ·exact ww (bL _) (jq λx _=>jk x)
 ·exact ww (bL _) (jq λx _=>wu (jr _))
theorem akz{tg:List Nat}(P:Src u N)(hN:N<=999999000)(t6:tg.length<=6)(n1:1<=n)(n32:n<=32) :
  ∃ (u':O) (row:List Nat),aky tg.length n row/\Src u' (N+6)/\sZ (m9 (sIt (sV 1)) t1 (yw aj) [0,2]) (τR tg n i m r) (HR u ks rows) = .ok (a95 row) (HR u' ks rows):=by
 have mp:=aay (f:=a92 t1 (yw aj) (frs' [0,2] (τR tg n i m r))) (λc:Nat=>D.str (S [c]))
  (λpre ys h=>∃ (u':O) (row:List Nat),h=HR u' ks rows/\Src u' (N+pre.length)/\ys=row.map bj/\row.length=pre.length/\∀ x∈row,x<n)
  tg [] [] (HR u ks rows) ?_ ⟨u,[],rfl,P,rfl,rfl,by simp⟩
 ·obtain ⟨zs,h',em,u',row,rfl,P',ez,rl,rx⟩:=mp;rw [cF] at ez rl P';subst ez;refine ⟨u',row,⟨rl,rx⟩,P'.up (by omega),?_⟩
  refine PAP.ayq rfl ?_ (jr _) (aq7 P' _);unfold m9;rw [a6y (az rfl) (PAP.aq6 tg _),cu];dsimp only;rw [aL (by rw [aA];exact iy (by omega)),em]
  rfl
 ·rintro pre c post ys h all ⟨u',row,rfl,P',rfl,rl,rx⟩
  rw [cF] at all;have pl:pre.length<tg.length:=by rw [all];simp
  obtain ⟨x,u2,e,x0,x1,P2⟩:=vg (m:=(n:Nat)) P' (by omega) (by omega) (by omega)
  obtain ⟨j,rfl⟩:=bN x0;have c1:kj false 2 aj [.ref 0,bj n] (HR u' ks rows) = .ok (bj j) (HR u2 ks rows):=e 0 _ rfl;refine ⟨bj j,HR u2 ks rows,?_,u2,row++[j],rfl,P2.up (by rw [aw,ay];omega),by rw [bb];rfl,by rw [aw,aw,ay,ay,rl],λy hy=>?_⟩
  ·rw [vf];unfold yw;exact a08 (az rfl) (az rfl) c1
  ·rcases aS.mp hy with z | z
   ·exact rx y z
   ·rw [ai] at z;subst z;omega
theorem al0{row:List Nat}(P:Src u N)(rl:row.length<=100)(fx:∀ x,x∈row->fe (some (bj x)::frs' ix (τR tg n i m (some (a95 row)))) (HR u ks rows) = .ok (bj (f x)) (HR u ks rows)) :
  sZ (m9 (sIt (sV 7)) t1 fe ix) (τR tg n i m (some (a95 row))) (HR u ks rows) = .ok (a95 (row.map f)) (HR u ks rows):=by
 unfold a95;rw [cp];refine xq (uf bj (bj ∘ f) row (a6y (az rfl) rfl) (iy (by omega)) λx hx=>?_) (jq λy _=>jk _) (aq7 P _)
 rw [vf];exact fx x hx
theorem ahn{tg:List Nat}{ks:List Int}{rows:List (List Nat)}(P:Src u N)(hN:N<=999999000)(t6:tg.length<=6)(n1:1<=n)(n32:n<=32)(lk:ks.length=n)(hi:i<n)(lr:rows.length<=100) :
  ∃ (u':O) (row:List Nat) (r':Option D),aky tg.length n row/\Src u' (N+6)/\yx aj (τR tg n (some (bj i)) (some (.int m)) r) (HR u ks rows) = .nx (τR tg n (some (bj i)) (some (.int m)) r') (HR u' ks (rows++[row])):=by
 obtain ⟨u',row,⟨l1,x1⟩,P',e1⟩:=akz (i:=some (bj i)) (m:=some (.int m)) (r:=r) (ks:=ks) (rows:=rows) P hN t6 n1 n32;have fin:∀ row:List Nat,a2b (sML a9h (sV 6) (ak (sV 7) dh)) (τR tg n (some (bj i)) (some (.int m)) (some (a95 row))) (HR u' ks rows) = .nx (τR tg n (some (bj i)) (some (.int m)) (some (a95 row))) (HR u' ks (rows++[row])):=λrow=>by
  unfold HR;rw [bb];exact a67 (az rfl) rfl (arg1 (az rfl)) (a68 (xs:=rows.map a95) rfl (by rw [aA];exact a3z (by omega)))
 have third:∀ row:List Nat,aky tg.length n row->∃ row',aky tg.length n row'/\j6 (sIf (a82 (sT (s2 hEq (sV 5) (sC (.int 1)))) (sT (s2 hEq (sV 4) (s2 abu (sV 2) (sC (.int 1))))))
   (m5 7 (sZ (m9 (sIt (sV 7)) t1 (a1h aj) [4]))) sNx) (a2b (sML a9h (sV 6) (ak (sV 7) dh))) (τR tg n (some (bj i)) (some (.int m)) (some (a95 row))) (HR u' ks rows) = .nx (τR tg n (some (bj i)) (some (.int m)) (some (a95 row'))) (HR u' ks (rows++[row'])):=λrow ⟨l2,x2⟩=>by
  by_cases h1:m=1
  ·by_cases h2:(i:Int)=(n:Int) - 1
   ·refine ⟨row.map λ_=>i,⟨by rw [aA,l2],λx hx=>by obtain ⟨_,_,rfl⟩:=bA.mp hx;exact hi⟩,?_⟩
    refine ar (yf (ar (ifT (aoe (tof (dj (az rfl) (gj _ _ _) (a8t h1))) (tof (dj (az rfl) (dj (az rfl) (gj _ _ _) (a9u _ _)) (a8t h2))))) (aq2 (al0 (f:=λ_=>i) P' (by omega) λx _=>by unfold a1h;exact az rfl)))) ?_
    exact fin _
   ·refine ⟨row,⟨l2,x2⟩,?_⟩;refine ar (ifN (aoe (tof (dj (az rfl) (gj _ _ _) (a8t h1))) (tof (dj (az rfl) (dj (az rfl) (gj _ _ _) (a9u _ _)) (abg h2))))) ?_;exact fin _
  ·refine ⟨row,⟨l2,x2⟩,?_⟩;refine ar (ifN (ayl (tof (dj (az rfl) (gj _ _ _) (abg h1))))) ?_;exact fin _
 unfold yx
 by_cases h0:0<m
 ·let g:Nat->Nat:=λx=>if (ks[x]?).getD 0<0/\x<=i then n - 1 else x
  have gl:aky tg.length n (row.map g):=⟨by rw [aA,l1],λx hx=>by
   obtain ⟨y,hy,rfl⟩:=bA.mp hx;have:=x1 y hy;show (if _ then n - 1 else y)<n
   split
   ·exact Nat.sub_lt (by omega) (by decide)
   ·exact this⟩
  obtain ⟨row',q,e3⟩:=third _ gl;refine ⟨u',row',some (a95 row'),q,P',?_⟩;refine ar (jx e1) ?_;refine ar (yf (ar (ifT (tof (dj (az rfl) (gj _ _ _) (b2w h0)))) (aq2 (al0 (f:=g) P' (by omega) λx hx=>?_)))) ?_
  ·unfold a4v;have hx':=x1 x hx;have kx:ks[x]? = some ((ks[x]?).getD 0):=by rw [af (by omega)];rfl
   have ki:∀ h:Hd,h[1]? = some (.lst (ks.map D.int))->gIx (.ref 1) (bj x) h = .ok (.int ((ks[x]?).getD 0)) h:=λh hh=>a3x hh (by rw [aE,kx];rfl)
   have sb:s2 abu (sV 1) (sC (.int 1)) (some (bj x)::frs' [2,3,4] (τR tg n (some (bj i)) (some (.int m)) (some (a95 row)))) (HR u' ks rows) = .ok (bj (n - 1)) (HR u' ks rows) :=
    (dj (az rfl) (gj _ _ _) (a9u _ _)).trans (by show R.ok (D.int ((n:Int) - 1)) _=R.ok (D.int ((n - 1:Nat):Int)) _;congr 2;omega)
   by_cases hk:(ks[x]?).getD 0<0
   ·by_cases hx:x<=i
    ·show _=R.ok (bj (if _ then n - 1 else x)) _
     rw [aL ⟨hk,hx⟩];exact av3 (aoe (tof (dj (dj (az rfl) (az rfl) (ki _ rfl)) (gj _ _ _) (aof hk))) (tof (dj (az rfl) (az rfl) (b2z (by omega))))) sb
    ·show _=R.ok (bj (if _ then n - 1 else x)) _
     rw [aY λz=>hx z.2];exact atz (aoe (tof (dj (dj (az rfl) (az rfl) (ki _ rfl)) (gj _ _ _) (aof hk))) (tof (dj (az rfl) (az rfl) (b36 (by omega))))) (az rfl)
   ·show _=R.ok (bj (if _ then n - 1 else x)) _
    rw [aY λz=>hk z.1];exact atz (ayl (tof (dj (dj (az rfl) (az rfl) (ki _ rfl)) (gj _ _ _) (aq4 hk)))) (az rfl)
  ·exact e3
 ·obtain ⟨row',q,e3⟩:=third _ ⟨l1,x1⟩;refine ⟨u',row',some (a95 row'),q,P',?_⟩;refine ar (jx e1) ?_;refine ar (ifN (tof (dj (az rfl) (gj _ _ _) (b2x h0)))) ?_;exact e3
theorem al3:a6g 1 (HR u ks rows) FU (.tup [.ref 2, .ref 1])=some (.tup [.rol (rows.map a95), .rol (ks.map D.int)]):=by
 have oc:∀ {k:Nat} {d d':D} {ds ds':List D},a6g 1 (HR u ks rows) k d=some d'->a3c (a6g 1 (HR u ks rows) k) ds=some ds'->a3c (a6g 1 (HR u ks rows) k) (d::ds)=some (d'::ds'):=λe1 e2=>by unfold a3c;rw [e1,e2]
 refine ani (k:=19) (oc (aaw (k:=17) (by omega) rfl (jq λx _=>wu (jr _))) (oc (aaw (k:=17) (by omega) rfl (jq λx _=>jk x)) rfl)) ?_
 intro z
 have:=a4h.mp z (.ref 2) aK
 simp only [MI.clo] at this;omega
theorem aog{tg:List Nat}(P:Src o N)(hN:N<=999990000)(t6:tg.length<=6)(n1:1<=n)(n32:n<=32) :
  ∃ (ks:List Int) (rows:List (List Nat)) (o':O),ks.length=n/\ks[0]? = some (-1)/\(∀ k∈ks,KOk k)/\rows.length=n/\(∀ r∈rows,aky tg.length n r) /\
   Dr jg 3 [.str (S tg),bj n] o (.tup [.rol (rows.map a95), .rol (ks.map D.int)]) o'/\Src o' (N+300):=by
 have lo:=qp (g:=kN 4) (b:=yu aj) (λi:Nat=>D.int ((1+i:Nat)))
  (λpre τ h=>∃ (u:O) (ks:List Int) (t4:Option D),τ=[some (.ref 0),some (.str (S tg)),some (bj n),some (.ref 1),t4,none,none,none]/\h=[u, .lst (ks.map D.int)]/\Src u (N+2*pre.length)/\ks.length=1+pre.length/\ks[0]? = some (-1)/\∀ k∈ks,KOk k)
  (List.range (n - 1)) [some (.ref 0),some (.str (S tg)),some (bj n),some (.ref 1),none,none,none,none] [o, .lst ([-1].map D.int)] ?_
  ⟨o,[-1],none,rfl,rfl,P,rfl,rfl,by intro k hk;rw [ai] at hk;subst hk;decide⟩
 ·obtain ⟨τ',h',e1,u,ks,t4,rfl,rfl,P1,l1,k0,kk⟩:=lo;rw [aT] at P1 l1;obtain ⟨m,u1,e2,m0,m1,P2⟩:=vg (m:=3) P1 (by omega) (by omega) (by omega)
  have c2:kj false 2 aj [.ref 0, .int 3] [u, .lst (ks.map D.int)] = .ok (.int m) [u1, .lst (ks.map D.int)]:=e2 0 _ rfl;have lp:=qp (g:=kN 4) (b:=yx aj) (λi:Nat=>D.int (i:Nat))
   (λpre τ h=>∃ (u':O) (rows:List (List Nat)) (i r:Option D),τ=τR tg n i (some (.int m)) r/\h=HR u' ks rows/\Src u' (N+100+6*pre.length)/\rows.length=pre.length/\∀ r∈rows,aky tg.length n r)
   (List.range n) (τR tg n t4 (some (.int m)) none) (HR u1 ks []) ?_ ⟨u1,[],_,_,rfl,rfl,P2.up (by omega),rfl,by simp⟩
  ·obtain ⟨τ',h',e3,u',rows,i,r,rfl,rfl,P3,lr,rr⟩:=lp;rw [aT] at P3 lr;have ca:MI.clo 0 (.tup [.rol (rows.map a95), .rol (ks.map D.int)]):=u5 (mj (wu (jq λx _=>wu (jr _))) (mj (wu (jq λy _=>jk y)) yt));refine ⟨ks,rows,u',by omega,k0,kk,lr,rr,Dr.of rfl ?_ P.clo (r:=.ok (.tup [.ref 2, .ref 1]) (HR u' ks rows)) ?_ (aax al3 (by intro x hx;rw [show List.take 1 (HR u' ks rows)=[u'] from rfl,ai] at hx;subst hx;exact ww (by omega) P3.clo)) ca P3.clo,P3.up (by omega)⟩
   ·intro x hx
    simp only [aD,aN,bT] at hx
    rcases hx with rfl | rfl
    ·exact m7 _
    ·exact jk _
   ·unfold jg;rw [jd];show toR (a2e aj [some (.ref 0),some (.str (S tg)),some (bj n),none,none,none,none,none] [o])=_;unfold a2e;refine ar (av toR (jx (d:=.ref 1) (h1:=[o, .lst ([-1].map D.int)]) rfl)) ?_;refine ar (av toR (a3w (abf (a:=1) (n:=n) (gj _ _ _) (az rfl) (iy (by omega)) (iy (by omega))))) ?_
    refine ar (av (λz=>toR (MI.thn z _)) e1) ?_;rw [a1t];refine ar (av toR (jx (a08 (az rfl) (gj _ _ _) c2))) ?_;refine ar (av toR (jx (d:=.ref 2) (h1:=HR u1 ks []) rfl)) ?_;refine ar (av toR (a3w (a5f (n:=n) (az rfl) (iy (by omega))))) ?_
    refine ar (av (λz=>toR (MI.thn z _)) e3) ?_;rw [a1t];exact av toR (nq (a08 (az rfl) (az rfl) ahy))
  ·rintro pre i post τ h all ⟨u',rows,i',r,rfl,rfl,P3,lr,rr⟩
   obtain ⟨hi,hk⟩:=a01 all;obtain ⟨u2,row,r',q,P4,e4⟩:=ahn (i:=i) (m:=m) (r:=r) (ks:=ks) (rows:=rows) P3 (by omega) t6 n1 n32 (by omega) hk (by omega)
   refine ⟨_,_,rfl,_,_,e4,u2,rows++[row],_,_,rfl,rfl,P4.up (by rw [aw,ay];omega),by rw [aw,aw,ay,ay,lr],λx hx=>?_⟩
   rcases aS.mp hx with z | z
   ·exact rr x z
   ·rw [ai] at z;subst z;exact q
 ·rintro pre i post τ h all ⟨u,ks,t4,rfl,rfl,P2,l1,k0,kk⟩
  obtain ⟨hi,hk⟩:=a01 all;obtain ⟨u',k,e3,P3,hk3⟩:=ahm (ks:=ks) (t:=.str (S tg)) (n:=bj n) (x:=some (.int ((1+i:Nat):Int))) (y:=none) P2 (by omega) (by omega)
  refine ⟨_,_,rfl,_,_,e3,u',ks++[k],_,rfl,rfl,P3.up (by rw [aw,ay];omega),by rw [aw,aw,ay,ay];omega,?_,λq hq=>?_⟩
  ·rw [aC (by omega)];exact k0
  ·rcases aS.mp hq with h | h
   ·exact kk q h
   ·rw [ai] at h;subst h;exact hk3
end SRC
namespace BF
def num(s:Nat):List Nat->Nat
 | []=>0
 | c::p=>num s p*s+c+1
def walk(step:Nat->Nat->Nat)(r:Nat):List Nat->Nat
 | []=>r
 | c::p=>step (walk step r p) c
def Ok(s:Nat)(w:List Nat):Prop:=∀ c∈w,c<s
theorem Ok.nil:Ok s []:=λ_ h=>by simp at h
theorem Ok.cons{s c:Nat}{p:List Nat}(hc:c<s)(h:Ok s p):Ok s (c::p):=λd hd=>by
 rcases aD.mp hd with rfl | hd
 ·exact hc
 ·exact h d hd
theorem Ok.head(h:Ok s (c::p)):c<s:=h c aK
theorem Ok.tail(h:Ok s (c::p)):Ok s p:=λd hd=>h d (aG _ hd)
theorem aq8{s a b:Nat}(h:a<b):a*s+s<=b*s:=by
 have:(a+1)*s<=b*s:=cq s h
 rw [gV,Nat.one_mul] at this;exact this
theorem al4{s a b c d:Nat}(h:a<b)(hc:c<s):a*s+c+1<b*s+d+1:=by
 have:=aq8 (s:=s) h
 omega
theorem abh:∀ {u v:List Nat},Ok s u->Ok s v->num s u=num s v->u=v
 | [],[],_,_,_=>rfl
 | [],_::_,_,_,e=>by simp [num] at e
 | _::_,[],_,_,e=>by simp [num] at e
 | c::p,d::q,hu,hv,e=>by
  simp only [num] at e;have h1:=hu.head;have h2:=hv.head
  rcases dJ (num s p) (num s q) with h | h | h
  ·have:=al4 (d:=d) h h1;omega
  ·have:=abh hu.tail hv.tail h
   subst this;have:c=d:=by omega
   rw [this]
  ·have:=al4 (d:=c) h h2;omega
section
variable{s:Nat}{step:Nat->Nat->Nat}{r0:Nat}{hit:List Nat->Prop}
structure St (s:Nat) (step:Nat->Nat->Nat) (r0:Nat) (hit:List Nat->Prop) (found:List (List Nat)) (F:Nat):Prop where
 ok:∀ w∈found,Ok s w
 inc:found.Pairwise λu v=>num s u<num s v
 dis:found.Pairwise λu v=>walk step r0 u≠walk step r0 v
 com:∀ w,Ok s w->num s w<F->¬ hit w/\∃ v∈found,walk step r0 v=walk step r0 w/\num s v<=num s w
 low:∀ w∈found,num s w<F
 len:∀ (j:Nat) w,found[j]? = some w->w.length<=j
theorem St.start(h0:¬ hit []):St s step r0 hit [[]] 1:=by
 refine ⟨by simp [Ok.nil],by simp,by simp,λw hw hn=>?_,by simp [num],λj w e=>?_⟩
 rotate_left
 ·cases j with
  | zero=>simp at e;subst e;exact ax _
  | succ j=>simp at e
 cases w with
 | nil=>exact ⟨h0,[],by simp,rfl,ax _⟩
 | cons c p=>simp only [num] at hn;omega
theorem St.seen(S:St s step r0 hit found F)(hw:Ok s w)(e:num s w=F)(nh:¬ hit w)(h:∃ v∈found,walk step r0 v=walk step r0 w):St s step r0 hit found (F+1):=by
 refine ⟨S.ok,S.inc,S.dis,λu hu hn=>?_,λu hu=>eE (S.low u hu),S.len⟩
 rcases Nat.lt_or_ge (num s u) F with h1 | h1
 ·exact S.com u hu h1
 ·have:u=w:=abh hu hw (by omega)
  subst this;obtain ⟨v,hv,e2⟩:=h;exact ⟨nh,v,hv,e2,dR (by rw [e];exact S.low v hv)⟩
theorem St.add(S:St s step r0 hit found F)(hw:Ok s w)(e:num s w=F)(nh:¬ hit w)(h:∀ v∈found,walk step r0 v≠walk step r0 w)(hlen:w.length<=found.length):St s step r0 hit (found++[w]) (F+1):=by
 refine ⟨λu hu=>?_,?_,?_,λu hu hn=>?_,λu hu=>?_,λj u e=>?_⟩
 ·rcases aS.mp hu with hu | hu
  ·exact S.ok u hu
  ·rw [ai.mp hu];exact hw
 ·refine fJ.mpr ⟨S.inc,by simp,λu hu v hv=>?_⟩
  rw [ai.mp hv,e];exact S.low u hu
 ·refine fJ.mpr ⟨S.dis,by simp,λu hu v hv=>?_⟩
  rw [ai.mp hv];exact h u hu
 ·rcases Nat.lt_or_ge (num s u) F with h1 | h1
  ·obtain ⟨a,v,hv,b⟩:=S.com u hu h1;exact ⟨a,v,bG _ hv,b⟩
  ·have:u=w:=abh hu hw (by omega)
   subst this;exact ⟨nh,u,by simp,rfl,ax _⟩
 ·rcases aS.mp hu with hu | hu
  ·exact eE (S.low u hu)
  ·rw [ai.mp hu];omega
 ·by_cases hj:j<found.length
  ·rw [aC hj] at e;exact S.len j u e
  ·rw [aF (by omega)] at e
   have:j - found.length=0:=by
    have:=(ah.mp e).1
    simp at this;omega
   rw [this] at e;simp at e;subst e;omega
theorem St.least(S:St s step r0 hit found F)(hv:Ok s v)(hh:hit v):F<=num s v :=
 eK λz=>(S.com v hv z).1 hh
theorem St.next{l:Nat}(hs:0<s)(hl:found[l]? = some w)(hl':found[l+1]? = some w')(S:St s step r0 hit found (num s w*s+s+1))(a2r:∀ c p q,walk step r0 p=walk step r0 q->(hit (c::p)↔hit (c::q))):St s step r0 hit found (num s w'*s+1):=by
 obtain ⟨h1,e1⟩:=ah.mp hl;obtain ⟨h2,e2⟩:=ah.mp hl';have lt:num s w<num s w':=by rw [<-e1,<-e2];exact bv.mp S.inc l (l+1) h1 h2 (by omega)
 have up:=aq8 (s:=s) lt;refine ⟨S.ok,S.inc,S.dis,λu hu hn=>?_,λu hu=>aR (S.low u hu) (by omega),S.len⟩
 rcases Nat.lt_or_ge (num s u) (num s w*s+s+1) with h3 | h3
 ·exact S.com u hu h3
 ·cases u with
  | nil=>simp only [num] at h3;omega
  | cons c p =>
   simp only [num] at hn h3 ⊢;have hc:=hu.head;have p1:num s p<num s w':=by
    refine Nat.lt_of_not_le λz=>?_;have:=cq s z;omega
   have p0:num s w<num s p:=by
    refine Nat.lt_of_not_le λz=>?_;have:=cq s z;omega
   have pw:num s p<num s w*s+s+1:=by
    have:=S.low w' (by rw [<-e2];exact bJ h2)
    omega
   obtain ⟨_,v,hv,ev,lv⟩:=S.com p hu.tail pw;obtain ⟨j,hj⟩:=bR hv;obtain ⟨h4,e4⟩:=ah.mp hj;have jl:j<=l:=by
    refine eK λz=>?_;have:num s w'<=num s v:=by
     rcases gB (show l+1<=j from z) with q | q
     ·rw [<-e2,<-e4];exact dR (bv.mp S.inc (l+1) j h2 h4 q)
     ·subst q;rw [<-e2,<-e4];exact ax _
    omega
   have vw:num s v<=num s w:=by
    rcases gB jl with q | q
    ·rw [<-e1,<-e4];exact dR (bv.mp S.inc j l h4 h1 q)
    ·subst q;rw [<-e1,<-e4];exact ax _
   have cv:num s (c::v)<num s w*s+s+1:=by
    simp only [num];have:=cq s vw;omega
   obtain ⟨nh,v',hv',ev',lv'⟩:=S.com (c::v) (Ok.cons hc (S.ok v hv)) cv;refine ⟨λz=>nh ((a2r c v p ev).mpr z),v',hv',?_,?_⟩
   ·rw [ev'];simp only [walk,ev]
   ·simp only [num] at lv';have:=cq s lv;omega
theorem St.all(hl:found[l]? = some w)(hn:found.length=l+1)(S:St s step r0 hit found (num s w*s+s+1))(h0:¬ hit [])(hz:[]∈found)(a2r:∀ c p q,walk step r0 p=walk step r0 q->(hit (c::p)↔hit (c::q))) :
  ∀ u,Ok s u->¬ hit u/\∃ v∈found,walk step r0 v=walk step r0 u/\num s v<=num s u
 | [],_=>⟨h0,[],hz,rfl,ax _⟩
 | c::p,hu=>by
  obtain ⟨_,v,hv,ev,lv⟩:=St.all hl hn S h0 hz a2r p hu.tail;have hc:=hu.head;obtain ⟨h1,e1⟩:=ah.mp hl;obtain ⟨j,hj⟩:=bR hv;obtain ⟨h4,e4⟩:=ah.mp hj;have vw:num s v<=num s w:=by
   rcases gB (show j<=l by omega) with q | q
   ·rw [<-e1,<-e4];exact dR (bv.mp S.inc j l h4 h1 q)
   ·subst q;rw [<-e1,<-e4];exact ax _
  have cv:num s (c::v)<num s w*s+s+1:=by
   simp only [num];have:=cq s vw;omega
  obtain ⟨nh,v',hv',ev',lv'⟩:=S.com (c::v) (Ok.cons hc (S.ok v hv)) cv;refine ⟨λz=>nh ((a2r c v p ev).mpr z),v',hv',?_,?_⟩
  ·rw [ev'];simp only [walk,ev]
  ·simp only [num] at lv' ⊢;have:=cq s lv;omega
end
theorem abi(s c:Nat):∀ x:List Nat,num s (x++[c])=(c+1)*s ^ x.length+num s x
 | []=>by simp [num]
 | a::x=>by
  show num s (x++[c])*s+a+1=_;rw [abi s c x,ba,gz,<-Nat.mul_assoc,num,gV];omega
theorem ag0:∀ {x y:List Nat},x.length=y.length->Ok s x->Ok s y->num s x<num s y+s ^ x.length
 | [],[],_,_,_=>by simp [num]
 | a::x,b::y,l,hx,hy=>by
  have ih:=ag0 (x:=x) (y:=y) (by simpa using l) hx.tail hy.tail
  have ha:=hx.head;simp only [num,ba,gz];have:=cq s (show num s x+1<=num s y+s ^ x.length from ih)
  rw [gV,gV,Nat.one_mul] at this;omega
theorem a9v(hs:0<s):∀ {x y:List Nat},x.length<y.length->Ok s x->num s x<num s y
 | [],b::y,_,_=>by simp [num]
 | a::x,b::y,l,hx=>by
  have:=a9v hs (x:=x) (y:=y) (by simpa using l) hx.tail
  exact al4 this hx.head
theorem a6a(step:Nat->Nat->Nat)(r c:Nat):∀ x:List Nat,walk step r (x++[c])=walk step (step r c) x
 | []=>rfl
 | a::x=>by show step (walk step r (x++[c])) a=_;rw [a6a step r c x];rfl
section
variable(s:Nat)(step:Nat->Nat->Nat)(K:Nat->Bool)
def fl:Nat->Nat->Bool
 | 0,r=>K r
 | k+1,r=>(List.range s).any λc=>fl k (step r c)
def fst(k r:Nat):Nat:=((List.range s).find? λc=>fl s step K k (step r c)).getD 0
def gre:Nat->Nat->List Nat
 | 0,_=>[]
 | k+1,r=>fst s step K k r::gre k (step r (fst s step K k r))
variable{s step K}
theorem aq9(h:fl s step K (k+1) r=true):fst s step K k r<s/\fl s step K k (step r (fst s step K k r))=true/\∀ d,d<fst s step K k r->fl s step K k (step r d)=false:=by
 unfold fst
 cases e:(List.range s).find? λc=>fl s step K k (step r c) with
 | none =>
  rw [cY] at e;simp only [fl,bD] at h;obtain ⟨c,hc,h⟩:=h;exact absurd h (e c hc)
 | some c =>
  simp only [cK];have h1:=i6 e;have h2:=eJ e;refine ⟨aP.mp h2,h1,λd hd=>?_⟩;rw [dL] at e;simpa using e.2.2 d hd
theorem ada:∀ {k r:Nat},fl s step K k r=true->(gre s step K k r).length=k/\Ok s (gre s step K k r).reverse/\K (walk step r (gre s step K k r).reverse)=true
 | 0,r,h=>⟨rfl,Ok.nil,h⟩
 | k+1,r,h=>by
  obtain ⟨h1,h2,_⟩:=aq9 h;obtain ⟨l,o,w⟩:=ada h2;refine ⟨by simp [gre,l],λc hc=>?_,?_⟩
  ·simp only [gre,dk,aS,ai] at hc
   rcases hc with hc | rfl
   ·exact o c hc
   ·exact h1
  ·rw [gre,dk,a6a];exact w
theorem aoh:∀ {u:List Nat} {r:Nat},Ok s u.reverse->K (walk step r u.reverse)=true->fl s step K u.length r=true
 | [],r,_,h=>h
 | c::u,r,o,h=>by
  rw [dk] at o h;rw [a6a] at h;simp only [ba,fl,bD];exact ⟨c,aP.mpr (o c (by simp)),aoh (λd hd=>o d (by simp [List.mem_reverse.mp hd])) h⟩
theorem adb:∀ {u:List Nat} {r:Nat},Ok s u.reverse->K (walk step r u.reverse)=true->num s (gre s step K u.length r).reverse<=num s u.reverse
 | [],r,_,_=>ax _
 | c::u,r,o,h=>by
  have hf:=aoh o h;obtain ⟨h1,h2,h3⟩:=aq9 (show fl s step K (u.length+1) r=true from hf)
  rw [dk] at o h;rw [a6a] at h;have ou:Ok s u.reverse:=λd hd=>o d (by simp [List.mem_reverse.mp hd])
  have hc:fl s step K u.length (step r c)=true:=aoh ou h;rw [ba,gre,dk,dk,abi,abi];obtain ⟨gl,go,_⟩:=ada h2
  rcases dJ c (fst s step K u.length r) with q | q | q
  ·rw [h3 c q] at hc;cases hc
  ·rw [<-q] at gl ⊢;have:=adb ou h;simp only [dM,gl] at this ⊢;omega
  ·have n:=ag0 (s:=s) (x:=(gre s step K u.length (step r (fst s step K u.length r))).reverse) (y:=u.reverse) (by simp [gl]) go ou
   simp only [dM,gl] at n ⊢;have:=cq (s ^ u.length) (show fst s step K u.length r+1+1<=c+1 by omega)
   rw [gV _ 1,Nat.one_mul] at this;omega
end
theorem a6b:∀ (n:Nat) (l:List Nat),l.Nodup->(∀ x∈l,x<n)->l.length<=n
 | 0,l,_,h=>by
  cases l with
  | nil=>exact ax _
  | cons x l=>exact absurd (h x aK) (by omega)
 | n+1,l,nd,h=>by
  have:=a6b n (l.erase n) (nd.erase n) λx hx=>by
   have h1:=h x (List.mem_of_mem_erase hx);have h2:x≠n:=λz=>by subst z;exact (List.Nodup.not_mem_erase nd) hx
   omega
  have:=List.length_erase (a:=n) (l:=l)
  split at this<;>omega
end BF
namespace SRC
open PySem PySem.Spec L2 MI AT HND EVX
theorem b37{ck:Hd->Prop}{f:D->Hd->R D}{α:Type}(g F:α->D){h:Hd}(c:ck h):∀ {xs:List α},(∀ x∈xs,f (g x) h = .ok (F x) h)->mapR ck f (xs.map g) h = .ok (xs.map F) h
 | [],_=>by rw [db,mapR,aL c];rfl
 | x::xs,st=>by
  rw [aZ,mapR,aL c,st x aK];show (mapR _ f (xs.map g) h).bind _=_;rw [b37 g F c λy hy=>st y (aG _ hy)];rfl
theorem au0{fi:SI}{t:D->Option Sd}{fe:SE}{ix:List Nat}{τ:Sd}{h:Hd}{α:Type}{ck:Hd->Prop}(g F:α->D)(xs:List α)(c:ck h)(e:fi τ h = .ok ⟨xs.map g,ck⟩ h)(z:xs.length<=LINE)
  (st:∀ x∈xs,a92 t fe (frs' ix τ) (g x) h = .ok (F x) h):m9 fi t fe ix τ h = .ok (.ref h.length) (h++[.lst (xs.map F)]):=by
 unfold m9;rw [e,cu];dsimp only;rw [aL (by rw [aA];exact z),b37 g F c st]
 rfl
theorem al5{l:List Nat}:inD (bj x) (l.map bj)=decide (x∈l):=by
 unfold inD;rw [gi]
 by_cases h:x∈l
 ·rw [aQ h,bD];exact ⟨x,h,by show ((x:Int) == (x:Int))=true;simp⟩
 ·rw [aU h,gF]
  intro y hy
  have:x≠y:=λe=>h (e ▸ hy)
  show ¬ ((y:Int) == (x:Int))=true;rw [gL];omega
theorem a6c{l:List Nat}(e:h[i]? = some (.lst (l.map bj))):gIn true (bj x) (.ref i) h = .ok (.bl (!decide (x∈l))) h:=by
 have fl:a3l (bj x)=true/\(l.map bj).all a3l=true:=⟨rfl,by
  rw [bn]
  intro y hy
  obtain ⟨n,_,rfl⟩:=bA.mp hy
  rfl⟩
 unfold gIn a3e;simp only [e,aL fl,dv,al5]
abbrev cst(l:List Nat):List Int:=l.map λx:Nat=>(x:Int)
theorem aeh(l:List Nat):l.map bj=(cst l).map D.int:=by unfold cst;rw [cp];rfl
theorem a9w{l:List Nat}(e:h[i]? = some (.lst (l.map bj))):a9j (.ref i) h=some (cst l):=by
 unfold a9j;simp only [e];rw [aeh,ints_map]
theorem a9x(l:List Nat):∃ m:List Nat,PySem.W.sortI (cst l)=cst m/\m.Perm l/\m.Pairwise (·<=·):=by
 have p:=gu (cst l);have s:=PySem.W.sortI_rises (cst l);refine ⟨(PySem.W.sortI (cst l)).map Int.toNat,?_,?_,?_⟩
 ·unfold cst;rw [cp];have:∀ x∈PySem.W.sortI (l.map λx:Nat=>(x:Int)),((λx:Nat=>(x:Int)) ∘ Int.toNat) x=x:=λx hx=>by
   have:=p.mem_iff.mp hx
   obtain ⟨y,_,rfl⟩:=bA.mp this;simp
  rw [dl this];simp
 ·have:=p.map Int.toNat
  have e:(cst l).map Int.toNat=l:=by
   unfold cst;rw [cp];exact (dl λx _=>by simp).trans (List.map_id l)
  rwa [e] at this
 ·rw [List.pairwise_map];exact s.imp λh=>by omega
def pos(m:List Nat)(x:Nat):Nat:=(ixI (x:Int) (cst m)).getD 0
theorem al6{m:List Nat}{x:Nat}(h:x∈m):ixI (x:Int) (cst m)=some (pos m x)/\pos m x<m.length:=by
 obtain ⟨j,hj⟩:=afp (n:=(x:Int)) (l:=cst m) (bA.mpr ⟨x,h,rfl⟩);unfold pos;rw [hj];refine ⟨rfl,?_⟩;have:=(ah.mp (afo hj).1).1;simpa using this
noncomputable def ie:SF:=qg (a2f aj jg j5) 10
abbrev τT(most:Nat)(tg:List Nat)(many:Int)(rows:List (List Nat))(ks:List Int)(m:D)(i:Nat)(t8 t9:Option D):Sd:=[some (.ref 0),some (bj most),some (.str (S tg)),some (.int many),some (.rol (rows.map a95)),some (.rol (ks.map D.int)),some m,some (bj i),t8,t9]
structure Met (n:Nat) (met:List Nat):Prop where
 nd:met.Nodup
 lt:∀ x∈met,x<n
 z:0∈met
theorem Met.len(M:Met n met):met.length<=n:=BF.a6b n met M.nd M.lt
theorem Met.add(M:Met n met)(hx:x<n)(h:x ∉ met):Met n (met++[x]):=by
 refine ⟨?_,λy hy=>?_,bG _ M.z⟩
 ·rw [bY];refine ⟨M.nd,by simp,λa ha b hb=>?_⟩
  rw [ai] at hb;subst hb;exact λe=>h (e ▸ ha)
 ·rcases aS.mp hy with z | z
  ·exact M.lt y z
  ·rw [ai] at z;subst z;exact hx
section
variable{A B C:SF}{most n:Nat}{tg:List Nat}{many:Int}{rows:List (List Nat)}{ks:List Int}
def Done(rows:List (List Nat))(met:List Nat)(i:Nat):Prop:=∀ j,j<i->∀ r,met[j]? = some r->∀ x∈(rows[r]?).getD [],x∈met
end
theorem al7{l:List Nat}(e:h[i]? = some (.lst (l.map bj)))(z:l.length<64)(em:PySem.W.sortI (cst l)=cst m):a5e [.ref i] h = .ok (.ref h.length) (h++[.lst (m.map bj)]):=by
 have q:=a9w e;unfold a5e;simp only [q];rw [aL (by unfold cst;rw [aA];exact z),em,<-aeh]
theorem al8{m:List Nat}(e:h[i]? = some (.lst (m.map bj)))(hx:x∈m):a8b (.ref i) [bj x] h = .ok (bj (pos m x)) h:=by
 have q:=a9w e;unfold a8b;simp only [q,(al6 hx).1]
section
variable{A B C:SF}{most n:Nat}{tg:List Nat}{many:Int}{rows:List (List Nat)}{ks:List Int}
abbrev abj(rows:List (List Nat))(m:List Nat):List (List Nat):=m.map λr=>((rows[r]?).getD []).map (pos m)
abbrev a9y(ks:List Int)(m:List Nat):List Int:=m.map λr=>(ks[r]?).getD 0
theorem al9(P:Src u N)(n32:n<=32)(lr:rows.length=n)(lk:ks.length=n)(t6:tg.length<=6)(rr:∀ r∈rows,aky tg.length n r)(M:Met n met)(cl:∀ r∈met,∀ x∈(rows[r]?).getD [],x∈met) :
  ∃ m:List Nat,m.Perm met/\m.Pairwise (·<=·)/\∃ h:Hd,h.take 1=[u]/\toR (j6 (m5 6 (sA a5e (ak (sV 6) dh)))
   (j6 (m5 9 (sA vo (ak (sZ (m9 (sIt (sV 6)) t1 (zc A B C) [4,6])) dh)))
   (qx (sA a4d (ak (sV 2) (ak (sV 9) (ak (sA vo (ak (sZ (m9 (sIt (sV 6)) t1 (zf A B C) [5])) dh)) dh)))))) (τT most tg many rows ks (.ref 1) i t8 none) [u, .lst (met.map bj)]) = .ok (.tup [.str (S tg), .tup ((abj rows m).map a1w), .tup ((a9y ks m).map D.int)]) h:=by
 obtain ⟨m,em,pm,sm⟩:=a9x met;have ln:=M.len;have lm:m.length=met.length:=pm.length_eq
 let H:Hd:=[u, .lst (met.map bj), .lst (m.map bj)]
 have hc:∀ o∈H,a6n H.length o:=by
  intro o ho
  simp only [H,aD,aN,bT] at ho
  rcases ho with rfl | rfl | rfl
  ·exact ww (bL _) P.clo
  ·exact ww (bL _) (jr _)
  ·exact ww (bL _) (jr _)
 have so:a5e [.ref 1] [u, .lst (met.map bj)] = .ok (.ref 2) H:=by
  exact al7 (l:=met) rfl (by omega) em
 have rw':∀ r∈m,rows[r]? = some ((rows[r]?).getD [])/\aky tg.length n ((rows[r]?).getD [])/\∀ x∈(rows[r]?).getD [],x∈m:=λr hr=>by
  have h1:=M.lt r (pm.mem_iff.mp hr);have e:rows[r]? = some ((rows[r]?).getD []):=by rw [af (by omega)];rfl
  exact ⟨e,rr _ (aM e),λx hx=>pm.mem_iff.mpr (cl r (pm.mem_iff.mp hr) x hx)⟩
 have z1:sZ (m9 (sIt (sV 6)) t1 (zc A B C) [4,6]) (τT most tg many rows ks (.ref 2) i t8 none) H = .ok (.rol ((abj rows m).map a1w)) H:=by
  rw [cp];refine xq (au0 (ck:=λh=>h[2]? = some (.lst (m.map bj))) bj (a1w ∘ λr=>((rows[r]?).getD []).map (pos m)) m rfl (a6y (az rfl) rfl) (iy (by omega)) λr hr=>?_) (jq λx _=>u5 (jr _)) hc
  obtain ⟨e1,⟨e2,_⟩,e3⟩:=rw' r hr;rw [vf];unfold zc;have z2:sZ (m9 (sIt (s2 gIx (sV 1) (sV 0))) t1 (a1j A B C) [2]) (some (bj r)::frs' [4,6] (τT most tg many rows ks (.ref 2) i t8 none)) H = .ok (.rol ((((rows[r]?).getD []).map (pos m)).map bj)) H:=by
   rw [cp];refine xq (uf bj (bj ∘ pos m) ((rows[r]?).getD []) (a6y (dj (az rfl) (az rfl) (am6 (y:=a95 ((rows[r]?).getD [])) (by rw [aE,e1];rfl))) rfl) (iy (by omega)) λx hx=>?_) (jq λx _=>jk _) hc
   rw [vf];unfold a1j;exact b1k (az rfl) rfl (arg1 (az rfl)) (al8 rfl (e3 x hx))
  exact xg z2 rfl
 have z3:∀ t9:Option D,sZ (m9 (sIt (sV 6)) t1 (zf A B C) [5]) (τT most tg many rows ks (.ref 2) i t8 t9) H = .ok (.rol ((a9y ks m).map D.int)) H:=λt9=>by
  rw [cp];refine xq (au0 (ck:=λh=>h[2]? = some (.lst (m.map bj))) bj (D.int ∘ λr=>(ks[r]?).getD 0) m rfl (a6y (az rfl) rfl) (iy (by omega)) λr hr=>?_) (jq λx _=>jk _) hc
  have h1:=M.lt r (pm.mem_iff.mp hr);have e:ks[r]? = some ((ks[r]?).getD 0):=by rw [af (by omega)];rfl
  rw [vf];unfold zf;exact dj (az rfl) (az rfl) (am6 (by rw [aE,e];rfl))
 refine ⟨m,pm,sm,H,rfl,?_⟩;refine ar (av toR (jx (xg (az rfl) so))) ?_;refine ar (av toR (jx (xg z1 (show vo [.rol ((abj rows m).map a1w)] H = .ok (.tup ((abj rows m).map a1w)) H from rfl)))) ?_
 exact av toR (nq (ahx (az rfl) (az rfl) (xg (z3 _) (show vo [.rol ((a9y ks m).map D.int)] H = .ok (.tup ((a9y ks m).map D.int)) H from rfl)) b2y))
end
end SRC
namespace K21
open PySem PySem.Spec L2 MI
noncomputable def a00:SE :=
 (s2 (gIn false) (sV 0) (sV 1))
noncomputable def vz:SS :=
 (qx (a2a (sA a8e (ak (sV 1) (ak (sC (.ty "str")) dh))) (sA am2 (ak (sZ (m9 (sIt (sV 1)) t1 a00 [0])) dh))))
end K21
namespace K23
open PySem PySem.Spec L2 MI
noncomputable def a00:SE :=
 (s2 (gIn false) (sV 0) (sV 1))
noncomputable def vz:SS :=
 (qx (a2a (sA a8e (ak (sV 1) (ak (sC (.ty "str")) dh))) (sA am2 (ak (sZ (m9 (sIt (sV 1)) t1 a00 [0])) dh))))
noncomputable def yq(ik:SF):SS :=
 (qx (s2 gIx (sA (kj false 3 ik) (ak (sV 0) (ak (sV 1) (ak (sV 2) dh)))) (s1 a6f (sC (.int 1)))))
noncomputable def ue:SS :=
 (a2b (sML a9h (sV 6) (ak (s2 gIx (s2 gIx (sV 4) (s2 gIx (sV 6) (s1 a6f (sC (.int 1))))) (sMS acl (sV 3) (ak (sV 7) dh))) dh)))
noncomputable def v4:SS :=
 (j6 (a91 (sV 0) (a6l 3 (n6 (kN 3) (n6 (kN 4) (n6 (kN 5) a74)))))
 (j6 (m5 6 (sA a6k (ak (sV 1) dh)))
 (j6 (a5c (sIt (sV 2)) (kN 7) ue)
 (qx (sV 6)))))
end K23
namespace K22
open PySem PySem.Spec L2 MI
noncomputable def xr(iz:SF):SE :=
 (sA (kj false 2 iz) (ak (sV 1) (ak (sV 0) dh)))
noncomputable def xf(iz:SF):SS :=
 (qx (sA vo (ak (sZ (m9 (sRg xj (ak (sA v6 (ak (s2 gIx (sV 0) (sC (.int 1))) dh)) dh)) t1 (xr iz) [0])) dh)))
noncomputable def lq:SS :=
 (j6 (sIf (sT (s2 hNe (s2 gIx (sV 4) (sV 11)) (s1 a6f (sC (.int 1)))))
 (qx (s2 jz (sV 9) (sV 10)))
 sNx)
 (sIf (sT (s2 (apv true) (sV 11) (sV 6)))
 (j6 (a94 (sC (.bl true)) (sV 6) (sV 11))
 (a2b (sML a9h (sV 5) (ak (sA a4d (ak (sV 11) (ak (s2 jz (sV 9) (sV 10)) dh))) dh))))
 sNx))
noncomputable def vp:ST :=
 (sT (s2 gLt (sV 7) (sA v6 (ak (sV 5) dh))))
noncomputable def qt:SS :=
 (j6 (a91 (s2 gIx (sV 5) (sV 7)) (a6l 2 (n6 (kN 8) (n6 (kN 9) a74))))
 (j6 (a5c (ae5 (sV 2) (s2 gIx (sV 3) (sV 8))) (a6l 2 (n6 (kN 10) (n6 (kN 11) a74))) lq)
 (ae1 7 a1q (sC (.int 1)))))
noncomputable def ym:SS :=
 (j6 (a91 (sV 0) (a6l 3 (n6 (kN 2) (n6 (kN 3) (n6 (kN 4) a74)))))
 (j6 (m5 5 (sA a6k (ak (sA a4d (ak (sV 1) (ak (sC (.str "")) dh))) dh)))
 (j6 (m5 6 (s2 gD1 (sV 1) (sC (.bl true))))
 (j6 (m5 7 (sC (.int 0)))
 (j6 (sWh vp qt 100000)
 (qx (sC .non)))))))
noncomputable def a4k(g8:SF):SE :=
 (s2 a85 (sV 0) (sC .non))
noncomputable def a6v(g8:SF):SS :=
 (qx (sA vo (ak (sZ (m9 (sIt (sA (kj false 1 g8) (ak (sV 0) dh))) t1 (a4k g8) [])) dh)))
end K22
namespace K22
open PySem PySem.Spec L2 MI AT HND
section
variable(T:Table)
def stp(r c:Nat):Nat:=(((T.go[r]?).getD [])[c]?).getD 0
def knd(r:Nat):Bool:=decide ((T.ks[r]?).getD (-1) ≠ -1)
def tgA(c:Nat):Nat:=(T.tg[c]?).getD 0
def sgn(w:List Nat):List Nat:=(w.reverse).map (tgA T)
def hit(r0:Nat)(w:List Nat):Prop:=w≠[]/\knd T (BF.walk (stp T) r0 w)=true
end
theorem aoi(T:Table)(c:Nat)(w:List Nat):sgn T (c::w)=sgn T w++[tgA T c]:=by simp [sgn]
theorem au1(T:Table)(w:List Nat):(sgn T w).length=w.length:=by simp [sgn]
section
variable{T:Table}(h:T.Ok)
theorem a9z(h:T.Ok)(r c:Nat):stp T r c<T.go.length:=by
 have h1:=h.n1;unfold stp
 cases e:T.go[r]? with
 | none=>simp;omega
 | some row =>
  simp only [cK]
  cases e2:row[c]? with
  | none=>simp;omega
  | some x=>simp only [cK];exact (h.row row (aM e)).2 x (aM e2)
theorem aei(h:T.Ok)(hr:r<T.go.length):∀ w:List Nat,BF.walk (stp T) r w<T.go.length
 | []=>hr
 | c::w=>a9z h _ c
theorem ag1(h:T.Ok)(hr:r<T.go.length):∃ row:List Nat,T.go[r]? = some row/\row.length=T.tg.length/\(∀ x∈row,x<T.go.length)/\∀ c,c<T.tg.length->row[c]? = some (stp T r c):=by
 refine ⟨T.go[r],af hr,(h.row _ (bJ hr)).1,(h.row _ (bJ hr)).2,λc hc=>?_⟩;have l:=(h.row _ (bJ hr)).1;unfold stp;rw [af hr,cK,af (by omega),cK]
theorem aoj(h:T.Ok)(hr:r<T.go.length):∃ k:Int,T.ks[r]? = some k /\ -1<=k/\knd T r=decide (k ≠ -1):=by
 have l:r<T.ks.length:=by rw [h.kl];exact hr
 refine ⟨T.ks[r],af l,(h.kk _ (bJ l)).1,?_⟩;unfold knd;rw [af l,cK]
theorem aho(hc:c<T.tg.length):T.tg[c]? = some (tgA T c):=by
 unfold tgA;rw [af hc,cK]
theorem a2r(r0 c:Nat)(p q:List Nat)(e:BF.walk (stp T) r0 p=BF.walk (stp T) r0 q):hit T r0 (c::p)↔hit T r0 (c::q):=by
 unfold hit;simp only [BF.walk,e,ne_eq,List.cons_ne_nil,not_false_eq_true,true_and]
theorem ala(r0:Nat):¬ hit T r0 []:=λz=>z.1 rfl
end
def fnd(T:Table)(r0:Nat)(ws:List (List Nat)):List D:=ws.map λw=>.tup [bj (BF.walk (stp T) r0 w), .str (S (sgn T w))]
def snn(T:Table)(r0:Nat)(ws:List (List Nat)):List (Key × D):=ws.map λw=>(.inl ((BF.walk (stp T) r0 w:Nat):Int), .bl true)
theorem au2(h:∃ v∈ws,BF.walk (stp T) r0 v=to):∃ d,a8c (snn T r0 ws) (.inl (to:Int))=some d:=by
 obtain ⟨v,hv,e⟩:=h;unfold a8c
 cases e2:(snn T r0 ws).find? λkv=>decide (kv.1=(.inl (to:Int):Key)) with
 | some kv=>exact ⟨kv.2,rfl⟩
 | none =>
  rw [cY] at e2;exact absurd (by rw [cZ,e]) (e2 _ (bA.mpr ⟨v,hv,rfl⟩))
theorem ayr(h:∀ v∈ws,BF.walk (stp T) r0 v≠to):a8c (snn T r0 ws) (.inl (to:Int))=none/\putD (snn T r0 ws) (.inl (to:Int)) (.bl true)=snn T r0 ws++[(.inl (to:Int), .bl true)]:=by
 have no:∀ kv∈snn T r0 ws,¬ decide (kv.1=(.inl (to:Int):Key))=true:=λkv hkv=>by
  obtain ⟨v,hv,rfl⟩:=bA.mp hkv;rw [cZ]
  intro z
  have:=ii z
  exact h v hv (by omega)
 constructor
 ·unfold a8c;rw [cY.mpr no];rfl
 ·unfold putD;rw [aY]
  intro z
  obtain ⟨kv,hkv,e⟩:=bD.mp z;exact no kv hkv e
abbrev tau(T:Table)(r0 l:Nat)(t8 t9 t10 t11:Option D):Sd:=[some T.d,some (bj r0),some (.str (S T.tg)),some (.tup (T.go.map a1w)),some (.tup (T.ks.map D.int)),some (.ref 0),some (.ref 1),some (bj l),t8,t9,t10,t11]
abbrev hp(T:Table)(r0:Nat)(ws:List (List Nat)):Hd:=[.lst (fnd T r0 ws), .dK (snn T r0 ws)]
theorem few(T:Table)(h:T.Ok)(hr:r0<T.go.length)(St:BF.St T.tg.length (stp T) r0 (hit T r0) ws F):ws.length<=T.go.length:=by
 have:=BF.a6b T.go.length (ws.map λw=>BF.walk (stp T) r0 w) (List.pairwise_map.mpr St.dis) λx hx=>by
  obtain ⟨w,_,rfl⟩:=bA.mp hx;exact aei h hr w
 simpa using this
def Won(T:Table)(r0:Nat)(d:D):Prop:=∃ w,BF.Ok T.tg.length w/\hit T r0 w/\(∀ v,BF.Ok T.tg.length v->hit T r0 v->BF.num T.tg.length w<=BF.num T.tg.length v)/\w.length<=T.go.length/\d = .str (S (sgn T w))
theorem alb{T:Table}(h:T.Ok)(hr:r0<T.go.length)(hl:ws[l]? = some w)(hc:c<T.tg.length)(St:BF.St T.tg.length (stp T) r0 (hit T r0) ws (BF.num T.tg.length w*T.tg.length+c+1))(τ:Sd)
  (hτ:τ=tau T r0 l (some (bj (BF.walk (stp T) r0 w))) (some (.str (S (sgn T w)))) (some (.str (S [tgA T c]))) (some (bj (stp T (BF.walk (stp T) r0 w) c)))) :
  (∃ ws',lq τ (hp T r0 ws) = .nx τ (hp T r0 ws')/\(∀ v∈ws,v∈ws')/\ws'[l]? = some w/\BF.St T.tg.length (stp T) r0 (hit T r0) ws' (BF.num T.tg.length w*T.tg.length+(c+1)+1)) \/
  ∃ d h',lq τ (hp T r0 ws) = .rt d h'/\Won T r0 d:=by
 have n32:=h.n32;have fw:=few T h hr St;have ll:=(ah.mp hl).1;have wl:=St.len l w hl;have rl:=aei h hr w;have wo:BF.Ok T.tg.length (c::w):=BF.Ok.cons hc (St.ok w (aM hl));have sl:=a9z h (BF.walk (stp T) r0 w) c;obtain ⟨k,hk,k1,kd⟩:=aoj h sl;have add:∀ hh,jz (.str (S (sgn T w))) (.str (S [tgA T c])) hh = .ok (.str (S (sgn T (c::w)))) hh:=λhh=>by
  rw [aoi];exact a7d (iy (by rw [au1];simp;omega))
 have ki:∀ hh,gIx (.tup (T.ks.map D.int)) (bj (stp T (BF.walk (stp T) r0 w) c)) hh = .ok (.int k) hh:=λhh=>a69 (by rw [aE,hk];rfl)
 by_cases hz:k = -1
 ·have nh:¬ hit T r0 (c::w):=λz=>by
   have:=z.2
   rw [BF.walk,kd,hz] at this;simp at this
  have s1:∀ g:SS,j6 (sIf (sT (s2 hNe (s2 gIx (sV 4) (sV 11)) (s1 a6f (sC (.int 1))))) (qx (s2 jz (sV 9) (sV 10))) sNx) g τ (hp T r0 ws)=g τ (hp T r0 ws):=λg=>by
   subst hτ;exact ifN (tof (dj (dj (az rfl) (az rfl) (ki _)) (ad9 (gj _ _ _) (a3y _)) (atx hz)))
  refine .inl ?_
  by_cases sn:∃ v∈ws,BF.walk (stp T) r0 v=stp T (BF.walk (stp T) r0 w) c
  ·obtain ⟨d,hd⟩:=au2 sn;refine ⟨ws,?_,λv hv=>hv,hl,St.seen wo rfl nh sn⟩;unfold lq;rw [s1];have q:apv true (bj (stp T (BF.walk (stp T) r0 w) c)) (.ref 1) (hp T r0 ws) = .ok (.bl false) (hp T r0 ws):=by
    show (match (some (a8c (snn T r0 ws) (.inl ((stp T (BF.walk (stp T) r0 w) c:Nat):Int))):Option (Option D)) with | some r=>R.ok (D.bl (if true then !r.isSome else r.isSome)) (hp T r0 ws) | none=>.no)=_
    rw [hd];rfl
   subst hτ;exact ifF (tof (dj (az rfl) (az rfl) q))
  ·have sn':∀ v∈ws,BF.walk (stp T) r0 v≠stp T (BF.walk (stp T) r0 w) c:=λv hv z=>sn ⟨v,hv,z⟩;obtain ⟨d1,d2⟩:=ayr sn';refine ⟨ws++[c::w],?_,λv hv=>bG _ hv,by rw [aC ll];exact hl,St.add wo rfl nh sn' (by rw [ba];omega)⟩
   unfold lq;rw [s1];have q:apv true (bj (stp T (BF.walk (stp T) r0 w) c)) (.ref 1) (hp T r0 ws) = .ok (.bl true) (hp T r0 ws):=by
    show (match (some (a8c (snn T r0 ws) (.inl ((stp T (BF.walk (stp T) r0 w) c:Nat):Int))):Option (Option D)) with | some r=>R.ok (D.bl (if true then !r.isSome else r.isSome)) (hp T r0 ws) | none=>.no)=_
    rw [d1];rfl
   have p:asx (.ref 1) (bj (stp T (BF.walk (stp T) r0 w) c)) (.bl true) (hp T r0 ws)=some [.lst (fnd T r0 ws), .dK (snn T r0 (ws++[c::w]))]:=by
    have lt:(snn T r0 ws).length<LINE:=a3z (by unfold snn;rw [aA];omega)
    show (if (snn T r0 ws).length<LINE then some [O.lst (fnd T r0 ws),O.dK (putD (snn T r0 ws) (.inl ((stp T (BF.walk (stp T) r0 w) c:Nat):Int)) (.bl true))] else none)=_
    rw [aL lt,d2];unfold snn;rw [bb];rfl
   subst hτ;refine ar (ifT (tof (dj (az rfl) (az rfl) q))) ?_;refine ar (yf (aq3 (gj _ _ _) (az rfl) (az rfl) p)) ?_;refine ar (a67 (az rfl) rfl (arg1 (a08 (az rfl) (dj (az rfl) (az rfl) (add _)) ahy)) (a68 (xs:=fnd T r0 ws) rfl (a3z (by unfold fnd;rw [aA];omega)))) ?_
   unfold hp fnd;rw [bb];rfl
 ·refine .inr ⟨_,hp T r0 ws,?_,c::w,wo,⟨by simp,by rw [BF.walk,kd];simpa using hz⟩,λv ov hv=>?_,by rw [ba];omega,rfl⟩
  ·subst hτ;unfold lq;exact a3d (ar (ifT (tof (dj (dj (az rfl) (az rfl) (ki _)) (ad9 (gj _ _ _) (a3y _)) (ayn hz)))) (nq (dj (az rfl) (az rfl) (add _))))
  ·exact St.least ov hv
theorem aej{T:Table}{row:List Nat}(l:row.length=T.tg.length)(at':∀ c,c<T.tg.length->row[c]? = some (stp T r c)) :
  ((a0i (S T.tg)).zip (row.map bj)).map (λp=>D.tup [p.1,p.2])=(List.range T.tg.length).map λc=>.tup [.str (S [tgA T c]),bj (stp T r c)]:=by
 refine eF λi=>?_;unfold a0i;rw [a1n]
 by_cases hi:i<T.tg.length
 ·have hx:=at' i hi;have ht:=aho (T:=T) hi;rw [aE,aE,ci hi,cR (z:=(D.str (S [tgA T i]),bj (stp T r i))).mpr ⟨by rw [aE,ht];rfl,by rw [aE,hx];rfl⟩]
  rfl
 ·rw [bS (by simp;omega),bS (by simp;omega)]
noncomputable def iz:SF:=qg ym 12
theorem a6d{T:Table}(h:T.Ok)(hr:r0<T.go.length):∃ d h',iz [T.d,bj r0] [] = .ok d h'/\(Won T r0 d\/(d = .non/\∀ v,BF.Ok T.tg.length v->¬ hit T r0 v)):=by
 have n32:=h.n32;have s1:=h.tong.lo;have s6:=h.tong.hi;have wh:=ank (c:=vp) (f:=qt)
  (λm τ hh=>∃ (ws:List (List Nat)) (l:Nat) (t8 t9 t10 t11:Option D),τ=tau T r0 l t8 t9 t10 t11/\hh=hp T r0 ws/\[]∈ws/\m=T.go.length - l/\ws.length<=T.go.length/\((∃ w,ws[l]? = some w/\BF.St T.tg.length (stp T) r0 (hit T r0) ws (BF.num T.tg.length w*T.tg.length+1))\/(l=ws.length/\∀ v,BF.Ok T.tg.length v->¬ hit T r0 v)))
  (λ_ _=>∀ v,BF.Ok T.tg.length v->¬ hit T r0 v) (λd _=>Won T r0 d) ?_ T.go.length 100000 (tau T r0 0 none none none none) (hp T r0 [[]]) (by omega)
  ⟨[[]],0,none,none,none,none,rfl,rfl,by simp,by simp,by simpa using h.n1, .inl ⟨[],rfl,by simpa [BF.num] using BF.St.start (ala r0)⟩⟩
 ·have e0:iz [T.d,bj r0] []=toR (j6 (sWh vp qt 100000) (qx (sC .non)) (tau T r0 0 none none none none) (hp T r0 [[]])):=by
   unfold iz;rw [jd];show toR (ym [some T.d,some (bj r0),none,none,none,none,none,none,none,none,none,none] [])=_;unfold ym;refine av toR ?_;refine ar (yf (a8r (az rfl) rfl)) ?_;refine ar (jx (xg (a08 (az rfl) (gj _ _ _) ahy) rfl)) ?_;refine ar (jx (dj (az rfl) (gj _ _ _) rfl)) ?_;exact ar (jx (gj _ _ _)) rfl
  rcases wh with ⟨τ',h',e,no⟩ | ⟨d,h',e,won⟩
  ·exact ⟨.non,h',by rw [e0,yf e];rfl, .inr ⟨rfl,no⟩⟩
  ·exact ⟨d,h',by rw [e0,a3d e];rfl, .inl won⟩
 ·rintro m τ hh ⟨ws,l,t8,t9,t10,t11,rfl,rfl,em,rfl,wn,q⟩
  have ln:v6 [.ref 0] (hp T r0 ws) = .ok (.int (ws.length:Nat)) (hp T r0 ws):=by
   have:=a8s (h:=hp T r0 ws) (i:=0) (xs:=fnd T r0 ws) rfl
   rwa [show (fnd T r0 ws).length=ws.length from by simp [fnd]] at this
  rcases q with ⟨w,hw,St⟩ | ⟨rfl,no⟩
  ·have ll:=(ah.mp hw).1;refine .inr ⟨_,tof (dj (az rfl) (xg (az rfl) ln) (aof (by omega))),?_⟩
   obtain ⟨row,er,lr,lx,at'⟩:=ag1 h (aei h hr w);have lo:=a4i (g:=a6l 2 (n6 (kN 10) (n6 (kN 11) a74))) (b:=lq) (λc:Nat=>D.tup [.str (S [tgA T c]),bj (stp T (BF.walk (stp T) r0 w) c)])
    (λpre τ hh=>∃ (ws:List (List Nat)) (t10 t11:Option D),τ=tau T r0 l (some (bj (BF.walk (stp T) r0 w))) (some (.str (S (sgn T w)))) t10 t11/\hh=hp T r0 ws/\[]∈ws/\ws[l]? = some w/\BF.St T.tg.length (stp T) r0 (hit T r0) ws (BF.num T.tg.length w*T.tg.length+pre.length+1))
    (λd _=>Won T r0 d) (List.range T.tg.length) [] (tau T r0 l (some (bj (BF.walk (stp T) r0 w))) (some (.str (S (sgn T w)))) t10 t11) (hp T r0 ws) ?_ ⟨ws,t10,t11,rfl,rfl,em,hw,St⟩
   ·have fx:gIx (.ref 0) (bj l) (hp T r0 ws) = .ok (.tup [bj (BF.walk (stp T) r0 w), .str (S (sgn T w))]) (hp T r0 ws):=a3x (xs:=fnd T r0 ws) rfl (by unfold fnd;rw [aE,hw];rfl)
    have zi:ae5 (sV 2) (s2 gIx (sV 3) (sV 8)) (tau T r0 l (some (bj (BF.walk (stp T) r0 w))) (some (.str (S (sgn T w)))) t10 t11) (hp T r0 ws) = .ok ⟨(List.range T.tg.length).map λc=>.tup [.str (S [tgA T c]),bj (stp T (BF.walk (stp T) r0 w) c)],λ_=>True⟩ (hp T r0 ws):=by
     unfold ae5;rw [az rfl,cu,dj (az rfl) (az rfl) (a69 (by rw [aE,er];rfl)),cu,<-aej lr at']
     unfold asi;simp only [srcOf,and_self]
    have e1:∀ g:SS,j6 (a91 (s2 gIx (sV 5) (sV 7)) (a6l 2 (n6 (kN 8) (n6 (kN 9) a74)))) (j6 (a5c (ae5 (sV 2) (s2 gIx (sV 3) (sV 8))) (a6l 2 (n6 (kN 10) (n6 (kN 11) a74))) lq) g) (tau T r0 l t8 t9 t10 t11) (hp T r0 ws)=thn (forL (λ_=>True) (a6l 2 (n6 (kN 10) (n6 (kN 11) a74))) lq ((List.range T.tg.length).map λc=>.tup [.str (S [tgA T c]),bj (stp T (BF.walk (stp T) r0 w) c)]) (tau T r0 l (some (bj (BF.walk (stp T) r0 w))) (some (.str (S (sgn T w)))) t10 t11) (hp T r0 ws)) g:=λg=>by
     refine ar (yf (a8r (dj (az rfl) (az rfl) fx) rfl)) ?_;exact a3w zi
    rcases lo with ⟨τ',h',e2,ws',t10',t11',rfl,rfl,em',hw',St'⟩ | ⟨d,h',e2,won⟩
    ·rw [cF,aT] at St';have wn':=few T h hr St';have ll':=(ah.mp hw').1;refine .inl ⟨tau T r0 (l+1) (some (bj (BF.walk (stp T) r0 w))) (some (.str (S (sgn T w)))) t10' t11',hp T r0 ws',T.go.length - (l+1),?_,by omega,ws',l+1,_,_,_,_,rfl,rfl,em',rfl,wn',?_⟩
     ·unfold qt;rw [e1,e2,a1t];exact ahl rfl (gj _ _ _) a1o
     ·by_cases more:l+1<ws'.length
      ·exact .inl ⟨ws'[l+1],af more,St'.next (by omega) hw' (af more) (a2r r0)⟩
      ·exact .inr ⟨by omega,λv ov=>(St'.all hw' (by omega) (ala r0) em' (a2r r0) v ov).1⟩
    ·refine .inr ⟨d,h',?_,won⟩;unfold qt;rw [e1,e2,acv]
   ·rintro pre c post τ hh all ⟨ws,t10,t11,rfl,rfl,em,hw,St⟩
    rw [cF] at all;obtain ⟨hi,hc⟩:=a01 all;rw [<-hi] at St;refine ⟨_,_,rfl,?_⟩
    rcases alb h hr hw hc St _ rfl with ⟨ws',e3,sb,hw',St'⟩ | ⟨d,h',e3,won⟩
    ·refine .inl ⟨_,_,e3,ws',_,_,rfl,rfl,sb _ em,hw',by rw [aw,ay,<-hi];exact St'⟩
    ·exact .inr ⟨d,h',e3,won⟩
  ·refine .inl ⟨_,tof (dj (az rfl) (xg (az rfl) ln) (aq4 (by omega))),no⟩
section
variable{T:Table}
abbrev FL(T:Table)(k r:Nat):Bool:=BF.fl T.tg.length (stp T) (knd T) k r
theorem ays(h:T.Ok)(hr:r<T.go.length):T.go[r]? = some ((List.range T.tg.length).map (stp T r)):=by
 obtain ⟨row,e,l,_,at'⟩:=ag1 h hr;rw [e]
 congr 1
 refine eF λi=>?_
 by_cases hi:i<T.tg.length
 ·rw [at' i hi,aE,ci hi];rfl
 ·rw [bS (by omega),bS (by simp;omega)]
def kI(T:Table)(r:Nat):Int:=(T.ks[r]?).getD (-1)
abbrev b38(T:Table)(r:Nat):D:=a1w ((List.range T.tg.length).map (stp T r))
theorem alc{α:Type}(l:List α)(x:α):atI (l++[x]) (-1)=some x:=by
 have:ixN (l++[x]).length (-1)=some l.length:=by
  unfold ixN;rw [aY (by decide),aw,ay]
  rw [aL (by omega)]
  congr 1
  omega
 unfold atI;rw [this];simp
end
section
variable{T:Table}
def aok(T:Table)(r:Nat):Option Nat:=(List.range T.go.length).find? λi=>FL T (1+i) r
def gtx(T:Table)(k r:Nat):List Nat:=(BF.gre T.tg.length (stp T) (knd T) k r).map (tgA T)
def A(T:Table)(r:Nat):D:=match aok T r with | none=>.non | some i=>.str (S (gtx T (1+i) r))
theorem aqa(h:T.Ok)(w:Won T r d\/(d = .non/\∀ v,BF.Ok T.tg.length v->¬ hit T r v)):d=A T r:=by
 have s1:=h.tong.lo;unfold A
 rcases w with ⟨w,wo,wh,wl,wn,rfl⟩ | ⟨rfl,no⟩
 ·have w1:w.length≠0:=λz=>wh.1 (gW.mp z);have fw:FL T w.length r=true:=by
   have:=BF.aoh (s:=T.tg.length) (step:=stp T) (K:=knd T) (u:=w.reverse) (r:=r) (by rw [cJ];exact wo) (by rw [cJ];exact wh.2)
   rwa [dM] at this
  cases e:aok T r with
  | none =>
   unfold aok at e;rw [cY] at e;have:=e (w.length - 1) (by rw [aP];omega)
   rw [show 1+(w.length - 1)=w.length by omega] at this
   exact absurd fw this
  | some i =>
   unfold aok at e;obtain ⟨fi,hi,lo⟩:=dL.mp e;obtain ⟨gl,go,gh⟩:=BF.ada fi;have ghit:hit T r (BF.gre T.tg.length (stp T) (knd T) (1+i) r).reverse:=⟨λz=>by
    have:=av List.length z
    simp [gl] at this,gh⟩
   have le:1+i<=w.length:=by
    refine eK λz=>?_;have:=lo (w.length - 1) (by omega)
    rw [show 1+(w.length - 1)=w.length by omega,fw] at this
    simp at this
   have n1:=wl _ go ghit;have eq:w.length=1+i:=by
    refine Nat.le_antisymm (eK λz=>?_) le;have:=BF.a9v (s:=T.tg.length) (by omega) (x:=(BF.gre T.tg.length (stp T) (knd T) (1+i) r).reverse) (y:=w) (by rw [dM,gl];exact z) go
    omega
   have n2:=BF.adb (s:=T.tg.length) (step:=stp T) (K:=knd T) (u:=w.reverse) (r:=r) (by rw [cJ];exact wo) (by rw [cJ];exact wh.2)
   rw [dM,cJ,eq] at n2;have:=BF.abh wo go (by omega)
   dsimp only;unfold gtx sgn
   conv=>lhs;rw [this,cJ]
 ·cases e:aok T r with
  | none=>rfl
  | some i =>
   unfold aok at e;obtain ⟨fi,hi,lo⟩:=dL.mp e;obtain ⟨gl,go,gh⟩:=BF.ada fi;exact (no _ go ⟨λz=>by
    have:=av List.length z
    simp [gl] at this,gh⟩).elim
theorem au3(n r:Nat):clo n (A T r):=by
 unfold A
 cases aok T r with
 | none=>exact a6u
 | some i=>exact m7 _
theorem ayt{n:Nat}(d:D)(hd:clo 0 d):∀ x∈[T.d,d],clo 0 x:=by
 intro x hx
 simp only [aD,aN,bT] at hx
 rcases hx with rfl | rfl
 ·exact Table.clo
 ·exact hd
theorem adc(h:T.Ok)(hr:r<T.go.length):Pu iz 2 [T.d,bj r] (A T r):=by
 obtain ⟨d,h',e,q⟩:=a6d h hr;have:=aqa h q;subst this;exact Pu.of rfl (ayt (n:=0) _ (jk _)) e (ju (au3 _ _) (by simp)) (au3 _ _)
theorem ald(h:T.Ok)(hr:r<T.go.length)(hh:Hd):gIx (.tup (T.go.map a1w)) (bj r) hh = .ok (b38 T r) hh:=a69 (by rw [aE,ays h hr];rfl)
end
end K22
namespace K23
open PySem PySem.Spec L2 MI AT HND K22
section
variable{T:Table}
def Pln:D->Prop
 | .non=>True | .bl _=>True | .int _=>True | .str x=>x.cps.toList.length<=1000 | .tup xs=>clos 0 xs | .rol xs=>clos 0 xs | .rod _ xs=>clos 0 xs | _=>False
theorem Pln.clo(p:Pln d):clo 0 d:=by
 cases d<;>first | (simp only [Pln] at p;done) | (simp only [Pln] at p;simpa [MI.clo] using p) | simp [MI.clo]
def isStr:D->Bool | .str _=>true | _=>false
def isTup:D->Bool | .tup _=>true | _=>false
theorem aol(p:Pln d):a8e [d, .ty "str"] h = .ok (.bl (isStr d)) h:=by
 cases d<;>first | (simp only [Pln] at p;done) | simp [a8e,awv,tyD,as8,isStr]
theorem b1n(p:Pln d):a8e [d, .ty "tuple"] h = .ok (.bl (isTup d)) h:=by
 cases d<;>first | (simp only [Pln] at p;done) | simp [a8e,awv,tyD,as8,isTup]
def psn(T:Table)(c:Nat):Nat:=(a5l (S T.tg) c).toNat
def ldw(T:Table)(r:Nat):List Nat->Nat
 | []=>r
 | c::l=>ldw T (stp T r (psn T c)) l
theorem ade(hc:c∈T.tg):a5l (S T.tg) c=(psn T c:Nat)/\psn T c<T.tg.length:=by
 obtain ⟨i,e1,e2,_⟩:=aae (T:=S T.tg) (c:=c) (by rw [a1n];exact hc)
 rw [a1n] at e2;unfold psn;rw [e1];exact ⟨by simp,by simpa using (ah.mp e2).1⟩
theorem a4a(h:T.Ok):∀ (l:List Nat) {r:Nat},r<T.go.length->ldw T r l<T.go.length
 | [],_,hr=>hr
 | c::l,r,_=>a4a h l (a9z h r _)
theorem a4r(c:Nat):∀ (l:List Nat) (r:Nat),ldw T r (l++[c])=stp T (ldw T r l) (psn T c)
 | [],_=>rfl
 | d::l,r=>a4r c l _
theorem aq6(l:List Nat)(h:Hd):amx (.str (S l)) h = .ok ⟨l.map λc=>.str (S [c]),λ_=>True⟩ h:=by
 show R.ok (⟨a0i (S l),λ_=>True⟩:Itm) _=_;unfold a0i;rw [a1n]
theorem aqb(hc:c∈T.tg)(h:Hd):agv (.str (S T.tg)) [.str (S [c])] h = .ok (bj (psn T c)) h:=by
 show R.ok (D.int (a5l (S T.tg) c)) h=_;rw [(ade hc).1]
theorem au4(hc:c∈T.tg)(h:Hd):acl (.str (S T.tg)) [.str (S [c])] h = .ok (bj (psn T c)) h:=by
 show (if c∈(S T.tg).cps.toList then R.ok (D.int (a5l (S T.tg) c)) h else .no)=_
 rw [aL (by rw [a1n];exact hc),(ade hc).1]
theorem azs(e1:f τ h = .ok (.str z) h1)(e2:k τ h1 = .ok ds h2)(e3:g (.str z) ds h2 = .ok v h3):sMS g f k τ h = .ok v h3:=by
 unfold sMS;rw [e1,cu];dsimp only;rw [e2,cu,e3]
theorem au5(h:T.Ok)(hc:c<T.tg.length)(hh:Hd):gIx (b38 T r) (bj c) hh = .ok (bj (stp T r c)) hh:=a69 (by rw [aE,aE,ci hc];rfl)
theorem au6(hd:clo 0 d)(he:clo 0 e):∀ x∈[T.d,d,e],clo 0 x:=by
 intro x hx
 simp only [aD,aN,bT] at hx
 rcases hx with rfl | rfl | rfl
 ·exact Table.clo
 ·exact hd
 ·exact he
noncomputable def ik:SF:=qg v4 8
noncomputable def mq:SF:=qg (yq ik) 3
def rms(T:Table)(r:Nat)(l:List Nat):List Nat:=(List.range (l.length+1)).map λi=>ldw T r (l.take i)
theorem aom(r c:Nat)(l:List Nat):rms T r (l++[c])=rms T r l++[ldw T r (l++[c])]:=by
 unfold rms;rw [aw,ay,dX (n:=l.length+1),bb,dD]
 congr 1
 ·refine dl λi hi=>?_;rw [aP] at hi;rw [dO (by omega)]
 ·rw [bI (by simp)]
theorem ag2(r:Nat)(l:List Nat):∃ p,rms T r l=p++[ldw T r l]:=by
 unfold rms;rw [dX,bb,dD];exact ⟨_,by rw [bI (ax _)]⟩
theorem ag3(h:T.Ok)(hr:r<T.go.length)(hl:∀ c∈l,c∈T.tg)(ll:l.length<=1000):Pu ik 3 [T.d,bj r, .str (S l)] (.rol ((rms T r l).map bj)):=by
 refine Pu.of rfl (au6 (jk _) (m7 _)) (r:=.ok (.ref 0) [.lst ((rms T r l).map bj)]) ?_ (a0z (ax _) rfl (jr _) (by simp)) (wu (jr _))
 unfold ik;rw [jd];show toR (v4 [some T.d,some (bj r),some (.str (S l)),none,none,none,none,none] [])=_;unfold v4;refine ar (av toR (yf (a8r (az rfl) rfl))) ?_;refine ar (av toR (jx (d:=.ref 0) (h1:=[.lst ((rms T r []).map bj)]) rfl)) ?_;refine ar (av toR (a3w (a6y (az rfl) (aq6 l _)))) ?_;have lp:=qp (g:=kN 7) (b:=ue) (λc:Nat=>D.str (S [c]))
  (λpre τ hh=>∃ t7:Option D,τ=[some T.d,some (bj r),some (.str (S l)),some (.str (S T.tg)),some (.tup (T.go.map a1w)),some (.tup (T.ks.map D.int)),some (.ref 0),t7]/\hh=[.lst ((rms T r pre).map bj)]) l
  [some T.d,some (bj r),some (.str (S l)),some (.str (S T.tg)),some (.tup (T.go.map a1w)),some (.tup (T.ks.map D.int)),some (.ref 0),none] [.lst ((rms T r []).map bj)] ?_ ⟨none,rfl,rfl⟩
 ·obtain ⟨τ',h',e,t7,rfl,rfl⟩:=lp;refine ar (av (λz=>toR (thn z _)) e) ?_;rfl
 ·rintro pre c post τ hh all ⟨t7,rfl,rfl⟩
  have hc:=hl c (by rw [all];simp)
  have pl:pre.length<=l.length:=by rw [all];simp
  refine ⟨_,_,rfl,[some T.d,some (bj r),some (.str (S l)),some (.str (S T.tg)),some (.tup (T.go.map a1w)),some (.tup (T.ks.map D.int)),some (.ref 0),some (.str (S [c]))],[.lst ((rms T r (pre++[c])).map bj)],?_,_,rfl,rfl⟩;unfold ue;obtain ⟨p,ep⟩:=ag2 (T:=T) r pre;have last:∀ hh:Hd,hh[0]? = some (.lst ((rms T r pre).map bj))->gIx (.ref 0) (.int (-1)) hh = .ok (bj (ldw T r pre)) hh:=λhh e0=>by
   rw [a9r];unfold a3e;simp only [e0];rw [ep,bb,dD,alc]
  refine ar (a67 (v:=.non) (az rfl) rfl (arg1 (dj (dj (az rfl) (dj (az rfl) (ad9 (gj _ _ _) (a3y _)) (last _ rfl)) (ald h (a4a h pre hr) _)) (azs (az rfl) (arg1 (az rfl)) (au4 hc _)) (au5 h (ade hc).2 _))) (a68 (xs:=(rms T r pre).map bj) rfl (a3z (by simp [rms];omega)))) ?_
  rw [aom,bb,a4r];rfl
theorem au7(h:T.Ok)(hr:r<T.go.length)(hl:∀ c∈l,c∈T.tg)(ll:l.length<=1000):Pu mq 3 [T.d,bj r, .str (S l)] (bj (ldw T r l)):=by
 refine Pu.of rfl (au6 (jk _) (m7 _)) (r:=.ok (bj (ldw T r l)) []) ?_ (ju (jk _) (by simp)) (jk _)
 unfold mq;rw [jd];show toR (yq ik [some T.d,some (bj r),some (.str (S l))] [])=_;unfold yq;obtain ⟨p,ep⟩:=ag2 (T:=T) r l;refine av toR (nq (dj (ahx (az rfl) (az rfl) (az rfl) (ag3 h hr hl ll _)) (ad9 (gj _ _ _) (a3y _)) ?_));rw [a9q,ep,bb,dD,alc]
noncomputable def p7:SF:=qg vz 2
def inT(T:Table)(l:List Nat):Bool:=l.all λc=>decide (c∈T.tg)
theorem aqc(bs:List Bool)(h:Hd):am2 [.rol (bs.map D.bl)] h = .ok (.bl (bs.all id)) h:=by
 unfold am2;simp only [afj]
theorem aon{l:List Nat}(ll:l.length<=1000)(hce:∀ c:Nat,ce [some (.str (S [c])),some (.str (S T.tg))] [] = .ok (.bl (decide (c∈T.tg))) [])(h1:τ[1]? = some (some (.str (S l))))(h0:τ[0]? = some (some (.str (S T.tg)))) :
  sA am2 (ak (sZ (m9 (sIt (sV 1)) t1 ce [0])) dh) τ [] = .ok (.bl (inT T l)) []:=by
 have cz:sZ (m9 (sIt (sV 1)) t1 ce [0]) τ [] = .ok (.rol ((l.map λc=>decide (c∈T.tg)).map D.bl)) []:=by
  rw [cp];refine xq (uf (λc:Nat=>D.str (S [c])) (λc=>.bl (decide (c∈T.tg))) l (a6y (az h1) (aq6 l _)) (iy (by omega)) λc _=>?_) (jq λc _=>qj _) (by simp)
  rw [vf,wj,a3v,h0];exact hce c
 refine xg cz ?_;rw [aqc]
 congr 2
 unfold inT;rw [g9];rfl
theorem au8(c:Nat)(h:Hd):gIn false (.str (S [c])) (.str (S T.tg)) h = .ok (.bl (decide (c∈T.tg))) h:=by
 show R.ok (D.bl (decide (c∈(S T.tg).cps.toList))) h=_;rw [a1n]
theorem ale{l:List Nat}(ll:l.length<=1000):Pu p7 2 [.str (S T.tg), .str (S l)] (.bl (inT T l)):=by
 refine Pu.of rfl (by intro x hx;simp only [aD,aN,bT] at hx;rcases hx with rfl | rfl<;>exact m7 _) (r:=.ok (.bl (inT T l)) []) ?_ (ju (qj _) (by simp)) (qj _)
 unfold p7;rw [jd];show toR (vz [some (.str (S T.tg)),some (.str (S l))] [])=_;unfold vz;exact av toR (nq (atv (a08 (az rfl) (gj _ _ _) (aol (d:=.str (S l)) (by simp only [Pln,a1n];exact ll))) (aon ll (λc=>dj (az rfl) (az rfl) (au8 c _)) rfl rfl)))
theorem b1o(e:f τ h = .ok (.bl false) h1):a2a f k τ h = .ok (.bl false) h1:=by unfold a2a;rw [e,cu]
theorem alf(p:Pln d)(ns:isStr d=false):Pu p7 2 [.str (S T.tg),d] (.bl false):=by
 refine Pu.of rfl (by intro x hx;simp only [aD,aN,bT] at hx;rcases hx with rfl | rfl;exact m7 _;exact p.clo) (r:=.ok (.bl false) []) ?_ (ju (qj _) (by simp)) (qj _)
 unfold p7;rw [jd];show toR (vz [some (.str (S T.tg)),some d] [])=_;unfold vz;exact av toR (nq (b1o (a08 (az rfl) (gj _ _ _) (by rw [aol p,ns]))))
end
end K23
namespace K21
open PySem PySem.Spec L2 MI AT HND K22 K23 EVX
section
variable{T:Table}
noncomputable def p7:SF:=qg vz 2
def txt(T:Table):D->Bool
 | .str x=>inT T x.cps.toList
 | _=>false
theorem aoo(l:List Nat):txt T (.str (S l))=inT T l:=by simp only [txt,a1n]
theorem ahp(p:Pln d):Pu p7 2 [.str (S T.tg),d] (.bl (txt T d)):=by
 by_cases sd:isStr d=true
 ·obtain ⟨x,rfl⟩:∃ x,d = .str x:=by cases d<;>first | exact ⟨_,rfl⟩ | (simp [isStr] at sd)
  have ll:x.cps.toList.length<=1000:=p;rw [<-ahi x] at ll ⊢;rw [a1n] at ll;rw [aoo];exact K23.ale ll
 ·have sd':isStr d=false:=by simpa using sd
  have:txt T d=false:=by cases d<;>first | rfl | (simp [isStr] at sd)
  rw [this];exact K23.alf p sd'
theorem ad7(ha:MI.clo 0 a)(hb:MI.clo 0 b):∀ x∈[a,b],MI.clo 0 x:=by
 intro x hx
 simp only [aD,aN,bT] at hx
 rcases hx with rfl | rfl
 ·exact ha
 ·exact hb
theorem aa0(ha:MI.clo 0 a)(hb:MI.clo 0 b)(hc:MI.clo 0 c):∀ x∈[a,b,c],MI.clo 0 x:=by
 intro x hx
 simp only [aD,aN,bT] at hx
 rcases hx with rfl | rfl | rfl
 ·exact ha
 ·exact hb
 ·exact hc
theorem a96(h:Hd):gIx T.d (.int 2) h = .ok (.tup (T.ks.map D.int)) h:=a69 (j:=2) rfl
theorem abk{l:List Nat}(ll:l.length<=1000):Pln (.str (S l)):=by simp only [Pln,a1n];exact ll
theorem a4b(h:T.Ok)(hr:r<T.go.length)(hh:Hd):gIx (.tup (T.ks.map D.int)) (bj r) hh = .ok (.int (kI T r)) hh:=by
 obtain ⟨k,e,_⟩:=aoj h hr;exact a69 (by rw [aE,e];simp [kI,e])
end
section
variable{T:Table}
abbrev ones(t:List Nat):List D:=t.map λc=>.str (S [c])
theorem join_ones:∀ t:List Nat,Txt.join (S []) (t.map λc=>S [c])=S t:=by
 have e:∀ zs:List Str,Txt.join (S []) zs=Str.join (S []) zs:=PySem.StrLaws.glued_eq_join (S []);have st:∀ (x y:Str) (r:List Str),Str.join (S []) (x::y::r)=x++S []++Str.join (S []) (y::r):=λ_ _ _=>rfl
 intro t
 rw [e]
 induction t with
 | nil=>rfl
 | cons a t ih =>
  cases t with
  | nil=>rfl
  | cons b t =>
   rw [aZ,aZ,st,show S [b]::t.map (λc=>S [c])=(b::t).map (λc=>S [c]) from rfl,ih,atu,atu]
   rfl
theorem adf:∀ t:List Nat,ae4 (ones t)=some (t.map λc=>S [c])
 | []=>rfl
 | a::t=>by
  show (ae4 (ones t)).map _=_;rw [adf t];rfl
theorem aop(t:List Nat):((t.map λc=>S [c]).map (·.length)).sum=t.length:=by
 induction t with
 | nil=>rfl
 | cons a t ih=>rw [aZ,aZ,List.sum_cons,ih,aef,ba];simp;omega
theorem alg{t:List Nat}(z:t.length<=1000000):aal (.str (S [])) [.rol (ones t)] h = .ok (.str (S t)) h:=by
 unfold aal;simp only [adf,aop,aef,dW,Nat.mul_zero,Nat.add_zero,join_ones];rw [aL (by omega)]
theorem b4w{h h':Hd}(hl:h'.length=h.length)(e:f τ h = .ok (.ref h'.length) (h'++[.lst xs]))(cx:clos h.length xs)(c:∀ o∈h',a6n h.length o):sZ f τ h = .ok (.rol xs) h':=by
 unfold sZ;rw [e,a0z (by omega) (by simp) cx (by rw [<-hl];simpa [hl] using c)]
 rw [<-hl];simp
theorem aoq(e:f τ h = .ok (.int i) h1):oS f τ h = .ok (some i) h1:=by unfold oS;rw [e];rfl
theorem aor(e:f τ h = .ok d h1)(e1:lo τ h1 = .ok a h2)(e2:hi τ h2 = .ok b h3)(e3:am3 d a b h3 = .ok v h4):a6s f lo hi τ h = .ok v h4:=by
 unfold a6s;rw [e,cu,e1,cu,e2,cu,e3]
theorem a7n(n:Nat)(l:List Nat):clos n (ones l):=jq λc _=>m7 _
theorem abl(tg:List Nat):∀ l:List Nat,(l.filterMap λc=>if (!decide (c∈tg))=true then some (D.str (S [c])) else none)=ones (l.filter λc => !decide (c∈tg))
 | []=>rfl
 | c::l=>by
  have ih:=abl tg l
  by_cases h:c∈tg
  ·rw [eU (by rw [aQ h];rfl),gX (by simp [h]),ih]
  ·rw [eV (b:=D.str (S [c])) (by rw [aU h];rfl),gY (by simp [h]),ih]
   rfl
theorem aqd(c:Nat)(t:List Nat)(h:Hd):gIn true (.str (S [c])) (.str (S t)) h = .ok (.bl (!decide (c∈t))) h:=by
 show R.ok (D.bl (!decide (c∈(S t).cps.toList))) h=_;rw [a1n]
end
end K21
namespace SRC
open PySem PySem.Spec L2 MI AT HND EVX K22 K23 K21
section
variable{T:Table}
theorem kI0(h:T.Ok):kI T 0 = -1:=by unfold kI;rw [h.k0];rfl
end
end SRC
namespace K40
open PySem PySem.Spec L2 MI AT HND EVX K22 K23 K21
section
variable{τ:Sd}{h h1 h2:Hd}{c1 c2:ST}{f g k:SE}{p q:SS}
theorem azt(e1:c1 τ h = .ok a h)(e2:a=true->c2 τ h = .ok b h):a82 c1 c2 τ h = .ok (a && b) h:=by
 cases a with
 | true=>rw [aoe e1 (e2 rfl)];rfl
 | false=>rw [ayl e1];rfl
theorem orB(e1:c1 τ h = .ok a h)(e2:a=false->c2 τ h = .ok b h):sOr c1 c2 τ h = .ok (a || b) h:=by
 cases a with
 | true=>rw [orT e1];rfl
 | false=>rw [orF e1 (e2 rfl)];rfl
theorem aos(e1:f τ h = .ok (.bl a) h)(e2:a=true->k τ h = .ok (.bl b) h):a2a f k τ h = .ok (.bl (a && b)) h:=by
 cases a with
 | true=>rw [atv e1 (e2 rfl)];rfl
 | false=>unfold a2a;rw [e1,cu];rfl
theorem av4(x y:Int):gGe (.int x) (.int y) h = .ok (.bl (decide (y<=x))) h:=rfl
theorem b39(x y:Int):gLt (.int x) (.int y) h = .ok (.bl (decide (x<y))) h:=rfl
theorem aot(x y:Int):hEq (.int x) (.int y) h = .ok (.bl (decide (x=y))) h:=by
 by_cases c:x=y
 ·rw [a8t c,aQ c]
 ·rw [abg c,aU c]
theorem av5(x y:Int):hNe (.int x) (.int y) h = .ok (.bl (decide (x≠y))) h:=by
 by_cases c:x=y
 ·rw [atx c,aU (by simpa using c)]
 ·rw [ayn c,aQ c]
end
theorem au9(ha:MI.clo 0 a)(hb:MI.clo 0 b)(hc:MI.clo 0 c)(hd:MI.clo 0 d):∀ x∈[a,b,c,d],MI.clo 0 x:=by
 intro x hx
 simp only [aD,aN,bT] at hx
 rcases hx with rfl | rfl | rfl | rfl
 ·exact ha
 ·exact hb
 ·exact hc
 ·exact hd
section
variable{T:Table}
def rw'(T:Table)(r:Nat):List Nat:=(T.go[r]?).getD []
theorem a6z(h:T.Ok)(hr:r<T.go.length):T.go[r]? = some (rw' T r)/\(rw' T r).length<=6/\∀ x∈rw' T r,x<T.go.length:=by
 have e:T.go[r]? = some (rw' T r):=by unfold rw';rw [af hr];rfl
 obtain ⟨a,b⟩:=h.row _ (aM e);exact ⟨e,by have:=h.tong.hi;omega,b⟩
theorem aou(h:T.Ok)(hr:r<T.go.length)(hh:Hd):gIx (.tup (T.go.map a1w)) (bj r) hh = .ok (a1w (rw' T r)) hh:=a69 (by rw [aE,(a6z h hr).1];rfl)
theorem go1(h:Hd):gIx T.d (.int 1) h = .ok (.tup (T.go.map a1w)) h:=a69 (j:=1) rfl
theorem aa1(h:T.Ok)(hr:r<T.go.length) : -1<=kI T r:=by
 obtain ⟨k,e,k1,_⟩:=aoj h hr;unfold kI;rw [e];exact k1
end
section
variable{T:Table}
theorem alh(ha:MI.clo 0 a):∀ x∈[a],MI.clo 0 x:=by intro x hx;rw [ai] at hx;subst hx;exact ha
end
theorem azu(e:fi τ h = .ok ⟨xs,ck⟩ h1):a5c fi G b τ h=forL ck G b xs τ h1:=by
 unfold a5c;rw [e];rfl
section
variable{T:Table}
def bg(bs:List Bool)(i:Nat):Bool:=(bs[i]?).getD false
theorem ayu{bs:List Bool}(hi:i<bs.length):(bs.map D.bl)[i]? = some (.bl (bg bs i)):=by unfold bg;rw [aE,af hi];rfl
abbrev HB(bs:List Bool):Hd:=[.lst (bs.map D.bl)]
theorem ayv(bs:List Bool)(i:Nat):(bs.map D.bl).set i (.bl true)=(bs.set i true).map D.bl:=by rw [List.map_set]
theorem kge(h:T.Ok)(hp:Hd)(h0:τ[0]? = some (some T.d))(hj:τ[j]? = some (some (bj t)))(ht:t<T.go.length):s2 gIx (s2 gIx (sV 0) (sC (.int 2))) (sV j) τ hp = .ok (.int (kI T t)) hp:=dj (dj (az h0) (gj _ _ _) (a96 _)) (az hj) (a4b h ht _)
theorem aqe(h:T.Ok)(hp:Hd)(h0:τ[0]? = some (some T.d))(hj:τ[j]? = some (some (bj r)))(hr:r<T.go.length):sIt (s2 gIx (s2 gIx (sV 0) (sC (.int 1))) (sV j)) τ hp = .ok ⟨(rw' T r).map bj,λ_=>True⟩ hp:=a6y (dj (dj (az h0) (gj _ _ _) (go1 _)) (az hj) (aou h hr _)) rfl
end
section
variable{T:Table}
theorem yg(p:Nat->Bool):∀ l:List Nat,(l.filterMap λi=>if p i=true then some (bj i) else none)=(l.filter p).map bj
 | []=>rfl
 | i::l=>by
  cases h:p i with
  | true=>rw [eV (b:=bj i) (by rw [h];rfl),gY h,yg p l];rfl
  | false=>rw [eU (by rw [h];rfl),gX (by rw [h];simp),yg p l]
end
end K40
namespace K22
open PySem PySem.Spec L2 MI AT HND
section
variable{T:Table}
noncomputable def g8:SF:=qg (xf iz) 1
noncomputable def n8:SF:=qg (a6v g8) 1
abbrev ag4(T:Table):List D:=(List.range T.go.length).map (A T)
abbrev ag5(T:Table):List D:=(List.range T.go.length).map λr=>.bl (!a3b (A T r))
theorem a8u(n:Nat):clos n (ag4 T):=jq λr _=>au3 _ _
theorem a70(n:Nat):clos n (ag5 T):=jq λr _=>qj _
theorem ayw:∀ x∈[T.d],clo 0 x:=by
 intro x hx
 rw [ai] at hx;subst hx;exact Table.clo
theorem T1(hh:Hd):gIx T.d (.int 1) hh = .ok (.tup (T.go.map a1w)) hh:=a69 (j:=1) rfl
theorem b1p(hh:Hd):v6 [.tup (T.go.map a1w)] hh = .ok (.int (T.go.length:Nat)) hh:=by rw [a3t,aA]
theorem abm(h:T.Ok):Pu g8 1 [T.d] (.tup (ag4 T)):=by
 have n32:=h.n32;refine Pu.of rfl ayw (r:=.ok (.tup (ag4 T)) []) ?_ (ju (u5 (a8u _)) (by simp)) (u5 (a8u _))
 unfold g8;rw [jd];show toR (xf iz [some T.d] [])=_;unfold xf;have cz:sZ (m9 (sRg xj (ak (sA v6 (ak (s2 gIx (sV 0) (sC (.int 1))) dh)) dh)) t1 (xr iz) [0]) [some T.d] [] = .ok (.rol (ag4 T)) []:=by
  refine xq (uf (λr:Nat=>D.int (r:Nat)) (A T) (List.range T.go.length) (a5f (xg (dj (az rfl) (gj _ _ _) (T1 _)) (b1p _)) (iy (by omega))) (iy (by rw [aT];omega)) λr hr=>?_) (a8u _) (by simp)
  rw [vf];exact a08 (az rfl) (az rfl) (adc h (aP.mp hr) _)
 exact av toR (nq (xg cz rfl))
theorem wk(h:T.Ok):Pu n8 1 [T.d] (.tup (ag5 T)):=by
 have n32:=h.n32;refine Pu.of rfl ayw (r:=.ok (.tup (ag5 T)) []) ?_ (ju (u5 (a70 _)) (by simp)) (u5 (a70 _))
 unfold n8;rw [jd];show toR (a6v g8 [some T.d] [])=_;unfold a6v;have cz:sZ (m9 (sIt (sA (kj false 1 g8) (ak (sV 0) dh))) t1 (a4k g8) []) [some T.d] [] = .ok (.rol (ag5 T)) []:=by
  refine xq (uf (A T) (λr=>.bl (!a3b (A T r))) (List.range T.go.length) (a6y (xg (az rfl) (abm h _)) rfl) (iy (by rw [aT];omega)) λr hr=>?_) (a70 _) (by simp)
  rw [vf];exact dj (az rfl) (gj _ _ _) (a3u _)
 exact av toR (nq (xg cz rfl))
end
end K22
namespace MI
open PySem PySem.Spec L2 SRC HND
theorem ali{y:Nat}:(y:Int)∈cst l↔y∈l:=by
 unfold cst;rw [bA]
 constructor
 ·rintro ⟨x,hx,e⟩;have:x=y:=by omega
  subst this;exact hx
 ·intro h;exact ⟨y,h,rfl⟩
theorem alj(l:List Nat)(y:Nat):stepK (cst l) (y:Int)=cst (stepK l y):=by
 unfold L2.stepK
 by_cases h:y∈l
 ·rw [aL h,aL (ali.mpr h)]
 ·rw [aY h,aY λz=>h (ali.mp z)];unfold cst;rw [bb];rfl
structure Fw (n:Nat) (l:List Nat):Prop where
 nd:l.Nodup
 lt:∀ x∈l,x<n
theorem Fw.nil:Fw n []:=⟨gC,by simp⟩
theorem Fw.len(h:Fw n l):l.length<=n:=BF.a6b n l h.nd h.lt
theorem Fw.step(M:Fw n l)(hx:x<n):Fw n (stepK l x):=by
 unfold L2.stepK
 by_cases h:x∈l
 ·rw [aL h];exact M
 rw [aY h];refine ⟨?_,λy hy=>?_⟩
 ·rw [bY];refine ⟨M.nd,by simp,λa ha b hb=>?_⟩
  rw [ai] at hb;subst hb;exact λe=>h (e ▸ ha)
 ·rcases aS.mp hy with z | z
  ·exact M.lt y z
  ·rw [ai] at z;subst z;exact hx
theorem aov{x y:Nat}:y∈stepK l x↔y∈l\/y=x:=by
 unfold L2.stepK
 by_cases h:x∈l
 ·rw [aL h];exact ⟨.inl,λz=>z.elim id λe=>e ▸ h⟩
 ·rw [aY h,aS,ai]
theorem Fw.fold:∀ {r l:List Nat},Fw n l->(∀ x∈r,x<n)->Fw n (r.foldl stepK l)
 | [],_,h,_=>h
 | x::r,l,h,k=>Fw.fold (r:=r) (h.step (k x aK)) λy hy=>k y (aG _ hy)
theorem ag6:∀ {r l:List Nat},y∈r.foldl stepK l↔y∈l\/y∈r
 | [],l=>by simp
 | x::r,l=>by
  rw [fQ,ag6 (r:=r),aov,aD]
  constructor
  ·rintro ((h | h) | h)
   ·exact .inl h
   ·exact .inr (.inl h)
   ·exact .inr (.inr h)
  ·rintro (h | h | h)
   ·exact .inl (.inl h)
   ·exact .inl (.inr h)
   ·exact .inr h
theorem adg(hn:n<=60):∀ {r l:List Nat},Fw n l->(∀ y∈r,y<n)->setIn (λ_=>True) (sV 1) x rd (r.map bj) (cst l) h = .ok (cst (r.foldl stepK l)) h
 | [],l,_,_=>by rw [db,setIn,aL True.intro];rfl
 | y::r,l,M,k=>by
  rw [aZ,setIn,aL True.intro];have e:sV 1 (some x::some (bj y)::rd) h = .ok (bj y) h:=az rfl;rw [e,cu];have hl:=M.len;show (if (cst l).length<63 then setIn (λ_=>True) (sV 1) x rd (r.map bj) (stepK (cst l) (y:Int)) h else .no)=_
  rw [aL (by unfold cst;rw [aA];omega),alj]
  exact adg hn (M.step (k y aK)) λz hz=>k z (aG _ hz)
theorem aa2{n:Nat}(hn:n<=60){fj:SI}{rd:Sd}{h:Hd}{α:Type}(g:α->D)(row:α->List Nat):∀ {xs:List α} {l:List Nat},Fw n l->(∀ x∈xs,∀ y∈row x,y<n)->(∀ x∈xs,fj (some (g x)::none::rd) h = .ok ⟨(row x).map bj,λ_=>True⟩ h)->
  a4w (λ_=>True) fj (sV 1) rd (xs.map g) (cst l) h = .ok (cst (xs.foldl (λl x=>(row x).foldl stepK l) l)) h
 | [],l,_,_,_=>by rw [db,a4w,aL True.intro];rfl
 | x::xs,l,M,k,e=>by
  rw [aZ,a4w,aL True.intro,e x aK,cu];dsimp only;have kx:=k x aK;rw [adg hn M kx,cu];exact aa2 hn g row (M.fold kx) (λz hz=>k z (aG _ hz)) λz hz=>e z (aG _ hz)
theorem Fw.folds{n:Nat}{α:Type}(row:α->List Nat):∀ {xs:List α} {l:List Nat},Fw n l->(∀ x∈xs,∀ y∈row x,y<n)->Fw n (xs.foldl (λl x=>(row x).foldl stepK l) l)
 | [],_,h,_=>h
 | x::xs,l,h,k=>Fw.folds row (xs:=xs) (h.fold (k x aK)) λy hy=>k y (aG _ hy)
theorem adh{y:Nat}{α:Type}(row:α->List Nat):∀ {xs:List α} {l:List Nat},y∈xs.foldl (λl x=>(row x).foldl stepK l) l↔y∈l\/∃ x∈xs,y∈row x
 | [],l=>by simp
 | x::xs,l=>by
  rw [fQ,adh row (xs:=xs),ag6]
  constructor
  ·rintro ((h | h) | ⟨z,hz,h⟩)
   ·exact .inl h
   ·exact .inr ⟨x,aK,h⟩
   ·exact .inr ⟨z,aG _ hz,h⟩
  ·rintro (h | ⟨z,hz,h⟩)
   ·exact .inl (.inl h)
   ·rcases aD.mp hz with rfl | hz
    ·exact .inl (.inr h)
    ·exact .inr ⟨z,hz,h⟩
theorem aow{fi fj:SI}{ix:List Nat}{τ:Sd}{h:Hd}{α:Type}(g:α->D)(xs:List α)(row:α->List Nat){n:Nat}(hn:n<=60)(e:fi τ h = .ok ⟨xs.map g,λ_=>True⟩ h)
  (ej:∀ x∈xs,fj (some (g x)::none::frs' ix τ) h = .ok ⟨(row x).map bj,λ_=>True⟩ h) (lt:∀ x∈xs,∀ y∈row x,y<n) :
  ∃ ts:List Nat,Fw n ts/\ts.Pairwise (·<=·)/\(∀ y,y∈ts↔∃ x∈xs,y∈row x)/\ao6 fi fj (sV 1) ix τ h = .ok (.ref h.length) (h++[.lst (ts.map bj)]):=by
 obtain ⟨m,em,pm,sm⟩:=a9x (xs.foldl (λl x=>(row x).foldl stepK l) []);have F:=Fw.folds row (l:=[]) (n:=n) .nil lt;refine ⟨m,⟨pm.nodup_iff.mpr F.nd,λx hx=>F.lt x (pm.mem_iff.mp hx)⟩,sm,λy=>?_,?_⟩
 ·rw [pm.mem_iff,adh];simp
 ·unfold ao6;rw [e,cu];dsimp only;have:=aa2 hn (fj:=fj) (rd:=frs' ix τ) (h:=h) g row (xs:=xs) (l:=[]) .nil lt ej;rw [show cst []=([]:List Int) from rfl] at this
  rw [this,cu];unfold atk;have fl:=F.len;rw [aL (by unfold cst;rw [aA];omega),em,<-aeh]
end MI
namespace RCH
open PySem PySem.Spec L2 MI AT HND EVX K22 K23 K21 K40
def cnt(n:Nat)(p:Nat->Bool):Nat:=((List.range n).filter p).length
theorem adi:∀ {l:List Nat},(∀ x∈l,p x=true->q x=true)->(∃ x∈l,q x=true/\p x=false)->(l.filter p).length<(l.filter q).length
 | [],_,⟨_,h,_⟩=>by simp at h
 | x::l,h,⟨y,hy,q1,p1⟩=>by
  have le:(l.filter p).length<=(l.filter q).length:=by
   clear hy q1 p1 y
   induction l with
   | nil=>simp
   | cons z l ih =>
    have ih:=ih λy hy=>h y (by simp only [aD] at hy ⊢;rcases hy with e | e<;>simp [e])
    have hz:=h z (by simp)
    rw [eO,eO]
    cases e1:p z with
    | true=>rw [hz e1];simp only [dv,ba];omega
    | false=>cases q z<;>simp<;>omega
  rw [eO,eO]
  rcases aD.mp hy with rfl | hy
  ·rw [q1,p1];simp only [dv,cb,dP,ba];omega
  ·have lt:=adi (l:=l) (λz hz=>h z (aG _ hz)) ⟨y,hy,q1,p1⟩
   cases e1:p x with
   | true=>rw [h x aK e1];simp only [dv,ba];omega
   | false=>cases q x<;>simp<;>omega
theorem rest{n:Nat}{P:Nat->Nat->Bool}(anti:∀ k x,x<n->P (k+1) x=true->P k x=true)(det:∀ k,(∀ x,x<n->P k x=P (k+1) x)->∀ x,x<n->P (k+1) x=P (k+2) x):∀ k x,x<n->P n x=true->P (n+k) x=true:=by
 have key:∀ k,cnt n (P k)<=n - k\/∃ j,j<=k/\∀ x,x<n->P j x=P (j+1) x:=by
  intro k
  induction k with
  | zero=>exact .inl (by unfold cnt;exact cH (List.length_filter_le _ _) (by simp))
  | succ k ih =>
   rcases ih with ih | ⟨j,hj,e⟩
   ·by_cases c:∃ x∈List.range n,P k x=true/\P (k+1) x=false
    ·have:=adi (p:=P (k+1)) (q:=P k) (l:=List.range n) (λx hx=>anti k x (aP.mp hx)) c
     exact .inl (by unfold cnt at ih ⊢;omega)
    ·refine .inr ⟨k,gU _,λx hx=>?_⟩
     cases e1:P k x with
     | true =>
      cases e2:P (k+1) x with
      | true=>rfl
      | false=>exact (c ⟨x,aP.mpr hx,e1,e2⟩).elim
     | false =>
      cases e2:P (k+1) x with
      | true=>rw [anti k x hx e2] at e1;cases e1
      | false=>rfl
   ·exact .inr ⟨j,Nat.le_succ_of_le hj,e⟩
 have stay:∀ j,(∀ x,x<n->P j x=P (j+1) x)->∀ k x,x<n->P (j+k) x=P j x:=by
  intro j e k
  have step:∀ k x,x<n->P (j+k) x=P (j+k+1) x:=by
   intro k
   induction k with
   | zero=>exact e
   | succ k ih=>exact det _ ih
  induction k with
  | zero=>intro x _;rfl
  | succ k ih=>intro x hx;rw [<-ih x hx];exact (step k x hx).symm
 intro k x hx h
 rcases key n with z | ⟨j,hj,e⟩
 ·have:x∈(List.range n).filter (P n):=bH.mpr ⟨aP.mpr hx,h⟩
  have:=List.length_pos_of_mem this
  unfold cnt at z;omega
 ·have e1:=stay j e (n - j) x hx;have e2:=stay j e (n - j+k) x hx;rw [show j+(n - j)=n by omega] at e1
  rw [show j+(n - j+k)=n+k by omega] at e2
  rw [e2,<-e1];exact h
section
variable{T:Table}
def hp(T:Table)(x:Nat):Bool := !a3b (A T x)
theorem ayx(h:T.Ok)(hr:r<T.go.length):rw' T r=(List.range T.tg.length).map (stp T r):=by unfold rw';rw [ays h hr];rfl
theorem a8v(h:T.Ok)(hr:r<T.go.length):x∈rw' T r↔∃ c,c<T.tg.length/\stp T r c=x:=by
 rw [ayx h hr,bA];exact ⟨λ⟨c,hc,e⟩=>⟨c,aP.mp hc,e⟩,λ⟨c,hc,e⟩=>⟨c,aP.mpr hc,e⟩⟩
theorem a8w(h:T.Ok)(hr:r<T.go.length):FL T (k+1) r=true↔∃ x∈rw' T r,FL T k x=true:=by
 show ((List.range T.tg.length).any λc=>FL T k (stp T r c))=true↔_;rw [bD]
 constructor
 ·rintro ⟨c,hc,e⟩;exact ⟨_,(a8v h hr).mpr ⟨c,aP.mp hc,rfl⟩,e⟩
 ·rintro ⟨x,hx,e⟩
  obtain ⟨c,hc,rfl⟩:=(a8v h hr).mp hx;exact ⟨c,aP.mpr hc,e⟩
theorem abn(e:hp T r=true):∃ k,k<T.go.length/\FL T (k+1) r=true:=by
 unfold hp A at e
 cases q:aok T r with
 | none=>rw [q] at e;simp [a3b] at e
 | some i =>
  unfold aok at q;obtain ⟨fi,hi,_⟩:=dL.mp q;exact ⟨i,by simpa using hi,by rw [fZ];exact fi⟩
theorem aox(h:T.Ok)(hr:r<T.go.length)(f:FL T (k+1) r=true):hp T r=true:=by
 obtain ⟨d,_,_,q⟩:=a6d h hr;have e:=aqa h q
 rcases q with ⟨w,_,_,_,_,ew⟩ | ⟨_,no⟩
 ·unfold hp;rw [<-e,ew];rfl
 ·obtain ⟨gl,go,gh⟩:=BF.ada f;exact (no _ go ⟨λz=>by
   have:=av List.length z
   simp [gl] at this,gh⟩).elim
theorem abo(h:T.Ok)(hr:r<T.go.length):FL T 0 r=true↔kI T r ≠ -1:=by
 show knd T r=true↔_;obtain ⟨k,e,_,kd⟩:=aoj h hr;unfold kI;rw [kd,e];simp
theorem aua(h:T.Ok)(hr:r<T.go.length):hp T r=true↔∃ x∈rw' T r,kI T x ≠ -1\/hp T x=true:=by
 obtain ⟨_,_,rx⟩:=a6z h hr
 constructor
 ·intro e
  obtain ⟨k,_,f⟩:=abn e;obtain ⟨x,hx,fx⟩:=(a8w h hr).mp f
  cases k with
  | zero=>exact ⟨x,hx, .inl ((abo h (rx x hx)).mp fx)⟩
  | succ k=>exact ⟨x,hx, .inr (aox h (rx x hx) fx)⟩
 ·rintro ⟨x,hx,e | e⟩
  ·exact aox (k:=0) h hr ((a8w h hr).mpr ⟨x,hx,(abo h (rx x hx)).mpr e⟩)
  ·obtain ⟨k,_,f⟩:=abn e;exact aox (k:=k+1) h hr ((a8w h hr).mpr ⟨x,hx,f⟩)
def gd(T:Table)(x:Nat):Bool:=decide (kI T x = -1) && hp T x
def Lam(T:Table)(st:List Nat):Nat->Nat->Prop
 | 0,x=>x∈st
 | k+1,x=>(∃ r,Lam T st k r/\x∈rw' T r)/\gd T x=true
def Led(T:Table)(st:List Nat)(k x:Nat):Prop:=∃ r,Lam T st k r/\x∈rw' T r
def Kn(T:Table)(st:List Nat)(k:Nat):Prop:=∃ x,Led T st k x/\kI T x ≠ -1
open Classical in
noncomputable def Mx(T:Table)(st:List Nat):Nat->Nat
 | 0=>0
 | k+1=>if Kn T st k then k+1 else Mx T st k
theorem ag7(h:T.Ok)(hs:∀ x∈st,x<T.go.length):∀ {k x:Nat},Lam T st k x->x<T.go.length
 | 0,x,q=>hs x q
 | k+1,x,⟨⟨r,q,hx⟩,_⟩=>(a6z h (ag7 h hs q)).2.2 x hx
theorem aub:∀ k,Mx T st k<=k
 | 0=>ax _
 | k+1=>by
  have:=aub (st:=st) k
  unfold Mx
  split<;>omega
def Dp(T:Table):Nat->Nat->Bool
 | 0,_=>true
 | k+1,x=>(rw' T x).any λy=>gd T y && Dp T k y
theorem abp:∀ k x,Dp T (k+1) x=true->Dp T k x=true
 | 0,_,_=>rfl
 | k+1,x,e=>by
  simp only [Dp,bD,aX] at e ⊢;obtain ⟨y,hy,g,y2,hy2,g2,d⟩:=e;refine ⟨y,hy,g,abp k y ?_⟩;simp only [Dp,bD,aX];exact ⟨y2,hy2,g2,d⟩
theorem ayy(h:T.Ok)(k:Nat)(e:∀ x,x<T.go.length->Dp T k x=Dp T (k+1) x)(x:Nat)(hx:x<T.go.length):Dp T (k+1) x=Dp T (k+2) x:=by
 show (rw' T x).any _=(rw' T x).any _;obtain ⟨_,_,rx⟩:=a6z h hx;rw [ff,bD,bD]
 constructor
 ·rintro ⟨y,hy,q⟩;exact ⟨y,hy,by rw [<-e y (rx y hy)];exact q⟩
 ·rintro ⟨y,hy,q⟩;exact ⟨y,hy,by rw [e y (rx y hy)];exact q⟩
theorem aqf(h:T.Ok){x:Nat}(hx:x<T.go.length)(d:Dp T T.go.length x=true)(k:Nat):Dp T (T.go.length+k) x=true:=rest (P:=Dp T) (λk x _=>abp k x) (ayy h) k x hx d
theorem adk:∀ {k j:Nat},(∃ x,Lam T st (j+k) x)↔∃ r,Lam T st j r/\Dp T k r=true
 | 0,j=>⟨λ⟨x,q⟩=>⟨x,q,rfl⟩,λ⟨r,q,_⟩=>⟨r,q⟩⟩
 | k+1,j=>by
  rw [show j+(k+1)=(j+1)+k by omega,adk (k:=k) (j:=j+1)]
  constructor
  ·rintro ⟨y,⟨⟨r,q,hy⟩,g⟩,d⟩
   refine ⟨r,q,?_⟩;simp only [Dp,bD,aX];exact ⟨y,hy,g,d⟩
  ·rintro ⟨r,q,d⟩
   simp only [Dp,bD,aX] at d;obtain ⟨y,hy,g,d⟩:=d;exact ⟨y,⟨⟨r,q,hy⟩,g⟩,d⟩
theorem ayz(h:T.Ok)(hs:∀ x∈st,x<T.go.length)(e:∃ x,Lam T st T.go.length x)(k:Nat):∃ x,Lam T st k x:=by
 obtain ⟨r,q,d⟩:=(adk (T:=T) (k:=T.go.length) (j:=0)).mp (by rw [dY];exact e)
 have d':Dp T k r=true:=by
  have:=aqf h (hs r q) d k
  clear d
  revert this
  generalize T.go.length=n
  intro this
  induction n with
  | zero=>rwa [dY] at this
  | succ n ih=>exact ih (abp _ _ (by rw [show n+k+1=n+1+k by omega];exact this))
 have:=(adk (T:=T) (k:=k) (j:=0)).mpr ⟨r,q,d'⟩
 rwa [dY] at this
theorem abq(e:¬ ∃ x,Lam T st k x):∀ j,¬ ∃ x,Lam T st (k+j) x
 | 0=>e
 | j+1=>λ⟨x,⟨r,q,_⟩,_⟩=>abq e j ⟨r,q⟩
theorem aek(e:¬ ∃ x,Lam T st k x):∀ j,Mx T st (k+j)=Mx T st k
 | 0=>rfl
 | j+1=>by
  show Mx T st (k+j+1)=_;rw [Mx,aY,aek e j]
  rintro ⟨x,⟨r,q,_⟩,_⟩
  exact abq e j ⟨r,q⟩
theorem ael:∀ {j:Nat},Mx T st k<=Mx T st (k+j)
 | 0=>ax _
 | j+1=>by
  have:=ael (st:=st) (k:=k) (j:=j)
  have l:=aub (T:=T) (st:=st) (k+j);show _<=Mx T st (k+j+1);rw [Mx]
  split<;>omega
theorem aoy(e:Kn T st k):Mx T st (k+1)=k+1:=by unfold Mx;rw [aL e]
theorem az0(h:T.Ok)(hs:∀ x∈st,x<T.go.length):∀ {k m x:Nat},Lam T st m x->FL T (k+1) x=true->∃ j,m<=j/\j<=m+k/\Kn T st j
 | k,m,x,q,f=>by
  have hx:=ag7 h hs q;obtain ⟨_,_,rx⟩:=a6z h hx;obtain ⟨y,hy,fy⟩:=(a8w h hx).mp f
  by_cases c:kI T y = -1
  ·cases k with
   | zero=>exact absurd c ((abo h (rx y hy)).mp fy)
   | succ k =>
    have g:gd T y=true:=by unfold gd;rw [aQ c,aox h (rx y hy) fy];rfl
    obtain ⟨j,a,b,e⟩:=az0 h hs (m:=m+1) ⟨⟨x,q,hy⟩,g⟩ fy;exact ⟨j,by omega,by omega,e⟩
  ·exact ⟨m,ax _,by omega,y,⟨x,q,hy⟩,c⟩
noncomputable def RA(T:Table)(st:List Nat):D:=if Mx T st (2*T.go.length+1)<=T.go.length then bj (Mx T st (2*T.go.length+1)) else .non
theorem aa3:MI.clo 0 (RA T st):=by unfold RA;split;exact jk _;exact a6u
theorem alk(h:T.Ok)(hs:∀ x∈st,x<T.go.length)(hk:k<=T.go.length+1)(e:¬ ∃ x,Lam T st k x):RA T st=bj (Mx T st k):=by
 have e2:¬ ∃ x,Lam T st T.go.length x:=λz=>e (ayz h hs z k);have m1:=aek e (2*T.go.length+1 - k);have m2:=aek e2 (T.go.length+1);rw [show T.go.length+(T.go.length+1)=2*T.go.length+1 by omega] at m2
 have h1:=h.n1;rw [show k+(2*T.go.length+1 - k)=2*T.go.length+1 by omega] at m1
 unfold RA;rw [aL (by rw [m2];exact aub _),m1]
theorem auc(h:T.Ok)(hs:∀ x∈st,x<T.go.length)(e:∃ x,Lam T st (T.go.length+1) x):RA T st = .non:=by
 have h1:=h.n1;have e0:∃ x,Lam T st T.go.length x:=by obtain ⟨x,⟨r,q,_⟩,_⟩:=e;exact ⟨r,q⟩
 obtain ⟨x,q⟩:=e0;have g:gd T x=true:=by
  cases hn:T.go.length with
  | zero=>omega
  | succ n=>rw [hn] at q;exact q.2
 have hx:hp T x=true:=by unfold gd at g;rw [aX] at g;exact g.2
 obtain ⟨k,hk,f⟩:=abn hx;obtain ⟨j,a,b,kn⟩:=az0 h hs q f;have m1:=aoy kn;have m2:=ael (T:=T) (st:=st) (k:=j+1) (j:=2*T.go.length+1 - (j+1));rw [show j+1+(2*T.go.length+1 - (j+1))=2*T.go.length+1 by omega] at m2
 unfold RA;rw [aY (by omega)]
end
section
variable{T:Table}
theorem ag8{bs:List Bool}(hr:r<bs.length):bg (bs.set r true) x=(decide (x=r) || bg bs x):=by
 unfold bg
 by_cases e:r=x
 ·subst e;rw [cE hr];simp
 ·rw [d0 e,aU (λz=>e z.symm)];simp
structure Mk (T:Table) (j:Nat) (bs:List Bool):Prop where
 len:bs.length=T.go.length
 snd:∀ r,r<T.go.length->bg bs r=true->hp T r=true
 all:∀ r,r<T.go.length->∀ k,k<j->FL T (k+1) r=true->bg bs r=true
theorem Mk.set(M:Mk T j bs)(hr:r<T.go.length)(e:hp T r=true):Mk T j (bs.set r true):=by
 have l:=M.len;refine ⟨by rw [fP];exact l,λx hx q=>?_,λx hx k hk f=>?_⟩
 ·rw [ag8 (by omega),eY] at q
  rcases q with q | q
  ·rw [bB q];exact e
  ·exact M.snd x hx q
 ·rw [ag8 (by omega),M.all x hx k hk f,Bool.or_true]
theorem lit{T:Table}(h:T.Ok)(hr:r<T.go.length)(hx:x∈rw' T r)(e:kI T x ≠ -1\/hp T x=true):hp T r=true:=(aua h hr).mpr ⟨x,hx,e⟩
noncomputable def iu:SF:=qg a4l 5
abbrev hpD(T:Table):List D:=(List.range T.go.length).map λr=>D.bl (hp T r)
theorem a8x(n:Nat):clos n (hpD T):=jq λ_ _=>qj _
theorem adl(hr:r<T.go.length):(hpD T)[r]? = some (.bl (hp T r)):=by rw [aE,ci hr];rfl
theorem aem(h:T.Ok):Pu iu 1 [T.d] (.rol (hpD T)):=by
 have n32:=h.n32;have ln:∀ (τ:Sd) (bs:List Bool),τ[1]? = some (some (.ref 0))->bs.length=T.go.length->sRg xj (ak (sA v6 (ak (sV 1) dh)) dh) τ (HB bs) = .ok ⟨(List.range T.go.length).map bj,λ_=>True⟩ (HB bs):=λτ bs h1 bl =>
  a5f (n:=T.go.length) (xg (az h1) ((a8s (xs:=bs.map D.bl) rfl).trans (by rw [aA,bl]))) (iy (by omega))
 have L2:∀ (j:Nat) (bs:List Bool) (t2 t4:Option D) (r:Nat),Mk T j bs->r<T.go.length->∃ (bs':List Bool) (t4':Option D),a0c [some T.d,some (.ref 0),t2,some (bj r),t4] (HB bs) = .nx [some T.d,some (.ref 0),t2,some (bj r),t4'] (HB bs')/\Mk T j bs'/\(∀ x,bg bs x=true->bg bs' x=true)/\(∀ k,k<j+1->FL T (k+1) r=true->bg bs' r=true):=λj bs t2 t4 r M hr=>by
  obtain ⟨_,_,rx⟩:=a6z h hr;have lp:=qp (g:=kN 4) (b:=a2h) bj (λpre τ hp'=>∃ (bs':List Bool) (t4:Option D),τ=[some T.d,some (.ref 0),t2,some (bj r),t4]/\hp'=HB bs'/\Mk T j bs'/\(∀ x,bg bs x=true->bg bs' x=true)/\((∃ t∈pre,kI T t ≠ -1\/∃ k,k<j/\FL T (k+1) t=true)->bg bs' r=true)) (rw' T r) [some T.d,some (.ref 0),t2,some (bj r),t4] (HB bs) ?_ ⟨bs,t4,rfl,rfl,M,λ_ z=>z,λ⟨_,z,_⟩=>by simp at z⟩
  ·obtain ⟨τ',h',e,bs',t4',rfl,rfl,M',up,all⟩:=lp;refine ⟨bs',t4',?_,M',up,λk hk f=>?_⟩
   ·unfold a0c;exact (azu (aqe h _ rfl rfl hr)).trans e
   ·obtain ⟨x,hx,fx⟩:=(a8w h hr).mp f;refine all ⟨x,hx,?_⟩
    cases k with
    | zero=>exact .inl ((abo h (rx x hx)).mp fx)
    | succ k=>exact .inr ⟨k,by omega,fx⟩
  ·rintro pre t post τ hp' al ⟨bs',t4,rfl,rfl,M',up,all⟩
   have tin:t∈rw' T r:=by rw [al];simp
   have tl:=rx t tin;have l':=M'.len;have tst:sOr (sT (s2 gGe (s2 gIx (s2 gIx (sV 0) (sC (.int 2))) (sV 4)) (sC (.int 0)))) (a1z (s2 gIx (sV 1) (sV 4))) [some T.d,some (.ref 0),t2,some (bj r),some (bj t)] (HB bs') = .ok (decide (0<=kI T t) || bg bs' t) (HB bs') :=
    orB (tof (dj (kge h _ rfl rfl tl) (gj _ _ _) (av4 _ _))) λ_=>a0u (dj (az rfl) (az rfl) (a3x (xs:=bs'.map D.bl) rfl (ayu (by omega)))) (ur _)
   have kk:=aa1 h tl;unfold a2h
   cases v:(decide (0<=kI T t) || bg bs' t) with
   | true =>
    rw [v] at tst;have lt':hp T r=true:=lit h hr tin (by
     rw [eY] at v
     rcases v with v | v
     ·exact .inl (by have:=bB v;omega)
     ·exact .inr (M'.snd t tl v))
    refine ⟨_,_,rfl,_,HB (bs'.set r true),?_,bs'.set r true,some (bj t),rfl,rfl,M'.set hr lt',λx q=>?_,λ_=>?_⟩
    ·refine ar (ifT tst) (atw (gj _ _ _) (az rfl) (az rfl) ((b1l (xs:=bs'.map D.bl) rfl (by rw [aA];omega)).trans ?_))
     rw [ayv];rfl
    ·rw [ag8 (by omega),up x q,Bool.or_true]
    ·rw [ag8 (by omega),aQ rfl];rfl
   | false =>
    rw [v] at tst;rw [fM] at v;refine ⟨_,_,rfl,_,_,ar (ifF tst) rfl,bs',_,rfl,rfl,M',up,?_⟩
    rintro ⟨x,hx,q⟩
    rcases aS.mp hx with z | z
    ·exact all ⟨x,z,q⟩
    ·rw [ai] at z;subst z
     rcases q with q | ⟨k,hk,f⟩
     ·have:=gA v.1;omega
     ·rw [M'.all _ tl k hk f] at v;cases v.2
 have L3:∀ (j:Nat) (bs:List Bool) (t2 t3 t4:Option D),Mk T j bs->∃ (bs':List Bool) (t3' t4':Option D),a0d [some T.d,some (.ref 0),t2,t3,t4] (HB bs) = .nx [some T.d,some (.ref 0),t2,t3',t4'] (HB bs')/\Mk T (j+1) bs':=λj bs t2 t3 t4 M=>by
  have lp:=qp (g:=kN 3) (b:=a0c) bj (λpre τ hp'=>∃ (bs':List Bool) (t3 t4:Option D),τ=[some T.d,some (.ref 0),t2,t3,t4]/\hp'=HB bs'/\Mk T j bs'/\∀ r∈pre,∀ k,k<j+1->FL T (k+1) r=true->bg bs' r=true) (List.range T.go.length) [some T.d,some (.ref 0),t2,t3,t4] (HB bs) ?_ ⟨bs,t3,t4,rfl,rfl,M,by simp⟩
  ·obtain ⟨τ',h',e,bs',t3',t4',rfl,rfl,M',all⟩:=lp;refine ⟨bs',t3',t4',?_,M'.len,M'.snd,λr hr=>all r (aP.mpr hr)⟩;unfold a0d;exact (azu (ln _ bs rfl M.len)).trans e
  ·rintro pre r post τ hp' al ⟨bs',t3,t4,rfl,rfl,M',all⟩
   obtain ⟨bs2,t4',e,M2,up,al2⟩:=L2 j bs' t2 t4 r M' (aP.mp (by rw [al];simp))
   refine ⟨_,_,rfl,_,_,e,bs2,_,t4',rfl,rfl,M2,λx hx k hk f=>?_⟩
   rcases aS.mp hx with z | z
   ·exact up x (all x z k hk f)
   ·rw [ai] at z;subst z;exact al2 k hk f
 let b0:List Bool:=T.go.map λ_=>false
 have b0l:b0.length=T.go.length:=aA _;have M0:Mk T 0 b0:=by
  refine ⟨b0l,λr _ q=>?_,λ_ _ k hk=>by omega⟩
  unfold bg at q;rw [aE] at q
  cases z:T.go[r]? with
  | none=>rw [z] at q;exact absurd q (by simp)
  | some y=>rw [z] at q;exact absurd q (by simp)
 have lp:=qp (g:=kN 2) (b:=a0d) bj (λpre τ hp'=>∃ (bs':List Bool) (t2 t3 t4:Option D),τ=[some T.d,some (.ref 0),t2,t3,t4]/\hp'=HB bs'/\Mk T pre.length bs') (List.range T.go.length) [some T.d,some (.ref 0),none,none,none] (HB b0) ?_ ⟨b0,none,none,none,rfl,rfl,M0⟩
 ·obtain ⟨τ',h',e,bs,t2,t3,t4,rfl,rfl,M⟩:=lp;rw [aT] at M;have eq:bs.map D.bl=hpD T:=by
   refine eF λi=>?_
   by_cases hi:i<T.go.length
   ·rw [ayu (by rw [M.len];exact hi),adl hi]
    congr 2
    rw [ff];refine ⟨M.snd i hi,λq=>?_⟩;obtain ⟨k,hk,f⟩:=abn q;exact M.all i hi k hk f
   ·have:=M.len
    rw [bS (by rw [aA];omega),bS (by rw [aA,aT];omega)]
  refine Pu.of rfl (alh Table.clo) (r:=.ok (.ref 0) (HB bs)) ?_ (a0z (ax _) (av (λz=>some (O.lst z)) eq) (a8x _) (by simp)) (wu (a8x _))
  unfold iu;rw [jd];show toR (a4l [some T.d,none,none,none,none] [])=_;unfold a4l;have cm:m9 (sIt (s2 gIx (sV 0) (sC (.int 1)))) t1 a2g [] [some T.d,none,none,none,none] [] = .ok (.ref 0) (HB b0):=by
   have:=uf (fi:=sIt (s2 gIx (sV 0) (sC (.int 1)))) (t:=t1) (fe:=a2g) (ix:=[]) (τ:=[some T.d,none,none,none,none]) (h:=[]) a1w (λ_=>D.bl false) T.go (a6y (dj (az rfl) (gj _ _ _) (go1 _)) rfl) (iy (by omega)) λx _=>rfl
   rw [this];show R.ok (D.ref 0) [O.lst _]=R.ok (D.ref 0) [O.lst ((T.go.map λ_=>false).map D.bl)];rw [cp];rfl
  refine ar (av toR (jx cm)) ?_;refine ar (av toR (a3w (ln _ b0 rfl b0l))) ?_;refine ar (av (λz=>toR (MI.thn z _)) e) ?_;rfl
 ·rintro pre k post τ hp' al ⟨bs,t2,t3,t4,rfl,rfl,M⟩
  obtain ⟨bs',t3',t4',e,M'⟩:=L3 pre.length bs (some (bj k)) t3 t4 M;exact ⟨_,_,rfl,_,_,e,bs',_,t3',t4',rfl,rfl,by rw [aw];exact M'⟩
noncomputable def iw:SF:=qg a4m 5
theorem aen(h:T.Ok){rs:List Nat}(rn:∀ r∈rs,r<T.go.length):∃ ts:List Nat,Fw T.go.length ts/\(∀ x,x∈ts↔∃ r∈rs,x∈rw' T r)/\Pu iw 2 [T.d, .rol (rs.map bj)] (.rol (ts.map bj)):=by
 have n32:=h.n32;have lp:=qp (g:=kN 3) (b:=a2j) bj (λpre τ hp'=>∃ (ts:List Nat) (t3 t4:Option D),τ=[some T.d,some (.rol (rs.map bj)),some (.ref 0),t3,t4]/\hp'=[.lst (ts.map bj)]/\Fw T.go.length ts/\∀ x,x∈ts↔∃ r∈pre,x∈rw' T r) rs [some T.d,some (.rol (rs.map bj)),some (.ref 0),none,none] [.lst []] ?_ ⟨[],none,none,rfl,rfl, .nil,by simp⟩
 ·obtain ⟨τ',h',e,ts,t3,t4,rfl,rfl,M,mem⟩:=lp;refine ⟨ts,M,mem,Pu.of rfl (ad7 Table.clo (wu (jr _))) (r:=.ok (.ref 0) [.lst (ts.map bj)]) ?_ (a0z (ax _) rfl (jr _) (by simp)) (wu (jr _))⟩
  unfold iw;rw [jd];show toR (a4m [some T.d,some (.rol (rs.map bj)),none,none,none] [])=_;unfold a4m;refine ar (av toR (jx (d:=.ref 0) (h1:=[.lst []]) rfl)) ?_;refine ar (av toR (a3w (a6y (az rfl) rfl))) ?_;refine ar (av (λz=>toR (MI.thn z _)) e) ?_;rfl
 ·rintro pre r post τ hp' al ⟨ts,t3,t4,rfl,rfl,M,mem⟩
  have hr:=rn r (by rw [al];simp)
  obtain ⟨_,_,rx⟩:=a6z h hr;have l2:=qp (g:=kN 4) (b:=a2i) bj (λpre τ hp'=>∃ (ts':List Nat) (t4:Option D),τ=[some T.d,some (.rol (rs.map bj)),some (.ref 0),some (bj r),t4]/\hp'=[.lst (ts'.map bj)]/\Fw T.go.length ts'/\∀ x,x∈ts'↔x∈ts\/x∈pre) (rw' T r) [some T.d,some (.rol (rs.map bj)),some (.ref 0),some (bj r),t4] [.lst (ts.map bj)] ?_ ⟨ts,t4,rfl,rfl,M,by simp⟩
  ·obtain ⟨τ',h',e,ts',t4',rfl,rfl,M',mem'⟩:=l2;refine ⟨_,_,rfl,_,_,?_,ts',some (bj r),t4',rfl,rfl,M',λx=>?_⟩
   ·unfold a2j;exact (azu (aqe h _ rfl rfl hr)).trans e
   ·rw [mem',mem]
    constructor
    ·rintro (⟨y,hy,q⟩ | q)
     ·exact ⟨y,bG _ hy,q⟩
     ·exact ⟨r,by simp,q⟩
    ·rintro ⟨y,hy,q⟩
     rcases aS.mp hy with z | z
     ·exact .inl ⟨y,z,q⟩
     ·rw [ai] at z;subst z;exact .inr q
  ·rintro pre' t post' τ hp' al' ⟨ts',t4',rfl,rfl,M',mem'⟩
   have tl:=rx t (by rw [al'];simp)
   have ll:=M'.len;unfold a2i
   by_cases c:t∈ts'
   ·refine ⟨_,_,rfl,_,_,ar (ifF (tof (dj (az rfl) (az rfl) ((SRC.a6c (l:=ts') rfl).trans (by rw [aQ c];rfl))))) rfl,ts',_,rfl,rfl,M',λx=>?_⟩
    rw [mem',aS,ai]
    constructor
    ·rintro (q | q)
     ·exact .inl q
     ·exact .inr (.inl q)
    ·rintro (q | q | q)
     ·exact .inl q
     ·exact .inr q
     ·rw [<-mem',q];exact c
   ·have st:stepK ts' t=ts'++[t]:=aY c;refine ⟨_,_,rfl,_,_,ar (ifT (tof (dj (az rfl) (az rfl) ((SRC.a6c (l:=ts') rfl).trans (by rw [aU c];rfl))))) ?_,ts'++[t],some (bj t),rfl,rfl,by rw [<-st];exact M'.step tl,λx=>?_⟩
    ·rw [bb];exact a67 (az rfl) rfl (arg1 (az rfl)) (a68 (xs:=ts'.map bj) rfl (by rw [aA];exact a3z (by omega)))
    ·rw [aS,aS,mem',or_assoc]
end
section
variable{T:Table}
noncomputable def j4:SF:=qg (a2k iu iw) 5
theorem aud(l:List Nat)(h:Hd):av0 true (.rol (l.map bj)) (.rol []) h = .ok (.bl (!l.isEmpty)) h:=by
 unfold av0 a0m;dsimp only;rw [aL ⟨by rw [bn];intro x hx;obtain ⟨y,_,rfl⟩:=bA.mp hx;rfl,rfl⟩]
 cases l<;>rfl
theorem aue{l:List Nat}{x:Nat}(h:x∈l):l.isEmpty=false:=by cases l with | nil=>simp at h | cons=>rfl
theorem aqg{st rs ts:List Nat}{k:Nat}(er:∀ x,x∈rs↔Lam T st k x)(et:∀ x,x∈ts↔∃ r∈rs,x∈rw' T r)(x:Nat):x∈ts↔Led T st k x:=by
 rw [et];exact ⟨λ⟨r,hr,q⟩=>⟨r,(er r).mp hr,q⟩,λ⟨r,hr,q⟩=>⟨r,(er r).mpr hr,q⟩⟩
theorem alm{ts:List Nat}{k:Nat}(el:∀ x,x∈ts↔Led T st k x)(hp':∀ x∈ts,p x=gd T x)(x:Nat):x∈ts.filter p↔Lam T st (k+1) x:=by
 rw [bH]
 constructor
 ·rintro ⟨a,b⟩;exact ⟨(el x).mp a,by rw [<-hp' x a];exact b⟩
 ·rintro ⟨a,b⟩
  have:=(el x).mpr a
  exact ⟨this,by rw [hp' x this];exact b⟩
theorem aa4{st ts:List Nat}{k:Nat}(el:∀ x,x∈ts↔Led T st k x){p:Nat->Bool}(hp':∀ x∈ts,(p x=true↔kI T x ≠ -1)):(∃ x∈ts,p x=true)↔Kn T st k:=by
 constructor
 ·rintro ⟨x,a,b⟩;exact ⟨x,(el x).mp a,(hp' x a).mp b⟩
 ·rintro ⟨x,a,b⟩
  have:=(el x).mpr a
  exact ⟨x,this,(hp' x this).mpr b⟩
theorem adm(h:T.Ok){rs:List Nat}(rn:∀ r∈rs,r<T.go.length):Pu j4 2 [T.d, .rol (rs.map bj)] (RA T rs):=by
 have n32:=h.n32;have eh:=aem h;have lp:=qp (g:=kN 4) (b:=a1m iu iw) (λi:Nat=>D.int ((1+i:Nat))) (λpre τ hp'=>∃ (ls:List Nat) (t4:Option D),τ=[some T.d,some (.rol (ls.map bj)),some (.rol (hpD T)),some (bj (Mx T rs pre.length)),t4]/\hp'=[]/\∀ x,x∈ls↔Lam T rs pre.length x) (List.range (2*T.go.length+2 - 1)) [some T.d,some (.rol (rs.map bj)),some (.rol (hpD T)),some (.int 0),none] [] ?_ ⟨rs,none,rfl,rfl,λx=>Iff.rfl⟩
 ·obtain ⟨τ',h',e,ls,t4,rfl,rfl,_⟩:=lp;rw [aT,show 2*T.go.length+2 - 1=2*T.go.length+1 by omega] at e
  have lnh:∀ hp':Hd,v6 [.rol (hpD T)] hp' = .ok (bj T.go.length) hp':=λhp'=>by rw [a2q,aA,aT]
  refine Pu.of rfl (ad7 Table.clo (wu (jr _))) (r:=.ok (RA T rs) []) ?_ (ju aa3 (by simp)) aa3
  unfold j4;rw [jd];show toR (a2k iu iw [some T.d,some (.rol (rs.map bj)),none,none,none] [])=_;unfold a2k;refine ar (av toR (jx (xg (az rfl) (eh _)))) ?_;refine ar (av toR (jx (gj _ _ _))) ?_;have em:s2 jz (s2 a0b (sC (.int 2)) (sA v6 (ak (sV 2) dh))) (sC (.int 2)) [some T.d,some (.rol (rs.map bj)),some (.rol (hpD T)),some (.int 0),none] [] = .ok (bj (2*T.go.length+2)) [] :=
   (dj (dj (gj _ _ _) (xg (az rfl) (lnh _)) (a66.trans (aL (.inl ⟨by decide,by decide⟩)))) (gj _ _ _) wg).trans (by congr 2)
  refine ar (av toR (a3w (abf (a:=1) (n:=2*T.go.length+2) (gj _ _ _) em (iy (by omega)) (iy (by omega))))) ?_
  rw [show 2*T.go.length+2 - 1=2*T.go.length+1 by omega]
  refine ar (av (λz=>toR (MI.thn z _)) e) ?_;rw [a1t];unfold RA
  by_cases c:Mx T rs (2*T.go.length+1)<=T.go.length
  ·rw [aL c];exact av toR (nq (SRC.av3 (tof (dj (az rfl) (xg (az rfl) (lnh _)) (SRC.b2z (by omega)))) (az rfl)))
  ·rw [aY c];exact av toR (nq (SRC.atz (tof (dj (az rfl) (xg (az rfl) (lnh _)) (SRC.b36 (by omega)))) (gj _ _ _)))
 ·rintro pre i post τ hp' al ⟨ls,t4,rfl,rfl,el⟩
  obtain ⟨ei,_⟩:=a01 al;subst ei;have ln:∀ r∈ls,r<T.go.length:=λr hr=>ag7 h rn ((el r).mp hr);obtain ⟨ts,M,mt,et⟩:=aen h ln;have tl:=M.len;have eL:=aqg el mt
  let p1:Nat->Bool:=λt=>decide (0<=kI T t)
  let p2:Nat->Bool:=λt=>decide (kI T t<0) && hp T t
  have cf1:∀ τ:Sd,τ[0]? = some (some T.d)->τ[1]? = some (some (.rol (ts.map bj)))->sZ (qu (sIt (sV 1)) t1 (vq iu iw) (a1k iu iw) [0]) τ [] = .ok (.rol ((ts.filter p1).map bj)) []:=λτ h0 h1=>by
   rw [<-yg];refine xq (a0t bj (λt=>if p1 t=true then some (bj t) else none) ts (a6y (az h1) rfl) (iy (by omega)) λt ht=>?_) (by rw [yg];exact jr _) (by simp)
   rw [a8q,wj,a3v,h0];have q:vq iu iw [some (bj t),some T.d] [] = .ok (p1 t) []:=tof (dj (dj (dj (az rfl) (gj _ _ _) (a96 _)) (az rfl) (a4b h (M.lt t ht) _)) (gj _ _ _) (av4 _ _));show (vq iu iw [some (bj t),some T.d] []).bind _=_;rw [q,cu]
   cases p1 t<;>rfl
  have cf2:∀ τ:Sd,τ[0]? = some (some T.d)->τ[1]? = some (some (.rol (ts.map bj)))->τ[2]? = some (some (.rol (hpD T)))->sZ (qu (sIt (sV 1)) t1 (vy iu iw) (a1l iu iw) [0,2]) τ [] = .ok (.rol ((ts.filter p2).map bj)) []:=λτ h0 h1 h2=>by
   rw [<-yg];refine xq (a0t bj (λt=>if p2 t=true then some (bj t) else none) ts (a6y (az h1) rfl) (iy (by omega)) λt ht=>?_) (by rw [yg];exact jr _) (by simp)
   rw [a8q,wj,wj,a3v,h0,h2];have q:vy iu iw [some (bj t),some T.d,some (.rol (hpD T))] [] = .ok (p2 t) []:=azt (tof (dj (dj (dj (az rfl) (gj _ _ _) (a96 _)) (az rfl) (a4b h (M.lt t ht) _)) (gj _ _ _) (b39 _ _))) λ_=>a0u (dj (az rfl) (az rfl) (am6 (adl (M.lt t ht)))) (ur _);show (vy iu iw [some (bj t),some T.d,some (.rol (hpD T))] []).bind _=_;rw [q,cu]
   cases p2 t<;>rfl
  have zl:∀ τ:Sd,sZ (sA a6k dh) τ [] = .ok (.rol []) []:=λτ=>xq (xs:=[]) rfl yt (by simp)
  have fin:∀ due':D,m5 1 (sZ (qu (sIt (sV 1)) t1 (vy iu iw) (a1l iu iw) [0,2])) [some T.d,some (.rol (ts.map bj)),some (.rol (hpD T)),some due',some (.int ((1+pre.length:Nat)))] [] = .nx [some T.d,some (.rol ((ts.filter p2).map bj)),some (.rol (hpD T)),some due',some (.int ((1+pre.length:Nat)))] []:=λdue'=>aq2 (cf2 _ rfl rfl rfl);have q2:∀ x∈ts,p2 x=gd T x:=λx hx=>by
   have:=aa1 h (M.lt x hx)
   show (decide (kI T x<0) && hp T x)=(decide (kI T x = -1) && hp T x)
   by_cases c:kI T x = -1
   ·rw [aQ c,aQ (by omega)]
   ·rw [aU c,aU (by omega)]
  have q1:∀ x∈ts,(p1 x=true↔kI T x ≠ -1):=λx hx=>by
   have:=aa1 h (M.lt x hx)
   show decide (0<=kI T x)=true↔_;rw [cZ];omega
  have k1:=aa4 eL q1;have pl:(pre++[pre.length]).length=pre.length+1:=by simp
  have tst:∀ τ:Sd,τ[0]? = some (some T.d)->τ[1]? = some (some (.rol (ts.map bj)))->sT (s2 (av0 true) (sZ (qu (sIt (sV 1)) t1 (vq iu iw) (a1k iu iw) [0])) (sZ (sA a6k dh))) τ [] = .ok (!(ts.filter p1).isEmpty) []:=λτ h0 h1=>tof (dj (cf1 τ h0 h1) (zl τ) (aud _ _));refine ⟨_,_,rfl,?_⟩;unfold a1m;rw [pl]
  by_cases c:Kn T rs pre.length
  ·obtain ⟨x,hx,px⟩:=k1.mpr c;rw [aue (bH.mpr ⟨hx,px⟩)] at tst;refine ⟨_,_,ar (jx (a08 (az rfl) (az rfl) (et _))) (ar (yf (ar (ifT (tst _ rfl rfl)) (aq2 (az rfl)))) (fin _)),ts.filter p2,some (.int ((1+pre.length:Nat))),?_,rfl,alm eL q2⟩;rw [aoy c,fZ pre.length 1]
  ·have em:(ts.filter p1).isEmpty=true:=by
    rw [List.isEmpty_iff,List.filter_eq_nil_iff];exact λx hx px=>c (k1.mp ⟨x,hx,px⟩)
   rw [em] at tst;refine ⟨_,_,ar (jx (a08 (az rfl) (az rfl) (et _))) (ar (ifN (tst _ rfl rfl)) (fin _)),ts.filter p2,some (.int ((1+pre.length:Nat))),?_,rfl,alm eL q2⟩;rw [Mx,aY c]
theorem b1q(bs:List Bool)(h:Hd):auy [.rol (bs.map D.bl)] h = .ok (.bl (bs.any id)) h:=by
 unfold auy;simp only [afj]
noncomputable def jy:SF:=qg a1c 10
theorem a6e(h:T.Ok){rs:List Nat}(rn:∀ r∈rs,r<T.go.length):Pu jy 3 [T.d, .tup (hpD T), .rol (rs.map bj)] (RA T rs):=by
 have n32:=h.n32;have n1:=h.n1;have turn:∀ (i:Nat) (ls:List Nat) (t9:Option D),(∀ x,x∈ls↔Lam T rs i x)->∃ ts:List Nat,(∀ x,x∈ts↔Lam T rs (i+1) x)/\∃ t9':Option D,
   xu [some T.d,some (.tup (hpD T)),some (.rol (rs.map bj)),some (.str (S T.tg)),some (.tup (T.go.map a1w)),some (.tup (T.ks.map D.int)),some (bj (Mx T rs i)),some (.rol (ls.map bj)),some (.int ((1+i:Nat))),t9] [] =
    (if ts.isEmpty then .rt (bj (Mx T rs (i+1))) [] else .nx [some T.d,some (.tup (hpD T)),some (.rol (rs.map bj)),some (.str (S T.tg)),some (.tup (T.go.map a1w)),some (.tup (T.ks.map D.int)),some (bj (Mx T rs (i+1))),some (.rol (ts.map bj)),some (.int ((1+i:Nat))),t9'] []):=λi ls t9 el=>by
  have ln:∀ r∈ls,r<T.go.length:=λr hr=>ag7 h rn ((el r).mp hr);obtain ⟨us,M,_,mu,eu⟩:=aow (fi:=sIt (sV 7)) (fj:=sIt (s2 gIx (sV 2) (sV 0))) (ix:=[4]) (τ:=[some T.d,some (.tup (hpD T)),some (.rol (rs.map bj)),some (.str (S T.tg)),some (.tup (T.go.map a1w)),some (.tup (T.ks.map D.int)),some (bj (Mx T rs i)),some (.rol (ls.map bj)),some (.int ((1+i:Nat))),t9]) (h:=[]) bj ls (rw' T) (n:=T.go.length) (by omega) (a6y (az rfl) rfl) (λx hx=>a6y (dj (az rfl) (az rfl) (aou h (ln x hx) _)) rfl) λx hx=>(a6z h (ln x hx)).2.2
  have ul:=M.len;have eL:=aqg el mu;have eu':=xq eu (jr _) (by simp)
  let p1:Nat->Bool:=λt=>decide (kI T t ≠ -1)
  let p2:Nat->Bool:=λt=>decide (kI T t = -1) && hp T t
  have k1:=aa4 eL (p:=p1) λx _=>cZ;have kg:∀ (τ:Sd) (a b t:Nat),τ[a]? = some (some (.tup (T.ks.map D.int)))->τ[b]? = some (some (bj t))->t<T.go.length->s2 gIx (sV a) (sV b) τ [] = .ok (.int (kI T t)) []:=λτ a b t h0 h1 ht=>dj (az h0) (az h1) (a4b h ht _);have an:∀ τ:Sd,τ[5]? = some (some (.tup (T.ks.map D.int)))->τ[9]? = some (some (.rol (us.map bj)))->a1z (sA auy (ak (sZ (m9 (sIt (sV 9)) t1 a0q [5])) dh)) τ [] = .ok (us.any p1) []:=λτ h5 h9=>by
   have z:sZ (m9 (sIt (sV 9)) t1 a0q [5]) τ [] = .ok (.rol ((us.map p1).map D.bl)) []:=by
    rw [cp];refine xq (uf bj (D.bl ∘ p1) us (a6y (az h9) rfl) (iy (by omega)) λt ht=>?_) (jq λy _=>qj _) (by simp)
    rw [vf,wj,a3v,h5];exact dj (kg _ 1 0 t rfl rfl (M.lt t ht)) (ad9 (gj _ _ _) (a3y _)) (av5 _ _)
   refine a0u (xg z (b1q _ _)) ?_;rw [gi];rfl
  have cf:∀ τ:Sd,τ[1]? = some (some (.tup (hpD T)))->τ[5]? = some (some (.tup (T.ks.map D.int)))->τ[9]? = some (some (.rol (us.map bj)))->sZ (qu (sIt (sV 9)) t1 ux a0r [1,5]) τ [] = .ok (.rol ((us.filter p2).map bj)) []:=λτ h1 h5 h9=>by
   rw [<-yg];refine xq (a0t bj (λt=>if p2 t=true then some (bj t) else none) us (a6y (az h9) rfl) (iy (by omega)) λt ht=>?_) (by rw [yg];exact jr _) (by simp)
   rw [a8q,wj,wj,a3v,h1,h5];have q:ux [some (bj t),some (.tup (hpD T)),some (.tup (T.ks.map D.int))] [] = .ok (p2 t) []:=azt (tof (dj (kg _ 2 0 t rfl rfl (M.lt t ht)) (ad9 (gj _ _ _) (a3y _)) (aot _ _))) λ_=>a0u (dj (az rfl) (az rfl) (a69 (adl (M.lt t ht)))) (ur _);show (ux [some (bj t),some (.tup (hpD T)),some (.tup (T.ks.map D.int))] []).bind _=_;rw [q,cu]
   cases p2 t<;>rfl
  refine ⟨us.filter p2,alm eL λx _=>rfl,some (.rol (us.map bj)),?_⟩;unfold xu;have fin:∀ m:Nat,(j6 (m5 7 (sZ (qu (sIt (sV 9)) t1 ux a0r [1,5]))) (sIf (a7c (a1z (sV 7))) (qx (sV 6)) sNx)) [some T.d,some (.tup (hpD T)),some (.rol (rs.map bj)),some (.str (S T.tg)),some (.tup (T.go.map a1w)),some (.tup (T.ks.map D.int)),some (bj m),some (.rol (ls.map bj)),some (.int ((1+i:Nat))),some (.rol (us.map bj))] [] =
    (if (us.filter p2).isEmpty then .rt (bj m) [] else .nx [some T.d,some (.tup (hpD T)),some (.rol (rs.map bj)),some (.str (S T.tg)),some (.tup (T.go.map a1w)),some (.tup (T.ks.map D.int)),some (bj m),some (.rol ((us.filter p2).map bj)),some (.int ((1+i:Nat))),some (.rol (us.map bj))] []):=λm=>by
   refine ar (jx (cf _ rfl rfl rfl)) ?_;have tr:tru (.rol ((us.filter p2).map bj)) [] = .ok (!(us.filter p2).isEmpty) []:=by rw [a8p];cases us.filter p2<;>rfl
   cases v:(us.filter p2).isEmpty with
   | true =>
    rw [v] at tr;exact ar (ifT (ad8 (a0u (az rfl) tr))) (nq (az rfl))
   | false =>
    rw [v] at tr;exact ar (ifF (ad8 (a0u (az rfl) tr))) rfl
  refine ar (jx eu') ?_
  by_cases c:Kn T rs i
  ·have q:us.any p1=true:=bD.mpr (k1.mpr c);have an':=an [some T.d,some (.tup (hpD T)),some (.rol (rs.map bj)),some (.str (S T.tg)),some (.tup (T.go.map a1w)),some (.tup (T.ks.map D.int)),some (bj (Mx T rs i)),some (.rol (ls.map bj)),some (.int ((1+i:Nat))),some (.rol (us.map bj))] rfl rfl;rw [q] at an';refine ar (yf (ar (ifT an') (aq2 (az rfl)))) ?_;rw [aoy c,fZ i 1];exact fin _
  ·have q:us.any p1=false:=by
    rw [gF];exact λx hx px=>c (k1.mp ⟨x,hx,px⟩)
   have an':=an [some T.d,some (.tup (hpD T)),some (.rol (rs.map bj)),some (.str (S T.tg)),some (.tup (T.go.map a1w)),some (.tup (T.ks.map D.int)),some (bj (Mx T rs i)),some (.rol (ls.map bj)),some (.int ((1+i:Nat))),some (.rol (us.map bj))] rfl rfl;rw [q] at an';refine ar (ifN an') ?_;rw [Mx,aY c];exact fin _
 have lp:=a4i (g:=kN 8) (b:=xu) (λi:Nat=>D.int ((1+i:Nat))) (λpre τ hp'=>∃ (ls:List Nat) (t8 t9:Option D),τ=[some T.d,some (.tup (hpD T)),some (.rol (rs.map bj)),some (.str (S T.tg)),some (.tup (T.go.map a1w)),some (.tup (T.ks.map D.int)),some (bj (Mx T rs pre.length)),some (.rol (ls.map bj)),t8,t9]/\hp'=[]/\(∀ x,x∈ls↔Lam T rs pre.length x)/\(0<pre.length->∃ x,Lam T rs pre.length x))
  (λd hp'=>d=RA T rs/\hp'=[]) (List.range (T.go.length+2 - 1)) [] [some T.d,some (.tup (hpD T)),some (.rol (rs.map bj)),some (.str (S T.tg)),some (.tup (T.go.map a1w)),some (.tup (T.ks.map D.int)),some (bj 0),some (.rol (rs.map bj)),none,none] [] ?_ ⟨rs,none,none,rfl,rfl,λx=>Iff.rfl,λz=>absurd z (by simp)⟩
 ·refine Pu.of rfl (aa0 Table.clo (u5 (a8x _)) (wu (jr _))) (r:=.ok (RA T rs) []) ?_ (ju aa3 (by simp)) aa3
  unfold jy;rw [jd];show toR (a1c [some T.d,some (.tup (hpD T)),some (.rol (rs.map bj)),none,none,none,none,none,none,none] [])=_;unfold a1c;refine ar (av toR (yf (a8r (az rfl) rfl))) ?_;refine ar (av toR (jx (gj _ _ _))) ?_;refine ar (av toR (jx (az rfl))) ?_;refine ar (av toR (a3w (abf (a:=1) (n:=T.go.length+2) (gj _ _ _) ((dj (xg (az rfl) (b1p _)) (gj _ _ _) wg).trans (by congr 2)) (iy (by omega)) (iy (by omega))))) ?_
  rcases lp with ⟨τ',h',e,ls,t8,t9,rfl,rfl,el,on⟩ | ⟨d,h',e,rfl,rfl⟩
  ·refine ar (av (λz=>toR (MI.thn z _)) e) ?_;rw [a1t];rw [cF,aT,show T.go.length+2 - 1=T.go.length+1 by omega] at on
   rw [auc h rn (on (by omega))]
   exact av toR (nq (gj _ _ _))
  ·refine ar (av (λz=>toR (MI.thn z _)) e) ?_;rfl
 ·rintro pre i post τ hp' al ⟨ls,t8,t9,rfl,rfl,el,on⟩
  rw [cF] at al;obtain ⟨ei,hi⟩:=a01 al;subst ei;obtain ⟨ts,et,t9',e⟩:=turn pre.length ls t9 el;refine ⟨_,_,rfl,?_⟩;have pl:(pre++[pre.length]).length=pre.length+1:=by simp
  cases v:ts.isEmpty with
  | true =>
   rw [v,aL rfl] at e;refine .inr ⟨_,_,e,?_,rfl⟩;rw [List.isEmpty_iff] at v;exact (alk h rn (by omega) λ⟨x,q⟩=>by have:=(et x).mpr q;rw [v] at this;simp at this).symm
  | false =>
   rw [v,aY (by simp)] at e
   refine .inl ⟨_,_,e,ts,_,t9',by rw [pl],rfl,by rw [pl];exact et,λ_=>?_⟩
   rw [pl]
   cases ts with
   | nil=>cases v
   | cons x l=>exact ⟨x,(et x).mp aK⟩
end
section
variable{T:Table}
noncomputable def iz:SF:=qg ym 12
noncomputable def g8:SF:=qg (xf iz) 1
noncomputable def n8:SF:=qg (a6v g8) 1
theorem wk(h:T.Ok):Pu n8 1 [T.d] (.tup (hpD T)):=K22.wk h
noncomputable def qi:SF:=qg (ab5 n8 jy) 2
theorem auf(h:T.Ok)(hh:Hd):ak0 (.tup (T.ks.map D.int)) hh = .ok ⟨(List.range T.go.length).map λr=>.tup [bj r, .int (kI T r)],λ_=>True⟩ hh:=by
 have kl:=h.kl;show R.ok (⟨((List.range (T.ks.map D.int).length).zip (T.ks.map D.int)).map λp=>.tup [.int (p.1:Nat),p.2],λ_=>True⟩:Itm) hh=_
 congr 2
 refine eF λi=>?_
 by_cases hi:i<T.go.length
 ·rw [aE,aE,ci hi,cR (z:=(i,D.int (kI T i))).mpr ⟨by rw [ci (by rw [aA];omega)],?_⟩]
  ·rfl
  ·rw [aE,af (by omega)]
   unfold kI;rw [af (by omega)]
   rfl
 ·rw [bS (by simp;omega),bS (by simp;omega)]
def kds(T:Table):List Nat:=(List.range T.go.length).filter λr=>decide (kI T r ≠ -1)
theorem a2z:∀ r∈kds T,r<T.go.length:=λr hr=>aP.mp (bH.mp hr).1
theorem a8y(h:T.Ok){hh:Hd}(p:Nat->Bool)(e:f τ hh = .ok (.tup (T.ks.map D.int)) hh)(ec:∀ r,r<T.go.length->c (some (bj r)::some (.int (kI T r))::frs' ix τ) hh = .ok (p r) hh)
  (ef:∀ r,r<T.go.length->fe (some (bj r)::some (.int (kI T r))::frs' ix τ) hh = .ok (bj r) hh):qu (a8d f) (tN 2) c fe ix τ hh = .ok (.ref hh.length) (hh++[.lst (((List.range T.go.length).filter p).map bj)]):=by
 have n32:=h.n32;rw [<-yg];have it:a8d f τ hh = .ok ⟨(List.range T.go.length).map λr=>.tup [bj r, .int (kI T r)],λ_=>True⟩ hh:=by unfold a8d;rw [e,cu];exact auf h hh
 refine a0t (λr=>.tup [bj r, .int (kI T r)]) (λr=>if p r=true then some (bj r) else none) (List.range T.go.length) it (iy (by rw [aT];omega)) λr hr=>?_
 have hr:=aP.mp hr;show (c (some (bj r)::some (.int (kI T r))::frs' ix τ) hh).bind _=_;rw [ec r hr,cu]
 cases p r with
 | true =>
  show (fe (some (bj r)::some (.int (kI T r))::frs' ix τ) hh).bind _=_;rw [ef r hr,cu];rfl
 | false=>rfl
theorem ag9(h:T.Ok):Pu qi 1 [T.d] (RA T (kds T)):=by
 refine Pu.of rfl (alh Table.clo) (r:=.ok (RA T (kds T)) []) ?_ (ju aa3 (by simp)) aa3
 unfold qi;rw [jd];show toR (ab5 n8 jy [some T.d,none] [])=_;unfold ab5;refine ar (av toR (jx (dj (az rfl) (gj _ _ _) (a96 _)))) ?_;refine av toR (nq (ahx (az rfl) (xg (az rfl) (wk h _)) (xq (a8y h (λr=>decide (kI T r ≠ -1)) (az rfl) (λr _=>?_) λr _=>az rfl) (jr _) (by simp)) (a6e h a2z _)))
 exact tof (dj (az rfl) (ad9 (gj _ _ _) (a3y _)) (av5 _ _))
theorem auh(P:SRC.Src u M):∀ x∈[u],a6n 1 x:=λx hx=>by rw [ai] at hx;subst hx;exact ww (by omega) P.clo
end
end RCH
namespace L2
open PySem PySem.Spec PyProof.Rows
end L2
namespace MI
open PySem PySem.Spec L2
end MI
namespace PN
open PySem PySem.Spec L2 MI
end PN
namespace PN
open PySem PySem.Spec L2 MI AT HND EVX
end PN
namespace PN
open PySem PySem.Spec L2 MI AT HND EVX K22 K23 K21
section
variable{g:Hd}{n tu:Nat}{tg:List Nat}{rows:List (List Nat)}{ks:List Int}
def Rch(rows:List (List Nat))(r:Nat):Prop:=∀ Q:Nat->Prop,Q 0->(∀ r,Q r->∀ x∈(rows[r]?).getD [],Q x)->Q r
theorem Rch.zero(rows:List (List Nat)):Rch rows 0:=λ_ q _=>q
theorem Rch.step(h:Rch rows r)(hx:x∈(rows[r]?).getD []):Rch rows x:=λQ q0 qs=>qs r (h Q q0 qs) x hx
theorem aqh(h:x∈m):m[SRC.pos m x]? = some x:=by
 have e:=(afo (SRC.al6 h).1).1;unfold SRC.cst at e;rw [aE] at e
 cases q:m[SRC.pos m x]? with
 | none=>rw [q] at e;cases e
 | some y =>
  rw [q] at e;have e:(y:Int)=(x:Int):=by simpa using e
  congr 1
  omega
theorem aqi{m:List Nat}(nd:m.Nodup)(h:m[i]? = some x):SRC.pos m x=i:=by
 have h1:=aqh (aM h);obtain ⟨a,ea⟩:=ah.mp h;obtain ⟨b,eb⟩:=ah.mp h1;have pw:=bv.mp nd
 rcases dJ (SRC.pos m x) i with z | z | z
 ·exact absurd (eb.trans ea.symm) (pw _ _ b a z)
 ·exact z
 ·exact absurd (ea.trans eb.symm) (pw _ _ a b z)
theorem aui{m:List Nat}(nd:m.Nodup)(m0:m[0]? = some 0)(cl:∀ r∈m,∀ x∈(rows[r]?).getD [],x∈m)(rc:∀ r∈m,Rch rows r):∀ r,r<(SRC.abj rows m).length->Rch (SRC.abj rows m) r:=by
 intro r hr Q q0 qs
 have hr':r<m.length:=by simpa using hr
 have er:m[r]? = some m[r]:=af hr';have key:=(rc m[r] (bJ hr') (λx=>x∈m/\Q (SRC.pos m x)) ⟨aM m0,by rw [aqi nd m0];exact q0⟩ λa ⟨ha,qa⟩ x hx=>⟨cl a ha x hx,qs _ qa _ (by
  rw [aE,aqh ha];exact bA.mpr ⟨x,hx,rfl⟩)⟩).2
 rwa [aqi nd er] at key
end
end PN
namespace SRC
open PySem PySem.Spec L2 MI AT HND EVX
structure MetQ (rows:List (List Nat)) (n:Nat) (met:List Nat):Prop extends Met n met where
 q:∀ x∈met,PN.Rch rows x
theorem MetQ.len(M:MetQ rows n met):met.length<=n:=M.toMet.len
theorem MetQ.add(M:MetQ rows n met)(hx:x<n)(hq:PN.Rch rows x)(h:x ∉ met):MetQ rows n (met++[x]) :=
 ⟨M.toMet.add hx h,λy hy=>(aS.mp hy).elim (M.q y) λz=>by rw [ai] at z;subst z;exact hq⟩
section
variable{A B C:SF}{most n:Nat}{tg:List Nat}{many:Int}{rows:List (List Nat)}{ks:List Int}
theorem aln{i:Nat}{met row:List Nat}(n32:n<=32)(M:MetQ rows n met)(rx:∀ x∈row,x<n)(rq:∀ x∈row,PN.Rch rows x) :
  ∃ (met':List Nat) (t8':Option D),forL (λ_=>True) (kN 8) (yz A B C) (row.map bj) (τT most tg many rows ks (.ref 1) i t8 none) [u, .lst (met.map bj)] = .nx (τT most tg many rows ks (.ref 1) i t8' none) [u, .lst (met'.map bj)]/\MetQ rows n met'/\(∃ add,met'=met++add)/\∀ x∈row,x∈met':=by
 have lp:=qp (g:=kN 8) (b:=yz A B C) bj
  (λpre τ h=>∃ (met':List Nat) (t8:Option D),τ=τT most tg many rows ks (.ref 1) i t8 none/\h=[u, .lst (met'.map bj)]/\MetQ rows n met'/\(∃ add,met'=met++add)/\∀ x∈pre,x∈met')
  row (τT most tg many rows ks (.ref 1) i t8 none) [u, .lst (met.map bj)] ?_ ⟨met,t8,rfl,rfl,M,⟨[],by simp⟩,by simp⟩
 ·obtain ⟨τ',h',e,met',t8',rfl,rfl,M',ad,al⟩:=lp;exact ⟨met',t8',e,M',ad,al⟩
 ·rintro pre x post τ h all ⟨met',t8,rfl,rfl,M',⟨add,rfl⟩,al⟩
  have hx:x<n:=rx x (by rw [all];simp)
  have hq:PN.Rch rows x:=rq x (by rw [all];simp)
  unfold yz
  by_cases h:x∈met++add
  ·refine ⟨_,_,rfl,τT most tg many rows ks (.ref 1) i (some (bj x)) none,[u, .lst ((met++add).map bj)],?_,met++add,_,rfl,rfl,M',⟨add,rfl⟩,λy hy=>?_⟩
   ·refine ar (ifF (tof (dj (az rfl) (az rfl) ((a6c (l:=met++add) rfl).trans (by rw [aQ h];rfl))))) rfl
   ·rcases aS.mp hy with z | z
    ·exact al y z
    ·rw [ai] at z;subst z;exact h
  ·refine ⟨_,_,rfl,τT most tg many rows ks (.ref 1) i (some (bj x)) none,[u, .lst ((met++add++[x]).map bj)],?_,met++add++[x],_,rfl,rfl,M'.add hx hq h,⟨add++[x],by simp⟩,λy hy=>?_⟩
   ·have ln:=M'.len;refine ar (ifT (tof (dj (az rfl) (az rfl) ((a6c (l:=met++add) rfl).trans (by rw [aU h];rfl))))) ?_
    rw [bb (l₁:=met++add)];exact a67 (az rfl) rfl (arg1 (az rfl)) (a68 (xs:=(met++add).map bj) rfl (by rw [aA];exact a3z (by omega)))
   ·rcases aS.mp hy with z | z
    ·exact bG _ (al y z)
    ·rw [ai] at z;subst z;simp
theorem aoz{s:Nat}(n1:1<=n)(n32:n<=32)(lr:rows.length=n)(rr:∀ r∈rows,aky s n r) :
  ∃ (met:List Nat) (i:Nat) (t8:Option D),sWh (a1i A B C) (zb A B C) 100000 (τT most tg many rows ks (.ref 1) 0 none none) [u, .lst ([0].map bj)] = .nx (τT most tg many rows ks (.ref 1) i t8 none) [u, .lst (met.map bj)]/\MetQ rows n met/\∀ r∈met,∀ x∈(rows[r]?).getD [],x∈met:=by
 have w:=ank (c:=a1i A B C) (f:=zb A B C)
  (λm τ h=>∃ (met:List Nat) (i:Nat) (t8:Option D),τ=τT most tg many rows ks (.ref 1) i t8 none/\h=[u, .lst (met.map bj)]/\m=32 - i/\i<=met.length/\MetQ rows n met/\Done rows met i)
  (λτ h=>∃ (met:List Nat) (i:Nat) (t8:Option D),τ=τT most tg many rows ks (.ref 1) i t8 none/\h=[u, .lst (met.map bj)]/\MetQ rows n met/\Done rows met met.length)
  (λ_ _=>False) ?_ 32 100000 (τT most tg many rows ks (.ref 1) 0 none none) [u, .lst ([0].map bj)] (by omega)
  ⟨[0],0,none,rfl,rfl,rfl,by simp,⟨⟨by simp,by simp;omega,by simp⟩,λx hx=>by rw [ai] at hx;subst hx;exact PN.Rch.zero rows⟩,λj hj=>absurd hj (cB j)⟩
 ·rcases w with ⟨τ',h',e,met,i,t8,rfl,rfl,M,D⟩ | ⟨_,_,_,z⟩
  ·refine ⟨met,i,t8,e,M,λr hr x hx=>?_⟩;obtain ⟨j,hj,rfl⟩:=eR hr;exact D j hj _ (af hj) x hx
  ·exact z.elim
 ·rintro m τ h ⟨met,i,t8,rfl,rfl,rfl,il,M,D⟩
  have ln:=M.len;have lm:∀ h:Hd,h[1]? = some (.lst (met.map bj))->v6 [.ref 1] h = .ok (bj met.length) h:=λh e=>by rw [a8s e,aA]
  by_cases lt:i<met.length
  ·refine .inr ⟨_,tof (dj (az rfl) (xg (az rfl) (lm _ rfl)) (aof (by omega))), .inl ?_⟩
   have rl:met[i]<n:=M.lt _ (bJ lt);have gm:met[i]? = some met[i]:=af lt
   generalize met[i]=r at rl gm
   have gr:rows[r]? = some ((rows[r]?).getD []):=by rw [af (by omega)];rfl
   have rn:=rr _ (aM gr);obtain ⟨met',t8',e,M',⟨add,ea⟩,al⟩  :=aln (A:=A) (B:=B) (C:=C) (u:=u) (i:=i) (t8:=t8) (most:=most) (tg:=tg) (many:=many) (rows:=rows) (ks:=ks) n32 M rn.2 (λx hx=>(M.q r (aM gm)).step hx);refine ⟨τT most tg many rows ks (.ref 1) (i+1) t8' none,[u, .lst (met'.map bj)],32 - (i+1),?_,by omega,met',i+1,t8',rfl,rfl,rfl,by rw [ea,aw];omega,M',λj hj q hq x hx=>?_⟩
   ·unfold zb;refine ar (a3w (a6y (dj (az rfl) (dj (az rfl) (az rfl) (a3x (xs:=met.map bj) rfl (y:=bj r) (by rw [aE,gm];rfl))) (am6 (y:=a95 ((rows[r]?).getD [])) (by rw [aE,gr];rfl))) rfl)) ?_
    refine ar (av (λz=>MI.thn z _) e) ?_;rw [a1t];exact ahl rfl (gj _ _ _) a1o
   ·by_cases je:j=i
    ·subst je;rw [ea,aC lt,gm] at hq;cases hq
     exact al x hx
    ·have jl:j<met.length:=by omega
     rw [ea,aC jl] at hq;rw [ea];exact bG _ (D j (by omega) q hq x hx)
  ·refine .inl ⟨_,tof (dj (az rfl) (xg (az rfl) (lm _ rfl)) (aq4 (by omega))),met,i,t8,rfl,rfl,M,?_⟩
   rw [show met.length=i by omega];exact D
end
theorem alo(P:Src o N)(hN:N<=999980000)(m1:1<=most)(m32:most<=32):∃ (T:Table) (o':O),T.Ok/\(∀ r,r<T.go.length->PN.Rch T.go r)/\Dr ie 2 [bj most] o T.d o'/\Src o' (N+400):=by
 obtain ⟨tg,o1,T1,e1,P1⟩:=akx P (by omega)
 obtain ⟨x,o2,e2,x0,x1,P2⟩:=vg (m:=7) P1 (by omega) (by omega) (by omega)
 obtain ⟨y,o3,e3,y0,y1,P3⟩:=vg (m:=6) P2 (by omega) (by omega) (by omega)
 obtain ⟨z,o4,e4,z0,z1,P4⟩:=vg (m:=(most:Nat)) P3 (by omega) (by omega) (by omega)
 have c1:kj false 1 j5 [.ref 0] [o] = .ok (.str (S tg)) [o1]:=e1 0 _ rfl;have c2:kj false 2 aj [.ref 0, .int 7] [o1] = .ok (.int x) [o2]:=e2 0 _ rfl;have c3:kj false 2 aj [.ref 0, .int 6] [o2] = .ok (.int y) [o3]:=e3 0 _ rfl;have c4:kj false 2 aj [.ref 0,bj most] [o3] = .ok (.int z) [o4]:=e4 0 _ rfl;obtain ⟨many,u,n1,Pu,eu⟩:∃ (many:Int) (u:O),1<=many/\Src u (N+10)/\∀ g:SS,j6 (m5 3 (s2 jz (sC (.int 2)) (sA (kj false 2 aj) (ak (sV 0) (ak (sC (.int 7)) dh)))))
   (j6 (sIf (sT (s2 hEq (sA (kj false 2 aj) (ak (sV 0) (ak (sC (.int 6)) dh))) (sC (.int 0))))
    (m5 3 (s2 jz (sC (.int 1)) (sA (kj false 2 aj) (ak (sV 0) (ak (sV 1) dh)))))
    sNx) g) [some (.ref 0),some (bj most),some (.str (S tg)),none,none,none,none,none,none,none] [o1]=g [some (.ref 0),some (bj most),some (.str (S tg)),some (.int many),none,none,none,none,none,none] [u]:=by
  by_cases hy:y=0
  ·refine ⟨1+z,o4,by omega,P4,λg=>?_⟩
   refine ar (jx (dj (gj _ _ _) (a08 (az rfl) (gj _ _ _) c2) wg)) ?_;exact yf (ar (ifT (tof (dj (a08 (az rfl) (gj _ _ _) c3) (gj _ _ _) (a8t hy)))) (aq2 (dj (gj _ _ _) (a08 (az rfl) (az rfl) c4) wg)))
  ·refine ⟨2+x,o3,by omega,P3.up (by omega),λg=>?_⟩
   refine ar (jx (dj (gj _ _ _) (a08 (az rfl) (gj _ _ _) c2) wg)) ?_;exact ifN (tof (dj (a08 (az rfl) (gj _ _ _) c3) (gj _ _ _) (abg hy)))
 obtain ⟨n,hn1,hn2,mn⟩:∃ n:Nat,1<=n/\n<=32/\(if (most:Int)<many then (most:Int) else many)=(n:Nat):=by
  by_cases h:(most:Int)<many
  ·exact ⟨most,m1,m32,aL h⟩
  ·exact ⟨many.toNat,by omega,by omega,by rw [aY h];omega⟩
 obtain ⟨ks,rows,u2,lk,k0,kk,lr,rr,e5,P5⟩:=aog (tg:=tg) (n:=n) Pu (by omega) T1.hi hn1 hn2
 have c5:kj false 3 jg [.ref 0, .str (S tg),bj n] [u] = .ok (.tup [.rol (rows.map a95), .rol (ks.map D.int)]) [u2]:=e5 0 _ rfl;obtain ⟨met,i,t8,ew,M,cl⟩  :=aoz (A:=aj) (B:=jg) (C:=j5) (u:=u2) (most:=most) (tg:=tg) (many:=many) (ks:=ks) hn1 hn2 lr rr;obtain ⟨m,pm,sm,H,hH,ee⟩:=al9 (A:=aj) (B:=jg) (C:=j5) (most:=most) (many:=many) (i:=i) (t8:=t8) P5 hn2 lr lk T1.hi rr M.toMet cl;have lm:m.length=met.length:=pm.length_eq;have ln:=M.len;have zm:0∈m:=pm.mem_iff.mpr M.z;have m0:m[0]? = some 0:=by
  cases m with
  | nil=>cases zm
  | cons a l =>
   rcases aD.mp zm with q | q
   ·rw [<-q];rfl
   ·have:=(gy.mp sm).1 0 q
    rw [show a=0 by omega];rfl
 let T:Table:=⟨tg,abj rows m,a9y ks m⟩
 have ml:1<=m.length:=by cases m with | nil=>cases zm | cons _ _=>simp
 have ok:T.Ok:=by
  refine ⟨T1,by simpa [T] using ml,by show (abj rows m).length<=32;rw [aA];omega,λr hr=>?_,by simp [T],?_,λk hk=>?_⟩
  ·obtain ⟨q,hq,rfl⟩:=bA.mp hr;have h1:=M.lt q (pm.mem_iff.mp hq);have e:rows[q]? = some ((rows[q]?).getD []):=by rw [af (by omega)];rfl
   obtain ⟨a,b⟩:=rr _ (aM e);refine ⟨by rw [aA];exact a,λx hx=>?_⟩
   obtain ⟨v,hv,rfl⟩:=bA.mp hx;show pos m v<(abj rows m).length;rw [aA];exact (al6 (pm.mem_iff.mpr (cl q (pm.mem_iff.mp hq) v hv))).2
  ·show (a9y ks m)[0]? = _;rw [aE,m0];show some ((ks[0]?).getD 0)=_;rw [k0];rfl
  ·obtain ⟨q,hq,rfl⟩:=bA.mp hk;have h1:=M.lt q (pm.mem_iff.mp hq);have e:ks[q]? = some ((ks[q]?).getD 0):=by rw [af (by omega)];rfl
   exact kk _ (aM e)
 refine ⟨T,u2,ok,PN.aui (pm.nodup_iff.mpr M.nd) m0 (λr hr x hx=>pm.mem_iff.mpr (cl r (pm.mem_iff.mp hr) x hx)) (λr hr=>M.q r (pm.mem_iff.mp hr)),Dr.of rfl (by intro x hx;rw [ai] at hx;subst hx;exact jk _) P.clo (r:=.ok T.d H) ?_ ((ju (ak3 (bL 1) Table.clo) (by rw [hH];intro x hx;rw [ai] at hx;subst hx;exact ww (by omega) P5.clo)).trans (by rw [hH])) Table.clo P5.clo,P5.up (by omega)⟩
 unfold ie;rw [jd];show toR (a2f aj jg j5 [some (.ref 0),some (bj most),none,none,none,none,none,none,none,none] [o])=_;unfold a2f;refine ar (av toR (jx (xg (az rfl) c1))) ?_;refine ar (av toR (eu _)) ?_;refine ar (av toR (yf (a8r (ahx (az rfl) (az rfl) (a08 (az rfl) (az rfl) (show ack [.int many, .int (most:Int)] [u] = .ok (bj n) [u] by show R.ok (D.int (if (most:Int)<many then (most:Int) else many)) [u]=_;rw [mn])) c5) rfl))) ?_
 refine ar (av toR (jx (d:=.ref 1) (h1:=[u2, .lst ([0].map bj)]) rfl)) ?_;refine ar (av toR (jx (gj _ _ _))) ?_;refine ar (av toR (yf ew)) ?_;exact ee
end SRC
namespace STP
open PySem PySem.Spec L2 MI AT HND EVX K23 K21 RCH
open K22 hiding hp n8 iz g8 wk
open K40
section
variable{T:Table}
noncomputable def p7:SF:=qg vz 2
noncomputable def ik:SF:=qg v4 8
noncomputable def mq:SF:=qg (yq STP.ik) 3
theorem aga(p:Pln d):Pu STP.p7 2 [.str (S T.tg),d] (.bl (txt T d)):=K21.ahp p
theorem alp(h:T.Ok)(hr:r<T.go.length)(hl:∀ c∈l,c∈T.tg)(ll:l.length<=1000):Pu STP.ik 3 [T.d,bj r, .str (S l)] (.rol ((rms T r l).map bj)):=K23.ag3 h hr hl ll
theorem ap0(h:T.Ok)(hr:r<T.go.length)(hl:∀ c∈l,c∈T.tg)(ll:l.length<=1000):Pu STP.mq 3 [T.d,bj r, .str (S l)] (bj (ldw T r l)):=K23.au7 h hr hl ll
theorem aqj(h:T.Ok){c:Nat}(hc:c<T.tg.length):psn T (tgA T c)=c:=by
 have hm:tgA T c∈T.tg:=aM (aho hc);obtain ⟨i,e1,e2,_⟩:=aae (T:=S T.tg) (c:=tgA T c) (by rw [a1n];exact hm)
 rw [a1n] at e2;have e3:psn T (tgA T c)=i:=by unfold psn;rw [e1];simp
 rw [e3];obtain ⟨a,ea⟩:=ah.mp e2;obtain ⟨b,eb⟩:=ah.mp (aho hc);have pw:=bv.mp h.tong.nd
 rcases dJ i c with z | z | z
 ·exact absurd (ea.trans eb.symm) (pw _ _ a b z)
 ·exact z
 ·exact absurd (eb.trans ea.symm) (pw _ _ b a z)
abbrev Ent:=Nat × List Nat
def wtD(e:Ent):D:=.tup [bj e.1, .str (S e.2)]
def kvD(e:Ent):Key × D:=(.inl (e.1:Int), .str (S e.2))
structure Way (T:Table) (ps:Nat->Bool) (s:Nat) (e:Ent):Prop where
 to:ldw T s e.2=e.1
 sg:∀ c∈e.2,c∈T.tg
 ps:∀ i,i<e.2.length->ps (ldw T s (e.2.take (i+1)))=true
structure WSt (T:Table) (ps:Nat->Bool) (s:Nat) (es:List Ent):Prop where
 way:∀ e∈(s,[])::es,Way T ps s e
 ne:∀ e∈es,e.2≠[]
 nd:(es.map (·.1)).Nodup
 len:∀ (j:Nat) (e:Ent),((s,[])::es)[j]? = some e->e.2.length<=j
variable{ps:Nat->Bool}{s:Nat}{es:List Ent}
theorem WSt.start:WSt T ps s []:=by
 refine ⟨λe he=>?_,by simp,by simp,λj e he=>?_⟩
 ·rw [ai] at he;subst he;exact ⟨rfl,by simp,λi hi=>absurd hi (cB i)⟩
 ·cases j with
  | zero=>simp at he;subst he;exact ax _
  | succ j=>simp at he
theorem WSt.lt(h:T.Ok)(hs:s<T.go.length)(W:WSt T ps s es){e:Ent}(he:e∈(s,[])::es):e.1<T.go.length:=by rw [<-(W.way e he).to];exact a4a h _ hs
theorem WSt.few(h:T.Ok)(hs:s<T.go.length)(W:WSt T ps s es):es.length<=T.go.length:=by
 have:=BF.a6b T.go.length (es.map (·.1)) W.nd λx hx=>by
  obtain ⟨e,he,rfl⟩:=bA.mp hx;exact W.lt h hs (aG _ he)
 simpa using this
theorem WSt.add(W:WSt T ps s es){e:Ent}(we:Way T ps s e)(ne:e.2≠[])(nw:e.1 ∉ es.map (·.1))(le:e.2.length<=es.length+1):WSt T ps s (es++[e]):=by
 refine ⟨λx hx=>?_,λx hx=>?_,?_,λj x hx=>?_⟩
 ·rcases aS.mp (show x∈((s,[])::es)++[e] from hx) with z | z
  ·exact W.way x z
  ·rw [ai] at z;subst z;exact we
 ·rcases aS.mp hx with z | z
  ·exact W.ne x z
  ·rw [ai] at z;subst z;exact ne
 ·rw [bb,bY];refine ⟨W.nd,by simp,λa ha b hb=>?_⟩
  rw [dD,ai] at hb;subst hb;exact λz=>nw (z ▸ ha)
 ·rw [show (s,[])::(es++[e])=((s,[])::es)++[e] from rfl] at hx
  by_cases hj:j<((s,([]:List Nat))::es).length
  ·rw [aC hj] at hx;exact W.len j x hx
  ·rw [aF (by omega)] at hx
   rw [ba] at hx hj;have:j - (es.length+1)=0:=by
    have:=(ah.mp hx).1
    simp at this;omega
   rw [this] at hx;simp at hx;subst hx;omega
theorem az1{x:Nat}(h:x ∉ es.map (·.1)):a8c (es.map kvD) (.inl (x:Int))=none/\∀ d,putD (es.map kvD) (.inl (x:Int)) d=es.map kvD++[(.inl (x:Int),d)]:=by
 have no:∀ kv∈es.map kvD,¬ decide (kv.1=(.inl (x:Int):Key))=true:=λkv hkv=>by
  obtain ⟨e,he,rfl⟩:=bA.mp hkv;rw [cZ]
  intro z
  have:(e.1:Int)=(x:Int):=ii z
  exact h (bA.mpr ⟨e,he,by omega⟩)
 constructor
 ·unfold a8c;rw [cY.mpr no];rfl
 ·intro d
  unfold putD;rw [aY]
  intro z
  obtain ⟨kv,hkv,e⟩:=bD.mp z;exact no kv hkv e
theorem aeo:∀ {es:List Ent} {e:Ent},e∈es->(es.map (·.1)).Nodup->a8c (es.map kvD) (.inl (e.1:Int))=some (.str (S e.2))
 | a::es,e,he,nd=>by
  unfold a8c;rw [aZ,cW]
  by_cases q:a=e
  ·subst q;rw [show decide ((kvD a).1=(.inl (a.1:Int):Key))=true from aQ rfl]
   rfl
  ·have he':e∈es:=(aD.mp he).resolve_left λz=>q z.symm;have na:a.1≠e.1:=λz=>(cU.mp nd).1 (bA.mpr ⟨e,he',z.symm⟩);rw [show decide ((kvD a).1=(.inl (e.1:Int):Key))=false from aU λz=>na (by have:(a.1:Int)=(e.1:Int):=ii z;omega)]
   exact aeo he' (cU.mp nd).2
theorem az2(es:List Ent):((es.map kvD).map (·.1)).zip ((es.map kvD).map (·.2))=es.map kvD:=by
 rw [cp,cp]
 induction es with
 | nil=>rfl
 | cons a l ih=>rw [aZ,aZ,List.zip_cons_cons,ih];rfl
theorem auj(hi:n<=i)(e:h[i]? = some (.dK kvs))(c:clos n (kvs.map (·.2))):a6g n h (k+2) (.ref i)=some (.rod (kvs.map (·.1)) (kvs.map (·.2))):=by
 unfold a6g;rw [aY (by simp only [MI.clo];omega)]
 simp only [e];rw [aau λx hx=>aav (a4h.mp c x hx)];rfl
abbrev wrD(es:List Ent):D:=.rod ((es.map kvD).map (·.1)) ((es.map kvD).map (·.2))
theorem aqk(n:Nat)(es:List Ent):clos n ((es.map kvD).map (·.2)):=by rw [cp];exact jq λe _=>m7 _
theorem auk(n:Nat):MI.clo n (wrD es):=by
 have:=aqk n es
 simpa [MI.clo] using this
theorem aul(he:e∈es)(nd:(es.map (·.1)).Nodup)(hh:Hd):aju (wrD es) (bj e.1) hh = .ok (.str (S e.2)) hh:=by
 have q:axb (wrD es) (bj e.1) hh=some (some (.str (S e.2))):=by
  show some (a8c (((es.map kvD).map (·.1)).zip ((es.map kvD).map (·.2))) (.inl (e.1:Int)))=_;rw [az2,aeo he nd]
 unfold aju;rw [q]
abbrev hW(s:Nat)(es:List Ent):Hd:=[.dK (es.map kvD), .lst (((s,[])::es).map wtD)]
abbrev τW(T:Table)(s:Nat)(P:D)(l:Nat)(t9 t10 t11 t12:Option D):Sd:=[some T.d,some (bj s),some P,some (.str (S T.tg)),some (.tup (T.go.map a1w)),some (.tup (T.ks.map D.int)),some (.ref 0),some (.ref 1),some (bj l),t9,t10,t11,t12]
theorem ahq(h:T.Ok)(hs:s<T.go.length){P:D}(hP:∀ x,x<T.go.length->∀ hh,gIx P (bj x) hh = .ok (.bl (ps x)) hh)(W:WSt T ps s es){l c:Nat}{e:Ent}(he:((s,[])::es)[l]? = some e)(hc:c<T.tg.length)(τ:Sd)
  (hτ:τ=τW T s P l (some (bj e.1)) (some (.str (S e.2))) (some (.str (S [tgA T c]))) (some (bj (stp T e.1 c)))) :
  ∃ add,a0e τ (hW s es) = .nx τ (hW s (es++add))/\WSt T ps s (es++add)/\(ps (stp T e.1 c)=true->stp T e.1 c∈(es++add).map (·.1)):=by
 have n32:=h.n32;have fw:=W.few h hs;have sl:=a9z h e.1 c;have em:=aM he;have ll:=(ah.mp he).1;rw [ba] at ll;have we:=W.len l e he;have eW:=W.way e em;subst hτ;have t1:a1z (s2 gIx (sV 2) (sV 12)) (τW T s P l (some (bj e.1)) (some (.str (S e.2))) (some (.str (S [tgA T c]))) (some (bj (stp T e.1 c)))) (hW s es) = .ok (ps (stp T e.1 c)) (hW s es):=a0u (dj (az rfl) (az rfl) (hP _ sl _)) (ur _);have din:apv true (bj (stp T e.1 c)) (.ref 0) (hW s es) = .ok (.bl (!(a8c (es.map kvD) (.inl ((stp T e.1 c:Nat):Int))).isSome)) (hW s es):=rfl
 unfold a0e
 cases hp:ps (stp T e.1 c) with
 | false =>
  rw [hp] at t1;exact ⟨[],by rw [bW];exact ifF (ayl t1),by rw [bW];exact W,λz=>by cases z⟩
 | true =>
  rw [hp] at t1
  by_cases sn:stp T e.1 c∈es.map (·.1)
  ·obtain ⟨e2,he2,q⟩:=bA.mp sn;refine ⟨[],?_,by rw [bW];exact W,λ_=>by rw [bW];exact sn⟩
   rw [bW];refine ifF (aoe t1 (tof (dj (az rfl) (az rfl) (din.trans ?_))));rw [<-q,aeo he2 W.nd];rfl
  ·have wo:Way T ps s (stp T e.1 c,e.2++[tgA T c]):=by
    have lw:ldw T s (e.2++[tgA T c])=stp T e.1 c:=by rw [a4r,aqj h hc,eW.to]
    refine ⟨lw,λd hd=>?_,λi hi=>?_⟩
    ·rcases aS.mp hd with z | z
     ·exact eW.sg d z
     ·rw [ai] at z;subst z;exact aM (aho hc)
    ·rw [aw,ay] at hi
     by_cases q:i<e.2.length
     ·show ps (ldw T s ((e.2++[tgA T c]).take (i+1)))=true;rw [dO (by omega)];exact eW.ps i q
     ·show ps (ldw T s ((e.2++[tgA T c]).take (i+1)))=true;rw [bI (by rw [aw,ay];omega),lw];exact hp
   obtain ⟨v1,v2⟩:=az1 sn;have add:∀ hh,jz (.str (S e.2)) (.str (S [tgA T c])) hh = .ok (.str (S (e.2++[tgA T c]))) hh:=λhh=>a7d (iy (by rw [ay];omega))
   have p:asx (.ref 0) (bj (stp T e.1 c)) (.str (S (e.2++[tgA T c]))) (hW s es)=some [.dK ((es++[(stp T e.1 c,e.2++[tgA T c])]).map kvD), .lst (((s,[])::es).map wtD)]:=by
    have lt:(es.map kvD).length<LINE:=a3z (by rw [aA];omega)
    show (if (es.map kvD).length<LINE then some [O.dK (putD (es.map kvD) (.inl ((stp T e.1 c:Nat):Int)) (.str (S (e.2++[tgA T c])))),O.lst (((s,[])::es).map wtD)] else none)=_
    rw [aL lt,v2,bb];rfl
   refine ⟨[(stp T e.1 c,e.2++[tgA T c])],?_,W.add wo (by simp) sn (by rw [aw,ay];omega),λ_=>by rw [bb];exact aV _ (by simp)⟩
   refine ar (ifT (aoe t1 (tof (dj (az rfl) (az rfl) (din.trans (by rw [v1];rfl)))))) ?_
   refine ar (yf (aq3 (dj (az rfl) (az rfl) (add _)) (az rfl) (az rfl) p)) ?_;refine ar (a67 (az rfl) rfl (arg1 (a08 (az rfl) (dj (az rfl) (az rfl) (add _)) ahy)) (a68 (xs:=((s,[])::es).map wtD) rfl (a3z (by rw [aA,ba];omega)))) ?_
   unfold hW;rw [show (s,[])::(es++[(stp T e.1 c,e.2++[tgA T c])])=((s,[])::es)++[(stp T e.1 c,e.2++[tgA T c])] from rfl,bb (l₁:=(s,[])::es)]
   rfl
def b3a(T:Table)(ps:Nat->Bool)(s:Nat)(es:List Ent):Prop:=∀ e∈(s,[])::es,∀ x∈rw' T e.1,ps x=true->x∈es.map (·.1)
noncomputable def qz:SF:=qg a4n 13
theorem ap1(h:T.Ok)(hs:s<T.go.length)(cP:MI.clo 0 P)(hP:∀ x,x<T.go.length->∀ hh,gIx P (bj x) hh = .ok (.bl (ps x)) hh):∃ es,WSt T ps s es/\b3a T ps s es/\Pu qz 3 [T.d,bj s,P] (wrD es):=by
 have n32:=h.n32;have s6:=h.tong.hi;have w:=ank (c:=a5w) (f:=a2l)
  (λm τ hh=>∃ (es:List Ent) (l:Nat) (t9 t10 t11 t12:Option D),τ=τW T s P l t9 t10 t11 t12/\hh=hW s es/\m=T.go.length+1 - l/\l<=es.length+1/\WSt T ps s es/\∀ j,j<l->∀ e,((s,[])::es)[j]? = some e->∀ x∈rw' T e.1,ps x=true->x∈es.map (·.1))
  (λτ hh=>∃ (es:List Ent) (l:Nat) (t9 t10 t11 t12:Option D),τ=τW T s P l t9 t10 t11 t12/\hh=hW s es/\WSt T ps s es/\b3a T ps s es)
  (λ_ _=>False) ?_ (T.go.length+1) 100000 (τW T s P 0 none none none none) (hW s []) (by omega)
  ⟨[],0,none,none,none,none,rfl,rfl,rfl,by simp,WSt.start,λj hj=>absurd hj (cB j)⟩
 ·rcases w with ⟨τ',h',e,es,l,t9,t10,t11,t12,rfl,rfl,W,C⟩ | ⟨_,_,_,z⟩
  ·refine ⟨es,W,C,Pu.of rfl (au6 (jk _) cP) (r:=.ok (.ref 0) (hW s es)) ?_ (aax (auj (ax _) rfl (aqk _ _)) (by simp)) (auk _)⟩
   unfold qz;rw [jd];show toR (a4n [some T.d,some (bj s),some P,none,none,none,none,none,none,none,none,none,none] [])=_;unfold a4n;refine ar (av toR (yf (a8r (az rfl) rfl))) ?_;refine ar (av toR (jx (d:=.ref 0) (h1:=[.dK []]) rfl)) ?_;refine ar (av toR (jx (xg (a08 (az rfl) (gj _ _ _) ahy) rfl))) ?_;refine ar (av toR (jx (gj _ _ _))) ?_;refine ar (av toR (yf e)) ?_;exact av toR (nq (az rfl))
  ·exact z.elim
 ·rintro m τ hh ⟨es,l,t9,t10,t11,t12,rfl,rfl,rfl,le,W,Dn⟩
  have fw:=W.few h hs;have ln:v6 [.ref 1] (hW s es) = .ok (bj (es.length+1)) (hW s es):=by
   have:=a8s (h:=hW s es) (i:=1) (xs:=((s,[])::es).map wtD) rfl
   rwa [aA,ba] at this
  by_cases lt:l<es.length+1
  ·refine .inr ⟨_,tof (dj (az rfl) (xg (az rfl) ln) (aof (by omega))), .inl ?_⟩
   have he:((s,[])::es)[l]? = some ((s,[])::es)[l]:=af (by simpa using lt)
   generalize ((s,[])::es)[l]=e at he
   have el:=W.lt h hs (aM he);obtain ⟨row,er,lr,lx,at'⟩:=ag1 h el;have lo:=qp (g:=a6l 2 (n6 (kN 11) (n6 (kN 12) a74))) (b:=a0e) (λc:Nat=>D.tup [.str (S [tgA T c]),bj (stp T e.1 c)])
    (λpre τ hh=>∃ (es':List Ent) (t11 t12:Option D),τ=τW T s P l (some (bj e.1)) (some (.str (S e.2))) t11 t12/\hh=hW s es'/\WSt T ps s es'/\(∃ add,es'=es++add)/\∀ c∈pre,ps (stp T e.1 c)=true->stp T e.1 c∈es'.map (·.1))
    (List.range T.tg.length) (τW T s P l (some (bj e.1)) (some (.str (S e.2))) t11 t12) (hW s es) ?_ ⟨es,t11,t12,rfl,rfl,W,⟨[],by simp⟩,by simp⟩
   ·obtain ⟨τ',h',e2,es',t11',t12',rfl,rfl,W',⟨add,rfl⟩,al⟩:=lo;have fx:gIx (.ref 1) (bj l) (hW s es) = .ok (wtD e) (hW s es):=a3x (xs:=((s,[])::es).map wtD) rfl (by rw [aE,he];rfl)
    have zi:ae5 (sV 3) (s2 gIx (sV 4) (sV 9)) (τW T s P l (some (bj e.1)) (some (.str (S e.2))) t11 t12) (hW s es) = .ok ⟨(List.range T.tg.length).map λc=>.tup [.str (S [tgA T c]),bj (stp T e.1 c)],λ_=>True⟩ (hW s es):=by
     unfold ae5;rw [az rfl,cu,dj (az rfl) (az rfl) (a69 (by rw [aE,er];rfl)),cu,<-aej lr at']
     unfold asi;simp only [srcOf,and_self]
    refine ⟨τW T s P (l+1) (some (bj e.1)) (some (.str (S e.2))) t11' t12',hW s (es++add),T.go.length+1 - (l+1),?_,by omega,es++add,l+1,_,_,_,_,rfl,rfl,rfl,by rw [aw];omega,W',λj hj q hq x hx px=>?_⟩
    ·unfold a2l;refine ar (yf (a8r (dj (az rfl) (az rfl) fx) rfl)) ?_;refine ar (a3w zi) ?_;refine ar (av (λz=>MI.thn z _) e2) ?_;rw [a1t];exact ahl rfl (gj _ _ _) a1o
    ·rw [show (s,[])::(es++add)=((s,[])::es)++add from rfl] at hq
     by_cases je:j=l
     ·subst je;rw [aC (by simpa using lt),he] at hq
      cases hq
      obtain ⟨c,hc,rfl⟩:=(a8v h el).mp hx;exact al c (aP.mpr hc) px
     ·rw [aC (by rw [ba];omega)] at hq
      rw [bb];exact bG _ (Dn j (by omega) q hq x hx px)
   ·rintro pre c post τ hh all ⟨es',t11,t12,rfl,rfl,W',⟨add,rfl⟩,al⟩
    obtain ⟨hi,hc⟩:=a01 all;have he':((s,[])::(es++add))[l]? = some e:=by
     rw [show (s,[])::(es++add)=((s,[])::es)++add from rfl,aC (by simpa using lt)];exact he
    obtain ⟨ad2,e3,W2,in2⟩:=ahq h hs hP W' he' hc _ rfl;refine ⟨_,_,rfl,_,_,e3,es++add++ad2,_,_,rfl,rfl,W2,⟨add++ad2,by simp⟩,λd hd pd=>?_⟩
    rcases aS.mp hd with z | z
    ·rw [bb];exact bG _ (al d z pd)
    ·rw [ai] at z;subst z;exact in2 pd
  ·refine .inl ⟨_,tof (dj (az rfl) (xg (az rfl) ln) (aq4 (by omega))),es,l,t9,t10,t11,t12,rfl,rfl,W,λe he=>?_⟩
   obtain ⟨j,hj,rfl⟩:=eR he;exact Dn j (by rw [ba] at hj;omega) _ (af hj)
end
end STP
namespace HGT
open PySem PySem.Spec L2 MI AT HND EVX K23 K21 RCH
open K22 hiding hp
open K40
section
variable{T:Table}
def Ph(T:Table):Nat->Nat->Bool
 | 0,x=>decide (x<T.go.length) && decide (kI T x ≠ -1)
 | k+1,x=>Ph T k x || (hp T x && (List.range T.go.length).any λr=>Ph T k r && decide (x∈rw' T r))
def bh(T:Table)(x:Nat):Bool:=Ph T T.go.length x
theorem ap2(e:Ph T k x=true):Ph T (k+1) x=true:=by simp only [Ph,e,Bool.true_or]
theorem alq(hr:r<T.go.length)(e:Ph T k r=true)(hx:x∈rw' T r)(p:hp T x=true):Ph T (k+1) x=true:=by
 simp only [Ph,eY,aX,bD];exact .inr ⟨p,r,aP.mpr hr,e,aQ hx⟩
theorem az3(e:Ph T (k+1) x=true):Ph T k x=true\/∃ r,r<T.go.length/\Ph T k r=true/\x∈rw' T r/\hp T x=true:=by
 simp only [Ph,eY,aX,bD] at e
 rcases e with e | ⟨p,r,hr,e,hx⟩
 ·exact .inl e
 ·exact .inr ⟨r,aP.mp hr,e,bB hx,p⟩
theorem aum(hx:x<T.go.length)(e:Ph T (T.go.length+k) x=true):bh T x=true:=by
 cases q:bh T x with
 | true=>rfl
 | false =>
  have:=rest (n:=T.go.length) (P:=λk x => !Ph T k x) (λk x _ h=>by
   cases z:Ph T k x with
   | false=>rfl
   | true=>simp only [ap2 z] at h;cases h) (λk h x hx=>?_) k x hx (by show (!bh T x)=true;rw [q];rfl)
  ·simp only [e] at this;cases this
  ·have e1:∀ y,y<T.go.length->Ph T k y=Ph T (k+1) y:=λy hy=>by have:=h y hy;simpa using this
   show (!Ph T (k+1) x)=(!Ph T (k+2) x)
   congr 1
   rw [ff];refine ⟨ap2,λz=>?_⟩
   rcases az3 z with z | ⟨r,hr,z,hx,p⟩
   ·exact z
   ·rw [<-e1 r hr] at z;exact alq hr z hx p
theorem abr(hx:x<T.go.length)(e:kI T x ≠ -1):bh T x=true:=by
 have:∀ k,Ph T k x=true:=λk=>by
  induction k with
  | zero=>simp only [Ph,aQ hx,aQ e];rfl
  | succ k ih=>exact ap2 ih
 exact this _
theorem alr(h:T.Ok)(hr:r<T.go.length)(e:bh T r=true)(hx:x∈rw' T r)(p:hp T x=true):bh T x=true:=aum (k:=1) ((a6z h hr).2.2 x hx) (alq hr e hx p)
theorem aql{Q:Nat->Prop}(q0:∀ x,x<T.go.length->kI T x ≠ -1->Q x)(qs:∀ r x,r<T.go.length->bh T r=true->Q r->x∈rw' T r->hp T x=true->Q x){x:Nat}(e:bh T x=true):Q x:=by
 have up:∀ {k j y},Ph T k y=true->Ph T (k+j) y=true:=λ{k j y} z=>by
  induction j with
  | zero=>exact z
  | succ j ih=>exact ap2 ih
 have:∀ k,k<=T.go.length->∀ x,Ph T k x=true->Q x:=λk=>by
  induction k with
  | zero =>
   intro _ x e
   simp only [Ph,aX] at e;exact q0 x (bB e.1) (bB e.2)
  | succ k ih =>
   intro hk x e
   rcases az3 e with e | ⟨r,hr,e,hx,p⟩
   ·exact ih (by omega) x e
   ·refine qs r x hr ?_ (ih (by omega) r e) hx p
    have:=up (j:=T.go.length - k) e
    rwa [show k+(T.go.length - k)=T.go.length by omega] at this
 exact this _ (ax _) x e
theorem a8z(h:T.Ok)(hs:∀ x∈st,x<T.go.length):RA T st = .non↔∃ r∈st,∀ k,Dp T k r=true:=by
 constructor
 ·intro e
  have:∃ x,Lam T st T.go.length x:=by
   refine cT λz=>?_;rw [alk h hs (gU _) z] at e;cases e
  obtain ⟨r,q,d⟩:=(adk (T:=T) (k:=T.go.length) (j:=0)).mp (by rw [dY];exact this)
  refine ⟨r,q,λk=>?_⟩;have:=aqf h (hs r q) d k
  clear d
  revert this
  generalize T.go.length=n
  intro this
  induction n with
  | zero=>rwa [dY] at this
  | succ n ih=>exact ih (abp _ _ (by rw [show n+k+1=n+1+k by omega];exact this))
 ·rintro ⟨r,q,d⟩
  refine auc h hs ?_;have:=(adk (T:=T) (k:=T.go.length+1) (j:=0)).mpr ⟨r,q,d _⟩
  rwa [dY] at this
theorem a4x{r n:Nat}(hr:r<n):∀ x∈[r],x<n:=λx hx=>by rw [ai] at hx;subst hx;exact hr
theorem endless(h:T.Ok):RA T (kds T) = .non↔∃ r,r<T.go.length/\bh T r=true/\RA T [r] = .non:=by
 rw [a8z h a2z]
 constructor
 ·rintro ⟨r,hr,d⟩
  have hr':=a2z r hr;refine ⟨r,hr',abr hr' (bB (bH.mp hr).2),(a8z h (a4x hr')).mpr ⟨r,by simp,d⟩⟩
 ·rintro ⟨r,hr,b,e⟩
  obtain ⟨r',q,d⟩:=(a8z h (a4x hr)).mp e;rw [ai] at q;subst q;refine aql (T:=T) (Q:=λx=>(∀ k,Dp T k x=true)->∃ r∈kds T,∀ k,Dp T k r=true) (λx hx e d=>⟨x,bH.mpr ⟨aP.mpr hx,aQ e⟩,d⟩) (λr x hr _ ih hx p d=>?_) b d;have hx':=(a6z h hr).2.2 x hx
  by_cases c:kI T x = -1
  ·refine ih λk=>?_
   cases k with
   | zero=>rfl
   | succ k =>
    simp only [Dp,bD,aX];exact ⟨x,hx,by unfold gd;rw [aQ c,p];rfl,d k⟩
  ·exact ⟨x,bH.mpr ⟨aP.mpr hx',aQ c⟩,d⟩
end
section
variable{T:Table}
abbrev bhD(T:Table):List D:=(List.range T.go.length).map λr=>D.bl (bh T r)
theorem aep(n:Nat):clos n (bhD T):=jq λ_ _=>qj _
theorem az4(hr:r<T.go.length):(bhD T)[r]? = some (.bl (bh T r)):=by rw [aE,ci hr];rfl
theorem aun:(bhD T).length=T.go.length:=by rw [aA,aT]
theorem b1r{l:List Nat}(e:h[i]? = some (.lst (l.map bj))):gIn false (bj x) (.ref i) h = .ok (.bl (decide (x∈l))) h:=by
 have fl:a3l (bj x)=true/\(l.map bj).all a3l=true:=⟨rfl,by
  rw [bn]
  intro y hy
  obtain ⟨n,_,rfl⟩:=bA.mp hy
  rfl⟩
 unfold gIn a3e;simp only [e,aL fl,cb,dP,SRC.al5]
abbrev τB(T:Table)(i:Nat)(t7 t8:Option D):Sd:=[some T.d,some (.tup (hpD T)),some (.str (S T.tg)),some (.tup (T.go.map a1w)),some (.tup (T.ks.map D.int)),some (.ref 0),some (bj i),t7,t8]
noncomputable def m8:SF:=qg zg 9
theorem a90(h:T.Ok):Pu m8 2 [T.d, .tup (hpD T)] (.rol (bhD T)):=by
 have n32:=h.n32;have row:∀ (l:List Nat) (i r:Nat) (t8:Option D),r<T.go.length->Fw T.go.length l->∃ (l':List Nat) (t8':Option D),forL (λ_=>True) (kN 8) uz ((rw' T r).map bj) (τB T i (some (a1w (rw' T r))) t8) [.lst (l.map bj)] = .nx (τB T i (some (a1w (rw' T r))) t8') [.lst (l'.map bj)]/\Fw T.go.length l'/\(∃ add,l'=l++add)/\(∀ x,x∈l'↔x∈l\/(x∈rw' T r/\hp T x=true)):=λl i r t8 hr M=>by
  obtain ⟨_,_,rx⟩:=a6z h hr;have lp:=qp (g:=kN 8) (b:=uz) bj (λpre τ hp'=>∃ (l':List Nat) (t8:Option D),τ=τB T i (some (a1w (rw' T r))) t8/\hp'=[.lst (l'.map bj)]/\Fw T.go.length l'/\(∃ add,l'=l++add)/\(∀ x,x∈l'↔x∈l\/(x∈pre/\hp T x=true))) (rw' T r) (τB T i (some (a1w (rw' T r))) t8) [.lst (l.map bj)] ?_ ⟨l,t8,rfl,rfl,M,⟨[],by simp⟩,by simp⟩
  ·obtain ⟨τ',h',e,l',t8',rfl,rfl,M',ad,mem⟩:=lp;exact ⟨l',t8',e,M',ad,mem⟩
  ·rintro pre t post τ hp' al ⟨l',t8,rfl,rfl,M',⟨add,ea⟩,mem⟩
   have tl:=rx t (by rw [al];simp)
   have ll:=M'.len;have tst:a82 (a1z (s2 gIx (sV 1) (sV 8))) (sT (s2 (gIn true) (sV 8) (sV 5))) (τB T i (some (a1w (rw' T r))) (some (bj t))) [.lst (l'.map bj)] = .ok (hp T t && !decide (t∈l')) [.lst (l'.map bj)] :=
    azt (a0u (dj (az rfl) (az rfl) (a69 (adl tl))) (ur _)) λ_=>tof (dj (az rfl) (az rfl) (SRC.a6c (l:=l') rfl))
   unfold uz
   cases v:(hp T t && !decide (t∈l')) with
   | true =>
    rw [v] at tst;rw [aX] at v;have c:t ∉ l':=by simpa using v.2
    have st:stepK l' t=l'++[t]:=aY c;refine ⟨_,_,rfl,_,_,ar (ifT tst) ?_,l'++[t],some (bj t),rfl,rfl,by rw [<-st];exact M'.step tl,⟨add++[t],by rw [ea];simp⟩,λx=>?_⟩
    ·rw [bb];exact a67 (az rfl) rfl (arg1 (az rfl)) (a68 (xs:=l'.map bj) rfl (by rw [aA];exact a3z (by omega)))
    ·rw [aS,aS,mem,ai]
     constructor
     ·rintro ((q | ⟨q,p⟩) | q)
      ·exact .inl q
      ·exact .inr ⟨.inl q,p⟩
      ·exact .inr ⟨.inr q,by rw [q];exact v.1⟩
     ·rintro (q | ⟨q | q,p⟩)
      ·exact .inl (.inl q)
      ·exact .inl (.inr ⟨q,p⟩)
      ·exact .inr q
   | false =>
    rw [v] at tst;refine ⟨_,_,rfl,_,_,ar (ifF tst) rfl,l',_,rfl,rfl,M',⟨add,ea⟩,λx=>?_⟩;rw [mem,aS,ai]
    constructor
    ·rintro (q | ⟨q,p⟩)
     ·exact .inl q
     ·exact .inr ⟨.inl q,p⟩
    ·rintro (q | ⟨q | q,p⟩)
     ·exact .inl q
     ·exact .inr ⟨q,p⟩
     ·subst q;rw [p] at v;rw [<-mem];simpa using v
 have w:=ank (c:=a1v) (f:=yo)
  (λm τ hp'=>∃ (l:List Nat) (i:Nat) (t7 t8:Option D),τ=τB T i t7 t8/\hp'=[.lst (l.map bj)]/\m=33 - i/\i<=l.length/\Fw T.go.length l/\(∀ x∈l,bh T x=true)/\(∀ x∈kds T,x∈l)/\∀ j,j<i->∀ r,l[j]? = some r->∀ x∈rw' T r,hp T x=true->x∈l)
  (λτ hp'=>∃ (l:List Nat) (i:Nat) (t7 t8:Option D),τ=τB T i t7 t8/\hp'=[.lst (l.map bj)]/\∀ x,x<T.go.length->(x∈l↔bh T x=true))
  (λ_ _=>False) ?_ 33 100000 (τB T 0 none none) [.lst ((kds T).map bj)] (by omega)
  ⟨kds T,0,none,none,rfl,rfl,rfl,bL _,⟨List.nodup_range.filter _,a2z⟩,λx hx=>abr (a2z x hx) (bB (bH.mp hx).2),λ_ z=>z,λj hj=>absurd hj (cB j)⟩
 ·rcases w with ⟨τ',h',e,l,i,t7,t8,rfl,rfl,mem⟩ | ⟨_,_,_,z⟩
  ·refine Pu.of rfl (ad7 Table.clo (u5 (a8x _))) (r:=.ok (.ref 1) [.lst (l.map bj), .lst (bhD T)]) ?_ (a0z (bL _) rfl (aep _) (by simp)) (wu (aep _))
   unfold m8;rw [jd];show toR (zg [some T.d,some (.tup (hpD T)),none,none,none,none,none,none,none] [])=_;unfold zg;refine ar (av toR (yf (a8r (az rfl) rfl))) ?_;refine ar (av toR (jx (a8y h (λr=>decide (kI T r ≠ -1)) (az rfl) (λr _=>tof (dj (az rfl) (ad9 (gj _ _ _) (a3y _)) (av5 _ _))) λr _=>az rfl))) ?_;refine ar (av toR (jx (gj _ _ _))) ?_;refine ar (av toR (yf e)) ?_;have cm:m9 (sRg xj (ak (sA v6 (ak (sV 3) dh)) dh)) t1 yp [5] (τB T i t7 t8) [.lst (l.map bj)] = .ok (.ref 1) [.lst (l.map bj), .lst (bhD T)]:=by
    refine uf bj (λr=>D.bl (bh T r)) (List.range T.go.length) (a5f (n:=T.go.length) (xg (az rfl) (b1p _)) (iy (by omega))) (iy (by rw [aT];omega)) λx hx=>?_
    have hx:=aP.mp hx;rw [vf];unfold yp;refine dj (az rfl) (az rfl) ((b1r (l:=l) rfl).trans ?_);rw [show decide (x∈l)=bh T x by rw [ff,cZ];exact mem x hx]
   exact av toR (nq cm)
  ·exact z.elim
 ·rintro m τ hp' ⟨l,i,t7,t8,rfl,rfl,rfl,il,M,sn,kd,dn⟩
  have ll:=M.len;have lm:∀ h:Hd,h[0]? = some (.lst (l.map bj))->v6 [.ref 0] h = .ok (bj l.length) h:=λh e=>by rw [a8s e,aA]
  by_cases lt:i<l.length
  ·refine .inr ⟨_,tof (dj (az rfl) (xg (az rfl) (lm _ rfl)) (aof (by omega))), .inl ?_⟩
   have rl:l[i]<T.go.length:=M.lt _ (bJ lt);have rb:bh T l[i]=true:=sn _ (bJ lt);have gm:l[i]? = some l[i]:=af lt
   generalize l[i]=r at rl gm rb
   obtain ⟨l',t8',e,M',⟨add,ea⟩,mem⟩:=row l i r t8 rl M;refine ⟨τB T (i+1) (some (a1w (rw' T r))) t8',[.lst (l'.map bj)],33 - (i+1),?_,by omega,l',i+1,_,t8',rfl,rfl,rfl,by rw [ea,aw];omega,M',λx hx=>?_,λx hx=>(mem x).mpr (.inl (kd x hx)),λj hj q hq x hx p=>?_⟩
   ·unfold yo;refine ar (jx (dj (az rfl) (dj (az rfl) (az rfl) (a3x (xs:=l.map bj) rfl (y:=bj r) (by rw [aE,gm];rfl))) (aou h rl _))) ?_
    refine ar (a3w (a6y (az rfl) rfl)) ?_;refine ar (av (λz=>MI.thn z _) e) ?_;rw [a1t];exact ahl rfl (gj _ _ _) a1o
   ·rcases (mem x).mp hx with q | ⟨q,p⟩
    ·exact sn x q
    ·exact alr h rl rb q p
   ·by_cases je:j=i
    ·subst je;rw [ea,aC lt,gm] at hq;cases hq
     exact (mem x).mpr (.inr ⟨hx,p⟩)
    ·have jl:j<l.length:=by omega
     rw [ea,aC jl] at hq;exact (mem x).mpr (.inl (dn j (by omega) q hq x hx p))
  ·refine .inl ⟨_,tof (dj (az rfl) (xg (az rfl) (lm _ rfl)) (aq4 (by omega))),l,i,t7,t8,rfl,rfl,λx hx=>⟨sn x,λb=>?_⟩⟩
   refine aql (T:=T) (Q:=λx=>x∈l) (λx hx e=>kd x (bH.mpr ⟨aP.mpr hx,aQ e⟩)) (λr x hr _ q hx p=>?_) b;obtain ⟨j,hj,rfl⟩:=eR q;exact dn j (by omega) _ (af hj) x hx p
end
end HGT
namespace HGT
open PySem PySem.Spec L2 MI AT HND EVX K23 K21 RCH
open K22 hiding hp n8 iz g8 wk
open K40
section
variable{T:Table}
noncomputable def ht(T:Table)(r:Nat):D:=if bh T r=true then RA T [r] else if hp T r=true then .int (-2) else .int (-1)
theorem az5(r:Nat):ht T r = .non\/∃ k:Int,ht T r = .int k:=by
 unfold ht
 split
 ·unfold RA;split
  ·exact .inr ⟨_,rfl⟩
  ·exact .inl rfl
 ·split<;>exact .inr ⟨_,rfl⟩
theorem als(n r:Nat):MI.clo n (ht T r):=by
 rcases az5 (T:=T) r with e | ⟨k,e⟩<;>rw [e]
 ·exact a6u
 ·exact jk _
noncomputable abbrev htD(T:Table):List D:=(List.range T.go.length).map (ht T)
theorem aeq(n:Nat):clos n (htD T):=jq λr _=>als _ _
noncomputable def zp:SF:=qg (a7k jy) 4
theorem alu(h:T.Ok)(hr:r<T.go.length):Pu zp 4 [T.d, .tup (hpD T), .rol (bhD T),bj r] (ht T r):=by
 refine Pu.of rfl (au9 Table.clo (u5 (a8x _)) (wu (aep _)) (jk _)) (r:=.ok (ht T r) []) ?_ (ju (als _ _) (by simp)) (als _ _)
 unfold zp;rw [jd];show toR (a7k jy [some T.d,some (.tup (hpD T)),some (.rol (bhD T)),some (bj r)] [])=_;unfold a7k ht;have t1:a1z (s2 gIx (sV 2) (sV 3)) [some T.d,some (.tup (hpD T)),some (.rol (bhD T)),some (bj r)] [] = .ok (bh T r) []:=a0u (dj (az rfl) (az rfl) (am6 (az4 hr))) (ur _);have t2:a1z (s2 gIx (sV 1) (sV 3)) [some T.d,some (.tup (hpD T)),some (.rol (bhD T)),some (bj r)] [] = .ok (hp T r) []:=a0u (dj (az rfl) (az rfl) (a69 (adl hr))) (ur _)
 cases b:bh T r with
 | true =>
  rw [b] at t1;rw [aL rfl];have zr:sZ (sA a6k (ak (sV 3) dh)) [some T.d,some (.tup (hpD T)),some (.rol (bhD T)),some (bj r)] [] = .ok (.rol ([r].map bj)) []:=xq (xs:=[bj r]) (xg (az rfl) rfl) (mj (jk _) yt) (by simp)
  exact av toR (a3d (ar (ifT t1) (nq (ahx (az rfl) (az rfl) zr (a6e h (a4x hr) _)))))
 | false =>
  rw [b] at t1;rw [aY (by simp)]
  refine ar (av toR (ifN t1)) ?_
  cases p:hp T r with
  | true=>rw [p] at t2;rw [aL rfl];exact av toR (nq (SRC.av3 t2 (ad9 (gj _ _ _) (a3y _))))
  | false=>rw [p] at t2;rw [aY (by simp)];exact av toR (nq (SRC.atz t2 (ad9 (gj _ _ _) (a3y _))))
noncomputable def HT(T:Table):D:=if a3b (RA T (kds T))=true then .non else .tup (htD T)
theorem aqm(n:Nat):MI.clo n (HT T):=by unfold HT;split;exact a6u;exact u5 (aeq _)
noncomputable def ph:SF:=qg (a5v zp n8 qi m8) 3
theorem ahr(h:T.Ok):Pu ph 1 [T.d] (HT T):=by
 have n32:=h.n32;refine Pu.of rfl (alh Table.clo) (r:=.ok (HT T) []) ?_ (ju (aqm _) (by simp)) (aqm _)
 unfold ph;rw [jd];show toR (a5v zp n8 qi m8 [some T.d,none,none] [])=_;unfold a5v HT;have tq:sT (s2 gIs (sA (kj false 1 qi) (ak (sV 0) dh)) (sC .non)) [some T.d,none,none] [] = .ok (a3b (RA T (kds T))) []:=tof (dj (xg (az rfl) (ag9 h _)) (gj _ _ _) (a9s _))
 cases b:a3b (RA T (kds T)) with
 | true =>
  rw [b] at tq;rw [aL rfl];exact av toR (a3d (ar (ifT tq) (nq (gj _ _ _))))
 | false =>
  rw [b] at tq;rw [aY (by simp)]
  refine ar (av toR (ifN tq)) ?_;refine ar (av toR (jx (xg (az rfl) (wk h _)))) ?_;refine ar (av toR (jx (a08 (az rfl) (az rfl) (a90 h _)))) ?_;have cm:sZ (m9 (sRg xj (ak (sA v6 (ak (sV 2) dh)) dh)) t1 (a7a zp n8 qi m8) [0,1,2]) [some T.d,some (.tup (hpD T)),some (.rol (bhD T))] [] = .ok (.rol (htD T)) []:=by
   refine xq (uf bj (ht T) (List.range T.go.length) (a5f (n:=T.go.length) (xg (az rfl) (a2q.trans (by rw [aun]))) (iy (by omega))) (iy (by rw [aT];omega)) λx hx=>?_) (aeq _) (by simp)
   rw [vf];exact aty (az rfl) (az rfl) (az rfl) (az rfl) (alu h (aP.mp hx) _)
  exact av toR (nq (xg cm rfl))
end
end HGT
namespace STP
open PySem PySem.Spec L2 MI AT HND EVX K23 K21 RCH HGT
open K22 hiding hp n8 iz g8 wk
open K40
section
variable{T:Table}
noncomputable def qb:SF:=qg (a5x qz) 3
def wdO(es:List Ent)(r:Nat):List Nat:=((es.find? λe=>decide (e.1=r)).map (·.2)).getD []
theorem aqn{es:List Ent}(hr:r∈es.map (·.1)):(r,wdO es r)∈es:=by
 obtain ⟨e,he,rfl⟩:=bA.mp hr;unfold wdO
 cases q:es.find? λx=>decide (x.1=e.1) with
 | none=>exact absurd (aQ rfl) (cY.mp q e he)
 | some x =>
  have h1:=i6 q;have h2:=eJ q;have h3:x.1=e.1:=bB h1;show (e.1,x.2)∈es;rw [<-h3];exact h2
theorem ap3(z:n<=LINE):a0b (.rol [.bl true]) (.int (n:Nat)) h = .ok (.ref h.length) (h++[.lst (List.replicate n (.bl true))]):=by
 unfold a0b;have z':n<=16777216:=z;simp only [a0m,ba,dW,dG];rw [aL ⟨⟨by omega,by omega⟩,by show _<=16777216;omega⟩]
 congr 3
 simp
structure Wys (T:Table) (wy:Nat->List Nat) (r:Nat):Prop where
 to:ldw T 0 (wy r)=r
 sg:∀ c∈wy r,c∈T.tg
 len:(wy r).length<=33
 ne:r≠0->wy r≠[]
theorem auo(h:T.Ok)(rc:∀ r,r<T.go.length->PN.Rch T.go r):∃ wy:Nat->List Nat,(∀ r,r<T.go.length->Wys T wy r)/\Pu qb 1 [T.d] (.tup ((List.range T.go.length).map λr=>.str (S (wy r)))):=by
 have n32:=h.n32;have n1:=h.n1;have cl:clos 0 (List.replicate T.go.length (D.bl true)):=a4h.mpr λx hx=>by rw [(List.mem_replicate.mp hx).2];exact qj _
 obtain ⟨es,W,C,e⟩:=ap1 (s:=0) (ps:=λ_=>true) (P:=.rol (List.replicate T.go.length (.bl true))) h n1 (wu cl) λx hx hh=>am6 (by rw [da,aL hx])
 have all:∀ r,r<T.go.length->r=0\/r∈es.map (·.1):=λr hr=>by
  refine rc r hr (λr=>r=0\/r∈es.map (·.1)) (.inl rfl) λa ha x hx=>.inr ?_
  rcases ha with rfl | ha
  ·exact C (0,[]) aK x hx rfl
  ·obtain ⟨q,hq,rfl⟩:=bA.mp ha;exact C q (aG _ hq) x hx rfl
 let wy:Nat->List Nat:=λr=>if r=0 then [] else wdO es r
 refine ⟨wy,λr hr=>?_,?_⟩
 ·by_cases z:r=0
  ·subst z;exact ⟨rfl,λc hc=>by simp [wy] at hc,by simp [wy],λz=>absurd rfl z⟩
  ·have hm:=aqn ((all r hr).resolve_left z);have w:=W.way _ (aG _ hm);have ew:wy r=wdO es r:=aY z;refine ⟨by rw [ew];exact w.to,λc hc=>w.sg c (by rw [ew] at hc;exact hc),?_,λ_=>by rw [ew];exact W.ne _ hm⟩
   rw [ew];obtain ⟨j,hj⟩:=bR (aG (0,([]:List Nat)) hm);have l1:=W.len j _ hj;have l2:=(ah.mp hj).1;have l3:=W.few h n1;rw [ba] at l2;exact cH l1 (by omega)
 ·have cw:clos 0 ((List.range T.go.length).map λr=>D.str (S (wy r))):=jq λr _=>m7 _;refine Pu.of rfl (alh Table.clo) (r:=.ok (.tup ((List.range T.go.length).map λr=>.str (S (wy r)))) []) ?_ (ju (u5 cw) (by simp)) (u5 cw)
  unfold qb;rw [jd];show toR (a5x qz [some T.d,none,none] [])=_;unfold a5x;refine ar (av toR (jx (xg (dj (az rfl) (gj _ _ _) (a69 (j:=1) rfl)) (a3t.trans (by rw [aA]))))) ?_
  have z1:∀ τ:Sd,sZ (sA a6k (ak (sC (.bl true)) dh)) τ [] = .ok (.rol [.bl true]) []:=λτ=>xq (xs:=[D.bl true]) (xg (gj _ _ _) rfl) (mj (qj _) yt) (by simp)
  have z2:sZ (s2 a0b (sZ (sA a6k (ak (sC (.bl true)) dh))) (sV 1)) [some T.d,some (bj T.go.length),none] [] = .ok (.rol (List.replicate T.go.length (.bl true))) []:=xq (dj (z1 _) (az rfl) (ap3 (iy (by omega)))) cl (by simp)
  refine ar (av toR (jx (ahx (az rfl) (gj _ _ _) z2 (e _)))) ?_;have z3:∀ τ:Sd,sZ (sA a6k (ak (sC (.str "")) dh)) τ [] = .ok (.rol [.str (S [])]) []:=λτ=>xq (xs:=[D.str ""]) (xg (gj _ _ _) rfl) (mj (m7 _) yt) (by simp)
  have z4:sZ (m9 (sRg a6m (ak (sC (.int 1)) (ak (sV 1) dh))) t1 (a1d qz) [2]) [some T.d,some (bj T.go.length),some (wrD es)] [] = .ok (.rol ((List.range (T.go.length - 1)).map λi=>.str (S (wy (1+i))))) []:=by
   refine xq (uf (λi:Nat=>bj (1+i)) (λi=>.str (S (wy (1+i)))) (List.range (T.go.length - 1)) (abf (a:=1) (gj _ _ _) (az rfl) (iy (by omega)) (iy (by omega))) (iy (by rw [aT];omega)) λi hi=>?_) (jq λi _=>m7 _) (by simp)
   have hi:=aP.mp hi;rw [vf];unfold a1d;have hm:=aqn ((all (1+i) (by omega)).resolve_left (by omega))
   have ew:wy (1+i)=wdO es (1+i):=aY (by omega)
   rw [ew];exact dj (az rfl) (az rfl) (aul (e:=(1+i,wdO es (1+i))) hm W.nd _)
  have el:(List.range T.go.length).map (λr=>D.str (S (wy r)))=[.str (S [])]++(List.range (T.go.length - 1)).map λi=>.str (S (wy (1+i))):=by
   obtain ⟨m,hm⟩:∃ m,T.go.length=m+1:=⟨T.go.length - 1,by omega⟩
   rw [hm,fh,aZ,cp,Nat.add_sub_cancel];rw [show wy 0=[] from aL rfl]
   refine av (List.cons _) ?_;refine dl λi _=>?_;show D.str (S (wy (i+1)))=_;rw [fZ]
  have z5:sZ (s2 jz (sZ (sA a6k (ak (sC (.str "")) dh))) (sZ (m9 (sRg a6m (ak (sC (.int 1)) (ak (sV 1) dh))) t1 (a1d qz) [2]))) [some T.d,some (bj T.go.length),some (wrD es)] [] = .ok (.rol ((List.range T.go.length).map λr=>.str (S (wy r)))) []:=by
   refine xq (dj (z3 _) z4 ?_) cw (by simp)
   rw [el];exact (ajo (xs:=[.str (S [])]) (ys:=(List.range (T.go.length - 1)).map λi=>.str (S (wy (1+i)))) rfl rfl).trans (aL (iy (by simp only [aA,aT,ay];omega)))
  exact av toR (nq (xg z5 rfl))
theorem agb:∀ {k x:Nat},Lam T st k x↔∃ r∈st,Lam T [r] k x
 | 0,x=>⟨λq=>⟨x,q,ai.mpr rfl⟩,λ⟨r,hr,q⟩=>by
   have q:x∈[r]:=q;rw [ai] at q;subst q;exact hr⟩
 | k+1,x=>⟨λ⟨⟨a,q,hx⟩,g⟩=>by
   obtain ⟨r,hr,q'⟩:=(agb (k:=k)).mp q;exact ⟨r,hr,⟨a,q',hx⟩,g⟩,λ⟨r,hr,⟨a,q,hx⟩,g⟩=>⟨⟨a,(agb (k:=k)).mpr ⟨r,hr,q⟩,hx⟩,g⟩⟩
theorem az6:Kn T st k↔∃ r∈st,Kn T [r] k:=by
 constructor
 ·rintro ⟨x,⟨a,q,hx⟩,kx⟩
  obtain ⟨r,hr,q'⟩:=agb.mp q;exact ⟨r,hr,x,⟨a,q',hx⟩,kx⟩
 ·rintro ⟨r,hr,x,⟨a,q,hx⟩,kx⟩
  exact ⟨x,⟨a,agb.mpr ⟨r,hr,q⟩,hx⟩,kx⟩
theorem abt:∀ {k y:Nat},Lam T [r] (k+1) y↔∃ x∈rw' T r,gd T x=true/\Lam T [x] k y
 | 0,y=>by
  constructor
  ·rintro ⟨⟨a,q,hx⟩,g⟩
   have q:a∈[r]:=q;rw [ai] at q;subst q;exact ⟨y,hx,g,ai.mpr rfl⟩
  ·rintro ⟨x,hx,g,q⟩
   have q:y∈[x]:=q;rw [ai] at q;subst q;exact ⟨⟨r,ai.mpr rfl,hx⟩,g⟩
 | k+1,y=>by
  constructor
  ·rintro ⟨⟨a,q,hy⟩,g⟩
   obtain ⟨x,hx,gx,q'⟩:=(abt (k:=k)).mp q;exact ⟨x,hx,gx,⟨a,q',hy⟩,g⟩
  ·rintro ⟨x,hx,gx,⟨a,q,hy⟩,g⟩
   exact ⟨⟨a,(abt (k:=k)).mpr ⟨x,hx,gx,q⟩,hy⟩,g⟩
theorem aqo:Kn T [r] (k+1)↔∃ x∈rw' T r,gd T x=true/\Kn T [x] k:=by
 constructor
 ·rintro ⟨y,⟨a,q,hy⟩,ky⟩
  obtain ⟨x,hx,g,q'⟩:=abt.mp q;exact ⟨x,hx,g,y,⟨a,q',hy⟩,ky⟩
 ·rintro ⟨x,hx,g,y,⟨a,q,hy⟩,ky⟩
  exact ⟨y,⟨a,abt.mpr ⟨x,hx,g,q⟩,hy⟩,ky⟩
theorem aup:Kn T [r] 0↔∃ x∈rw' T r,kI T x ≠ -1:=by
 constructor
 ·rintro ⟨x,⟨a,q,hx⟩,kx⟩
  have q:a∈[r]:=q;rw [ai] at q;subst q;exact ⟨x,hx,kx⟩
 ·rintro ⟨x,hx,kx⟩
  exact ⟨x,⟨r,ai.mpr rfl,hx⟩,kx⟩
theorem alv:∀ k,(Mx T st k=0\/Kn T st (Mx T st k - 1))/\∀ j,Mx T st k<=j->j<k->¬ Kn T st j
 | 0=>⟨.inl rfl,λj _ hj=>absurd hj (cB j)⟩
 | k+1=>by
  by_cases c:Kn T st k
  ·rw [aoy c];exact ⟨.inr c,λj a b=>by omega⟩
  ·have e:Mx T st (k+1)=Mx T st k:=by rw [Mx,aY c]
   rw [e];obtain ⟨a,b⟩:=alv (st:=st) k;refine ⟨a,λj h1 h2=>?_⟩
   by_cases q:j=k
   ·subst q;exact c
   ·exact b j h1 (by omega)
def Val(T:Table)(st:List Nat)(N:Nat):Prop:=(N=0\/Kn T st (N - 1))/\∀ j,N<=j->¬ Kn T st j
theorem auq(a:Val T st N)(b:Val T st M):N=M:=by
 rcases dJ N M with z | z | z
 ·exact absurd (b.1.resolve_left (by omega)) (a.2 _ (by omega))
 ·exact z
 ·exact absurd (a.1.resolve_left (by omega)) (b.2 _ (by omega))
theorem aqp(h:T.Ok)(hs:∀ x∈st,x<T.go.length)(nn:RA T st≠.non):∃ N,N<=T.go.length/\RA T st=bj N/\Val T st N:=by
 have ne:¬ ∃ x,Lam T st (T.go.length+1) x:=λz=>nn (auc h hs z);have e:=alk h hs (ax _) ne;have le:Mx T st (T.go.length+1)<=T.go.length:=by
  unfold RA at nn e
  by_cases c:Mx T st (2*T.go.length+1)<=T.go.length
  ·exact cH (by have:=ael (T:=T) (st:=st) (k:=T.go.length+1) (j:=T.go.length);rwa [show T.go.length+1+T.go.length=2*T.go.length+1 by omega] at this) c
  ·rw [aY c] at nn;exact absurd rfl nn
 obtain ⟨a,b⟩:=alv (T:=T) (st:=st) (T.go.length+1);refine ⟨_,le,e,a,λj hj kn=>?_⟩
 by_cases c:j<T.go.length+1
 ·exact b j hj c kn
 ·obtain ⟨x,⟨r,q,_⟩,_⟩:=kn;have:=abq ne (j - (T.go.length+1));rw [show T.go.length+1+(j - (T.go.length+1))=j by omega] at this
  exact this ⟨r,q⟩
theorem ap4(h:bj a=bj b):a=b:=by
 have:(a:Int)=(b:Int):=D.int.inj h
 omega
theorem alw(h:T.Ok)(hs:∀ x∈st,x<T.go.length)(nn:RA T st≠.non):RA T st=bj N↔Val T st N:=by
 obtain ⟨M,_,e,v⟩:=aqp h hs nn;rw [e];exact ⟨λq=>by rw [<-ap4 q];exact v,λq=>by rw [auq v q]⟩
theorem ahs(h:T.Ok)(e:RA T (kds T)=bj (N+1)):∃ r∈kds T,RA T [r]=bj (N+1):=by
 have nn:RA T (kds T)≠.non:=by rw [e];simp
 obtain ⟨a,b⟩:=(alw h a2z nn).mp e;obtain ⟨r,hr,kn⟩:=az6.mp (a.resolve_left (by omega))
 refine ⟨r,hr,(alw h (a4x (a2z r hr)) λz=>?_).mpr ⟨.inr kn,λj hj q=>b j hj (az6.mpr ⟨r,hr,q⟩)⟩⟩;obtain ⟨x,hx,d⟩:=(a8z h (a4x (a2z r hr))).mp z;rw [ai] at hx;subst hx;exact nn ((a8z h a2z).mpr ⟨x,hr,d⟩)
theorem alx(h:T.Ok)(hr:r<T.go.length)(e:RA T [r]=bj 1):∃ x∈rw' T r,kI T x ≠ -1 :=
 aup.mp (((alw h (a4x hr) (by rw [e];simp)).mp e).1.resolve_left (by omega))
theorem ap5(h:T.Ok)(hr:r<T.go.length)(e:RA T [r]=bj (k+2)):∃ x∈rw' T r,kI T x = -1/\hp T x=true/\RA T [x]=bj (k+1):=by
 have nn:RA T [r]≠.non:=by rw [e];simp
 obtain ⟨a,b⟩:=(alw h (a4x hr) nn).mp e;obtain ⟨x,hx,g,kn⟩:=aqo.mp (a.resolve_left (by omega))
 have hx':=(a6z h hr).2.2 x hx;have g':=g;unfold gd at g;rw [aX] at g;refine ⟨x,hx,bB g.1,g.2,(alw h (a4x hx') λz=>?_).mpr ⟨.inr kn,λj hj q=>b (j+1) (by omega) (aqo.mpr ⟨x,hx,g',q⟩)⟩⟩
 obtain ⟨y,hy,d⟩:=(a8z h (a4x hx')).mp z;rw [ai] at hy;subst hy;refine nn ((a8z h (a4x hr)).mpr ⟨r,ai.mpr rfl,λk=>?_⟩)
 cases k with
 | zero=>rfl
 | succ k =>
  simp only [Dp,bD,aX];exact ⟨y,hx,g',d k⟩
end
section
variable{T:Table}
noncomputable def hI(T:Table)(r:Nat):Int:=match ht T r with | .int k=>k | _=>0
theorem aly(h:T.Ok)(nn:RA T (kds T)≠.non)(hr:r<T.go.length):ht T r = .int (hI T r):=by
 rcases az5 (T:=T) r with e | ⟨k,e⟩
 ·refine absurd ((endless h).mpr ⟨r,hr,?_⟩) nn;unfold ht at e
  split at e
  ·exact ⟨by assumption,e⟩
  ·split at e<;>cases e
 ·unfold hI;rw [e]
theorem aur(h:T.Ok)(nn:RA T (kds T)≠.non)(hr:r<T.go.length)(hh:Hd):gIx (.tup (htD T)) (bj r) hh = .ok (.int (hI T r)) hh:=by
 rw [<-aly h nn hr];exact a69 (by rw [aE,ci hr];rfl)
theorem alz(h:T.Ok)(nn:RA T (kds T)≠.non){r N:Nat}(hr:r<T.go.length)(b:bh T r=true):hI T r=(N:Int)↔RA T [r]=bj N:=by
 have e:=aly h nn hr;unfold ht at e;rw [aL b] at e;rw [e];exact ⟨λq=>by rw [q],λq=>D.int.inj q⟩
theorem b1s(h:T.Ok)(nn:RA T (kds T)≠.non)(hr:r<T.go.length)(q:0<=hI T r):bh T r=true:=by
 have e:=aly h nn hr;unfold ht at e
 cases b:bh T r with
 | true=>rfl
 | false =>
  rw [b,aY (by simp)] at e
  split at e
  ·have:=D.int.inj e;omega
  ·have:=D.int.inj e;omega
def nxB(k hg l:Int):Bool:=if l=0 then decide (k ≠ -1) else decide (k = -1) && decide (hg=l)
noncomputable def gk:SF:=qg zj 3
theorem aus(k hg l:Int):Pu gk 3 [.int k, .int hg, .int l] (.bl (nxB k hg l)):=by
 refine Pu.of rfl (aa0 (jk _) (jk _) (jk _)) (r:=.ok (.bl (nxB k hg l)) []) ?_ (ju (qj _) (by simp)) (qj _)
 unfold gk;rw [jd];show toR (zj [some (.int k),some (.int hg),some (.int l)] [])=_;unfold zj nxB
 by_cases c:l=0
 ·rw [aL c];exact av toR (a3d (ar (ifT (tof (dj (az rfl) (gj _ _ _) (a8t c)))) (nq (dj (az rfl) (ad9 (gj _ _ _) (a3y _)) (av5 _ _)))))
 ·rw [aY c];refine ar (av toR (ifN (tof (dj (az rfl) (gj _ _ _) (abg c))))) ?_;exact av toR (nq (aos (dj (az rfl) (ad9 (gj _ _ _) (a3y _)) (aot _ _)) λ_=>dj (az rfl) (az rfl) (aot _ _)))
theorem a7o{α:Type}(p:α->Bool)(f:α->D):∀ l:List α,(l.filterMap λi=>if p i=true then some (f i) else none)=(l.filter p).map f
 | []=>rfl
 | a::l=>by
  rw [cM,eO]
  cases p a with
  | true=>simp only [dv,aZ];rw [a7o p f l]
  | false=>simp only [cb,dP];exact a7o p f l
abbrev zpD(T:Table)(r c:Nat):D:=.tup [.str (S [tgA T c]),bj (stp T r c)]
theorem az7(h:T.Ok){r:Nat}(hr:r<T.go.length){f g:SE}{τ:Sd}{hh:Hd}(e1:f τ hh = .ok (.str (S T.tg)) hh)(e2:g τ hh = .ok (a1w (rw' T r)) hh):ae5 f g τ hh = .ok ⟨(List.range T.tg.length).map (zpD T r),λ_=>True⟩ hh:=by
 obtain ⟨row,er,lr,lx,at'⟩:=ag1 h hr;have e3:rw' T r=row:=by unfold rw';rw [er];rfl
 unfold ae5;rw [e1,cu,e2,cu,e3,<-aej lr at'];unfold asi;simp only [srcOf,and_self]
noncomputable def mz:SF:=qg (a4o gk) 11
structure Stp (T:Table) (s N:Nat) (z:List Nat):Prop where
 len:z.length=N
 sg:∀ c∈z,c∈T.tg
 at':∀ j,j<N->(kI T (ldw T s (z.take (j+1))) ≠ -1↔j+1=N)
theorem az8(h:T.Ok)(nn:RA T (kds T)≠.non){s N:Nat}(hs:s<T.go.length)(hb:bh T s=true)(N1:1<=N)(N32:N<=32)(e:RA T [s]=bj N):∃ z,Stp T s N z/\Pu mz 3 [T.d, .tup (htD T),bj s] (.str (S z)):=by
 have n32:=h.n32;have t6:=h.tong.hi;have lp:=qp (g:=kN 8) (b:=a2n gk) (λi:Nat=>D.int ((N - 1 - i:Nat)))
  (λpre τ hh=>∃ (w:List Nat) (t8 t9 t10:Option D),τ=[some T.d,some (.tup (htD T)),some (bj s),some (.str (S T.tg)),some (.tup (T.go.map a1w)),some (.tup (T.ks.map D.int)),some (.str (S w)),some (bj (ldw T s w)),t8,t9,t10]/\hh=[]/\w.length=pre.length/\(∀ c∈w,c∈T.tg)/\(∀ j,j<pre.length->(kI T (ldw T s (w.take (j+1))) ≠ -1↔j+1=N))/\(pre.length<N->bh T (ldw T s w)=true/\RA T [ldw T s w]=bj (N - pre.length)))
  (List.range N) [some T.d,some (.tup (htD T)),some (bj s),some (.str (S T.tg)),some (.tup (T.go.map a1w)),some (.tup (T.ks.map D.int)),some (.str (S [])),some (bj s),none,none,none] [] ?_
  ⟨[],none,none,none,rfl,rfl,rfl,by simp,λj hj=>absurd hj (cB j),λ_=>⟨hb,e⟩⟩
 ·obtain ⟨τ',h',e2,w,t8,t9,t10,rfl,rfl,wl,sg,at',_⟩:=lp;rw [aT] at wl at';refine ⟨w,⟨wl,sg,at'⟩,Pu.of rfl (aa0 Table.clo (u5 (aeq _)) (jk _)) (r:=.ok (.str (S w)) []) ?_ (ju (m7 _) (by simp)) (m7 _)⟩
  unfold mz;rw [jd];show toR (a4o gk [some T.d,some (.tup (htD T)),some (bj s),none,none,none,none,none,none,none,none] [])=_;unfold a4o;refine ar (av toR (yf (a8r (az rfl) rfl))) ?_;refine ar (av toR (jx (gj _ _ _))) ?_;refine ar (av toR (jx (az rfl))) ?_;have hx:gIx (.tup (htD T)) (bj s) [] = .ok (.int (N:Nat)) []:=by rw [aur h nn hs,(alz h nn hs hb).mpr e]
  refine ar (av toR (a3w (axs (n:=N) (dj (az rfl) (az rfl) hx) (iy (by omega))))) ?_
  refine ar (av (λz=>toR (MI.thn z _)) e2) ?_;exact av toR (nq (az rfl))
 ·rintro pre i post τ hh all ⟨w,t8,t9,t10,rfl,rfl,wl,sg,at',go⟩
  obtain ⟨ei,hi⟩:=a01 all;rw [<-ei] at wl at' go;obtain ⟨rb,re⟩:=go hi;have rl:=a4a h w hs;have pc:∀ c,c<T.tg.length->stp T (ldw T s w) c<T.go.length:=λc _=>a9z h _ c
  let p:Nat->Bool:=λc=>nxB (kI T (stp T (ldw T s w) c)) (hI T (stp T (ldw T s w) c)) ((N - 1 - i:Nat):Int)
  have ex:∃ c,c<T.tg.length/\p c=true:=by
   cases el:N - 1 - i with
   | zero =>
    rw [show N - i=1 by omega] at re
    obtain ⟨x,hx,kx⟩:=alx h rl re;obtain ⟨c,hc,rfl⟩:=(a8v h rl).mp hx;refine ⟨c,hc,?_⟩;show nxB _ _ _=true;unfold nxB;rw [aL (by rw [el];rfl)]
    exact aQ kx
   | succ k =>
    rw [show N - i=k+2 by omega] at re
    obtain ⟨x,hx,kx,px,rx⟩:=ap5 h rl re;have bx:=alr h rl rb hx px;have hx':=(a6z h rl).2.2 x hx;have hi':=(alz h nn hx' bx).mpr rx;obtain ⟨c,hc,rfl⟩:=(a8v h rl).mp hx;refine ⟨c,hc,?_⟩;show nxB _ _ _=true;unfold nxB;rw [aY (by rw [el];omega),aQ kx,aQ (by rw [hi',el])]
    rfl
  obtain ⟨c0,rest,ef⟩:∃ c0 rest,(List.range T.tg.length).filter p=c0::rest:=by
   cases q:(List.range T.tg.length).filter p with
   | nil =>
    obtain ⟨c,hc,pc⟩:=ex;have:c∈(List.range T.tg.length).filter p:=bH.mpr ⟨aP.mpr hc,pc⟩;rw [q] at this;cases this
   | cons a l=>exact ⟨a,l,rfl⟩
  have c0m:c0∈(List.range T.tg.length).filter p:=by rw [ef];exact aK
  have c0l:=aP.mp (bH.mp c0m).1;have c0p:nxB (kI T (stp T (ldw T s w) c0)) (hI T (stp T (ldw T s w) c0)) ((N - 1 - i:Nat):Int)=true:=(bH.mp c0m).2;have lw:ldw T s (w++[tgA T c0])=stp T (ldw T s w) c0:=by rw [a4r,aqj h c0l]
  have sl:=a9z h (ldw T s w) c0;have cz:∀ τ:Sd,τ[1]? = some (some (.tup (htD T)))->τ[3]? = some (some (.str (S T.tg)))->τ[4]? = some (some (.tup (T.go.map a1w)))->τ[5]? = some (some (.tup (T.ks.map D.int)))->τ[7]? = some (some (bj (ldw T s w)))->τ[8]? = some (some (bj (N - 1 - i)))->
    sZ (qu (ae5 (sV 3) (s2 gIx (sV 4) (sV 7))) (tN 2) (xx gk) (a2m gk) [1,5,8]) τ [] = .ok (.rol ((c0::rest).map (zpD T (ldw T s w)))) []:=λτ h1 h3 h4 h5 h7 h8=>by
   rw [<-ef,<-a7o];refine xq (a0t (zpD T (ldw T s w)) (λc=>if p c=true then some (zpD T (ldw T s w) c) else none) (List.range T.tg.length) (az7 h rl (az h3) (dj (az h4) (az h7) (aou h rl _))) (iy (by rw [aT];omega)) λc hc=>?_) (by rw [a7o];exact jq λc _=>u5 (mj (m7 _) (mj (jk _) yt))) (by simp)
   have hc:=aP.mp hc;show (xx gk (some (.str (S [tgA T c]))::some (bj (stp T (ldw T s w) c))::frs' [1,5,8] τ) []).bind _=_;rw [wj,wj,wj,a3v,h1,h5,h8];have q:xx gk [some (.str (S [tgA T c])),some (bj (stp T (ldw T s w) c)),some (.tup (htD T)),some (.tup (T.ks.map D.int)),some (bj (N - 1 - i))] [] = .ok (p c) [] :=
    a0u (ahx (dj (az rfl) (az rfl) (a4b h (pc c hc) _)) (dj (az rfl) (az rfl) (aur h nn (pc c hc) _)) (az rfl) (aus _ _ _ _)) (ur _)
   show (xx gk [some (.str (S [tgA T c])),some (bj (stp T (ldw T s w) c)),some (.tup (htD T)),some (.tup (T.ks.map D.int)),some (bj (N - 1 - i))] []).bind _=_;rw [q,cu]
   cases p c with
   | false=>rfl
   | true =>
    have q2:a2m gk [some (.str (S [tgA T c])),some (bj (stp T (ldw T s w) c)),some (.tup (htD T)),some (.tup (T.ks.map D.int)),some (bj (N - 1 - i))] [] = .ok (zpD T (ldw T s w) c) []:=a08 (az rfl) (az rfl) ahy;rw [aL rfl,aL rfl];exact av (λx:R D=>x.bind λy h2=>R.ok (some y) h2) q2
  refine ⟨_,_,rfl,[some T.d,some (.tup (htD T)),some (bj s),some (.str (S T.tg)),some (.tup (T.go.map a1w)),some (.tup (T.ks.map D.int)),some (.str (S (w++[tgA T c0]))),some (bj (ldw T s (w++[tgA T c0]))),some (bj (N - 1 - i)),some (.rol ((c0::rest).map (zpD T (ldw T s w)))),some (.str (S [tgA T c0]))],[],?_,w++[tgA T c0],_,_,_,rfl,rfl,?_,?_,?_,?_⟩
  ·unfold a2n;refine ar (jx (cz _ rfl rfl rfl rfl rfl rfl)) ?_;refine ar (yf (a8r (dj (az rfl) (gj _ _ _) (am6 (j:=0) (y:=zpD T (ldw T s w) c0) rfl)) rfl)) ?_;refine ar (ahl rfl (az rfl) (SRC.aq5 (a:=w) (b:=[tgA T c0]) (iy (by rw [ay];omega)))) ?_
   rw [lw];rfl
  ·rw [aw,aw,ay,ay,wl,ei]
  ·intro c hc
   rcases aS.mp hc with z | z
   ·exact sg c z
   ·rw [ai] at z;subst z;exact aM (aho c0l)
  ·intro j hj
   rw [aw,ay,<-ei] at hj
   by_cases q:j<i
   ·rw [dO (by omega)];exact at' j q
   ·have:j=i:=by omega
    subst this;rw [bI (by rw [aw,ay];omega),lw]
    unfold nxB at c0p
    by_cases z:((N - 1 - j:Nat):Int)=0
    ·rw [aL z] at c0p;exact ⟨λ_=>by omega,λ_=>bB c0p⟩
    ·rw [aY z,aX] at c0p;exact ⟨λq=>absurd (bB c0p.1) q,λq=>absurd q (by omega)⟩
  ·intro q
   rw [aw,ay,<-ei] at q ⊢;rw [lw];unfold nxB at c0p;rw [aY (by omega),aX] at c0p
   have hv:=bB c0p.2;have b:=b1s h nn sl (by rw [hv];omega)
   refine ⟨b,?_⟩;rw [show N - (i+1)=N - 1 - i by omega]
   exact (alz h nn sl b).mp hv
noncomputable def j9:SF:=qg (a5y ph qi mz qb) 4
theorem aa5(h:T.Ok)(rc:∀ r,r<T.go.length->PN.Rch T.go r):((RA T (kds T) = .non\/RA T (kds T)=bj 0)/\Pu j9 1 [T.d] .non)\/∃ N u z,1<=N/\N<=32/\RA T (kds T)=bj N/\u.length<=33/\(∀ c∈u,c∈T.tg)/\u≠[]/\kI T (ldw T 0 u) ≠ -1/\Stp T (ldw T 0 u) N z/\Pu j9 1 [T.d] (.tup [.str (S u), .str (S z)]):=by
 have n32:=h.n32;have e0:∀ d,(∀ r,j9 [T.d] []=r->r=toR (j6 (sIf (sOr (sT (s2 gIs (sV 1) (sC .non))) (sT (s2 hEq (sV 1) (sC (.int 0))))) (qx (sC .non)) sNx) (j6 (m5 2 (sA (kj false 1 ph) (ak (sV 0) dh))) (j6 (m5 3 (sZ (qu (a8d (s2 gIx (sV 0) (sC (.int 2)))) (tN 2) (a3r ph qi mz qb) (a3q ph qi mz qb) [1,2]))) (qx (sA a4d (ak (s2 gIx (sA (kj false 1 qb) (ak (sV 0) dh)) (s2 gIx (sV 3) (sC (.int 0)))) (ak (sA (kj false 3 mz) (ak (sV 0) (ak (sV 2) (ak (s2 gIx (sV 3) (sC (.int 0))) dh)))) dh)))))) [some T.d,some (RA T (kds T)),none,none] [])->r = .ok d [])->MI.clo 0 d->Pu j9 1 [T.d] d:=λd q c=>by
  refine Pu.of rfl (alh Table.clo) (r:=.ok d []) (q _ rfl ?_) (ju c (by simp)) c
  unfold j9;rw [jd];show toR (a5y ph qi mz qb [some T.d,none,none,none] [])=_;unfold a5y;exact av toR (jx (xg (az rfl) (ag9 h _)))
 by_cases hn:RA T (kds T) = .non
 ·refine .inl ⟨.inl hn,e0 .non (λr _ e=>?_) a6u⟩;rw [e,hn];exact av toR (a3d (ar (ifT (orT (tof (dj (az rfl) (gj _ _ _) rfl)))) (nq (gj _ _ _))))
 obtain ⟨N,Nl,eN,_⟩:=aqp h a2z hn;have isn:∀ hh,gIs (bj N) .non hh = .ok (.bl false) hh:=λhh=>rfl
 by_cases hz:N=0
 ·subst hz;refine .inl ⟨.inr eN,e0 .non (λr _ e=>?_) a6u⟩;rw [e,eN];exact av toR (a3d (ar (ifT (orF (tof (dj (az rfl) (gj _ _ _) (isn _))) (tof (dj (az rfl) (gj _ _ _) (a8t rfl))))) (nq (gj _ _ _))))
 ·obtain ⟨M,rfl⟩:∃ M,N=M+1:=⟨N - 1,by omega⟩
  obtain ⟨r0,hr0,er0⟩:=ahs h eN;have k0:∀ r∈kds T,r<T.go.length/\kI T r ≠ -1:=λr hr=>⟨a2z r hr,bB (bH.mp hr).2⟩
  let p:Nat->Bool:=λr=>decide (kI T r ≠ -1) && decide (hI T r=((M+1:Nat):Int))
  obtain ⟨s,rest,ef⟩:∃ s rest,(List.range T.go.length).filter p=s::rest:=by
   cases q:(List.range T.go.length).filter p with
   | nil =>
    have l0:=(k0 r0 hr0).1;have:r0∈(List.range T.go.length).filter p:=bH.mpr ⟨aP.mpr l0,by
     show (decide (kI T r0 ≠ -1) && decide (hI T r0=((M+1:Nat):Int)))=true;rw [aQ (k0 r0 hr0).2,aQ ((alz h hn l0 (abr l0 (k0 r0 hr0).2)).mpr er0)];rfl⟩
    rw [q] at this;cases this
   | cons a l=>exact ⟨a,l,rfl⟩
  have sm:s∈(List.range T.go.length).filter p:=by rw [ef];exact aK
  have sl:=aP.mp (bH.mp sm).1;have sp:(decide (kI T s ≠ -1) && decide (hI T s=((M+1:Nat):Int)))=true:=(bH.mp sm).2;rw [aX] at sp;have sk:kI T s ≠ -1:=bB sp.1;have sb:=abr sl sk;have se:=(alz h hn sl sb).mp (bB sp.2);obtain ⟨wy,wys,ew⟩:=auo h rc;obtain ⟨z,st,ez⟩:=az8 h hn sl sb (by omega) (by omega) se
  have w:=wys s sl;have s0:s≠0:=λq=>sk (by rw [q];exact SRC.kI0 h)
  refine .inr ⟨M+1,wy s,z,by omega,by omega,eN,w.len,w.sg,w.ne s0,by rw [w.to];exact sk,by rw [w.to];exact st,e0 _ (λr _ e=>?_) (u5 (mj (m7 _) (mj (m7 _) yt)))⟩
  rw [e,eN];refine ar (av toR (ifN (orF (tof (dj (az rfl) (gj _ _ _) (isn _))) (tof (dj (az rfl) (gj _ _ _) (abg (by omega))))))) ?_
  have hh':=ahr h [];rw [show HT T = .tup (htD T) from aY λq=>hn (by cases q':RA T (kds T)<;>rw [q'] at q<;>first | rfl | cases q)] at hh'
  refine ar (av toR (jx (xg (az rfl) hh'))) ?_;have zz:sZ (qu (a8d (s2 gIx (sV 0) (sC (.int 2)))) (tN 2) (a3r ph qi mz qb) (a3q ph qi mz qb) [1,2]) [some T.d,some (bj (M+1)),some (.tup (htD T)),none] [] = .ok (.rol ((s::rest).map bj)) []:=by
   rw [<-ef];refine xq (a8y h p (dj (az rfl) (gj _ _ _) (a96 _)) (λr hr=>?_) λr _=>az rfl) (jr _) (by simp)
   exact azt (tof (dj (az rfl) (ad9 (gj _ _ _) (a3y _)) (av5 _ _))) λ_=>tof (dj (dj (az rfl) (az rfl) (aur h hn hr _)) (az rfl) (aot _ _))
  refine ar (av toR (jx zz)) ?_;have i0:∀ hh,gIx (.rol ((s::rest).map bj)) (.int 0) hh = .ok (bj s) hh:=λhh=>am6 (j:=0) rfl;exact av toR (nq (a08 (dj (xg (az rfl) (ew _)) (dj (az rfl) (gj _ _ _) (i0 _)) (a69 (by rw [aE,ci sl];rfl))) (ahx (az rfl) (az rfl) (dj (az rfl) (gj _ _ _) (i0 _)) (ez _)) ahy))
end
end STP
namespace K34
open PySem PySem.Spec L2 MI
end K34
namespace K34
open PySem PySem.Spec L2 MI AT HND EVX K22 K23 K21
section
variable{T:Table}
theorem sub_len:∀ {l t:List Nat},l.Nodup->(∀ x∈l,x∈t)->l.length<=t.length
 | [],_,_,_=>bL _
 | a::l,t,nd,h=>by
  obtain ⟨na,nl⟩:=cU.mp nd;have ha:=h a aK;have:=sub_len (t:=t.erase a) nl λx hx=>(List.mem_erase_of_ne (λe:x=a=>na (e ▸ hx))).mpr (h x (aG _ hx));rw [List.length_erase_of_mem ha] at this;have:=List.length_pos_of_mem ha;rw [ba];omega
abbrev others(tg:List Nat):List Nat:=sig.filter λc => !decide (c∈tg)
theorem aht{tg:List Nat}(t6:tg.length<=6):0<(others tg).length:=by
 rcases Nat.eq_zero_or_pos (others tg).length with z | z
 ·have e:=gW.mp z;have:=sub_len (l:=sig) (t:=tg) aq1 λc hc=>by
   have n:¬ c∈others tg:=by rw [e];simp
   rw [bH] at n;simpa [hc] using n
  rw [abe] at this;omega
 ·exact z
end
end K34
namespace STP
open PySem PySem.Spec L2 MI AT HND EVX K23 K21
open K22 hiding hp n8 iz g8 wk
open K40
section
variable{T:Table}
def a4c(T:Table)(u z:List Nat):Bool := !z.isEmpty && (decide (kI T (ldw T 0 u) ≠ -1) && (List.range z.length).all λj=>decide (kI T (ldw T (ldw T 0 u) (z.take (j+1))) ≠ -1) == decide (j+1=z.length))
theorem aut(ku:kI T (ldw T 0 u) ≠ -1)(st:Stp T (ldw T 0 u) N z)(N1:1<=N):a4c T u z=true:=by
 unfold a4c;have ne:z.isEmpty=false:=by cases z with | nil=>have:=st.len;simp at this;omega | cons _ _=>rfl
 rw [ne,aQ ku,ic,dN,dN,bn]
 intro j hj
 have hj:=aP.mp hj;rw [st.len] at hj ⊢;rw [gL];exact eP.mpr (st.at' j hj)
noncomputable def a02:SF:=qg (a5z STP.mq STP.ik) 7
theorem az9:∀ x∈[T.d, .str (S u), .str (S z)],MI.clo 0 x:=aa0 Table.clo (m7 _) (m7 _)
theorem ap6{z:List Nat}(hz:z.length=m+1):(rms T s z).drop 1=((List.range m).map λi=>ldw T s (z.take (i+1)))++[ldw T s z]:=by
 unfold rms;rw [hz,fh,aZ,List.drop_succ_cons,ia,cp,dX,bb,dD];show _++[ldw T s (z.take (m+1))]=_;rw [bI (by omega)]
 rfl
theorem ahu(h:T.Ok)(hu:∀ c∈u,c∈T.tg)(hz:∀ c∈z,c∈T.tg)(lu:u.length<=1000)(lz:z.length<=1000):Pu STP.a02 3 [T.d, .str (S u), .str (S z)] (.bl (a4c T u z)):=by
 have sl:=a4a h u h.n1
 suffices hs:∃ hh,STP.a02 [T.d, .str (S u), .str (S z)] [] = .ok (.bl (a4c T u z)) hh by
  obtain ⟨hh,e⟩:=hs;exact Pu.of rfl az9 e (ju (qj _) (by simp)) (qj _)
 unfold STP.a02;rw [jd];show ∃ hh,toR (a5z STP.mq STP.ik [some T.d,some (.str (S u)),some (.str (S z)),none,none,none,none] []) = .ok _ hh;unfold a5z;have e1:∀ h,hEq (.str (S z)) (.str "") h = .ok (.bl z.isEmpty) h:=λh=>by
  show hEq (.str (S z)) (.str (S [])) h=_;rw [ayj,ayi]
  cases z<;>simp
 have go:∀ g:SS,toR (j6 (m5 3 (s2 gIx (sV 0) (sC (.int 2)))) (j6 (m5 4 (sA (kj false 3 STP.mq) (ak (sV 0) (ak (sC (.int 0)) (ak (sV 1) dh))))) g) [some T.d,some (.str (S u)),some (.str (S z)),none,none,none,none] [])=toR (g [some T.d,some (.str (S u)),some (.str (S z)),some (.tup (T.ks.map D.int)),some (bj (ldw T 0 u)),none,none] []):=λg=>by
  refine ar (av toR (jx (dj (az rfl) (gj _ _ _) (a96 _)))) ?_;exact av toR (jx (ahx (az rfl) (gj _ _ _) (az rfl) (ap0 (r:=0) h h.n1 hu lu _)))
 rw [go];have tst:sOr (sT (s2 hEq (sV 2) (sC (.str "")))) (sT (s2 hEq (s2 gIx (sV 3) (sV 4)) (s1 a6f (sC (.int 1))))) [some T.d,some (.str (S u)),some (.str (S z)),some (.tup (T.ks.map D.int)),some (bj (ldw T 0 u)),none,none] [] = .ok (z.isEmpty || decide (kI T (ldw T 0 u) = -1)) [] :=
  orB (tof (dj (az rfl) (gj _ _ _) (e1 _))) λ_=>tof (dj (dj (az rfl) (az rfl) (a4b h sl _)) (ad9 (gj _ _ _) (a3y _)) (aot _ _))
 cases q:(z.isEmpty || decide (kI T (ldw T 0 u) = -1)) with
 | true =>
  rw [q] at tst;have:a4c T u z=false:=by
   unfold a4c
   cases ze:z.isEmpty with
   | true=>rfl
   | false =>
    rw [ze,Bool.false_or] at q;have:decide (kI T (ldw T 0 u) ≠ -1)=false:=aU λw=>w (bB q);rw [this];rfl
  rw [this];exact ⟨[],av toR (a3d (ar (ifT tst) (nq (gj _ _ _))))⟩
 | false =>
  rw [q] at tst;rw [fM] at q;have ku:kI T (ldw T 0 u) ≠ -1:=gA q.2;obtain ⟨m,hm⟩:∃ m,z.length=m+1:=by cases z with | nil=>cases q.1 | cons a l=>exact ⟨l.length,rfl⟩
  generalize es:ldw T 0 u=s at sl tst ku
  obtain ⟨ys,ey⟩:∃ ys:List Nat,ys=(List.range m).map λi=>ldw T s (z.take (i+1)):=⟨_,rfl⟩;have zsl:∀ τ:Sd,τ[0]? = some (some T.d)->τ[4]? = some (some (bj s))->τ[2]? = some (some (.str (S z)))->sZ (a6s (sA (kj false 3 STP.ik) (ak (sV 0) (ak (sV 4) (ak (sV 2) dh)))) (oS (sC (.int 1))) oN) τ [] = .ok (.rol ((ys++[ldw T s z]).map bj)) []:=λτ h0 h4 h2=>by
   refine xq ((aor (ahx (az h0) (az h4) (az h2) (alp h sl hz lz _)) (aoq (gj _ _ _)) rfl rfl).trans ?_) (jr _) (by simp)
   show R.ok (D.ref 0) ([]++[O.lst (a9a ((rms T s z).map bj) (some ((1:Nat):Int)) none)])=_;rw [ace,<-List.map_drop,ap6 hm,ey];rfl
  have yl:∀ y∈ys,y<T.go.length:=λy hy=>by
   rw [ey] at hy;obtain ⟨i,_,rfl⟩:=bA.mp hy;exact a4a h _ sl
  have lastl:ldw T s z<T.go.length:=a4a h _ sl;refine ⟨[.lst (ys.map bj)],?_⟩;refine ar (av toR (ifN tst)) ?_;refine ar (av toR (yf (a8r (zsl _ rfl rfl rfl) (atr (ys:=ys.map bj) (y:=bj (ldw T s z)) rfl (by rw [bb];rfl))))) ?_
  have ac:sA am2 (ak (sZ (m9 (sIt (sV 5)) t1 (a3s STP.mq STP.ik) [3])) dh) [some T.d,some (.str (S u)),some (.str (S z)),some (.tup (T.ks.map D.int)),some (bj s),some (.ref 0),some (bj (ldw T s z))] [.lst (ys.map bj)] = .ok (.bl (ys.all λy=>decide (kI T y = -1))) [.lst (ys.map bj)]:=by
   have cz:sZ (m9 (sIt (sV 5)) t1 (a3s STP.mq STP.ik) [3]) [some T.d,some (.str (S u)),some (.str (S z)),some (.tup (T.ks.map D.int)),some (bj s),some (.ref 0),some (bj (ldw T s z))] [.lst (ys.map bj)] = .ok (.rol ((ys.map λy=>decide (kI T y = -1)).map D.bl)) [.lst (ys.map bj)]:=by
    rw [cp];refine xq (SRC.au0 (ck:=λh=>h[0]? = some (.lst (ys.map bj))) bj (λy=>.bl (decide (kI T y = -1))) ys rfl (a6y (az rfl) rfl) (iy (by rw [ey,aA,aT];omega)) λy hy=>?_) (jq λc _=>qj _) (by intro o ho;rw [ai] at ho;subst ho;exact ww (bL _) (jr _))
    rw [vf];exact dj (dj (az rfl) (az rfl) (a4b h (yl y hy) _)) (ad9 (gj _ _ _) (a3y _)) (aot _ _)
   refine xg cz ?_;rw [aqc,g9];rfl
  refine ar (av toR (nq (aos (dj (dj (az rfl) (az rfl) (a4b h lastl _)) (ad9 (gj _ _ _) (a3y _)) (av5 _ _)) λ_=>ac))) ?_;show R.ok _ _=R.ok _ _
  congr 2
  unfold a4c;rw [q.1,es,aQ ku,ic,dN,dN,hm,dX,List.all_append,eX,List.all_nil,iq,Bool.and_comm];have last:(decide (kI T (ldw T s (z.take (m+1))) ≠ -1) == decide (m+1=m+1))=decide (kI T (ldw T s z) ≠ -1):=by
   rw [bI (by omega),aQ rfl]
   cases decide (kI T (ldw T s z) ≠ -1)<;>rfl
  rw [last]
  congr 1
  rw [ey,g9]
  apply ff.mpr
  rw [bn,bn];refine forall_congr' λj=>forall_congr' λhj=>?_;have hj:=aP.mp hj;show decide (kI T (ldw T s (z.take (j+1))) = -1)=true↔_;rw [show decide (j+1=m+1)=false from aU (by omega),gL,cZ,decide_eq_false_iff_not]
  simp
noncomputable def ug:SF:=qg a4q 4
theorem ap7(h:T.Ok)(hl:∀ c∈l,c∈T.tg):Pu STP.ug 2 [T.d, .str (S l)] (bj (ldw T 0 l)):=by
 refine Pu.of rfl (ad7 Table.clo (m7 _)) (r:=.ok (bj (ldw T 0 l)) []) ?_ (ju (jk _) (by simp)) (jk _)
 unfold STP.ug;rw [jd];show toR (a4q [some T.d,some (.str (S l)),none,none] [])=_;unfold a4q;refine ar (av toR (jx (gj _ _ _))) ?_;refine ar (av toR (a3w (a6y (az rfl) (aq6 l _)))) ?_;have lp:=qp (g:=kN 3) (b:=a2o) (λc:Nat=>D.str (S [c]))
  (λpre τ hh=>∃ t3:Option D,τ=[some T.d,some (.str (S l)),some (bj (ldw T 0 pre)),t3]/\hh=[]) l [some T.d,some (.str (S l)),some (.int 0),none] [] ?_ ⟨none,rfl,rfl⟩
 ·obtain ⟨τ',h',e,t3,rfl,rfl⟩:=lp;refine ar (av (λz=>toR (MI.thn z _)) e) ?_;rfl
 ·rintro pre c post τ hh all ⟨t3,rfl,rfl⟩
  have hc:=hl c (by rw [all];simp)
  refine ⟨_,_,rfl,[some T.d,some (.str (S l)),some (bj (ldw T 0 (pre++[c]))),some (.str (S [c]))],[],?_,_,rfl,rfl⟩;rw [a4r];unfold a2o;exact aq2 (dj (dj (dj (az rfl) (gj _ _ _) (a69 (j:=1) rfl)) (az rfl) (ald h (a4a h pre h.n1) _)) (azs (dj (az rfl) (gj _ _ _) (a69 (j:=0) rfl)) (arg1 (az rfl)) (aqb hc _)) (au5 h (ade hc).2 _))
noncomputable def kh:SF:=qg a0f 3
theorem agc(p:Pln d):Pu STP.kh 2 [T.d,d] (.bl (txt T d)):=by
 refine Pu.of rfl (ad7 Table.clo p.clo) (r:=.ok (.bl (txt T d)) []) ?_ (ju (qj _) (by simp)) (qj _)
 unfold STP.kh;rw [jd];show toR (a0f [some T.d,some d,none] [])=_;unfold a0f
 by_cases sd:isStr d=true
 ·obtain ⟨x,rfl⟩:∃ x,d = .str x:=by cases d<;>first | exact ⟨_,rfl⟩ | (simp [isStr] at sd)
  rw [<-ahi x] at p ⊢
  generalize x.cps.toList=l at p
  rw [aoo];refine ar (av toR (ifN (aym (a0u (a08 (az rfl) (gj _ _ _) (aol p)) (ur _))))) ?_;refine ar (av toR (a3w (a6y (az rfl) (aq6 l _)))) ?_;have lp:=a4i (g:=kN 2) (b:=a2y) (λc:Nat=>D.str (S [c]))
   (λpre τ hh=>∃ t2:Option D,τ=[some T.d,some (.str (S l)),t2]/\hh=[]/\∀ c∈pre,c∈T.tg) (λd hh=>d = .bl false/\hh=[]/\inT T l=false) l [] [some T.d,some (.str (S l)),none] [] ?_ ⟨none,rfl,rfl,by simp⟩
  ·rcases lp with ⟨τ',h',e,t2,rfl,rfl,al⟩ | ⟨d,h',e,rfl,rfl,q⟩
   ·refine ar (av (λz=>toR (MI.thn z _)) e) ?_;rw [show inT T l=true from bn.mpr λc hc=>aQ (al c (by simpa using hc))]
    rfl
   ·refine ar (av (λz=>toR (MI.thn z _)) e) ?_;rw [q];rfl
  ·rintro pre c post τ hh all ⟨t2,rfl,rfl,al⟩
   rw [cF] at all;refine ⟨_,_,rfl,?_⟩;have q:∀ hh:Hd,gIn true (.str (S [c])) (.str (S T.tg)) hh = .ok (.bl (!decide (c∈T.tg))) hh:=λhh=>K21.aqd c T.tg hh
   by_cases hc:c∈T.tg
   ·refine .inl ⟨_,_,ar (ifF (tof (dj (az rfl) (dj (az rfl) (gj _ _ _) (a69 (j:=0) rfl)) ((q _).trans (by rw [aQ hc];rfl))))) rfl,_,rfl,rfl,λx hx=>?_⟩
    rcases aS.mp hx with z | z
    ·exact al x z
    ·rw [ai] at z;subst z;exact hc
   ·refine .inr ⟨_,_,ar (ifT (tof (dj (az rfl) (dj (az rfl) (gj _ _ _) (a69 (j:=0) rfl)) ((q _).trans (by rw [aU hc];rfl))))) (nq (gj _ _ _)),rfl,rfl,?_⟩
    cases i:inT T l with
    | false=>rfl
    | true=>exact absurd (bB (bn.mp i c (by rw [all];simp))) hc
 ·have sd':isStr d=false:=by simpa using sd
  have:txt T d=false:=by cases d<;>first | rfl | (simp [isStr] at sd)
  rw [this];exact av toR (a3d (ar (ifT (b4s (a0u (a08 (az rfl) (gj _ _ _) ((aol p).trans (by rw [sd']))) (ur _)))) (nq (gj _ _ _))))
def cds:D->List Nat | .str x=>x.cps.toList | _=>[]
def ahv(T:Table)(a b:D):Bool:=txt T a && (txt T b && a4c T (cds a) (cds b))
theorem adn(p:Pln d)(t:txt T d=true):d = .str (S (cds d))/\(∀ c∈cds d,c∈T.tg)/\(cds d).length<=1000:=by
 cases d<;>first | (cases t;done) | skip
 exact ⟨by simp only [cds,ahi],λc hc=>bB (bn.mp t c hc),p⟩
theorem aqq(hu:∀ c∈u,c∈T.tg)(hz:∀ c∈z,c∈T.tg):ahv T (.str (S u)) (.str (S z))=a4c T u z:=by
 unfold ahv;rw [aoo,aoo,show inT T u=true from bn.mpr λc hc=>aQ (hu c hc),show inT T z=true from bn.mpr λc hc=>aQ (hz c hc)]
 simp only [cds,a1n,dN]
noncomputable def u6:SF:=qg (a0g STP.kh STP.ug) 5
theorem aer(h:T.Ok)(pa:Pln a)(pb:Pln b):Pu STP.u6 3 [T.d,a,b] (.bl (ahv T a b)):=by
 refine Pu.of rfl (aa0 Table.clo pa.clo pb.clo) (r:=.ok (.bl (ahv T a b)) []) ?_ (ju (qj _) (by simp)) (qj _)
 unfold STP.u6;rw [jd];show toR (a0g STP.kh STP.ug [some T.d,some a,some b,none,none] [])=_;unfold a0g;have t1:a7c (a1z (sA (kj false 2 STP.kh) (ak (sV 0) (ak (sV 1) dh)))) [some T.d,some a,some b,none,none] [] = .ok (!txt T a) []:=ad8 (a0u (a08 (az rfl) (az rfl) (agc pa _)) (ur _));have t2:a7c (a1z (sA (kj false 2 STP.kh) (ak (sV 0) (ak (sV 2) dh)))) [some T.d,some a,some b,none,none] [] = .ok (!txt T b) []:=ad8 (a0u (a08 (az rfl) (az rfl) (agc pb _)) (ur _))
 cases ta:txt T a with
 | false =>
  rw [ta] at t1;rw [show ahv T a b=false by unfold ahv;rw [ta];rfl]
  exact av toR (a3d (ar (ifT (orT t1)) (nq (gj _ _ _))))
 | true =>
  rw [ta] at t1
  cases tb:txt T b with
  | false =>
   rw [tb] at t2;rw [show ahv T a b=false by unfold ahv;rw [ta,tb];rfl]
   exact av toR (a3d (ar (ifT (orF t1 (orT t2))) (nq (gj _ _ _))))
  | true =>
   rw [tb] at t2;obtain ⟨ea,hu,lu⟩:=adn pa ta;obtain ⟨eb,hz,lz⟩:=adn pb tb
   revert t1 t2
   rw [ea,eb]
   generalize cds a=u at hu lu
   generalize cds b=z at hz lz
   intro t1 t2
   rw [aqq hu hz];have e1:∀ h,hEq (.str (S z)) (.str "") h = .ok (.bl z.isEmpty) h:=λh=>by
    show hEq (.str (S z)) (.str (S [])) h=_;rw [ayj,ayi]
    cases z<;>simp
   have sl:=a4a h u h.n1
   cases ze:z.isEmpty with
   | true =>
    rw [show a4c T u z=false by unfold a4c;rw [ze];rfl]
    exact av toR (a3d (ar (ifT (orF t1 (orF t2 (tof (dj (az rfl) (gj _ _ _) ((e1 _).trans (by rw [ze]))))))) (nq (gj _ _ _))))
   | false =>
    refine ar (av toR (ifN (orF t1 (orF t2 (tof (dj (az rfl) (gj _ _ _) ((e1 _).trans (by rw [ze])))))))) ?_
    refine ar (av toR (jx (a08 (az rfl) (az rfl) (ap7 h hu _)))) ?_;have kk:=aa1 h sl;have tk:sT (s2 gLt (s2 gIx (s2 gIx (sV 0) (sC (.int 2))) (sV 3)) (sC (.int 0))) [some T.d,some (.str (S u)),some (.str (S z)),some (bj (ldw T 0 u)),none] [] = .ok (decide (kI T (ldw T 0 u) = -1)) []:=by
     rw [show decide (kI T (ldw T 0 u) = -1)=decide (kI T (ldw T 0 u)<0) from eP.mpr (by omega)]
     exact tof (dj (dj (dj (az rfl) (gj _ _ _) (a96 _)) (az rfl) (a4b h sl _)) (gj _ _ _) (b39 _ _))
    by_cases ku:kI T (ldw T 0 u) = -1
    ·rw [aQ ku] at tk;rw [show a4c T u z=false by unfold a4c;rw [ze,show decide (kI T (ldw T 0 u) ≠ -1)=false from aU λw=>w ku];rfl]
     exact av toR (a3d (ar (ifT tk) (nq (gj _ _ _))))
    ·rw [aU ku] at tk;refine ar (av toR (ifN tk)) ?_;refine ar (av toR (a3w (a5f (n:=z.length) (xg (az rfl) (ab9 (iy (by omega)))) (iy (by omega))))) ?_
     have eB:a4c T u z=(List.range z.length).all λj=>decide (kI T (ldw T (ldw T 0 u) (z.take (j+1))) ≠ -1) == decide (j+1=z.length):=by
      unfold a4c;rw [ze,aQ ku];rfl
     generalize ldw T 0 u=s at sl eB
     have lp:=a4i (g:=kN 4) (b:=a06 STP.kh STP.ug) bj
      (λpre τ hh=>∃ t4:Option D,τ=[some T.d,some (.str (S u)),some (.str (S z)),some (bj (ldw T s (z.take pre.length))),t4]/\hh=[]/\∀ j,j<pre.length->(decide (kI T (ldw T s (z.take (j+1))) ≠ -1) == decide (j+1=z.length))=true)
      (λd hh=>d = .bl false/\hh=[]/\a4c T u z=false) (List.range z.length) [] [some T.d,some (.str (S u)),some (.str (S z)),some (bj s),none] [] ?_ ⟨none,rfl,rfl,λj hj=>absurd hj (cB j)⟩
     ·rcases lp with ⟨τ',h',e,t4,rfl,rfl,al⟩ | ⟨d,h',e,rfl,rfl,q⟩
      ·refine ar (av (λz=>toR (MI.thn z _)) e) ?_;rw [cF,aT] at al;rw [eB,bn.mpr λj hj=>al j (aP.mp hj)];rfl
      ·refine ar (av (λz=>toR (MI.thn z _)) e) ?_;rw [q];rfl
     ·rintro pre i post τ hh all ⟨t4,rfl,rfl,al⟩
      rw [cF] at all;obtain ⟨ei,hi⟩:=a01 all;rw [<-ei] at al ⊢;refine ⟨_,_,rfl,?_⟩;have hc:z[i]? = some z[i]:=af hi
      generalize z[i]=c at hc
      have hct:=hz c (aM hc);have tk':z.take (i+1)=z.take i++[c]:=by rw [List.take_succ,hc];rfl
      have lw:ldw T s (z.take (i+1))=stp T (ldw T s (z.take i)) (psn T c):=by rw [tk',a4r]
      have rl:=a4a h (z.take i) sl;have rl':=a4a h (z.take (i+1)) sl;have kk':=aa1 h rl';have turn:∀ g:SS,j6 (m5 3 (s2 gIx (s2 gIx (s2 gIx (sV 0) (sC (.int 1))) (sV 3)) (sMS agv (s2 gIx (sV 0) (sC (.int 0))) (ak (s2 gIx (sV 2) (sV 4)) dh)))) g [some T.d,some (.str (S u)),some (.str (S z)),some (bj (ldw T s (z.take i))),some (bj i)] []=g [some T.d,some (.str (S u)),some (.str (S z)),some (bj (ldw T s (z.take (i+1)))),some (bj i)] []:=λg=>by
       rw [lw];exact jx (dj (dj (dj (az rfl) (gj _ _ _) (a69 (j:=1) rfl)) (az rfl) (ald h rl _)) (azs (dj (az rfl) (gj _ _ _) (a69 (j:=0) rfl)) (arg1 (dj (az rfl) (az rfl) (azk (iy (by omega)) hc))) (aqb hct _)) (au5 h (ade hct).2 _))
      have ts:sT (s2 hNe (s2 gGe (s2 gIx (s2 gIx (sV 0) (sC (.int 2))) (sV 3)) (sC (.int 0))) (s2 hEq (sV 4) (s2 abu (sA v6 (ak (sV 2) dh)) (sC (.int 1))))) [some T.d,some (.str (S u)),some (.str (S z)),some (bj (ldw T s (z.take (i+1)))),some (bj i)] [] = .ok (!(decide (kI T (ldw T s (z.take (i+1))) ≠ -1) == decide (i+1=z.length))) []:=by
       refine tof (dj (dj (dj (dj (az rfl) (gj _ _ _) (a96 _)) (az rfl) (a4b h rl' _)) (gj _ _ _) (av4 _ _)) (dj (az rfl) (dj (xg (az rfl) (ab9 (iy (by omega)))) (gj _ _ _) (a9u _ _)) (aot _ _)) ?_)
       rw [show decide (kI T (ldw T s (z.take (i+1))) ≠ -1)=decide (0<=kI T (ldw T s (z.take (i+1)))) from eP.mpr (by omega),show decide (i+1=z.length)=decide (((i:Nat):Int)=(z.length:Int) - 1) from eP.mpr (by omega)]
       cases decide (0<=kI T (ldw T s (z.take (i+1))))<;>cases decide (((i:Nat):Int)=(z.length:Int) - 1)<;>rfl
      unfold a06
      cases q:(decide (kI T (ldw T s (z.take (i+1))) ≠ -1) == decide (i+1=z.length)) with
      | true =>
       rw [q] at ts;refine .inl ⟨_,_,(turn _).trans (ar (ifF ts) rfl),some (bj i),?_,rfl,λj hj=>?_⟩
       ·rw [aw,ay,<-ei]
       ·rw [aw,ay,<-ei] at hj
        by_cases ji:j<i
        ·exact al j ji
        ·have:j=i:=by omega
         subst this;exact q
      | false =>
       rw [q] at ts;refine .inr ⟨_,_,(turn _).trans (ar (ifT ts) (nq (gj _ _ _))),rfl,rfl,?_⟩;rw [eB]
       cases w:(List.range z.length).all λj=>decide (kI T (ldw T s (z.take (j+1))) ≠ -1) == decide (j+1=z.length) with
       | false=>rfl
       | true =>
        have:=bn.mp w i (aP.mpr hi)
        rw [q] at this;cases this
noncomputable def oh:SF:=qg a4p 2
theorem ap8(b:Bool):Pu STP.oh 2 [.bl b, .bl b] (.bl true):=by
 refine Pu.of rfl (ad7 (qj _) (qj _)) (r:=.ok (.bl true) []) ?_ (ju (qj _) (by simp)) (qj _)
 unfold STP.oh;rw [jd];show toR (a4p [some (.bl b),some (.bl b)] [])=_;unfold a4p
 cases b with
 | true=>exact av toR (a3d (ar (ifT (a0u (az rfl) (ur _))) (nq (dj (az rfl) (gj _ _ _) rfl))))
 | false=>exact ar (av toR (ifN (a0u (az rfl) (ur _)))) (av toR (nq (dj (az rfl) (gj _ _ _) rfl)))
end
section
variable{T:Table}
noncomputable def bz:SF:=qg (jm SRC.aj SRC.du) 7
theorem ado(h:T.Ok){l:List Nat}(P:SRC.Src o N)(hN:N<=999990000)(ll:l.length<=300)(hk:k<7):∃ d o',Pln d/\Dr STP.bz 4 [.str (S T.tg), .str (S l),bj k] o d o'/\SRC.Src o' (N+3):=by
 have t6:=h.tong.hi;have tlo:=h.tong.lo;obtain ⟨a,o1,e1,a0,a1,P1⟩:=SRC.vg (m:=(l.length:Int)+1) P (by omega) (by omega) (by omega)
 obtain ⟨b,o2,e2,b0,b1,P2⟩:=SRC.vg (m:=(T.tg.length:Int)) P1 (by omega) (by omega) (by omega)
 obtain ⟨a,rfl⟩:=bN a0;obtain ⟨b,rfl⟩:=bN b0;have op:=K34.aht h.tong.hi;have ol:(K34.others T.tg).length<=95:=by have:=List.length_filter_le (λc => !decide (c∈T.tg)) sig;rwa [abe] at this
 obtain ⟨f,o3,e3,f0,f1,P3⟩:=SRC.vg (m:=((K34.others T.tg).length:Int)) P2 (by omega) (by omega) (by omega)
 obtain ⟨f,rfl⟩:=bN f0;have c1:kj false 2 SRC.aj [.ref 0, .int ((l.length:Int)+1)] [o] = .ok (bj a) [o1]:=e1 0 _ rfl;have c2:kj false 2 SRC.aj [.ref 0,bj T.tg.length] [o1] = .ok (bj b) [o2]:=e2 0 _ rfl;have c3:kj false 2 SRC.aj [.ref 0,bj (K34.others T.tg).length] [o2] = .ok (bj f) [o3]:=e3 0 _ rfl;have gb:T.tg[b]? = some (tgA T b):=aho (by omega)
 have fl:f<(K34.others T.tg).length:=by omega
 have gf:(K34.others T.tg)[f]? = some (K34.others T.tg)[f]:=af fl
 generalize (K34.others T.tg)[f]=q at gf
 generalize tgA T b=c at gb
 have args:∀ x∈[D.str (S T.tg), .str (S l),bj k],MI.clo 0 x:=aa0 (m7 _) (m7 _) (jk _);have one:∀ {u:O} {M:Nat},SRC.Src u M->∀ x∈[u],a6n 1 x:=λPu x hx=>by rw [ai] at hx;subst hx;exact ww (by omega) Pu.clo
 let τ1:Sd:=[some (.ref 0),some (.str (S T.tg)),some (.str (S l)),some (bj k),some (bj a),some (.str (S [c])),some (.rol (ones (K34.others T.tg)))]
 have pre:∀ g:SS,toR (j6 (m5 4 (sA (kj false 2 SRC.aj) (ak (sV 0) (ak (s2 jz (sA v6 (ak (sV 2) dh)) (sC (.int 1))) dh)))) (j6 (m5 5 (s2 gIx (sV 1) (sA (kj false 2 SRC.aj) (ak (sV 0) (ak (sA v6 (ak (sV 1) dh)) dh))))) (j6 (m5 6 (sZ (qu (sIt (sA (kj false 0 SRC.du) dh)) t1 (p6 SRC.aj SRC.du) (v7 SRC.aj SRC.du) [1]))) g)) [some (.ref 0),some (.str (S T.tg)),some (.str (S l)),some (bj k),none,none,none] [o])=toR (g τ1 [o2]):=λg=>by
  refine ar (av toR (jx (a08 (az rfl) (dj (xg (az rfl) (ab9 (l:=l) (iy (by omega)))) (gj _ _ _) wg) c1))) ?_
  refine ar (av toR (jx (dj (az rfl) (a08 (az rfl) (xg (az rfl) (ab9 (l:=T.tg) (iy (by omega)))) c2) (azk (iy (by omega)) gb)))) ?_
  have cf:∀ τ:Sd,τ[1]? = some (some (.str (S T.tg)))->sZ (qu (sIt (sA (kj false 0 SRC.du) dh)) t1 (p6 SRC.aj SRC.du) (v7 SRC.aj SRC.du) [1]) τ [o2] = .ok (.rol (ones (K34.others T.tg))) [o2]:=λτ h0=>by
   rw [<-abl];refine xq (a0t (λc:Nat=>D.str (S [c])) (λc=>if (!decide (c∈T.tg))=true then some (D.str (S [c])) else none) sig (a6y (b2v (SRC.a7m _)) (aq6 sig _)) (iy (by rw [abe];omega)) λc _=>?_) (by rw [abl];exact a7n _ _) (one P2)
   rw [a8q,wj,a3v,h0];have q:p6 SRC.aj SRC.du [some (.str (S [c])),some (.str (S T.tg))] [o2] = .ok (!decide (c∈T.tg)) [o2]:=tof (dj (az rfl) (az rfl) (K21.aqd c T.tg _));show (p6 SRC.aj SRC.du [some (.str (S [c])),some (.str (S T.tg))] [o2]).bind _=_;rw [q,cu]
   by_cases hc:c∈T.tg
   ·simp [hc]
   ·simp only [hc,i5,ic,dv];rfl
  exact av toR (jx (cf _ rfl))
 have fin:∀ d u,SRC.Src u (N+3)->Pln d->toR (jm SRC.aj SRC.du [some (.ref 0),some (.str (S T.tg)),some (.str (S l)),some (bj k),none,none,none] [o]) = .ok d [u]->∃ d o',Pln d/\Dr STP.bz 4 [.str (S T.tg), .str (S l),bj k] o d o'/\SRC.Src o' (N+3):=λd u Pu p e =>
  ⟨d,u,p,Dr.of rfl args P.clo (r:=.ok d [u]) (by unfold STP.bz;rw [jd];exact e) (ju (ak3 (bL 1) p.clo) (by simpa using one Pu)) p.clo Pu.clo,Pu⟩
 have ne:∀ {j:Int} {p:SS} {g:SS},((k:Nat):Int)≠j->toR (j6 (sIf (sT (s2 hEq (sV 3) (sC (.int j)))) p sNx) g τ1 [o2])=toR (g τ1 [o2]):=λhj=>av toR (ifN (tof (dj (az rfl) (gj _ _ _) (abg hj))));have yes:∀ {j:Int} {p:SS} {g:SS} {d:D} {h':Hd},((k:Nat):Int)=j->p τ1 [o2] = .rt d h'->toR (j6 (sIf (sT (s2 hEq (sV 3) (sC (.int j)))) p sNx) g τ1 [o2]) = .ok d h':=λhj e=>av toR (a3d (ar (ifT (tof (dj (az rfl) (gj _ _ _) (a8t hj)))) e));have u2:=P2.up (N:=N+1+1) (M:=N+3) (by omega)
 have sto:∀ {u:O},a6s (sV 2) oN (oS (sV 4)) τ1 [u] = .ok (.str (S (l.take a))) [u]:=λ{u}=>aor (az rfl) rfl (aoq (az rfl)) (b2u (l:=l) a (iy (by omega)))
 have sfr:∀ {u:O},a6s (sV 2) (oS (sV 4)) oN τ1 [u] = .ok (.str (S (l.drop a))) [u]:=λ{u}=>aor (az rfl) (aoq (az rfl)) rfl (akq (l:=l) a (iy (by omega)))
 have sf1:∀ {u:O},a6s (sV 2) (oS (s2 jz (sV 4) (sC (.int 1)))) oN τ1 [u] = .ok (.str (S (l.drop (a+1)))) [u]:=λ{u}=>aor (az rfl) (aoq (dj (az rfl) (gj _ _ _) wg)) rfl (akq (l:=l) (a+1) (iy (by omega)))
 rcases (show k=0\/k=1\/k=2\/k=3\/k=4\/k=5\/k=6 by omega) with hk | hk | hk | hk | hk | hk | hk
 ·refine fin (.str (S (l.take a++[c]++l.drop a))) o2 u2 (abk (by simp only [aw,bC,bP,ay];omega)) ?_
  unfold jm;rw [pre];exact yes (by omega) (nq (dj (dj sto (az rfl) (a7d (iy (by simp only [bC,ay];omega)))) sfr (a7d (iy (by simp only [aw,bC,bP,ay];omega)))))
 ·refine fin (.str (S (l.take a++l.drop (a+1)))) o2 u2 (abk (by simp only [aw,bC,bP];omega)) ?_
  unfold jm;rw [pre,ne (by omega)]
  exact yes (by omega) (nq (dj sto sf1 (a7d (iy (by simp only [bC,bP];omega)))))
 ·refine fin (.str (S (l.take a++[c]++l.drop (a+1)))) o2 u2 (abk (by simp only [aw,bC,bP,ay];omega)) ?_
  unfold jm;rw [pre,ne (by omega),ne (by omega)]
  exact yes (by omega) (nq (dj (dj sto (az rfl) (a7d (iy (by simp only [bC,ay];omega)))) sf1 (a7d (iy (by simp only [aw,bC,bP,ay];omega)))))
 ·refine fin (.str (S (l.take a++[q]++l.drop (a+1)))) o3 P3 (abk (by simp only [aw,bC,bP,ay];omega)) ?_
  unfold jm;rw [pre,ne (by omega),ne (by omega),ne (by omega)]
  have lr:∀ hh:Hd,v6 [.rol (ones (K34.others T.tg))] hh = .ok (bj (K34.others T.tg).length) hh:=λhh=>by rw [a2q,aA]
  have ix:gIx (.rol (ones (K34.others T.tg))) (bj f) [o3] = .ok (.str (S [q])) [o3]:=am6 (by rw [aE,gf];rfl)
  exact yes (by omega) (nq (dj (dj sto (dj (az rfl) (a08 (az rfl) (xg (az rfl) (lr _)) c3) ix) (a7d (iy (by simp only [bC,ay];omega)))) sf1 (a7d (iy (by simp only [aw,bC,bP,ay];omega)))))
 ·refine fin .non o2 u2 trivial ?_;unfold jm;rw [pre,ne (by omega),ne (by omega),ne (by omega),ne (by omega)]
  exact yes (by omega) (nq (gj _ _ _))
 ·have cm:m9 (sIt (sV 2)) t1 (a07 SRC.aj SRC.du) [] τ1 [o2] = .ok (.ref 1) [o2, .lst (ones l)]:=by
   refine uf (λc:Nat=>D.str (S [c])) (λc=>D.str (S [c])) l (a6y (az rfl) (aq6 l _)) (iy (by omega)) λc _=>?_
   rw [vf];exact az rfl
  have pd:Pln (.rol (ones l)):=a7n 0 l;refine ⟨.rol (ones l),o2,pd,Dr.of rfl args P.clo (r:=.ok (.ref 1) [o2, .lst (ones l)]) ?_ (a0z (ax _) rfl (a7n _ l) (by simpa using one P2)) pd.clo P2.clo,u2⟩
  unfold STP.bz;rw [jd];show toR (jm SRC.aj SRC.du [some (.ref 0),some (.str (S T.tg)),some (.str (S l)),some (bj k),none,none,none] [o])=_;unfold jm;rw [pre,ne (by omega),ne (by omega),ne (by omega),ne (by omega),ne (by omega)]
  exact yes (by omega) (nq cm)
 ·refine fin (.str (S [])) o2 u2 (abk (by simp)) ?_
  unfold jm;rw [pre,ne (by omega),ne (by omega),ne (by omega),ne (by omega),ne (by omega),ne (by omega)]
  exact av toR (nq (gj _ _ _))
end
end STP
namespace K41
open PySem PySem.Spec L2 MI AT HND EVX K23 K21 RCH HGT STP
open K22 hiding hp n8 iz g8 wk
open K40
section
variable{T:Table}
def aes(T:Table)(n:Int)(a b:D):Bool:=ahv T a b && decide (((cds b).length:Int)=n)
theorem aqr(pa:Pln a)(pb:Pln b):∀ x∈[T.d, .int n,a,b],MI.clo 0 x:=au9 Table.clo (jk _) pa.clo pb.clo
theorem auu(q:ahv T a b=true):txt T a=true/\txt T b=true:=by
 unfold ahv at q;rw [aX,aX] at q;exact ⟨q.1,q.2.1⟩
noncomputable def dg:SF:=qg (a2p STP.u6) 4
theorem a7b(h:T.Ok)(pa:Pln a)(pb:Pln b)(n:Int):Pu dg 4 [T.d, .int n,a,b] (.bl (aes T n a b)):=by
 refine Pu.of rfl (aqr pa pb) (r:=.ok (.bl (aes T n a b)) []) ?_ (ju (qj _) (by simp)) (qj _)
 unfold dg;rw [jd];show toR (a2p STP.u6 [some T.d,some (.int n),some a,some b] [])=_;unfold a2p aes;refine av toR (nq (aos (ahx (az rfl) (az rfl) (az rfl) (aer h pa pb _)) λq=>?_));obtain ⟨eb,_,lb⟩:=adn pb (auu q).2;have ln:v6 [b] [] = .ok (.int ((cds b).length:Nat)) []:=by
  rw [eb,ab9 (iy (by omega))]
  simp only [cds,a1n]
 exact dj (xg (az rfl) ln) (az rfl) (aot _ _)
noncomputable def jc:SF:=qg (yc STP.a02 STP.p7) 4
theorem agd(h:T.Ok)(pa:Pln a)(pb:Pln b)(n:Int):Pu jc 4 [T.d, .int n,a,b] (.bl (aes T n a b)):=by
 refine Pu.of rfl (aqr pa pb) (r:=.ok (.bl (aes T n a b)) []) ?_ (ju (qj _) (by simp)) (qj _)
 unfold jc;rw [jd];show toR (yc STP.a02 STP.p7 [some T.d,some (.int n),some a,some b] [])=_;unfold yc;have tg0:∀ {τ:Sd},τ[0]? = some (some T.d)->s2 gIx (sV 0) (sC (.int 0)) τ [] = .ok (.str (S T.tg)) []:=λh0=>dj (az h0) (gj _ _ _) (a69 (j:=0) rfl);have t1:a7c (a1z (sA (kj false 2 STP.p7) (ak (s2 gIx (sV 0) (sC (.int 0))) (ak (sV 2) dh)))) [some T.d,some (.int n),some a,some b] [] = .ok (!txt T a) []:=ad8 (a0u (a08 (tg0 rfl) (az rfl) (aga pa _)) (ur _));have t2:a7c (a1z (sA (kj false 2 STP.p7) (ak (s2 gIx (sV 0) (sC (.int 0))) (ak (sV 3) dh)))) [some T.d,some (.int n),some a,some b] [] = .ok (!txt T b) []:=ad8 (a0u (a08 (tg0 rfl) (az rfl) (aga pb _)) (ur _))
 have tt:=orB t1 (λ_=>t2)
 cases q:(!txt T a || !txt T b) with
 | true =>
  rw [q] at tt;have:aes T n a b=false:=by
   unfold aes ahv
   cases ta:txt T a with
   | false=>rfl
   | true =>
    rw [ta] at q
    cases tb:txt T b with
    | false=>rfl
    | true=>rw [tb] at q;cases q
  rw [this];exact av toR (a3d (ar (ifT tt) (nq (gj _ _ _))))
 | false =>
  rw [q] at tt;rw [fM] at q;have ta:txt T a=true:=by simpa using q.1
  have tb:txt T b=true:=by simpa using q.2
  obtain ⟨ea,hu,lu⟩:=adn pa ta;obtain ⟨eb,hz,lz⟩:=adn pb tb;refine ar (av toR (ifN tt)) ?_;have e2:aes T n a b=(decide (((cds b).length:Int)=n) && a4c T (cds a) (cds b)):=by unfold aes ahv;rw [ta,tb,dN,dN,Bool.and_comm]
  rw [e2]
  clear tt t1 t2 e2
  revert hu lu hz lz
  generalize cds a=u at ea
  generalize cds b=z at eb
  intro hu lu hz lz
  subst ea eb;exact av toR (nq (aos (dj (xg (az rfl) (ab9 (l:=z) (iy (by omega)))) (az rfl) (aot _ _)) λ_=>ahx (az rfl) (az rfl) (az rfl) (STP.ahu h hu hz lu lz _)))
noncomputable def di:SF:=qg (a1e SRC.aj dg STP.oh STP.bz jc) 12
abbrev τL(T:Table)(n:Nat)(u z:D)(w:Nat)(a b:D)(t9 t10 t11:Option D):Sd:=[some (.ref 0),some T.d,some (bj n),some u,some z,some (.str (S T.tg)),some (bj w),some a,some b,t9,t10,t11]
theorem b4x:MI.a4d [a,b,c,d,e] h = .ok (.tup [a,b,c,d,e]) h:=by unfold MI.a4d;rw [aL (iy (by simp))]
theorem auv(h:T.Ok){t9:Option D}(pp:Pln p)(pq:Pln q):∃ t9' t10' t11',ye SRC.aj dg STP.oh STP.bz jc (τL T n u z w a b (some (.tup [p,q])) t10 t11) [o] = .nx (τL T n u z w a b t9' t10' t11') [o]:=by
 have lp:=qp (g:=kN 10) (b:=a0s SRC.aj dg STP.oh STP.bz jc) D.int
  (λ_ τ hh=>∃ t10 t11:Option D,τ=τL T n u z w a b (some (.tup [p,q])) t10 t11/\hh=[o]) [(n:Int),(n:Int)+1,if (0:Int)<(n:Int) - 1 then (n:Int) - 1 else 0] (τL T n u z w a b (some (.tup [p,q])) t10 t11) [o] ?_ ⟨t10,t11,rfl,rfl⟩
 ·obtain ⟨τ',h',e,t10',t11',rfl,rfl⟩:=lp;refine ⟨some (.tup [p,q]),t10',t11',?_⟩;unfold ye;refine ar (azu (a6y (azr (uy (az rfl) (uy (dj (az rfl) (gj _ _ _) wg) (uy (a08 (gj _ _ _) (dj (az rfl) (gj _ _ _) (a9u _ _)) rfl) rfl))) |>.trans b2y) rfl)) e
 ·rintro pre k post τ hh _ ⟨t10,t11,rfl,rfl⟩
  refine ⟨_,_,rfl,τL T n u z w a b (some (.tup [p,q])) (some (.int k)) (some (.bl (aes T k p q))),[o],?_,some (.int k),some (.bl (aes T k p q)),rfl,rfl⟩;unfold a0s;have i0:∀ hh,gIx (.tup [p,q]) (.int 0) hh = .ok p hh:=λhh=>a69 (j:=0) rfl;have i1:∀ hh,gIx (.tup [p,q]) (.int 1) hh = .ok q hh:=λhh=>a69 (j:=1) rfl;refine ar (jx (aty (az rfl) (az rfl) (dj (az rfl) (gj _ _ _) (i0 _)) (dj (az rfl) (gj _ _ _) (i1 _)) (a7b h pp pq k _))) ?_;exact ar (ifF (aym (a0u (a08 (aty (az rfl) (az rfl) (dj (az rfl) (gj _ _ _) (i0 _)) (dj (az rfl) (gj _ _ _) (i1 _)) (agd h pp pq k _)) (az rfl) (ap8 _ _)) (ur _)))) rfl
theorem adp(h:T.Ok){u z:List Nat}(P:SRC.Src o N)(hN:N<=999980000)(nl:n<=1000)(lu:u.length<=300)(lz:z.length<=300):∃ o',Dr di 5 [T.d,bj n, .str (S u), .str (S z)] o (.bl true) o'/\SRC.Src o' (N+4):=by
 obtain ⟨w,o1,e1,w0,w1,P1⟩:=SRC.vg (m:=14) P (by omega) (by omega) (by omega)
 obtain ⟨w,rfl⟩:=bN w0;have c1:kj false 2 SRC.aj [.ref 0, .int 14] [o] = .ok (bj w) [o1]:=e1 0 _ rfl;have pu:Pln (.str (S u)):=abk (by omega)
 have pz:Pln (.str (S z)):=abk (by omega)
 obtain ⟨a,b,o2,pa,pb,P2,eab⟩:∃ (a b:D) (o2:O),Pln a/\Pln b/\SRC.Src o2 (N+4)/\∀ g:SS,toR (j6 (m5 7 (acg (sT (s2 gLt (sV 6) (sC (.int 7)))) (sA (kj false 4 STP.bz) (ak (sV 0) (ak (sV 5) (ak (sV 3) (ak (sV 6) dh))))) (sV 3))) (j6 (m5 8 (acg (sT (s2 gGe (sV 6) (sC (.int 7)))) (sA (kj false 4 STP.bz) (ak (sV 0) (ak (sV 5) (ak (sV 4) (ak (s2 abu (sV 6) (sC (.int 7))) dh))))) (sV 4))) g) [some (.ref 0),some T.d,some (bj n),some (.str (S u)),some (.str (S z)),some (.str (S T.tg)),some (bj w),none,none,none,none,none] [o1])=toR (g (τL T n (.str (S u)) (.str (S z)) w a b none none none) [o2]):=by
  by_cases hw:w<7
  ·obtain ⟨d,o2,pd,ed,P2⟩:=ado (k:=w) h (l:=u) P1 (by omega) lu hw
   have c2:kj false 4 STP.bz [.ref 0, .str (S T.tg), .str (S u),bj w] [o1] = .ok d [o2]:=ed 0 _ rfl;refine ⟨d, .str (S z),o2,pd,pz,P2.up (by omega),λg=>?_⟩
   refine ar (av toR (jx (SRC.av3 (tof (dj (az rfl) (gj _ _ _) (aof (by omega)))) (aty (az rfl) (az rfl) (az rfl) (az rfl) c2)))) ?_
   exact av toR (jx (SRC.atz (tof (dj (az rfl) (gj _ _ _) ((av4 _ _).trans (by rw [aU (by omega)])))) (az rfl)))
  ·obtain ⟨d,o2,pd,ed,P2⟩:=ado (k:=w - 7) h (l:=z) P1 (by omega) lz (by omega)
   have c2:kj false 4 STP.bz [.ref 0, .str (S T.tg), .str (S z), .int ((w:Int) - 7)] [o1] = .ok d [o2]:=by
    have:=ed 0 [o1] rfl
    rwa [show bj (w - 7) = .int ((w:Int) - 7) by show D.int _=_;congr 1;omega] at this
   refine ⟨.str (S u),d,o2,pu,pd,P2.up (by omega),λg=>?_⟩
   refine ar (av toR (jx (SRC.atz (tof (dj (az rfl) (gj _ _ _) (aq4 (by omega)))) (az rfl)))) ?_
   exact av toR (jx (SRC.av3 (tof (dj (az rfl) (gj _ _ _) ((av4 _ _).trans (by rw [aQ (by omega)])))) (aty (az rfl) (az rfl) (az rfl) (dj (az rfl) (gj _ _ _) (a9u _ _)) c2)))
 refine ⟨o2,Dr.of rfl (au9 Table.clo (jk _) (m7 _) (m7 _)) P.clo (r:=.ok (.bl true) [o2]) ?_ (ju (qj _) (by intro x hx;rw [show ([o2]:Hd).take 1=[o2] from rfl,ai] at hx;subst hx;exact ww (by omega) P2.clo)) (qj _) P2.clo,P2⟩
 unfold di;rw [jd];show toR (a1e SRC.aj dg STP.oh STP.bz jc [some (.ref 0),some T.d,some (bj n),some (.str (S u)),some (.str (S z)),none,none,none,none,none,none,none] [o])=_;unfold a1e;refine ar (av toR (jx (dj (az rfl) (gj _ _ _) (a69 (j:=0) rfl)))) ?_;refine ar (av toR (jx (a08 (az rfl) (gj _ _ _) c1))) ?_;refine ar (eab _) ?_;have big:aes T ((n:Int)+10 ^ 20) (.str (S u)) (.str (S z))=false:=by
  unfold aes;rw [aU,ib];simp only [cds,a1n]
  intro e
  have:(10:Int) ^ 20=100000000000000000000:=by decide
  omega
 have hb:=agd h pu pz ((n:Int)+10 ^ 20) [o2];rw [big] at hb;refine ar (av toR (ifN (tof (dj (aty (az rfl) (dj (az rfl) (dj (gj _ _ _) (gj _ _ _) (at5 (by decide))) wg) (az rfl) (az rfl) hb) (gj _ _ _) rfl)))) ?_
 let ps:List (D × D):=[(.str (S u), .str (S z)),(a,b),(b,a),(a, .str (S z)),(.str (S u),b)]
 have lp:=qp (g:=kN 9) (b:=ye SRC.aj dg STP.oh STP.bz jc) (λp:D × D=>D.tup [p.1,p.2])
  (λ_ τ hh=>∃ t9 t10 t11:Option D,τ=τL T n (.str (S u)) (.str (S z)) w a b t9 t10 t11/\hh=[o2]) ps (τL T n (.str (S u)) (.str (S z)) w a b none none none) [o2] ?_ ⟨none,none,none,rfl,rfl⟩
 ·obtain ⟨τ',h',e,t9,t10,t11,rfl,rfl⟩:=lp;refine ar (av toR (a3w (xs:=ps.map λp=>D.tup [p.1,p.2]) (a6y (azr (uy (a08 (az rfl) (az rfl) ahy) (uy (a08 (az rfl) (az rfl) ahy) (uy (a08 (az rfl) (az rfl) ahy) (uy (a08 (az rfl) (az rfl) ahy) (uy (a08 (az rfl) (az rfl) ahy) rfl))))) |>.trans b4x) rfl))) ?_
  refine ar (av (λz=>toR (MI.thn z _)) e) ?_;exact av toR (nq (gj _ _ _))
 ·rintro pre p post τ hh all ⟨t9,t10,t11,rfl,rfl⟩
  have pp:Pln p.1/\Pln p.2:=by
   have:p∈ps:=by rw [all];simp
   simp only [ps,aD,aN,bT] at this
   rcases this with rfl | rfl | rfl | rfl | rfl
   ·exact ⟨pu,pz⟩
   ·exact ⟨pa,pb⟩
   ·exact ⟨pb,pa⟩
   ·exact ⟨pa,pz⟩
   ·exact ⟨pu,pb⟩
  obtain ⟨t9',t10',t11',e⟩:=auv h (n:=n) (w:=w) (u:=.str (S u)) (z:=.str (S z)) (a:=a) (b:=b) (o:=o2) (t9:=t9) (t10:=t10) (t11:=t11) pp.1 pp.2;exact ⟨_,_,rfl,_,_,e,t9',t10',t11',rfl,rfl⟩
end
section
variable{T:Table}
theorem aa6(h:T.Ok)(P:SRC.Src u N)(hN:N<=999980000)(n10:n<=10)(ei:fc τ [o] = .ok ⟨(List.range n).map bj,λ_=>True⟩ [u])
  (ef:fe=s2 gIx (s2 gIx (sV 2) (sC (.int 0))) (sA (kj false 2 SRC.aj) (ak (sV 1) (ak (sA v6 (ak (s2 gIx (sV 2) (sC (.int 0))) dh)) dh)))) (fr:frs' ix τ=[some (.ref 0),some T.d]) :
  ∃ (t:List Nat) (u':O),t.length=n/\(∀ c∈t,c∈T.tg)/\SRC.Src u' (N+n)/\sMS aal (sC (.str "")) (ak (sZ (m9 fc t1 fe ix)) dh) τ [o] = .ok (.str (S t)) [u']:=by
 have t6:=h.tong.hi;have tlo:=h.tong.lo;subst ef;have mp:=aay (f:=a92 t1 (s2 gIx (s2 gIx (sV 2) (sC (.int 0))) (sA (kj false 2 SRC.aj) (ak (sV 1) (ak (sA v6 (ak (s2 gIx (sV 2) (sC (.int 0))) dh)) dh)))) (frs' ix τ)) bj
  (λpre ys h=>∃ (u:O) (t:List Nat),h=[u]/\SRC.Src u (N+pre.length)/\ys=ones t/\t.length=pre.length/\∀ c∈t,c∈T.tg)
  (List.range n) [] [] [u] ?_ ⟨u,[],rfl,P,rfl,rfl,by simp⟩
 ·obtain ⟨zs,h',em,u',t,rfl,P5,ez,tl,tt⟩:=mp;rw [cF] at ez tl P5;rw [aT] at tl P5;subst ez;refine ⟨t,u',tl,tt,P5,?_⟩;refine azs (z:=S []) (gj _ _ _) (arg1 (b4w (h:=[o]) (h':=[u']) rfl ?_ (a7n _ t) (by intro o ho;rw [ai] at ho;subst ho;exact ww (by omega) P5.clo))) (alg (by omega))
  unfold m9;rw [ei,cu];dsimp only;rw [aL (by rw [aA,aT];exact iy (by omega)),em]
  rfl
 ·rintro pre i post ys h all ⟨u,t,rfl,Pu,rfl,tl,tt⟩
  rw [cF] at all;have hi:pre.length<n:=by
   have:=av List.length all
   simp at this
   omega
  obtain ⟨x,u',e5,x0,x1,P5⟩:=SRC.vg (m:=(T.tg.length:Nat)) Pu (by omega) (by omega) (by omega)
  obtain ⟨j,rfl⟩:=bN x0;have hj:j<T.tg.length:=by omega
  have c5:kj false 2 SRC.aj [.ref 0, .int (T.tg.length:Nat)] [u] = .ok (.int (j:Nat)) [u']:=e5 0 _ rfl;refine ⟨.str (S [T.tg[j]]),[u'],?_,u',t++[T.tg[j]],rfl,by rw [aw,ay];exact P5,by simp [ones],by rw [aw,aw,tl];rfl,λq hq=>?_⟩
  ·rw [vf,fr];have tg0:∀ {hh:Hd},gIx T.d (.int 0) hh = .ok (.str (S T.tg)) hh:=λ{hh}=>a69 (j:=0) rfl;exact dj (dj (az rfl) (gj _ _ _) tg0) (a08 (az rfl) (xg (dj (az rfl) (gj _ _ _) tg0) (ab9 (iy (by omega)))) c5) (azk (iy (by omega)) (af hj))
  ·rcases aS.mp hq with h | h
   ·exact tt q h
   ·rw [ai] at h;subst h;exact bJ hj
noncomputable def ap9:SF:=qg (aoa SRC.aj dg di RCH.j4 SRC.fu SRC.ie STP.j9) 7
theorem aza(ns:List Int):∃ h',K41.ap9 [.scr (ns.map D.int)] [] = .ok (.bl true) h':=by
 obtain ⟨o,P,e0⟩:=SRC.akv ns [];obtain ⟨T,o3,hT,rc,e3,P3⟩:=SRC.alo (most:=32) P (by omega) (by omega) (by omega)
 have n32:=hT.n32;have c3:kj false 2 SRC.ie [.ref 0, .int 32] [o] = .ok T.d [o3]:=e3 0 _ rfl;obtain ⟨a,o4,e4,a0,a1,P4⟩:=SRC.vg (m:=5) P3 (by omega) (by omega) (by omega)
 obtain ⟨a,rfl⟩:=bN a0;have c4:kj false 2 SRC.aj [.ref 0, .int 5] [o3] = .ok (bj a) [o4]:=e4 0 _ rfl
 suffices main:∃ (found:D) (h':Hd),Pu STP.j9 1 [T.d] found/\∃ u z:List Nat,toR (aoa SRC.aj dg di RCH.j4 SRC.fu SRC.ie STP.j9 [some (.scr (ns.map D.int)),none,none,none,none,none,none] []) = .ok (.bl true) h' by
  obtain ⟨_,h',_,_,_,e⟩:=main;refine ⟨h',?_⟩;unfold K41.ap9;rw [jd];exact e
 unfold aoa;have zk:∀ τ:Sd,τ[2]? = some (some T.d)->sZ (qu (sRg xj (ak (sA v6 (ak (s2 gIx (sV 2) (sC (.int 2))) dh)) dh)) t1 (a65 SRC.aj dg di RCH.j4 SRC.fu SRC.ie STP.j9) (ab6 SRC.aj dg di RCH.j4 SRC.fu SRC.ie STP.j9) [2]) τ [o3] = .ok (.rol ((kds T).map bj)) [o3]:=λτ h3=>by
  unfold kds;rw [<-yg];refine xq (a0t bj (λt=>if decide (kI T t ≠ -1)=true then some (bj t) else none) (List.range T.go.length) (a5f (n:=T.go.length) (xg (dj (az h3) (gj _ _ _) (a96 _)) (a3t.trans (by rw [aA,hT.kl]))) (iy (by omega))) (iy (by rw [aT];omega)) λt ht=>?_) (by rw [yg];exact jr _) (auh P3)
  have ht:=aP.mp ht;rw [a8q,wj,a3v,h3];have kk:=aa1 hT ht;have q:a65 SRC.aj dg di RCH.j4 SRC.fu SRC.ie STP.j9 [some (bj t),some T.d] [o3] = .ok (decide (kI T t ≠ -1)) [o3]:=by
   rw [show decide (kI T t ≠ -1)=decide (0<=kI T t) from eP.mpr (by omega)]
   exact tof (dj (dj (dj (az rfl) (gj _ _ _) (a96 _)) (az rfl) (a4b hT ht _)) (gj _ _ _) (av4 _ _))
  show (a65 SRC.aj dg di RCH.j4 SRC.fu SRC.ie STP.j9 [some (bj t),some T.d] [o3]).bind _=_;rw [q,cu]
  cases decide (kI T t ≠ -1)<;>rfl
 obtain ⟨found,ef⟩:∃ found,Pu STP.j9 1 [T.d] found:=by
  rcases aa5 hT rc with ⟨_,e⟩ | ⟨N,u,z,_,_,_,_,_,_,_,_,e⟩
  ·exact ⟨_,e⟩
  ·exact ⟨_,e⟩
 obtain ⟨u,o5,lu,hu,P5,e5⟩:=aa6 hT (fc:=sRg xj (ak (s2 jz (sC (.int 1)) (sA (kj false 2 SRC.aj) (ak (sV 1) (ak (sC (.int 5)) dh)))) dh)) (fe:=ab7 SRC.aj dg di RCH.j4 SRC.fu SRC.ie STP.j9) (ix:=[1,2]) (τ:=[some (.scr (ns.map D.int)),some (.ref 0),some T.d,some (RA T (kds T)),some found,none,none]) (o:=o3) (n:=1+a) P4 (by omega) (by omega) (by
   unfold sRg;rw [arg1 (dj (gj _ _ _) (a08 (az rfl) (gj _ _ _) c4) wg),cu];have e:(1:Int)+(a:Int)=((1+a:Nat):Int):=by omega
   rw [e];exact aks (n:=1+a) _ (iy (by omega))) rfl rfl
 obtain ⟨b,o6,e6,b0,b1,P6⟩:=SRC.vg (m:=4) P5 (by omega) (by omega) (by omega)
 obtain ⟨b,rfl⟩:=bN b0;have c6:kj false 2 SRC.aj [.ref 0, .int 4] [o5] = .ok (bj b) [o6]:=e6 0 _ rfl;obtain ⟨z,o7,lz,hz,P7,e7⟩:=aa6 hT (fc:=sRg xj (ak (sA (kj false 2 SRC.aj) (ak (sV 1) (ak (sC (.int 4)) dh))) dh)) (fe:=ab8 SRC.aj dg di RCH.j4 SRC.fu SRC.ie STP.j9) (ix:=[1,2]) (τ:=[some (.scr (ns.map D.int)),some (.ref 0),some T.d,some (RA T (kds T)),some found,some (.str (S u)),none]) (o:=o5) (n:=b) P6 (by omega) (by omega) (by
   unfold sRg;rw [arg1 (a08 (az rfl) (gj _ _ _) c6),cu];exact aks _ (iy (by omega))) rfl rfl
 obtain ⟨o8,e8,P8⟩:=adp hT (n:=z.length) (u:=u) (z:=z) P7 (by omega) (by omega) (by omega) (by omega)
 have c8:kj false 5 di [.ref 0,T.d,bj z.length, .str (S u), .str (S z)] [o7] = .ok (.bl true) [o8]:=e8 0 _ rfl;have pre:∀ g:SS,toR (j6 (m5 1 (sA (kj true 1 SRC.fu) (ak (sV 0) dh))) (j6 (m5 2 (sA (kj false 2 SRC.ie) (ak (sV 1) (ak (sC (.int 32)) dh)))) (j6 (m5 3 (sA (kj false 2 RCH.j4) (ak (sV 2) (ak (sZ (qu (sRg xj (ak (sA v6 (ak (s2 gIx (sV 2) (sC (.int 2))) dh)) dh)) t1 (a65 SRC.aj dg di RCH.j4 SRC.fu SRC.ie STP.j9) (ab6 SRC.aj dg di RCH.j4 SRC.fu SRC.ie STP.j9) [2])) dh)))) (j6 (m5 4 (sA (kj false 1 STP.j9) (ak (sV 2) dh))) (j6 (m5 5 (sMS aal (sC (.str "")) (ak (sZ (m9 (sRg xj (ak (s2 jz (sC (.int 1)) (sA (kj false 2 SRC.aj) (ak (sV 1) (ak (sC (.int 5)) dh)))) dh)) t1 (ab7 SRC.aj dg di RCH.j4 SRC.fu SRC.ie STP.j9) [1,2])) dh))) (j6 (m5 6 (sMS aal (sC (.str "")) (ak (sZ (m9 (sRg xj (ak (sA (kj false 2 SRC.aj) (ak (sV 1) (ak (sC (.int 4)) dh))) dh)) t1 (ab8 SRC.aj dg di RCH.j4 SRC.fu SRC.ie STP.j9) [1,2])) dh))) (j6 (sIf (a7c (a1z (sA (kj false 5 di) (ak (sV 1) (ak (sV 2) (ak (sA v6 (ak (sV 6) dh)) (ak (sV 5) (ak (sV 6) dh)))))))) asl sNx) g)))))) [some (.scr (ns.map D.int)),none,none,none,none,none,none] [])=toR (g [some (.scr (ns.map D.int)),some (.ref 0),some T.d,some (RA T (kds T)),some found,some (.str (S u)),some (.str (S z))] [o8]):=λg=>by
  refine ar (av toR (jx (xg (az rfl) e0))) ?_;refine ar (av toR (jx (a08 (az rfl) (gj _ _ _) c3))) ?_;refine ar (av toR (jx (a08 (az rfl) (zk _ rfl) (adm hT a2z _)))) ?_;refine ar (av toR (jx (xg (az rfl) (ef _)))) ?_;refine ar (av toR (jx e5)) ?_;refine ar (av toR (jx e7)) ?_;refine av toR (ifN (aym (a0u (azr (uy (az rfl) (uy (az rfl) (uy (xg (az rfl) (ab9 (l:=z) (iy (by omega)))) (uy (az rfl) (uy (az rfl) rfl))))) |>.trans c8) (ur _))))
 rcases aa5 hT rc with ⟨q,e⟩ | ⟨N,u',z',N1,N32,eN,lu',hu',ne',ku',st',e⟩
 ·have:found = .non:=by
   have h1:=ef [];rw [e []] at h1
   injection h1 with h1 _
   exact h1.symm
  subst this;refine ⟨.non,[o8],ef,u,z,?_⟩;rw [pre];have isn:∀ {d:D} {hh:Hd},gIs d .non hh = .ok (.bl (a3b d)) hh:=λ{d hh}=>a9s d;have due:sOr (sT (s2 gIs (sV 3) (sC .non))) (sT (s2 hEq (sV 3) (sC (.int 0)))) [some (.scr (ns.map D.int)),some (.ref 0),some T.d,some (RA T (kds T)),some .non,some (.str (S u)),some (.str (S z))] [o8] = .ok true [o8]:=by
   rcases q with q | q<;>rw [q]
   ·exact orT (tof (dj (az rfl) (gj _ _ _) rfl))
   ·exact orF (tof (dj (az rfl) (gj _ _ _) rfl)) (tof (dj (az rfl) (gj _ _ _) (a8t rfl)))
  exact av toR (a3d (ar (ifT due) (nq (atv (dj (az rfl) (gj _ _ _) rfl) (dj (xg (az rfl) (ef _)) (gj _ _ _) rfl)))))
 ·have:found = .tup [.str (S u'), .str (S z')]:=by
   have h1:=ef [];rw [e []] at h1
   injection h1 with h1 _
   exact h1.symm
  subst this;have zl:=st'.len;obtain ⟨o9,e9,P9⟩:=adp hT (n:=N) (u:=u') (z:=z') P8 (by omega) (by omega) (by omega) (by omega)
  have c9:kj false 5 di [.ref 0,T.d,bj N, .str (S u'), .str (S z')] [o8] = .ok (.bl true) [o9]:=e9 0 _ rfl;refine ⟨_,[o9],ef,u,z,?_⟩;rw [pre,eN];refine ar (av toR (ifN (orF (tof (dj (az rfl) (gj _ _ _) rfl)) (tof (dj (az rfl) (gj _ _ _) (abg (by omega))))))) ?_
  have pf:Pln (.tup [.str (S u'), .str (S z')]):=mj (m7 _) (mj (m7 _) yt);have i0:∀ {hh:Hd},gIx (.tup [.str (S u'), .str (S z')]) (.int 0) hh = .ok (.str (S u')) hh:=λ{hh}=>a69 (j:=0) rfl;have i1:∀ {hh:Hd},gIx (.tup [.str (S u'), .str (S z')]) (.int 1) hh = .ok (.str (S z')) hh:=λ{hh}=>a69 (j:=1) rfl;have hd:aes T (N:Nat) (.str (S u')) (.str (S z'))=true:=by
   unfold aes;rw [aqq hu' st'.sg,aut ku' st' N1,dN];simp only [cds,a1n];exact aQ (by omega)
  have hh:=a7b hT (abk (l:=u') (by omega)) (abk (l:=z') (by omega)) (N:Nat) [o8]
  rw [hd] at hh;refine ar (av toR (ifN (orF (aym (a0u (a08 (az rfl) (gj _ _ _) (b1n pf)) (ur _))) (orF (tof (dj (xg (az rfl) a3t) (gj _ _ _) (atx rfl))) (aym (a0u (aty (az rfl) (az rfl) (dj (az rfl) (gj _ _ _) i0) (dj (az rfl) (gj _ _ _) i1) hh) (ur _))))))) ?_;exact av toR (nq (azr (uy (az rfl) (uy (az rfl) (uy (az rfl) (uy (dj (az rfl) (gj _ _ _) i0) (uy (dj (az rfl) (gj _ _ _) i1) rfl))))) |>.trans c9))
end
end K41
namespace L2
open PySem PySem.Spec PySem.W PyProof.Rows
end L2
namespace K41
open PySem PySem.Spec L2 MI
def apa(K:PySem.W.Frag):Sp:=λvs H Q _=>∃ (a:Addr) (ns:List Int),vs=[.ref a]/\SqF K H a (ns.map V.int)/\ns.length<=63/\∀ H',Q (.bl true) H'
theorem a3p{K:PySem.W.Frag}{ι:List Addr}{H:Hp}:∀ ns:List Int,Reps K ι H (ns.map V.int) (ns.map D.int)
 | []=>.nil
 | n::ns=>.cons (.int n) (a3p ns)
theorem azb{K:PySem.W.Frag}(vs:List V)(H:Hp)(Q:VK)(E:XK)(h:apa K vs H Q E):qw K 1 K41.ap9 vs H Q E:=by
 obtain ⟨a,ns,rfl,hS,hl,q⟩:=h;obtain ⟨h',e⟩:=K41.aza ns;refine ⟨rfl,[],[.scr (ns.map D.int)],[], .cons (.scr hS (a3p ns)) .nil,⟨gC,rfl,λi a o z=>by simp at z⟩,?_⟩
 rw [e]
 intro ι' H' b g r hr
 cases r
 exact q H'
theorem azc{K:PySem.W.Frag}{H:Hp}{a:Addr}{vs:List V}(hO:Only H)(hS:SqL K H a vs):SqF K H a vs:=by
 rcases hS with r | r
 ·rcases r with r | ⟨o,r⟩
  ·rcases hO a with z | ⟨o,xs,z⟩<;>rw [z] at r<;>cases r
  ·exact .inl ⟨o,r⟩
 ·exact .inr (.inr r)
abbrev fo(x:Str)(t:Stmt)(kV dc pm:Value)(an:Option Addr)(cd ct:Value):=PySem.W.fnOf x x (a6j t) (a1f t) (dq t) .none kV dc pm an cd ct
def Df(K:PySem.W.Frag)(f:Addr)(nm:Str)(i:Nat):Prop:=∃ oc od kV dc pm an cd ct sl,PySem.W.nsIn K mainGlobals nm=some (some (.ref f))/\K.lookup f=some ⟨oc,od, .func (fo nm (top i) kV dc pm an cd ct),sl⟩/\PySem.W.codeIn K cd nm=true/\PySem.W.keepIn K (.ref f)=true
theorem df{K:PySem.W.Frag}{f:Addr}{nm:Str}{i:Nat}(d:Df K f nm i):∃ e,PySem.W.nsIn K mainGlobals nm=some (some (.ref f))/\Fun K nm nm (top i) f e:=by
 obtain ⟨_,_,_,_,_,_,_,_,_,a,l,c,k⟩:=d;exact ⟨_,a,awb l c k⟩
theorem azd{l:PySem.W.OpenLaw}{w:World}{K:PySem.W.Frag}{h:Heap}{mg:Str->Option Value}{fa f1 f2 f3 f4 f5 f6 f7 f8 f9 f10 f11 f12 f13 f14 f15 f16 f17 f18 f19 f20 f21 f22 f23 f24 f25 f26 f27 f28 f29 f30 f31 f32 f33 f34 f35:Addr}(X:K.In h)(G:h.Ns mainGlobals mg)(hfa:mg "law" = some (.ref fa))
  (d1:Df K f1 "is_text" 1)
  (d2:Df K f2 "room_from" 3)
  (d3:Df K f3 "rooms_along" 4)
  (d4:Df K f4 "words_to" 5)
  (d5:Df K f5 "hope_words" 7)
  (d6:Df K f6 "hope_word" 8)
  (d7:Df K f7 "hopes" 9)
  (d8:Df K f8 "ways_to" 11)
  (d9:Df K f9 "reach" 13)
  (d10:Df K f10 "reach_from" 14)
  (d11:Df K f11 "rooms_behind" 15)
  (d12:Df K f12 "heights" 16)
  (d13:Df K f13 "height" 17)
  (d14:Df K f14 "needing" 19)
  (d15:Df K f15 "way_down" 20)
  (d16:Df K f16 "is_next_down" 21)
  (d17:Df K f17 "is_step" 22)
  (d18:Df K f18 "needing_holds" 23)
  (d19:Df K f19 "_law_said" 25)
  (d20:Df K f20 "_law_source" 26)
  (d21:Df K f21 "_law_draw" 27)
  (d22:Df K f22 "_law_signs" 28)
  (d23:Df K f23 "_law_tongue" 29)
  (d24:Df K f24 "_law_rooms" 30)
  (d25:Df K f25 "_law_table" 31)
  (d26:Df K f26 "_law_hope" 32)
  (d27:Df K f27 "_law_next" 33)
  (d28:Df K f28 "_law_reach" 34)
  (d29:Df K f29 "_law_room" 35)
  (d30:Df K f30 "_law_is_word" 36)
  (d31:Df K f31 "_law_is_step" 37)
  (d32:Df K f32 "_law_word_spoilt" 38)
  (d33:Df K f33 "_law_holds" 39)
  (d34:Df K f34 "_law_looked" 40)
  (d35:Df K f35 "law" 41)
  (z1:PySem.W.nsIn K mainGlobals "abs" = some none) (z2:PySem.W.nsIn K mainGlobals "all" = some none) (z3:PySem.W.nsIn K mainGlobals "any" = some none) (z4:PySem.W.nsIn K mainGlobals "enumerate" = some none) (z5:PySem.W.nsIn K mainGlobals "int" = some none) (z6:PySem.W.nsIn K mainGlobals "isinstance" = some none) (z7:PySem.W.nsIn K mainGlobals "len" = some none) (z8:PySem.W.nsIn K mainGlobals "max" = some none) (z9:PySem.W.nsIn K mainGlobals "min" = some none) (z10:PySem.W.nsIn K mainGlobals "range" = some none) (z11:PySem.W.nsIn K mainGlobals "reversed" = some none) (z12:PySem.W.nsIn K mainGlobals "sorted" = some none) (z13:PySem.W.nsIn K mainGlobals "str" = some none) (z14:PySem.W.nsIn K mainGlobals "sum" = some none) (z15:PySem.W.nsIn K mainGlobals "tuple" = some none) (z16:PySem.W.nsIn K mainGlobals "zip" = some none)  :
  ∃ fd:FuncData,(∀ (s:Shared) (v:Value),BindsTo s fd ⟨[v],[]⟩ [("_law_script",v)])/\∀ base:Heap,K.In base->base.Ns mainGlobals mg->FnOk l.prog w K mg base CX0 7 fa fd ["_law_script"] (apa K):=by
 obtain ⟨_,a1,F1⟩:=df d1;have b1:=F1.binds (ps:=["tongue", "thing"]) λ_ _ _ _ _ _ us hl=>match us,hl with | [_,_],_=>rfl
 obtain ⟨_,a2,F2⟩:=df d2;have b2:=F2.binds (ps:=["table", "room", "word"]) λ_ _ _ _ _ _ us hl=>match us,hl with | [_,_,_],_=>rfl
 obtain ⟨_,a3,F3⟩:=df d3;have b3:=F3.binds (ps:=["table", "room", "word"]) λ_ _ _ _ _ _ us hl=>match us,hl with | [_,_,_],_=>rfl
 obtain ⟨_,a4,F4⟩:=df d4;have b4:=F4.binds (ps:=["table", "start", "passed"]) λ_ _ _ _ _ _ us hl=>match us,hl with | [_,_,_],_=>rfl
 obtain ⟨_,a5,F5⟩:=df d5;have b5:=F5.binds (ps:=["table"]) λ_ _ _ _ _ _ us hl=>match us,hl with | [_],_=>rfl
 obtain ⟨_,a6,F6⟩:=df d6;have b6:=F6.binds (ps:=["table", "start"]) λ_ _ _ _ _ _ us hl=>match us,hl with | [_,_],_=>rfl
 obtain ⟨_,a7,F7⟩:=df d7;have b7:=F7.binds (ps:=["table"]) λ_ _ _ _ _ _ us hl=>match us,hl with | [_],_=>rfl
 obtain ⟨_,a8,F8⟩:=df d8;have b8:=F8.binds (ps:=["table"]) λ_ _ _ _ _ _ us hl=>match us,hl with | [_],_=>rfl
 obtain ⟨_,a9,F9⟩:=df d9;have b9:=F9.binds (ps:=["table"]) λ_ _ _ _ _ _ us hl=>match us,hl with | [_],_=>rfl
 obtain ⟨_,a10,F10⟩:=df d10;have b10:=F10.binds (ps:=["table", "hope", "starts"]) λ_ _ _ _ _ _ us hl=>match us,hl with | [_,_,_],_=>rfl
 obtain ⟨_,a11,F11⟩:=df d11;have b11:=F11.binds (ps:=["table", "hope"]) λ_ _ _ _ _ _ us hl=>match us,hl with | [_,_],_=>rfl
 obtain ⟨_,a12,F12⟩:=df d12;have b12:=F12.binds (ps:=["table"]) λ_ _ _ _ _ _ us hl=>match us,hl with | [_],_=>rfl
 obtain ⟨_,a13,F13⟩:=df d13;have b13:=F13.binds (ps:=["table", "hope", "behind", "room"]) λ_ _ _ _ _ _ us hl=>match us,hl with | [_,_,_,_],_=>rfl
 obtain ⟨_,a14,F14⟩:=df d14;have b14:=F14.binds (ps:=["table"]) λ_ _ _ _ _ _ us hl=>match us,hl with | [_],_=>rfl
 obtain ⟨_,a15,F15⟩:=df d15;have b15:=F15.binds (ps:=["table", "highs", "start"]) λ_ _ _ _ _ _ us hl=>match us,hl with | [_,_,_],_=>rfl
 obtain ⟨_,a16,F16⟩:=df d16;have b16:=F16.binds (ps:=["kind", "high", "left"]) λ_ _ _ _ _ _ us hl=>match us,hl with | [_,_,_],_=>rfl
 obtain ⟨_,a17,F17⟩:=df d17;have b17:=F17.binds (ps:=["table", "u", "z"]) λ_ _ _ _ _ _ us hl=>match us,hl with | [_,_,_],_=>rfl
 obtain ⟨_,a18,F18⟩:=df d18;have b18:=F18.binds (ps:=["table", "number", "u", "z"]) λ_ _ _ _ _ _ us hl=>match us,hl with | [_,_,_,_],_=>rfl
 obtain ⟨_,a19,F19⟩:=df d19;have b19:=F19.binds (ps:=["_law_found", "_law_wanted"]) λ_ _ _ _ _ _ us hl=>match us,hl with | [_,_],_=>rfl
 obtain ⟨_,a20,F20⟩:=df d20;have b20:=F20.binds (ps:=["_law_script"]) λ_ _ _ _ _ _ us hl=>match us,hl with | [_],_=>rfl
 obtain ⟨_,a21,F21⟩:=df d21;have b21:=F21.binds (ps:=["_law_left", "_law_many"]) λ_ _ _ _ _ _ us hl=>match us,hl with | [_,_],_=>rfl
 obtain ⟨_,a22,F22⟩:=df d22;have b22:=F22.binds (ps:=[]) λ_ _ _ _ _ _ us hl=>match us,hl with | [],_=>rfl
 obtain ⟨_,a23,F23⟩:=df d23;have b23:=F23.binds (ps:=["_law_left"]) λ_ _ _ _ _ _ us hl=>match us,hl with | [_],_=>rfl
 obtain ⟨_,a24,F24⟩:=df d24;have b24:=F24.binds (ps:=["_law_left", "_law_tongue_here", "_law_many"]) λ_ _ _ _ _ _ us hl=>match us,hl with | [_,_,_],_=>rfl
 obtain ⟨_,a25,F25⟩:=df d25;have b25:=F25.binds (ps:=["_law_left", "_law_most"]) λ_ _ _ _ _ _ us hl=>match us,hl with | [_,_],_=>rfl
 obtain ⟨_,a26,F26⟩:=df d26;have b26:=F26.binds (ps:=["_law_table_here"]) λ_ _ _ _ _ _ us hl=>match us,hl with | [_],_=>rfl
 obtain ⟨_,a27,F27⟩:=df d27;have b27:=F27.binds (ps:=["_law_table_here", "_law_rooms_here"]) λ_ _ _ _ _ _ us hl=>match us,hl with | [_,_],_=>rfl
 obtain ⟨_,a28,F28⟩:=df d28;have b28:=F28.binds (ps:=["_law_table_here", "_law_rooms_here"]) λ_ _ _ _ _ _ us hl=>match us,hl with | [_,_],_=>rfl
 obtain ⟨_,a29,F29⟩:=df d29;have b29:=F29.binds (ps:=["_law_table_here", "_law_word"]) λ_ _ _ _ _ _ us hl=>match us,hl with | [_,_],_=>rfl
 obtain ⟨_,a30,F30⟩:=df d30;have b30:=F30.binds (ps:=["_law_table_here", "_law_word"]) λ_ _ _ _ _ _ us hl=>match us,hl with | [_,_],_=>rfl
 obtain ⟨_,a31,F31⟩:=df d31;have b31:=F31.binds (ps:=["_law_table_here", "_law_u", "_law_z"]) λ_ _ _ _ _ _ us hl=>match us,hl with | [_,_,_],_=>rfl
 obtain ⟨_,a32,F32⟩:=df d32;have b32:=F32.binds (ps:=["_law_left", "_law_tongue_here", "_law_word", "_law_which"]) λ_ _ _ _ _ _ us hl=>match us,hl with | [_,_,_,_],_=>rfl
 obtain ⟨_,a33,F33⟩:=df d33;have b33:=F33.binds (ps:=["_law_table_here", "_law_number", "_law_u", "_law_z"]) λ_ _ _ _ _ _ us hl=>match us,hl with | [_,_,_,_],_=>rfl
 obtain ⟨_,a34,F34⟩:=df d34;have b34:=F34.binds (ps:=["_law_left", "_law_table_here", "_law_number", "_law_u", "_law_z"]) λ_ _ _ _ _ _ us hl=>match us,hl with | [_,_,_,_,_],_=>rfl
 obtain ⟨_,a35,F35⟩:=df d35;have e:=hfa.symm.trans (aW X G a35);cases e
 obtain ⟨oc,od,kV35,dc35,pm35,an35,cd35,ct35,sl,rfl,lk,hc⟩:=id F35.ex;have b35:=F35.binds (ps:=["_law_script"]) λ_ _ _ _ _ _ us hl=>match us,hl with | [_],_=>rfl
 have M:Nm mg:=⟨bF X G z1,bF X G z2,bF X G z3,bF X G z4,bF X G z5,bF X G z6,bF X G z7,bF X G z8,bF X G z9,bF X G z10,bF X G z11,bF X G z12,bF X G z13,bF X G z14,bF X G z15,bF X G z16⟩;refine ⟨PySem.W.fnOf "law" "law" (a6j (top 41)) (a1f (top 41)) (dq (top 41)) .none kV35 dc35 pm35 an35 cd35 ct35,λs v=>.of_eq rfl,λbase _ _=>?_⟩
 have D_0:Dn l.prog w K mg base 1 "is_text" ["tongue", "thing"] (qw K 2 (STP.p7)) _ _:=⟨nu F1 b2k (m_0 M),aW X G a1,F1.kp,b1⟩;have D_2:Dn l.prog w K mg base 1 "rooms_along" ["table", "room", "word"] (qw K 3 (STP.ik)) _ _:=⟨nu F3 b2m (m_2 ),aW X G a3,F3.kp,b3⟩;have D_1:Dn l.prog w K mg base 2 "room_from" ["table", "room", "word"] (qw K 3 (STP.mq)) _ _:=⟨nu F2 b2l (m_1 D_2 (by decide)),aW X G a2,F2.kp,b2⟩
 have D_3:Dn l.prog w K mg base 1 "words_to" ["table", "start", "passed"] (qw K 3 (STP.qz)) _ _:=⟨nu F4 b2n (m_3 M),aW X G a4,F4.kp,b4⟩;have D_5:Dn l.prog w K mg base 1 "hope_word" ["table", "start"] (qw K 2 (RCH.iz)) _ _:=⟨nu F6 b2p (m_5 M),aW X G a6,F6.kp,b6⟩;have D_4:Dn l.prog w K mg base 2 "hope_words" ["table"] (qw K 1 (RCH.g8)) _ _:=⟨nu F5 b2o (m_4 M D_5 (by decide)),aW X G a5,F5.kp,b5⟩
 have D_6:Dn l.prog w K mg base 3 "hopes" ["table"] (qw K 1 (RCH.n8)) _ _:=⟨nu F7 b2q (m_6 M D_4 (by decide)),aW X G a7,F7.kp,b7⟩
 have D_7:Dn l.prog w K mg base 2 "ways_to" ["table"] (qw K 1 (STP.qb)) _ _:=⟨nu F8 b2r (m_7 M D_3 (by decide)),aW X G a8,F8.kp,b8⟩
 have D_9:Dn l.prog w K mg base 1 "reach_from" ["table", "hope", "starts"] (qw K 3 (RCH.jy)) _ _:=⟨nu F10 b2t (m_9 M),aW X G a10,F10.kp,b10⟩;have D_8:Dn l.prog w K mg base 4 "reach" ["table"] (qw K 1 (RCH.qi)) _ _:=⟨nu F9 b2s (m_8 M D_6 (by decide) D_9 (by decide)),aW X G a9,F9.kp,b9⟩
 have D_10:Dn l.prog w K mg base 1 "rooms_behind" ["table", "hope"] (qw K 2 (HGT.m8)) _ _:=⟨nu F11 axt (b43 M),aW X G a11,F11.kp,b11⟩;have D_12:Dn l.prog w K mg base 2 "height" ["table", "hope", "behind", "room"] (qw K 4 (HGT.zp)) _ _:=⟨nu F13 axv (b45 D_9 (by decide)),aW X G a13,F13.kp,b13⟩
 have D_11:Dn l.prog w K mg base 5 "heights" ["table"] (qw K 1 (HGT.ph)) _ _:=⟨nu F12 axu (b44 M D_12 (by decide) D_6 (by decide) D_8 (by decide) D_10 (by decide)),aW X G a12,F12.kp,b12⟩
 have D_15:Dn l.prog w K mg base 1 "is_next_down" ["kind", "high", "left"] (qw K 3 (STP.gk)) _ _:=⟨nu F16 axy (b48 ),aW X G a16,F16.kp,b16⟩;have D_14:Dn l.prog w K mg base 2 "way_down" ["table", "highs", "start"] (qw K 3 (STP.mz)) _ _:=⟨nu F15 axx (b47 M D_15 (by decide)),aW X G a15,F15.kp,b15⟩
 have D_13:Dn l.prog w K mg base 6 "needing" ["table"] (qw K 1 (STP.j9)) _ _:=⟨nu F14 axw (b46 M D_11 (by decide) D_8 (by decide) D_14 (by decide) D_7 (by decide)),aW X G a14,F14.kp,b14⟩
 have D_16:Dn l.prog w K mg base 3 "is_step" ["table", "u", "z"] (qw K 3 (STP.a02)) _ _:=⟨nu F17 axz (b49 M D_1 (by decide) D_2 (by decide)),aW X G a17,F17.kp,b17⟩
 have D_17:Dn l.prog w K mg base 4 "needing_holds" ["table", "number", "u", "z"] (qw K 4 (K41.jc)) _ _:=⟨nu F18 ay0 (b4a M D_16 (by decide) D_0 (by decide)),aW X G a18,F18.kp,b18⟩
 have D_18:Dn l.prog w K mg base 1 "_law_said" ["_law_found", "_law_wanted"] (qw K 2 (STP.oh)) _ _:=⟨nu F19 ay1 (b4b ),aW X G a19,F19.kp,b19⟩;have D_19:Dn l.prog w K mg base 1 "_law_source" ["_law_script"] (qw K 1 (SRC.fu)) _ _:=⟨nu F20 ay2 (b4c M),aW X G a20,F20.kp,b20⟩;have D_20:Dn l.prog w K mg base 1 "_law_draw" ["_law_left", "_law_many"] (qw K 2 (SRC.aj)) _ _:=⟨nu F21 ay3 (b4d M),aW X G a21,F21.kp,b21⟩;have D_21:Dn l.prog w K mg base 1 "_law_signs" [] (qw K 0 (SRC.du)) _ _:=⟨nu F22 ay4 (b4e ),aW X G a22,F22.kp,b22⟩
 have D_22:Dn l.prog w K mg base 2 "_law_tongue" ["_law_left"] (qw K 1 (SRC.j5)) _ _:=⟨nu F23 ay5 (b4f M D_20 (by decide) D_21 (by decide)),aW X G a23,F23.kp,b23⟩
 have D_23:Dn l.prog w K mg base 2 "_law_rooms" ["_law_left", "_law_tongue_here", "_law_many"] (qw K 3 (SRC.jg)) _ _:=⟨nu F24 ay6 (b4g M D_20 (by decide)),aW X G a24,F24.kp,b24⟩
 have D_24:Dn l.prog w K mg base 3 "_law_table" ["_law_left", "_law_most"] (qw K 2 (SRC.ie)) _ _:=⟨nu F25 ay7 (b4h M D_20 (by decide) D_23 (by decide) D_22 (by decide)),aW X G a25,F25.kp,b25⟩
 have D_25:Dn l.prog w K mg base 1 "_law_hope" ["_law_table_here"] (qw K 1 (RCH.iu)) _ _:=⟨nu F26 ay8 (b4i M),aW X G a26,F26.kp,b26⟩;have D_26:Dn l.prog w K mg base 1 "_law_next" ["_law_table_here", "_law_rooms_here"] (qw K 2 (RCH.iw)) _ _:=⟨nu F27 ay9 (b4j ),aW X G a27,F27.kp,b27⟩;have D_27:Dn l.prog w K mg base 2 "_law_reach" ["_law_table_here", "_law_rooms_here"] (qw K 2 (RCH.j4)) _ _:=⟨nu F28 aya (b4k M D_25 (by decide) D_26 (by decide)),aW X G a28,F28.kp,b28⟩
 have D_28:Dn l.prog w K mg base 1 "_law_room" ["_law_table_here", "_law_word"] (qw K 2 (STP.ug)) _ _:=⟨nu F29 ayb (b4l ),aW X G a29,F29.kp,b29⟩;have D_29:Dn l.prog w K mg base 1 "_law_is_word" ["_law_table_here", "_law_word"] (qw K 2 (STP.kh)) _ _:=⟨nu F30 ayc (b4m M),aW X G a30,F30.kp,b30⟩;have D_30:Dn l.prog w K mg base 2 "_law_is_step" ["_law_table_here", "_law_u", "_law_z"] (qw K 3 (STP.u6)) _ _:=⟨nu F31 ayd (b4n M D_29 (by decide) D_28 (by decide)),aW X G a31,F31.kp,b31⟩
 have D_31:Dn l.prog w K mg base 2 "_law_word_spoilt" ["_law_left", "_law_tongue_here", "_law_word", "_law_which"] (qw K 4 (STP.bz)) _ _:=⟨nu F32 aye (b4o M D_20 (by decide) D_21 (by decide)),aW X G a32,F32.kp,b32⟩
 have D_32:Dn l.prog w K mg base 3 "_law_holds" ["_law_table_here", "_law_number", "_law_u", "_law_z"] (qw K 4 (K41.dg)) _ _:=⟨nu F33 ayf (b4p M D_30 (by decide)),aW X G a33,F33.kp,b33⟩
 have D_33:Dn l.prog w K mg base 5 "_law_looked" ["_law_left", "_law_table_here", "_law_number", "_law_u", "_law_z"] (qw K 5 (K41.di)) _ _:=⟨nu F34 ayg (b4q M D_20 (by decide) D_32 (by decide) D_18 (by decide) D_31 (by decide) D_17 (by decide)),aW X G a34,F34.kp,b34⟩
 have D_34:Dn l.prog w K mg base 7 "law" ["_law_script"] (qw K 1 (K41.ap9)) _ _:=⟨nu F35 ayh (b4r M D_20 (by decide) D_32 (by decide) D_33 (by decide) D_27 (by decide) D_19 (by decide) D_24 (by decide) D_13 (by decide)),aW X G a35,F35.kp,b35⟩
 exact D_34.ok.imp azb
theorem walk{l:PySem.W.OpenLaw}{q:Program}{loose:List Str}{XP:(Str->Option Value)->Heap->Prop}{YP:World->Heap->Prop}{d:DefRec}{K:Params->PySem.W.Frag}(hn:l.most=some 63)(hdf:d.params.defaults=[])
  (hY:∀ (w:World) (h:Heap),YP w h->(K w.params).In h)
  (F:∀ (w:World) (mg:Str->Option Value) (fa:Addr) (h:Heap),(K w.params).In h->h.Ns mainGlobals mg->mg d.name=some (.ref fa)->
   ∃ fd:FuncData,(∀ (s:Shared) (u:Value),BindsTo s fd ⟨[u],[]⟩ [("_law_script",u)])/\∀ base:Heap,(K w.params).In base->base.Ns mainGlobals mg->FnOk l.prog w (K w.params) mg base CX0 7 fa fd ["_law_script"] (apa (K w.params))) :
  PySem.W.WalkO q loose XP YP l.row.toRowW d [] (λf vs=>PySem.call f vs) :=
 L2.ard (n:=63) (k:=7) (x := "_law_script") (CX:=λ_=>CX0) (sp:=λw=>apa (K w.params)) hn (by decide) hdf ⟨rfl,by decide,by decide,rfl⟩ hY F (λ_ _ a ns hl hO hS=>⟨a,ns,rfl,azc hO hS,hl,λ_=>rfl⟩) λ_ _ _ _ _ z=>z
end K41
open PySem PySem.W PyProof.Rows
theorem K41.said:PySem.Challenge.rw_nearreach_k41_steps_as_long_as_the_reach.wellSaid=true:=by kernel_rfl
noncomputable def K41.hq:Program:=view PySem.Challenge.pw_nearreach_k41_steps_as_long_as_the_reach [PySem.Challenge.pw_nearreach_k41_steps_as_long_as_the_reach.main.body.length - 1]
noncomputable def K41.hl:List Str:=PySem.Challenge.pw_nearreach_k41_steps_as_long_as_the_reach.boundNames
local macro_rules | `(tactic| o_head $H) => `(tactic| refine PySem.W.holds_open (q:=K41.hq) (loose:=K41.hl) (Xt:=fun _=>true) (XP:=fun _ _=>True) (Yf:=Hook.obs $H) (Ya:=Hook.val $H) (YP:=Hook.says $H) (N:=20000) ?hl (Hook.of $H) (Hook.keeps $H) (fun _ _=>trivial) (fun _ _ _ _ _=>trivial) (by rfl) (by rfl) (by rfl) (fun _ _=>recFacts_nil rfl) (by rfl) (by assumption) (by decide +kernel) ⟨rfl,rfl,rfl,rfl,rfl,by decide +kernel⟩ ?hw ?hc)
set_option maxRecDepth 100000 in
set_option maxHeartbeats 0 in
theorem PySem.Challenge.cw_nearreach_k41_steps_as_long_as_the_reach_holds : PySem.Challenge.rw_nearreach_k41_steps_as_long_as_the_reach.Holds := by
 w_on;refine holds_law K41.said fun said=>?_;k_head
 (case hw=>w_witness2)
 (case hl=>intro w;kernel_rfl)
 k_fill
 refine K41.walk (l:=PySem.Challenge.rw_nearreach_k41_steps_as_long_as_the_reach) rfl rfl (fun w h Y=>PySem.W.kIn_of Y) ?F
 case F =>
  intro w mg fa h KX G hmg
  refine' K41.azd KX G hmg ?_ ?_ ?_ ?_ ?_ ?_ ?_ ?_ ?_ ?_ ?_ ?_ ?_ ?_ ?_ ?_ ?_ ?_ ?_ ?_ ?_ ?_ ?_ ?_ ?_ ?_ ?_ ?_ ?_ ?_ ?_ ?_ ?_ ?_ ?_ ?_ ?_ ?_ ?_ ?_ ?_ ?_ ?_ ?_ ?_ ?_ ?_ ?_ ?_ ?_ ?_
  all_goals first | k_is | exact ⟨_,_,_,_,_,_,_,_,_,by k_is,by k_is,by k_is,by k_is⟩ | skip
