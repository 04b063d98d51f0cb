import PyProof.Rows.All
import Wide.All
import OpenK.AllK
import Wide.FinOn
import Lean
import PyProof.EqAt
import PyProof.EqKinds
import PyProof.TupleCall
import PyProof.ListStr
import PyProof.TupleOfStr
import PyProof.ConsumeWalk
import PyProof.SliceStr2
import PyProof.CompUse
import PyProof.Rows.SetFrom
import PyProof.SetRoads
import PyProof.StrLawsIn
import PyProof.Rows.StrIndexOr
import PyProof.Rows.StrJoin2
import PyProof.Rows.SumAny
import PyProof.WalkInts
import PyProof.SeqI3
import PyProof.Draws
import PyProof.ZipIter
import PyProof.EnumMake
import Wide.Txt2
import PyProof.Rows.SortWalk
import PyProof.ListRange
import PyProof.Rows.Range3
import KE.KStateDown
import PyProof.ReprRoads
import PyProof.CallFns
import PyProof.WalksMore
import KE.KTryDeep
import PyProof.ExcBaseAll.ValueError
import KE.KTryMore
import KE.KIsNot
import PyProof.ExcAttrAll.ValueError
import PyProof.NsDelKeeps
import PySem.SetOps
import PyProof.SetScanFacts
import PyProof.Walks
import PyProof.CollectWalk
import PyProof.SumWalk
import PyProof.SeqWrite
import KE.KRevIter
import PyProof.CollectIter
import PyProof.WalksS
import PySem.Challenge.RW_nearreach_k17_kinds_by_trying
set_option Elab.async false
set_option linter.all false
set_option maxRecDepth 100000
def ad:=@List.getElem?_eq_getElem
def ae:=@PySem.wpAny_bind
def af:=@congrArg
def ag:=@Eq.trans
def ah:=@List.getElem?_eq_some_iff
def ai:=@PySem.Heap.get?_push_of_some
def am:=@List.length_map
def ap:=@List.length_append
def ar:=@Nat.le_refl
def av:=@List.mem_singleton
def aw:=@PySem.wpAny_pure
def ax:=@List.length_singleton
def ay:=@List.size_toArray
def aA:=@if_pos
def aB:=@List.getElem?_append_right
def aC:=@List.mem_cons_of_mem
def aD:=@List.mem_cons
def aE:=@PySem.Heap.lt_size
def aF:=@List.mem_cons_self
def aG:=@List.length_range
def aH:=@Nat.lt_of_lt_of_le
def aI:=@List.getElem?_append_left
def aJ:=@Array.length_toList
def aK:=@PySem.Heap.get?_push_size
def aL:=@if_neg
def aM:=@List.mem_append_right
def aN:=@List.not_mem_nil
def aO:=@Option.map_eq_some_iff
def aP:=@Bool.false_ne_true
def aQ:=@List.mem_append
def aR:=@Nat.ne_of_lt
def aS:=@List.length_cons
def aT:=@List.mem_of_getElem?
def aU:=@PySem.W.mg_of
def aV:=@List.length_take
def aW:=@List.getElem?_map
def aX:=@List.getElem_mem
def aY:=@decide_eq_false
def aZ:=@List.map_cons
def ba:=@PySem.wpAny_mono
def bb:=@List.mem_range
def bg:=@List.map_append
def bi:=@PySem.wpAny_setState_of
def bq:=@List.length_drop
def br:=@List.all_eq_true
def bv:=@Option.some.inj
def bA:=@List.nodup_append
def bB:=@PySem.W.mg_none_of
def bC:=@List.getElem?_set_self
def bD:=@List.mem_map
def bE:=@Nat.zero_le
def bF:=@PySem.PassesOwn.never
def bG:=@List.take_of_length_le
def bH:=@Nat.lt_irrefl
def bI:=@List.getElem?_of_mem
def bJ:=@PyProof.Rows.slot_tuple_getitem
def bK:=@List.flatten_cons
def bL:=@Nat.le_trans
def bM:=@PySem.Heap.SameBut.update
def bN:=@Array.getElem?_eq_getElem
def bO:=@List.drop_eq_nil_of_le
def bP:=@PySem.wpAny_holding
def bQ:=@PySem.W.kia_one
def bR:=@List.append_nil
def bS:=@PySem.mem_of_lookup
def bT:=@List.length_replicate
def bU:=@PySem.wpAny_call_entry
def bV:=@Bool.and_eq_true
def bW:=@List.filter_cons_of_pos
def bX:=@Nat.mul_le_mul_right
def bY:=@Bool.false_eq_true
def bZ:=@List.pairwise_iff_getElem
def c6:=@List.length_nil
def c8:=@Classical.byContradiction
def c9:=@PySem.F.slot_list_append
def cb:=@List.filterMap_cons
def ce:=@List.replicate_succ
def cf:=@PySem.wpAny_newObj_type
def ci:=@PySem.wpAny_callSpecial?_slot
def cm:=@PySem.F.slot_int_rmul
def cn:=@or_false
def cr:=@List.mem_append_left
def cv:=@PySem.call_meets
def cA:=@PySem.Heap.get?_update_other
def cB:=@beq_eq_false_iff_ne
def cC:=@Int.toNat_natCast
def cD:=@PySem.wpAny_standAt
def cE:=@PySem.wpAny_binaryOp_repeat_ref
def cF:=@decide_eq_true
def cG:=@List.drop_eq_getElem_cons
def cH:=@PySem.Heap.get?_update_self
def cI:=@List.nil_append
def cJ:=@List.map_map
def cK:=@List.getElem?_set_ne
def cL:=@List.map_nil
def cM:=@Nat.le_of_lt_succ
def cN:=@PyProof.Rows.callWith_type1
def cO:=@List.nodup_cons
def cP:=@List.foldl_cons
def cQ:=@List.range_succ_eq_map
def cR:=@Array.toList_filterMap
def cT:=@PySem.F.slot_tuple_iterator_next
def cU:=@List.getD_eq_getElem?_getD
def cV:=@Int.emod_lt_of_pos
def cW:=@PySem.Around.under_plainId
def cX:=@Ne.symm
def cY:=@PySem.wpAny_passesOwn
def cZ:=@List.length_set
def da:=@List.append_assoc
def de:=@not_true_eq_false
def dk:=@PySem.F.type_list_append
def dl:=@List.getElem?_replicate
def dn:=@List.filter_cons_of_neg
def dA:=@PySem.typeIs_int
def dB:=@PySem.Heap.size_push
def dC:=@if_true
def dD:=@PySem.wpAny_Call_Name_kw
def dE:=@PySem.sizeLine_eq
def dF:=@Nat.succ_mul
def dG:=@Nat.succ_pos
def dH:=@PySem.wpAny_of_eq
def dI:=@PySem.codeAny_builtin
def dJ:=@PySem.F.called_set
def dL:=@Int.emod_nonneg
def dM:=@PySem.F.args_int_rmul_2
def dN:=@decide_eq_true_eq
def dO:=@PySem.wpAny_storeSet_of
def dP:=@PySem.fits_of_scanBound
def dQ:=@List.mem_of_mem_take
def dR:=@List.mem_iff_getElem
def dS:=@List.nodup_nil
def dU:=@Array.size_map
def dW:=@if_false
def dX:=@PySem.F.slot_int_index
def dY:=@PySem.F.entry_int_rmul
def dZ:=@PySem.F.slot_tuple_mul
def e8:=@beq_self_eq_true
def e9:=@PySem.wpAny_askSetting
def ee:=@List.map_congr_left
def eh:=@PySem.wpAny_comprehension_free
def ei:=@List.eq_of_mem_replicate
def eA:=@List.mem_filter
def eB:=@List.filterMap_map
def eC:=@List.all_cons
def eD:=@PySem.F.fills_int_mul
def eE:=@PySem.AutoListH.list___mul___list_int_3
def eF:=@List.getElem?_take
def eG:=@List.length_eq_zero_iff
def eH:=@PyProof.Rows.F.plain_set_update_loop
def eI:=@Int.eq_ofNat_of_zero_le
def eJ:=@PySem.wpAny_field
def eK:=@PySem.Heap.SameBut.refl
def eL:=@PySem.wpAny_rule
def eM:=@Option.some.injEq
def eN:=@Nat.mod_lt
def eO:=@Bool.and_false
def eP:=@PySem.codeAny_mono
def eQ:=@PySem.wpAny_typeOf
def eR:=@Nat.mul_comm
def eS:=@Nat.zero_add
def eT:=@Array.mem_iff_getElem
def eU:=@List.getElem?_eq_none
def eV:=@PySem.F.slot_str_join
def eW:=@PySem.F.type_str_join
def eX:=@List.length_filter_le
def eY:=@Nat.lt_succ_self
def eZ:=@PySem.F.args_list_append_2
def fg:=@PySem.wpAny_newFunctionEnv
def fh:=@Array.getElem_toList
def fk:=@Nat.pow_le_pow_right
def fq:=@List.Pairwise.filter
def fv:=@PySem.F.args_tuple_iterator_next_1
def fz:=@PySem.wpAny_execs_nil
def fA:=@PySem.F.entry_list_append
def fB:=@Nat.min_eq_left
def fD:=@PySem.F.entry_tuple_iterator_next
def fE:=@Nat.not_lt_zero
def fF:=@PySem.codeAny_of_tree
def fG:=@List.getElem?_range
def fH:=@Int.fdiv_eq_ediv_of_nonneg
def fI:=@Array.getElem?_eq_some_iff
def fJ:=@Nat.le_of_lt
def fK:=@PySem.wpAny_pyIter_tuple
def fL:=@List.mem_filterMap
def fM:=@Nat.lt_or_gt_of_ne
def fN:=@PySem.F.args_tuple_mul_2
def fO:=@PySem.W.sortI_perm
def fP:=@Nat.sub_self
def fQ:=@List.getElem_range
def fR:=@List.map_replicate
def fS:=@List.drop_zero
def fT:=@List.getElem?_zip_eq_some
def fU:=@List.take_zero
def fV:=@Option.isNone_iff_eq_none
def fW:=@PySem.isSubtype_type
def fX:=@List.mem_or_eq_of_mem_set
def fY:=@PySem.wpAny_pyIter_list
def fZ:=@PySem.W.kitx_dict
def gc:=@Option.isSome_iff_exists
def gu:=@List.take_sublist
def gy:=@PySem.F.args_tuple_add_2
def gA:=@PySem.list_append
def gB:=@PySem.StrLaws.found_one
def gC:=@PySem.F.entry_tuple_mul
def gD:=@Array.getElem_mem
def gE:=@List.ext_getElem?
def gF:=@PySem.F.entry_tuple_add
def gG:=@List.any_cons
def gH:=@List.getElem?_cons_zero
def gI:=@PySem.plainId_quiet
def gJ:=@PySem.noFill_tuple_add
def gK:=@Option.getD_none
def gL:=@PySem.IsL.update
def gM:=@PySem.Around.in1_units
def gN:=@List.map_snd_zip
def gO:=@Option.bind_some
def gP:=@Nat.mod_eq_of_lt
def gQ:=@List.any_eq_true
def gS:=@PySem.wpAny_isInstance
def gT:=@PySem.F.slot_list_iadd
def gU:=@List.mem_flatten
def gV:=@List.cons_append
def gW:=@Nat.ne_of_gt
def gX:=@List.of_mem_zip
def gY:=@PySem.seqIndex_neg
def gZ:=@PySem.codeAny_loop
def hE:=@PySem.wpAny_updateSeq
def hG:=@Nat.pow_succ
def hJ:=@PySem.seqIndex_of
def hU:=@PySem.wpAny_noted
def hV:=@Nat.le_succ
def hW:=@Nat.mod_mul
def hX:=@Bool.and_self
def hZ:=@Nat.add_assoc
def i3:=@beq_iff_eq
namespace L2
open PySem PySem.Spec PyProof.Rows
abbrev Key:=Sum Int Str
def apy:Key->Value->Bool
 | .inl k,v=>Value.isInt k v
 | .inr x,v=>Value.isStrOf x v
def axb(w:World):Key->Int
 | .inl k=>hashInt k
 | .inr x=>hashStr w x
theorem nq:∀ {k:Key} {v:Value},apy k v=true->(∃ i t,k=Sum.inl i/\v=Value.int i t)\/(∃ x t,k=Sum.inr x/\v=Value.str x t)
 | .inl i,v,h=>by
  obtain ⟨t,e⟩:=Value.isInt_shape (k:=i) (v:=v) h;exact .inl ⟨i,t,rfl,e⟩
 | .inr x,v,h=>by
  obtain ⟨t,e⟩:=Value.isStrOf_shape (x:=x) (v:=v) h;exact .inr ⟨x,t,rfl,e⟩
theorem apz(a b:Int):decide ((Sum.inl a:Key)=Sum.inl b)=(a == b):=by
 by_cases e:a=b
 ·subst e;simp
 ·have h:¬ (Sum.inl a:Key)=Sum.inl b:=λq=>e (Sum.inl.inj q);rw [aY h];exact (cB.mpr e).symm
theorem aq0(a b:Str):decide ((Sum.inr a:Key)=Sum.inr b)=decide (a=b):=by
 by_cases e:a=b
 ·subst e;simp
 ·have h:¬ (Sum.inr a:Key)=Sum.inr b:=λq=>e (Sum.inr.inj q);rw [aY h,aY e]
theorem aq1(a:Int)(b:Str):decide ((Sum.inl a:Key)=Sum.inr b)=false:=aY (λq=>nomatch q)
theorem aq2(a:Str)(b:Int):decide ((Sum.inr a:Key)=Sum.inl b)=false:=aY (λq=>nomatch q)
def a4w(prog:Program)(w:World):PySem.KeyKind prog w Key where
 is:=apy
 hash:=axb w
 inj:=λv a b ha hb=>by
  rcases nq ha with ⟨i,t,rfl,rfl⟩ | ⟨x,t,rfl,rfl⟩
  ·rcases nq hb with ⟨j,u,rfl,e⟩ | ⟨y,u,rfl,e⟩
   ·injection e with e1 _;rw [e1]
   ·exact nomatch e
  ·rcases nq hb with ⟨j,u,rfl,e⟩ | ⟨y,u,rfl,e⟩
   ·exact nomatch e
   ·injection e with e1 _;rw [e1]
 byValue:=λk v h=>by
  rcases nq h with ⟨i,t,rfl,rfl⟩ | ⟨x,t,rfl,rfl⟩<;>rfl
 pyHash:=λhv h=>by
  rcases nq hv with ⟨i,t,rfl,rfl⟩ | ⟨x,t,rfl,rfl⟩
  ·exact wpAny_pyHash_int h
  ·exact wpAny_pyHash_str h
 eqBool:=λhu hv h=>by
  rcases nq hu with ⟨i,t,rfl,rfl⟩ | ⟨x,t,rfl,rfl⟩
  ·rcases nq hv with ⟨j,u,rfl,rfl⟩ | ⟨y,u,rfl,rfl⟩
   ·rw [apz] at h;exact wpAny_eqBool_int h
   ·rw [aq1] at h;exact SeqAt.EqAt.int_str i t y u _ _ _ _ h
  ·rcases nq hv with ⟨j,u,rfl,rfl⟩ | ⟨y,u,rfl,rfl⟩
   ·rw [aq2] at h;exact SeqAt.EqAt.str_int x t j u _ _ _ _ h
   ·rw [aq0] at h;exact wpAny_eqBool_str h
 «strs»:=λk x t v h=>by
  rcases nq h with ⟨i,u,rfl,e⟩ | ⟨y,u,rfl,e⟩
  ·exact nomatch e
  ·injection e with e1 _
   subst e1
   cases v<;>rfl
inductive V where
 | non | bl (b:Bool) | int (i:Int) | str (x:Str) | byt (b:Array UInt8) | flt (b:UInt64) | ref (a:Addr) | ty (n:String)
 deriving DecidableEq
def RelV:V->Value->Prop
 | .non,u=>u=Value.none
 | .bl b,u=>u=Value.bool b
 | .int i,u=>∃ t,u=Value.int i t
 | .str x,u=>∃ t,u=Value.str x t
 | .byt b,u=>∃ t,u=Value.bytes b t
 | .flt b,u=>∃ t,u=Value.float b t
 | .ref a,u=>u=Value.ref a
 | .ty n,u=>u=Value.type n
abbrev Vals:List V->List Value->Prop:=Paired RelV
theorem Vals.length(r:Vals xs us):xs.length=us.length:=Paired.length r
theorem Vals.get:∀ {xs:List V} {us:List Value} {i:Nat} {x:V},Vals xs us->xs[i]? = some x->∃ u,us[i]? = some u/\RelV x u
 | _,_,_,_, .nil,e=>by simp at e
 | _,_,0,_, .cons r _,e=>by simp at e;subst e;exact ⟨_,rfl,r⟩
 | _,_,i+1,x, .cons _ t,e=>by
  obtain ⟨u,h1,h2⟩:=Vals.get (i:=i) (x:=x) t (by simpa using e)
  exact ⟨u,by simpa using h1,h2⟩
theorem Vals.set(r:RelV x u):∀ {xs:List V} {us:List Value} (i:Nat),Vals xs us->Vals (xs.set i x) (us.set i u)
 | _,_,_, .nil=>.nil
 | _,_,0, .cons _ t=>.cons r t
 | _,_,i+1, .cons q t=>.cons q (Vals.set r i t)
theorem Vals.append:∀ {xs ys:List V} {us ws:List Value},Vals xs us->Vals ys ws->Vals (xs++ys) (us++ws)
 | _,_,_,_, .nil,s=>s
 | _,_,_,_, .cons r t,s=>.cons r (Vals.append t s)
theorem Vals.take:∀ {xs:List V} {us:List Value} (n:Nat),Vals xs us->Vals (xs.take n) (us.take n)
 | _,_,0,_=>.nil
 | _,_,_+1, .nil=>.nil
 | _,_,n+1, .cons r t=>.cons r (Vals.take n t)
theorem Vals.drop:∀ {xs:List V} {us:List Value} (n:Nat),Vals xs us->Vals (xs.drop n) (us.drop n)
 | _,_,0,r=>r
 | _,_,_+1, .nil=>.nil
 | _,_,n+1, .cons _ t=>Vals.drop n t
def RelO:Option V->Option Value->Prop
 | some v,some u=>RelV v u
 | none,none=>True
 | _,_=>False
def KV{κ:Type}:List (κ × V)->List (κ × Value)->Prop:=Paired λ(p:κ × V) (q:κ × Value)=>p.1=q.1/\RelV p.2 q.2
def kV:Key->V
 | .inl i=>.int i
 | .inr x=>.str x
inductive HO where
 | lst (xs:List V)
 | tup (xs:List V)
 | dK (kvs:List (Key × V)) | dT (kvs:List (List Key × V))
 | set (S:Int->Bool) (n:Nat)
 | ins (C dx:Addr) (fs:List (Str × V))
 | own (x:Addr)
 | xd (fs:List (Str × V))
 | met (f x:Addr)
 | rng (lo hi:Int)
 | frz (o:Obj) (u:HO)
 | tbl (ps:Array Value)
 | ext (φ:Heap->Prop)
abbrev Hp:=Addr->Option HO
def upd(H:Hp)(a:Addr)(o:HO):Hp:=λb=>if b=a then some o else H b
theorem mz:upd H a o a=some o:=by unfold upd;rw [aA rfl]
theorem jo(h:b≠a):upd H a o b=H b:=by unfold upd;rw [aL h]
theorem j5{H:Hp}{a b:Addr}{o:HO}(h:H a=some o)(h':H b=none):a≠b:=by
 intro e;subst e;rw [h] at h';cases h'
section
variable(P:Program)(w:World)
def ObjOk(H:Hp)(h:Heap)(a:Addr):HO->Prop
 | .lst xs=>xs.length<=sizeLine/\∃ (its:List Value) (n:Nat),Vals xs its/\h.get? a=some { cls:=.type "list",data:=.seq its.toArray n }
 | .tup xs=>xs.length<=sizeLine/\∃ its:List Value,Vals xs its/\IsTup h a its.toArray
 | .dK kvs=>kvs.length<=sizeLine/\(a == sysModules)=false/\∃ vs,KV kvs vs/\h.DictOf (a4w P w) a vs
 | .dT kvs=>kvs.length<=sizeLine/\(a == sysModules)=false/\∃ xs:List (List Key × Addr × Value),
   Paired (λ(p:List Key × V) (q:List Key × Addr × Value)=>p.1=q.1/\H q.2.1=some (.tup (p.1.map kV))/\RelV p.2 q.2.2) kvs xs /\
   ∃ o es ep,h.get? a=some o/\o.ExactDict/\o.data = .dict es ep/\es.toList=xs.map (entryOfKey (tupleKind (a4w P w)))/\(xs.map (·.1)).Nodup
 | .set S n=>h.SetOf (intKind P w) a S n
 | .ins C dx fs=>H dx=some (.own a)/\fs.length<=1000/\dx≠a/\h.get? a=some (PySem.W.instObj C dx) /\
   ∃ mA,h.Ns1 dx mA/\(∀ f,RelO (fs.lookup f) (mA f))/\PySem.Within mA (fs.map (·.1))
 | .own _=>∃ o,h.get? a=some o
 | .xd fs=>∃ mA,h.Ns1 a mA/\∀ f,RelO (fs.lookup f) (mA f)
 | .rng lo hi=>∃ t u v,h.get? a=some { cls:=.type "range",data:=.fields #[.int lo t, .int hi u, .int 1 v] }
 | .frz o u=>h.get? a=some o/\ObjOk H h a u
 | .tbl ps=>h.get? a=some { cls:=.none,data:=.fields ps }
 | .met f x=>h.get? a=some (PySem.W.methodObj (.ref f) (.ref x))
 | .ext φ=>φ h/\(∃ o,h.get? a=some o)/\∀ h1 h2:Heap,φ h1->(∀ o,h1.get? a=some o->h2.get? a=some o)->φ h2
def HOk(H:Hp)(h:Heap):Prop:=∀ a o,H a=some o->ObjOk P w H h a o
end
section
variable{P:Program}{w:World}{H H':Hp}{h h':Heap}{a:Addr}{o:HO}
theorem ObjOk.lt(x:ObjOk P w H h a o):a<h.objs.size:=by
 cases o with
 | lst xs=>obtain ⟨_,_,_,_,e⟩:=x;exact aE e
 | tup xs=>obtain ⟨_,_,_,p⟩:=x;exact p.lt
 | dK kvs=>obtain ⟨_,_,_,_,o,_,_,e,_⟩:=x;exact aE e
 | dT kvs=>obtain ⟨_,_,_,_,o,_,_,e,_⟩:=x;exact aE e
 | set S n=>obtain ⟨o,_,_,_,e,_⟩:=x;exact aE e
 | ins C dx fs=>obtain ⟨_,_,_,e,_⟩:=x;exact aE e
 | own y=>obtain ⟨_,e⟩:=x;exact aE e
 | xd fs=>obtain ⟨_,⟨_,_,_,e,_⟩,_⟩:=x;exact aE e
 | rng lo hi=>obtain ⟨_,_,_,e⟩:=x;exact aE e
 | frz ob u=>obtain ⟨e,_⟩:=x;exact aE e
 | tbl ps=>exact aE (show h.get? a=some _ from x)
 | met f y=>exact aE (show h.get? a=some _ from x)
 | ext φ=>obtain ⟨_,⟨_,e⟩,_⟩:=x;exact aE e
theorem Paired.mapP{α β:Type}{F G:α->β->Prop}:∀ {l₁:List α} {l₂:List β},Paired F l₁ l₂->(∀ a b,F a b->G a b)->Paired G l₁ l₂
 | _,_, .nil,_=>.nil
 | _,_, .cons r t,f=>.cons (f _ _ r) (Paired.mapP t f)
theorem ObjOk.stay(x:ObjOk P w H h a o)(k:∀ b u,(b=a\/H b=some (.own a))->h.get? b=some u->h'.get? b=some u)
  (ho:∀ b,H b=some (.own a)->H' b=some (.own a)) (ht:∀ b xs,H b=some (.tup xs)->H' b=some (.tup xs)):ObjOk P w H' h' a o:=by
 induction o with
 | lst xs=>obtain ⟨z,its,n,r,e⟩:=x;exact ⟨z,its,n,r,k _ _ (.inl rfl) e⟩
 | tup xs=>obtain ⟨z,its,r,ob,e,c⟩:=x;exact ⟨z,its,r,ob,k _ _ (.inl rfl) e,c⟩
 | dK kvs=>obtain ⟨z,y,vs,r,ob,es,ep,e,c⟩:=x;exact ⟨z,y,vs,r,ob,es,ep,k _ _ (.inl rfl) e,c⟩
 | dT kvs =>
  obtain ⟨z,y,xs,r,ob,es,ep,e,c⟩:=x;exact ⟨z,y,xs,Paired.mapP r λp q z=>⟨z.1,ht _ _ z.2.1,z.2.2⟩,ob,es,ep,k _ _ (.inl rfl) e,c⟩
 | set S n=>obtain ⟨ob,es,ep,t,e,c⟩:=x;exact ⟨ob,es,ep,t,k _ _ (.inl rfl) e,c⟩
 | ins C dx fs =>
  obtain ⟨d,z,ne,e,mA,⟨od,es,ep,e2,c⟩,r⟩:=x;exact ⟨ho _ d,z,ne,k _ _ (.inl rfl) e,mA,⟨od,es,ep,k _ _ (.inr d) e2,c⟩,r⟩
 | own y=>obtain ⟨ob,e⟩:=x;exact ⟨ob,k _ _ (.inl rfl) e⟩
 | xd fs=>obtain ⟨mA,⟨od,es,ep,e,c⟩,r⟩:=x;exact ⟨mA,⟨od,es,ep,k _ _ (.inl rfl) e,c⟩,r⟩
 | rng lo hi=>obtain ⟨t,u,v,e⟩:=x;exact ⟨t,u,v,k _ _ (.inl rfl) e⟩
 | frz ob u ih=>obtain ⟨e,q⟩:=x;exact ⟨k _ _ (.inl rfl) e,ih q⟩
 | tbl ps =>
  have e:h.get? a=some { cls:=.none,data:=.fields ps }:=x;show h'.get? a=some { cls:=.none,data:=.fields ps };exact k a _ (.inl rfl) e
 | met f y =>
  have e:h.get? a=some (PySem.W.methodObj (.ref f) (.ref y)):=x;show h'.get? a=some (PySem.W.methodObj (.ref f) (.ref y));exact k a _ (.inl rfl) e
 | ext φ=>obtain ⟨p,⟨o,e⟩,st⟩:=x;exact ⟨st _ _ p λo q=>k _ _ (.inl rfl) q,⟨o,k _ _ (.inl rfl) e⟩,st⟩
theorem HOk.lt(x:HOk P w H h)(e:H a=some o):a<h.objs.size:=(x a o e).lt
theorem HOk.fresh(x:HOk P w H h)(e:h.objs.size<=a):H a=none:=by
 cases q:H a with
 | none=>rfl
 | some u=>exact absurd (aH (x.lt q) e) (bH _)
theorem HOk.kept(x:HOk P w H h)(k:∀ b u,h.get? b=some u->h'.get? b=some u):HOk P w H h':=λa o e =>
 (x a o e).stay (λb u _ q=>k b u q) (λ_ q=>q) λ_ _ q=>q
theorem HOk.laid(x:HOk P w H h)(k:∀ b u,h.get? b=some u->h'.get? b=some u)(hp:h.objs.size<=a)(new:ObjOk P w (upd H a o) h' a o):HOk P w (upd H a o) h':=λb u e=>by
 have hn:=x.fresh hp
 by_cases hb:b=a
 ·subst hb;rw [mz] at e;cases e;exact new
 ·rw [jo hb] at e;exact (x b u e).stay (λc v _ q=>k c v q) (λc q=>by rw [jo (j5 q hn)];exact q) λc xs q=>by rw [jo (j5 q hn)];exact q
end
def Rd(H:Hp)(a:Addr)(u:HO):Prop:=H a=some u\/∃ o,H a=some (.frz o u)
theorem Rd.of(h:H a=some u):Rd H a u:=.inl h
theorem Rd.ok(r:Rd H a u)(x:HOk P w H h):ObjOk P w H h a u:=by
 rcases r with r | ⟨o,r⟩
 ·exact x a u r
 ·obtain ⟨_,q⟩:=x a _ r;exact q
def Mut:Option HO->Prop
 | some (.lst _)=>True
 | some (.dK _)=>True
 | some (.dT _)=>True
 | some (.set _ _)=>True
 | some (.ins _ _ _)=>True
 | some (.ext _)=>True
 | _=>False
section
variable{P:Program}{w:World}{H:Hp}{h h':Heap}{x e:Addr}{o':HO}
theorem HOk.write(ok:HOk P w H h)(mu:Mut (H x))(he:e=x\/H e=some (.own x))(k:∀ b u,b≠e->h.get? b=some u->h'.get? b=some u)(heo:∃ u,h'.get? e=some u)
  (new:ObjOk P w (upd H x o') h' x o'):HOk P w (upd H x o') h':=λb u q=>by
 have nown:∀ c y,H c=some (.own y)->c≠x:=λc y r z=>by subst z;rw [r] at mu;exact mu
 have ntup:∀ c xs,H c=some (.tup xs)->c≠x:=λc xs r z=>by subst z;rw [r] at mu;exact mu
 by_cases hb:b=x
 ·subst hb;rw [mz] at q;cases q;exact new
 ·rw [jo hb] at q
  by_cases hbe:b=e
  ·have q':H b=some (.own x):=by
    rcases he with z | z
    ·exact absurd (hbe.trans z) hb
    ·rw [hbe];exact z
   rw [q] at q';cases q'
   obtain ⟨v,hv⟩:=heo;exact ⟨v,by rw [hbe];exact hv⟩
  ·refine (ok b u q).stay (λc v hc r=>k c v ?_ r) (λc r=>by rw [jo (nown c b r)];exact r) λc xs r=>by rw [jo (ntup c xs r)];exact r
   rcases hc with rfl | hc
   ·exact hbe
   ·rintro rfl
    rcases he with z | z
    ·exact nown c b hc z
    ·rw [hc] at z;cases z;exact hb rfl
end
structure Un (fs ex:List Addr) (H H':Hp) (h h':Heap):Prop where
 keep:∀ b o,h.get? b=some o->H b=none->b ∉ fs->b ∉ ex->h'.get? b=some o
 slot:∀ b o,h.get? b=some o->H b=none->b∈fs->b ∉ ex->∃ sl,h'.get? b=some { o with slots:=sl }
 free:∀ b o,h.get? b=some o->H b=none->b ∉ ex->H' b=none
 there:∀ b o,h.get? b=some o->b ∉ ex->∃ o',h'.get? b=some o'
 tups:∀ b xs,H b=some (.tup xs)->H' b=some (.tup xs)
 frzs:∀ b o u,H b=some (.frz o u)->H' b=some (.frz o u)
 tbls:∀ b ps,H b=some (.tbl ps)->∃ more,H' b=some (.tbl (ps++more))
section
variable{fs fs' ex ex':List Addr}{H H1 H2:Hp}{h h1 h2 h':Heap}{a x e:Addr}{o:HO}
theorem Un.any(u:Un fs ex H H1 h h1)(q:h.get? b=some ob)(n:H b=none)(hx:b ∉ ex):∃ sl,h1.get? b=some { ob with slots:=sl }:=by
 by_cases hb:b∈fs
 ·exact u.slot b ob q n hb hx
 ·exact ⟨ob.slots,u.keep b ob q n hb hx⟩
theorem Un.kept(k:∀ b u,h.get? b=some u->h'.get? b=some u):Un fs ex H H h h' :=
 ⟨λb ob q _ _ _=>k b ob q,λb ob q _ _ _=>⟨ob.slots,k b ob q⟩,λ_ _ _ n _=>n,λb ob q _=>⟨ob,k b ob q⟩,λ_ _ q=>q,λ_ _ _ q=>q,λ_ ps q=>⟨#[],by rw [q];simp⟩⟩
theorem Un.refl:Un fs ex H H h h:=Un.kept λ_ _ q=>q
theorem Un.laid(k:∀ b u,h.get? b=some u->h'.get? b=some u)(hp:h.objs.size<=a)(hn:H a=none):Un fs ex H (upd H a o) h h' where
 keep:=λb u q _ _ _=>k b u q
 slot:=λb u q _ _ _=>⟨u.slots,k b u q⟩
 free:=λb u q n _=>by rw [jo (aR (aH (aE q) hp))];exact n
 there:=λb u q _=>⟨u,k b u q⟩
 tups:=λb xs q=>by rw [jo (j5 q hn)];exact q
 frzs:=λb u xs q=>by rw [jo (j5 q hn)];exact q
 tbls:=λb ps q=>⟨#[],by rw [jo (j5 q hn),q];simp⟩
theorem Un.write(mu:Mut (H x))(he:e=x\/H e=some (.own x))(k:∀ b u,b≠e->h.get? b=some u->h'.get? b=some u)(heo:∃ u,h'.get? e=some u):Un fs ex H (upd H x o) h h':=by
 have hx:∀ b,H b=none->b≠x:=λb n z=>by subst z;rw [n] at mu;exact mu
 have hb:∀ b,H b=none->b≠e:=λb n z=>by
  subst z
  rcases he with r | r
  ·exact hx b n r
  ·rw [n] at r;cases r
 have hm:∀ b u,H b=some u->¬ Mut (some u)->b≠x:=λb u q nm z=>by subst z;rw [q] at mu;exact nm mu
 refine ⟨λb u q n _ _=>k b u (hb b n) q,λb u q n _ _=>⟨u.slots,k b u (hb b n) q⟩,λb u q n _=>by rw [jo (hx b n)];exact n,λb u q _=>?_,
  λb xs q=>by rw [jo (hm b _ q λz=>z)];exact q,λb u xs q=>by rw [jo (hm b _ q λz=>z)];exact q,λb ps q=>⟨#[],by rw [jo (hm b _ q λz=>z),q];simp⟩⟩
 by_cases hbe:b=e
 ·subst hbe;exact heo
 ·exact ⟨u,k b u hbe q⟩
end
def trk(h:Heap)(H:Hp):List Addr:=(List.range h.objs.size).filter λa=>(H a).isSome
def aiu(h:Heap)(H:Hp):Heap:=PySem.W.hideAll h (trk h H)
theorem aey(h:Heap)(H:Hp):(aiu h H).objs.size=h.objs.size:=PySem.W.hideAll_size _ _
theorem aiv{h:Heap}(e:h.get? b=some o)(n:H b=none):(aiu h H).get? b=some o :=
 PySem.W.hideAll_get _ e λhm=>by
  have q:(H b).isSome=true:=(eA.mp hm).2;rw [n] at q;simp at q
theorem amz(e:(aiu h H).get? b=some o):h.get? b=some o/\H b=none:=by
 have e':h.get? b=some o:=PySem.W.of_hideAll (trk h H) e;refine ⟨e',?_⟩
 cases q:H b with
 | none=>rfl
 | some x =>
  have hm:b∈trk h H:=eA.mpr ⟨bb.mpr (aE e'),by simp [q]⟩
  have z:(aiu h H).get? b=none:=PySem.W.hideAll_none (trk h H) hm;rw [z] at e;cases e
def an0(g h:Heap)(L:Addr):List (Addr × Obj):=(List.range h.objs.size).filterMap λa=>if a=L\/(g.get? a).isSome=true then none else (h.get? a).map λo=>(a,o)
def rest(g h:Heap)(L d:Addr):List (Addr × Obj):=(an0 g h L).filter λp=>decide (p.1≠d)
structure Mod (K:PySem.W.Frag) (mg:Str->Option Value) (base:Heap):Prop where
 kin:K.In base
 glob:base.Ns mainGlobals mg
 blt:∃ mb,base.Ns builtinsNs mb/\∀ x:Str,x ≠ "__name__"->mb x=bootBuiltins x
 nolimit:base.NoLimit
structure Cx where
 prog:Program
 w:World
 K:PySem.W.Frag
 mg:Str->Option Value
 base:Heap
 A:Around
 N:List Str
 s₀:Shared
 H₀:Hp
 env:Env
 outer:List Env
 stack:List Env
 ex:List Addr
 fn:Str->Bool
 calm:Bool
 pn:List (Addr × Obj)
 xe:Value->Shared->Prop
def frs(l:List Env):List Addr:=l.filterMap (·.frame)
abbrev Cx.fs(X:Cx):List Addr:=frs X.outer
def Vis(sc:Scope)(x:Str):Prop:=sc.names.lookup x=some .local\/sc.names.lookup x=some .cell\/sc.names.lookup x=some .free
def Loc(sc:Scope)(x:Str):Prop:=sc.names.lookup x=some .local\/sc.names.lookup x=some .cell
def Look(env:Env)(h:Heap)(m:Str->Option Value)(x:Str)(u:Value):Prop :=
 (env.kindOf x=some .local/\m x=some u)\/((env.kindOf x=some .cell\/env.kindOf x=some .free)/\∃ c,env.cells.lookup x=some c/\h.IsCell c (some u))
structure Cx.Ok (X:Cx):Prop where
 mod:Mod X.K X.mg X.base
 kind:X.env.scope.kind = .function
 glob:X.env.globals=mainGlobals
 blt:X.env.builtins=builtinsNs
 above:X.s₀.heap.objs.size<=X.env.locals
 inj:∀ x y c,X.env.cells.lookup x=some c->X.env.cells.lookup y=some c->x=y
 has:∀ x,(X.env.kindOf x=some .cell\/X.env.kindOf x=some .free)->∃ c,X.env.cells.lookup x=some c
 cab:∀ x c,X.fn x=true->X.env.cells.lookup x=some c->X.s₀.heap.objs.size<=c
 hd:X.calm=true->X.A.handled=none
 frames:X.A.frames=some X.stack
 stk:X.stack=X.outer\/(X.stack=X.env::X.outer/\X.env.frame=some X.env.locals)
 exf:∀ b∈X.ex,b≠X.env.locals/\∀ x c,X.env.cells.lookup x=some c->c≠b
 bs:∀ b o,X.base.get? b=some o->X.s₀.heap.get? b=some o/\X.H₀ b=none
 bsz:X.base.objs.size<=X.s₀.heap.objs.size
 noex:∀ b o,X.base.get? b=some o->b ∉ X.ex
 exfs:∀ b∈X.ex,b ∉ X.fs
 funs:X.s₀.heap.FunFrames X.base X.outer
 frf:∀ b∈X.fs,X.H₀ b=none
structure Inv (X:Cx) (pins:List (Addr × Obj)) (σ:List (Option V)) (H:Hp) (s:Shared):Prop where
 ok:X.Ok
 os:s.os=X.s₀.os
 bare:AllBare s.gens
 base:Un X.fs X.ex X.H₀ H X.s₀.heap s.heap
 loc:∃ m,s.heap.Ns X.env.locals m/\∀ (i:Nat) (x:Str) (v:V),X.N[i]? = some x->σ[i]? = some (some v)->Vis X.env.scope x->∃ u,RelV v u/\Look X.env s.heap m x u
 cell:∀ x c,X.env.cells.lookup x=some c->∃ v,s.heap.IsCell c v
 free:H X.env.locals=none
 freeC:∀ x c,X.env.cells.lookup x=some c->H c=none
 pin:∀ p∈X.pn++pins,s.heap.get? p.1=some p.2/\H p.1=none/\p.1≠X.env.locals/\p.1 ∉ X.fs/\∀ v,p.2.data≠.cell v
 hok:HOk X.prog X.w H s.heap
 len:σ.length=X.N.length
section
variable{X:Cx}{pins:List (Addr × Obj)}{σ:List (Option V)}{H H':Hp}{s:Shared}{h':Heap}
theorem Cx.Ok.nofr(ok:X.Ok)(e:X.base.get? b=some o):b ∉ X.fs:=λhb=>by
 have:=(ok.funs.mem hb).1
 rw [e] at this;cases this
theorem Inv.bs(I:Inv X pins σ H s):∀ b o,X.base.get? b=some o->s.heap.get? b=some o/\H b=none:=λb o e =>
 ⟨I.base.keep b o (I.ok.bs b o e).1 (I.ok.bs b o e).2 (I.ok.nofr e) (I.ok.noex b o e),I.base.free b o (I.ok.bs b o e).1 (I.ok.bs b o e).2 (I.ok.noex b o e)⟩
theorem Inv.bk(I:Inv X pins σ H s):∀ b o,X.base.get? b=some o->s.heap.get? b=some o:=λb o e=>(I.bs b o e).1
theorem Inv.mod(I:Inv X pins σ H s):Mod X.K X.mg X.base:=I.ok.mod
theorem Inv.kIn(I:Inv X pins σ H s):X.K.In s.heap:=I.ok.mod.kin.keeps I.bk
theorem Inv.fr(I:Inv X pins σ H s):∃ m,Fr X.base X.env.locals s.heap m :=
 let ⟨m,hn,_⟩:=I.loc
 ⟨m,hn,I.bk,bL I.ok.bsz I.ok.above⟩
theorem Inv.lt(I:Inv X pins σ H s):X.env.locals<s.heap.objs.size:=let ⟨_,hn,_⟩:=I.loc;hn.lt
theorem Inv.sz(I:Inv X pins σ H s):X.s₀.heap.objs.size<=s.heap.objs.size:=bL I.ok.above (fJ I.lt)
theorem Inv.nofs(I:Inv X pins σ H s)(h:s.heap.objs.size<=a):a ∉ X.fs:=λhb=>by
 obtain ⟨_,o,ho,_⟩:=I.ok.funs.mem hb;exact absurd (aH (aE ho) (bL I.sz h)) (bH _)
theorem Inv.cne(I:Inv X pins σ H s):∀ x c,X.env.cells.lookup x=some c->c≠X.env.locals:=λx c e z=>by
 obtain ⟨v,o,ho,hd⟩:=I.cell x c e;obtain ⟨m,⟨o',es,ep,ho',hd',_⟩,_⟩:=I.loc;rw [z,ho'] at ho;cases ho;rw [hd'] at hd;cases hd
theorem Inv.funs(I:Inv X pins σ H s):s.heap.FunFrames X.base X.outer:=by
 have all:∀ (l:List Env),(∀ b∈frs l,b∈X.fs)->X.s₀.heap.FunFrames X.base l->s.heap.FunFrames X.base l:=by
  intro l
  induction l with
  | nil=>intro _ _;trivial
  | cons env r ih =>
   intro hs hl
   obtain ⟨hk,⟨L,o,hf,hn,ho,hd⟩,hr⟩:=hl;have hL:L∈X.fs:=hs L (by unfold frs;rw [cb,hf];exact aF)
   obtain ⟨sl,e⟩:=I.base.slot L o ho (I.ok.frf L hL) hL λz=>I.ok.exfs L z hL;exact ⟨hk,⟨L,_,hf,hn,e,hd⟩,ih (λb hb=>hs b (by unfold frs;rw [cb,hf];exact aC _ hb)) hr⟩
 exact all X.outer (λ_ hb=>hb) I.ok.funs
theorem Inv.stack(I:Inv X pins σ H s):s.heap.FunFrames X.base X.stack:=by
 rcases I.ok.stk with e | ⟨e,hf⟩
 ·rw [e];exact I.funs
 ·rw [e];obtain ⟨m,hn,_⟩:=I.loc;refine .cons (by rw [I.ok.kind];decide) hf hn ?_ I.funs
  exact Heap.get?_none_of_le (bL I.ok.bsz I.ok.above)
theorem Inv.stkSub(I:Inv X pins σ H s):∀ b∈frs X.stack,b∈X.env.locals::X.fs:=λb hb=>by
 rcases I.ok.stk with e | ⟨e,hf⟩
 ·rw [e] at hb;exact aC _ hb
 ·rw [e] at hb;unfold frs at hb;rw [cb,hf] at hb;exact hb
theorem Inv.stkFree(I:Inv X pins σ H s):∀ b∈frs X.stack,H b=none:=λb hb=>by
 rcases aD.mp (I.stkSub b hb) with e | hb
 ·rw [e];exact I.free
 ·obtain ⟨_,o,ho,_⟩:=I.ok.funs.mem hb;exact I.base.free b o ho (I.ok.frf b hb) λz=>I.ok.exfs b z hb
theorem Inv.step{g':Array GenState}{t':Nat}{d':Drawn}{ch:List Addr}(I:Inv X pins σ H s)
  (hch:∀ b∈ch,(b∈X.ex\/X.s₀.heap.objs.size<=b)/\b≠X.env.locals/\(∀ x c,X.env.cells.lookup x=some c->c≠b)/\∀ p∈X.pn++pins,p.1≠b)
  (keep:∀ b o,b≠X.env.locals->b ∉ X.fs->b ∉ ch->s.heap.get? b=some o->H b=none->h'.get? b=some o)
  (slot:∀ b o,b≠X.env.locals->b∈X.fs->b ∉ ch->s.heap.get? b=some o->H b=none->∃ sl,h'.get? b=some { o with slots:=sl }) (free:∀ b o,b ∉ ch->s.heap.get? b=some o->H b=none->H' b=none)
  (there:∀ b o,b ∉ ch->s.heap.get? b=some o->∃ o',h'.get? b=some o')
  (tups:∀ b xs,H b=some (.tup xs)->H' b=some (.tup xs)) (frzs:∀ b o u,H b=some (.frz o u)->H' b=some (.frz o u)) (tbls:∀ b ps,H b=some (.tbl ps)->∃ more,H' b=some (.tbl (ps++more)))
  (ns:∀ m,s.heap.Ns X.env.locals m->h'.Ns X.env.locals m) (hok:HOk X.prog X.w H' h') (hg:AllBare g') :
  Inv X pins σ H' { s with heap:=h',gens:=g',drawn:=d',toks:=t' }:=by
 have neL:∀ b o,X.s₀.heap.get? b=some o->b≠X.env.locals:=λb o e=>aR (aH (aE e) I.ok.above);have neC:∀ b o,X.s₀.heap.get? b=some o->b ∉ X.ex->b ∉ ch:=λb o e hx hb=>by
  rcases (hch b hb).1 with z | z
  ·exact hx z
  ·exact absurd (aH (aE e) z) (bH _)
 have cellK:∀ x c,X.env.cells.lookup x=some c->∀ v,s.heap.IsCell c v->h'.IsCell c v:=λx c e v ⟨o,ho,hd⟩=>by
  have nch:c ∉ ch:=λz=>(hch c z).2.2.1 x c e rfl
  by_cases hc:c∈X.fs
  ·obtain ⟨sl,q⟩:=slot c o (I.cne x c e) hc nch ho (I.freeC x c e);exact ⟨_,q,hd⟩
  ·exact ⟨o,keep c o (I.cne x c e) hc nch ho (I.freeC x c e),hd⟩
 refine ⟨I.ok,I.os,hg,⟨λb o e n hb hx=>?_,λb o e n hb hx=>?_,λb o e n hx=>?_,λb o e hx=>?_,λb xs e=>tups b xs (I.base.tups b xs e),λb o xs e=>frzs b o xs (I.base.frzs b o xs e),λb ps e=>?_⟩,?_,λx c e=>?_,?_,λx c e=>?_,λp hp=>?_,hok,I.len⟩
 ·exact keep b o (neL b o e) hb (neC b o e hx) (I.base.keep b o e n hb hx) (I.base.free b o e n hx)
 ·obtain ⟨sl,e1⟩:=I.base.slot b o e n hb hx;obtain ⟨sl',e2⟩:=slot b _ (neL b o e) hb (neC b o e hx) e1 (I.base.free b o e n hx);exact ⟨sl',e2⟩
 ·obtain ⟨o',e1⟩:=I.base.there b o e hx;exact free b o' (neC b o e hx) e1 (I.base.free b o e n hx)
 ·obtain ⟨o',e1⟩:=I.base.there b o e hx;exact there b o' (neC b o e hx) e1
 ·obtain ⟨m1,e1⟩:=I.base.tbls b ps e;obtain ⟨m2,e2⟩:=tbls b _ e1;exact ⟨m1++m2,by rw [e2,Array.append_assoc]⟩
 ·obtain ⟨m,hn,hl⟩:=I.loc;refine ⟨m,ns m hn,λi x v e1 e2 e3=>?_⟩;obtain ⟨u,r,l⟩:=hl i x v e1 e2 e3;refine ⟨u,r,?_⟩
  rcases l with l | ⟨k,c,e,z⟩
  ·exact .inl l
  ·exact .inr ⟨k,c,e,cellK x c e _ z⟩
 ·obtain ⟨v,z⟩:=I.cell x c e;exact ⟨v,cellK x c e v z⟩
 ·obtain ⟨m,⟨o,_,_,ho,_⟩,_⟩:=I.loc;exact free _ o (λz=>(hch _ z).2.1 rfl) ho I.free
 ·obtain ⟨v,o,ho,hd⟩:=I.cell x c e;exact free c o (λz=>(hch c z).2.2.1 x c e rfl) ho (I.freeC x c e)
 ·obtain ⟨e,n,ne,nf,d⟩:=I.pin p hp;have nch:p.1 ∉ ch:=λz=>(hch p.1 z).2.2.2 p hp rfl;exact ⟨keep p.1 p.2 ne nf nch e n,free p.1 p.2 nch e n,ne,nf,d⟩
theorem Inv.un{t':Nat}(I:Inv X pins σ H s)(u:Un X.fs [] H H' s.heap h')(hok:HOk X.prog X.w H' h'):Inv X pins σ H' { s with heap:=h',toks:=t' }:=by
 obtain ⟨m,⟨o,es,ep,ho,r⟩,_⟩:=id I.loc;obtain ⟨sl,hL⟩:=u.any ho I.free (by simp)
 exact I.step (g':=s.gens) (d':=s.drawn) (ch:=[]) (λ_ z=>nomatch z) (λb o _ hb _ e n=>u.keep b o e n hb (by simp)) (λb o _ hb _ e n=>u.slot b o e n hb (by simp)) (λb o _ e n=>u.free b o e n (by simp)) (λb o _ e=>u.there b o e (by simp)) u.tups u.frzs u.tbls (λm' hm=>by
  obtain ⟨o',es',ep',ho',r'⟩:=hm;rw [ho] at ho';cases ho'
  exact ⟨_,es',ep',hL,r'⟩) hok I.bare
theorem Inv.call{g':Array GenState}{t':Nat}{d':Drawn}{ch:List Addr}(I:Inv X pins σ H s)(u:Un (frs X.stack) ch H H' s.heap h')(hok:HOk X.prog X.w H' h')(hg:AllBare g')
  (hch:∀ b∈ch,(b∈X.ex\/X.s₀.heap.objs.size<=b)/\b≠X.env.locals/\(∀ x c,X.env.cells.lookup x=some c->c≠b)/\∀ p∈X.pn++pins,p.1≠b) :
  Inv X pins σ H' { s with heap:=h',gens:=g',drawn:=d',toks:=t' }:=by
 obtain ⟨m,⟨o,es,ep,ho,r⟩,_⟩:=id I.loc;obtain ⟨sl,hL⟩:=u.any ho I.free λz=>(hch _ z).2.1 rfl;exact I.step (ch:=ch) hch (λb o hL hb hc e n=>u.keep b o e n (λz=>(aD.mp (I.stkSub b z)).elim hL hb) hc) (λb o _ _ hc e n=>u.any e n hc) (λb o hc e n=>u.free b o e n hc) (λb o hc e=>u.there b o e hc) u.tups u.frzs u.tbls (λm' hm=>by
  obtain ⟨o',es',ep',ho',r'⟩:=hm;rw [ho] at ho';cases ho'
  exact ⟨_,es',ep',hL,r'⟩) hok hg
theorem Inv.turned{t':Nat}{it:Addr}(I:Inv X pins σ H s)(k:∀ b o,b≠it->s.heap.get? b=some o->h'.get? b=some o)(hn:H it=none)(hL:it≠X.env.locals)
  (h1:it∈X.ex\/X.s₀.heap.objs.size<=it) (h2:∀ x c,X.env.cells.lookup x=some c->c≠it) (h3:∀ p∈X.pn++pins,p.1≠it):Inv X pins σ H { s with heap:=h',toks:=t' }:=by
 have nit:∀ b u,H b=some u->b≠it:=λb u e z=>by rw [z,hn] at e;cases e
 refine I.step (g':=s.gens) (d':=s.drawn) (ch:=[it]) (λb hb=>?_) (λb o _ _ hc e _=>k b o (λz=>hc (by simp [z])) e) (λb o _ _ hc e _=>⟨o.slots,k b o (λz=>hc (by simp [z])) e⟩) (λ_ _ _ _ n=>n)
  (λb o hc e=>⟨o,k b o (λz=>hc (by simp [z])) e⟩) (λ_ _ e=>e) (λ_ _ _ e=>e) (λb ps e=>⟨#[],by rw [e];simp⟩) (λm hm=>?_) (λb u e=>?_) I.bare
 ·have e:b=it:=by simpa using hb
  subst e;exact ⟨h1,hL,h2,h3⟩
 ·obtain ⟨o,es,ep,ho,r⟩:=hm;exact ⟨o,es,ep,k _ o (cX hL) ho,r⟩
 ·refine (I.hok b u e).stay (λc v hc q=>k c v ?_ q) (λ_ q=>q) λ_ _ q=>q
  rcases hc with z | z
  ·rw [z];exact nit b u e
  ·exact nit c _ z
theorem Inv.tok(I:Inv X pins σ H s)(t:Nat):Inv X pins σ H { s with toks:=t }:=I.un (h':=s.heap) (t':=t) Un.refl I.hok
theorem Inv.kept(I:Inv X pins σ H s)(k:∀ b u,s.heap.get? b=some u->h'.get? b=some u):Inv X pins σ H { s with heap:=h',toks:=t' }:=I.un (Un.kept k) (I.hok.kept k)
theorem Inv.laid(I:Inv X pins σ H s)(k:∀ b u,s.heap.get? b=some u->h'.get? b=some u)(hp:s.heap.objs.size<=a)(new:ObjOk X.prog X.w (upd H a o) h' a o) :
  Inv X pins σ (upd H a o) { s with heap:=h',toks:=t' }:=I.un (Un.laid k hp (I.hok.fresh hp)) (I.hok.laid k hp new)
theorem Inv.write(I:Inv X pins σ H s)(mu:Mut (H x))(he:e=x\/H e=some (.own x))(k:∀ b u,b≠e->s.heap.get? b=some u->h'.get? b=some u)(heo:∃ u,h'.get? e=some u)
  (new:ObjOk X.prog X.w (upd H x o) h' x o):Inv X pins σ (upd H x o) { s with heap:=h',toks:=t' }:=I.un (Un.write mu he k heo) (I.hok.write mu he k heo new)
theorem Inv.weak{σ':List (Option V)}(I:Inv X pins σ H s)(hl:σ'.length=σ.length)(w:∀ (i:Nat) v,σ'[i]? = some (some v)->σ[i]? = some (some v)):Inv X pins σ' H s :=
 ⟨I.ok,I.os,I.bare,I.base,let ⟨m,hn,hl'⟩:=I.loc; ⟨m,hn,λi x v e1 e2 e3=>hl' i x v e1 (w i v e2) e3⟩,I.cell,I.free,I.freeC,I.pin,I.hok,hl.trans I.len⟩
theorem Inv.pins_of(I:Inv X pins σ H s)(h:∀ p∈pins',s.heap.get? p.1=some p.2/\H p.1=none/\p.1≠X.env.locals/\p.1 ∉ X.fs/\∀ v,p.2.data≠.cell v):Inv X pins' σ H s :=
 ⟨I.ok,I.os,I.bare,I.base,I.loc,I.cell,I.free,I.freeC,λp hp=>(aQ.mp hp).elim (λz=>I.pin p (cr _ z)) (h p),I.hok,I.len⟩
theorem abp{N:List Str}(hN:N.Nodup){i j:Nat}(a:N[i]? = some x)(b:N[j]? = some x):i=j:=by
 obtain ⟨h1,e1⟩:=ah.mp a;obtain ⟨h2,e2⟩:=ah.mp b;exact (List.getElem_inj hN).mp (e1.trans e2.symm)
theorem a94{i:Nat}(I:Inv X pins σ H s)(hN:X.N.Nodup)(hi:X.N[i]? = some x)(hx:Loc X.env.scope x)(r:RelV v u)
  (h:∀ s',Inv X pins (σ.set i (some v)) H s'->(∃ a,Heap.SameBut a s.heap s'.heap/\(a=X.env.locals\/X.env.cells.lookup x=some a))->Q () s') (hf:X.fn x=true\/X.env.scope.names.lookup x=some .local:=by first | exact .inl rfl | exact .inr rfl | assumption):wpAny M A (storeName X.env x u) Q E s:=by
 obtain ⟨m,hn,hl⟩:=id I.loc;have hcls:(X.env.scope.kind == .class || (X.env.scope.kind == .module && X.env.locals != X.env.globals))=false:=by rw [I.ok.kind];rfl
 have hiσ:i<σ.length:=by rw [I.len];exact (ah.mp hi).1
 have cne:=I.cne;have tracked:∀ {a:Addr} {h':Heap},(∃ o,s.heap.get? a=some o/\H a=none)->Heap.SameBut a s.heap h'->HOk X.prog X.w H h':=λ{a h'} ha hs b ob e=>by
  obtain ⟨_,_,hfree⟩:=ha;refine (I.hok b ob e).stay (λc w' hc q=>(hs.2 c ?_).trans q) (λ_ q=>q) λ_ _ q=>q
  rintro rfl
  rcases hc with rfl | hc
  ·rw [hfree] at e;cases e
  ·rw [hfree] at hc;cases hc
 rcases hx with hk | hk
 ·refine wpAny_storeName_local hk hn (λh' hn' hs=>?_) hcls;obtain ⟨oL,_,_,hoL,_⟩:=id hn;refine h _ ⟨I.ok,I.os,I.bare,⟨λb o e n hb hx=>?_,λb o e n hb hx=>?_,I.base.free,λb o e hx=>?_,I.base.tups,I.base.frzs,I.base.tbls⟩,⟨_,hn',λj y v' e1 e2 e3=>?_⟩,λy c e=>?_,I.free,I.freeC,λp hp=>?_,tracked ⟨oL,hoL,I.free⟩ hs,by simpa using I.len⟩ ⟨_,hs, .inl rfl⟩
  ·exact (hs.2 b (aR (aH (aE e) I.ok.above))).trans (I.base.keep b o e n hb hx)
  ·obtain ⟨sl,e1⟩:=I.base.slot b o e n hb hx;exact ⟨sl,(hs.2 b (aR (aH (aE e) I.ok.above))).trans e1⟩
  ·obtain ⟨o',e1⟩:=I.base.there b o e hx;exact ⟨o',(hs.2 b (aR (aH (aE e) I.ok.above))).trans e1⟩
  ·by_cases hj:j=i
   ·subst hj;rw [hi] at e1;cases e1
    rw [bC hiσ] at e2;cases e2
    exact ⟨u,r, .inl ⟨hk,by simp⟩⟩
   ·rw [cK (cX hj)] at e2;obtain ⟨u',r',q⟩:=hl j y v' e1 e2 e3;refine ⟨u',r',?_⟩
    rcases q with ⟨k,e⟩ | ⟨k,c,e,z⟩
    ·refine .inl ⟨k,?_⟩;have:y≠x:=λe=>hj (abp hN e1 (e ▸ hi));simp [this,e]
    ·exact .inr ⟨k,c,e,z.sameBut hs (cne y c e)⟩
  ·obtain ⟨w',z⟩:=I.cell y c e;exact ⟨w',z.sameBut hs (cne y c e)⟩
  ·obtain ⟨e,n,ne,nf,d⟩:=I.pin p hp;exact ⟨(hs.2 p.1 ne).trans e,n,ne,nf,d⟩
 ·have hfn:X.fn x=true:=by
   rcases hf with z | z
   ·exact z
   ·rw [z] at hk;cases hk
  obtain ⟨c,hc⟩:=I.ok.has x (.inl hk);obtain ⟨w',z⟩:=I.cell x c hc;refine wpAny_storeName_cell I.ok.kind hk hc z (λh' hc' hs=>?_);obtain ⟨oc,hoc,hocd⟩:=id z;refine h { s with heap:=h' } ⟨I.ok,I.os,I.bare,⟨λb o e n hb hx=>?_,λb o e n hb hx=>?_,I.base.free,λb o e hx=>?_,I.base.tups,I.base.frzs,I.base.tbls⟩,⟨m,hn.sameBut hs (cX (cne x c hc)),λj y v' e1 e2 e3=>?_⟩,λy c' e=>?_,I.free,I.freeC,λp hp=>?_,tracked ⟨oc,hoc,I.freeC x c hc⟩ hs,by simpa using I.len⟩ ⟨c,hs, .inr hc⟩
  ·exact (hs.2 b (aR (aH (aE e) (I.ok.cab x c hfn hc)))).trans (I.base.keep b o e n hb hx)
  ·obtain ⟨sl,e1⟩:=I.base.slot b o e n hb hx;exact ⟨sl,(hs.2 b (aR (aH (aE e) (I.ok.cab x c hfn hc)))).trans e1⟩
  ·obtain ⟨o',e1⟩:=I.base.there b o e hx;exact ⟨o',(hs.2 b (aR (aH (aE e) (I.ok.cab x c hfn hc)))).trans e1⟩
  ·by_cases hj:j=i
   ·subst hj;rw [hi] at e1;cases e1
    rw [bC hiσ] at e2;cases e2
    exact ⟨u,r, .inr ⟨.inl hk,c,hc,hc'⟩⟩
   ·rw [cK (cX hj)] at e2;obtain ⟨u',r',q⟩:=hl j y v' e1 e2 e3;refine ⟨u',r',?_⟩
    rcases q with q | ⟨k,c',e,z'⟩
    ·exact .inl q
    ·refine .inr ⟨k,c',e,z'.sameBut hs ?_⟩
     rintro rfl
     exact hj (abp hN e1 (I.ok.inj _ _ _ e hc ▸ hi))
  ·by_cases hcc:c'=c
   ·subst hcc;exact ⟨_,hc'⟩
   ·obtain ⟨w2,z2⟩:=I.cell y c' e;exact ⟨w2,z2.sameBut hs hcc⟩
  ·obtain ⟨e,n,ne,nf,d⟩:=I.pin p hp;refine ⟨(hs.2 p.1 ?_).trans e,n,ne,nf,d⟩
   intro q
   rw [q,hoc] at e;have q':oc=p.2:=bv e;exact d w' (by rw [<-q'];exact hocd)
theorem a7c(I:Inv X pins σ H s)(hN:X.N.Nodup)(hi:X.N[i]? = some x)(hx:Loc X.env.scope x)(r:RelV v u)
  (h:∀ s',Inv X pins (σ.set i (some v)) H s'->Q () s') (hf:X.fn x=true\/X.env.scope.names.lookup x=some .local:=by first | exact .inl rfl | exact .inr rfl | assumption):wpAny M A (storeName X.env x u) Q E s :=
 a94 I hN hi hx r (λs' I' _=>h s' I') hf
end
abbrev XK:=Value->Option Addr->Hp->Prop
abbrev St:=List (Option V)
abbrev VK:=V->Hp->Prop
abbrev TE:=St->Hp->VK->Prop
abbrev TT:=St->Hp->(Bool->Hp->Prop)->Prop
abbrev TA:=St->Hp->(List V->Hp->Prop)->Prop
structure Ends where
 nx:St->Hp->Prop
 rt:VK
 bk:St->Hp->Prop:=λ_ _=>False
 ct:St->Hp->Prop:=λ_ _=>False
abbrev TS:=Ends->St->Hp->Prop
def EP(X:Cx)(pins:List (Addr × Obj))(σ:St)(Q:VK)(u:Value)(s':Shared):Prop:=∃ v H',Inv X pins σ H' s'/\RelV v u/\Q v H'
def TP(X:Cx)(pins:List (Addr × Obj))(σ:St)(Q:Bool->Hp->Prop)(b:Bool)(s':Shared):Prop:=∃ H',Inv X pins σ H' s'/\Q b H'
def AP(X:Cx)(pins:List (Addr × Obj))(σ:St)(Q:List V->Hp->Prop)(us:List Value)(s':Shared):Prop:=∃ vs H',Inv X pins σ H' s'/\Vals vs us/\Q vs H'
def SP(X:Cx)(pins:List (Addr × Obj))(D:Ends)(f:Flow)(s':Shared):Prop :=
 match f with
 | .next=>∃ σ' H',Inv X pins σ' H' s'/\D.nx σ' H'
 | .brk=>∃ σ' H',Inv X pins σ' H' s'/\D.bk σ' H'
 | .cont=>∃ σ' H',Inv X pins σ' H' s'/\D.ct σ' H'
 | .ret u=>∃ v σ' H',Inv X pins σ' H' s'/\RelV v u/\D.rt v H'
def PE(X:Cx)(e:Expr)(t:TE):Prop :=
 ∀ (pins:List (Addr × Obj)) (s:Shared) (σ:St) (H:Hp) (Q:VK),Inv X pins σ H s->t σ H Q->wpAny (model X.prog X.w) X.A (eval e X.env) (EP X pins σ Q) X.xe s
def PT(X:Cx)(e:Expr)(t:TT):Prop :=
 ∀ (pins:List (Addr × Obj)) (s:Shared) (σ:St) (H:Hp) (Q:Bool->Hp->Prop),Inv X pins σ H s->t σ H Q->wpAny (model X.prog X.w) X.A (isTrue e X.env (eval e X.env)) (TP X pins σ Q) X.xe s
def PW(X:Cx)(e:Expr)(t:TT):Prop :=
 ∀ (whole:Sem Value) (pins:List (Addr × Obj)) (s:Shared) (σ:St) (H:Hp) (Q:Bool->Hp->Prop),Inv X pins σ H s->t σ H Q->wpAny (model X.prog X.w) X.A (isTrue e X.env whole) (TP X pins σ Q) X.xe s
theorem PW.pt(h:PW X e t):PT X e t:=h _
def PA(X:Cx)(es:List Expr)(t:TA):Prop :=
 ∀ (pos:Pos) (pins:List (Addr × Obj)) (s:Shared) (σ:St) (H:Hp) (Q:List V->Hp->Prop),Inv X pins σ H s->t σ H Q->wpAny (model X.prog X.w) X.A (spliced (backTo pos (starEach es X.env))) (AP X pins σ Q) X.xe s
def PS(X:Cx)(st:Stmt)(t:TS):Prop :=
 ∀ (pins:List (Addr × Obj)) (s:Shared) (σ:St) (H:Hp) (D:Ends),Inv X pins σ H s->t D σ H->wpAny (model X.prog X.w) X.A (exec st X.env) (SP X pins D) X.xe s
def PSs(X:Cx)(st:List Stmt)(t:TS):Prop :=
 ∀ (pins:List (Addr × Obj)) (s:Shared) (σ:St) (H:Hp) (D:Ends),Inv X pins σ H s->t D σ H->wpAny (model X.prog X.w) X.A (execs st X.env) (SP X pins D) X.xe s
theorem thn{α:Type}{t:Sem α}{Q Q':α->Shared->Prop}{M:Model}{A:Around}{E:Value->Shared->Prop}{s:Shared}(h:wpAny M A t Q E s)(hQ:∀ a s,Q a s->Q' a s):wpAny M A t Q' E s:=ba h hQ λ_ _ x=>x
section
variable{X:Cx}
def axc(i:Nat):TE:=λσ H Q=>∃ v,σ[i]? = some (some v)/\Q v H
def tC(v:V):TE:=λ_ H Q=>Q v H
theorem aq3(hN:X.N[i]? = some x)(hv:Vis X.env.scope x)(hd:(x == ("__debug__" : Str))=false:=by decide)(hcd:(x == ("__classdict__" : Str))=false:=by decide):PE X (.Name x pos) (axc i):=by
 intro pins s σ H Q I h
 obtain ⟨v,e,h⟩:=h;obtain ⟨m,hn,hl⟩:=I.loc;obtain ⟨u,r,l⟩:=hl i x v hN e hv;have fin:EP X pins σ Q u s:=⟨v,H,I,r,h⟩
 rcases l with ⟨hk,hm⟩ | ⟨hk,c,hc,hcell⟩
 ·exact wpAny_Name (wpAny_loadName_local I.ok.kind hk hn hm fin) hd
 ·rcases hk with hk | hk
  ·exact wpAny_Name (wpAny_loadName_cell I.ok.kind hk hc hcell fin) hd
  ·exact wpAny_Name (wpAny_loadName_free I.ok.kind hk hc hcell fin hcd) hd
theorem aq4{i j pos}:PE X (.Constant (.int i) j pos) (tC (.int i)):=λ_ _ _ H _ I h=>wpAny_Constant_int ⟨.int i,H,I.tok _,⟨_,rfl⟩,h⟩
theorem av3{b j pos}:PE X (.Constant (.bool b) j pos) (tC (.bl b)):=λ_ _ _ H _ I h=>Constant_bool ⟨.bl b,H,I,rfl,h⟩
theorem aq5{x j pos}:PE X (.Constant (.str x) j pos) (tC (.str x)):=λ_ _ _ H _ I h=>Calls.Constant_str ⟨.str x,H,I.tok _,⟨_,rfl⟩,h⟩
def Gl(X:Cx)(x:Str):Prop:=X.env.kindOf x=some .globalImplicit
theorem aez(I:Inv X pins σ H s)(hg:Gl X x)(hm:X.mg x=some u)(h:Q u s)
  (hd:(x == ("__debug__" : Str))=false:=by decide):wpAny (model X.prog X.w) X.A (eval (.Name x pos) X.env) Q E s :=
 Calls.Name_function_global I.ok.kind hg (Calls.loadGlobal_global (by rw [I.ok.glob];exact I.mod.glob.keeps I.bk) hm h) hd
theorem a6o(I:Inv X pins σ H s)(hg:Gl X x)(hm:X.mg x=none)(hv:bootBuiltins x=some u)(h:Q u s)
  (hn:x ≠ "__name__":=by decide) (hd:(x == ("__debug__" : Str))=false:=by decide):wpAny (model X.prog X.w) X.A (eval (.Name x pos) X.env) Q E s:=by
 obtain ⟨mb,h1,h2⟩:=I.mod.blt;exact Calls.Name_function_global I.ok.kind hg (Calls.loadGlobal_builtin (by rw [I.ok.glob];exact I.mod.glob.keeps I.bk) hm (by rw [I.ok.blt];exact h1.keeps I.bk) ((h2 x hn).trans hv) h) hd
theorem an1(hg:Gl X x)(hm:X.mg x=none)(hv:bootBuiltins x=some u)(r:RelV v u)(hn:x ≠ "__name__":=by decide)(hd:(x == ("__debug__" : Str))=false:=by decide):PE X (.Name x pos) (tC v) :=
 λ_ _ _ H _ I h=>a6o I hg hm hv ⟨v,H,I,r,h⟩ hn hd
variable{a b:Expr}{ta tb:TE}{pos:Pos}
variable{tA tB':TT}{rest:List Expr}
def axd(t u:TT):TT:=λσ H Q=>t σ H λc H1=>if c=true then u σ H1 Q else Q false H1
def tOr(t u:TT):TT:=λσ H Q=>t σ H λc H1=>if c=true then Q true H1 else u σ H1 Q
def axe(t:TT):TT:=λσ H Q=>t σ H λc H1=>Q (!c) H1
theorem an2(ha:PT X a tA):PW X (.BoolOp .And [a] pos) tA:=by
 intro wh pins s σ H Q I h
 refine isTrue_and (thn (ha pins s σ H Q I h) λc s1 e=>?_)
 cases c with
 | true=>exact isTrue_and_nil e
 | false=>exact e
theorem aq6(ha:PT X a tA):PW X (.BoolOp .Or [a] pos) tA:=by
 intro wh pins s σ H Q I h
 refine isTrue_or (thn (ha pins s σ H Q I h) λc s1 e=>?_)
 cases c with
 | false=>exact isTrue_or_nil e
 | true=>exact e
theorem aq7(ha:PT X a tA)(hb:PW X (.BoolOp .And (b::rest) pos) tB'):PW X (.BoolOp .And (a::b::rest) pos) (axd tA tB'):=by
 intro wh pins s σ H Q I h
 refine isTrue_and (thn (ha pins s σ H _ I h) λc s1 ⟨H1,I1,q1⟩=>?_)
 cases c with
 | true=>exact hb wh pins s1 σ H1 Q I1 q1
 | false=>exact ⟨H1,I1,q1⟩
theorem av4(ha:PT X a tA)(hb:PW X (.BoolOp .Or (b::rest) pos) tB'):PW X (.BoolOp .Or (a::b::rest) pos) (tOr tA tB'):=by
 intro wh pins s σ H Q I h
 refine isTrue_or (thn (ha pins s σ H _ I h) λc s1 ⟨H1,I1,q1⟩=>?_)
 cases c with
 | true=>exact ⟨H1,I1,q1⟩
 | false=>exact hb wh pins s1 σ H1 Q I1 q1
theorem aq8(ha:PT X a tA):PT X (.UnaryOp .Not a pos) (axe tA):=by
 intro pins s σ H Q I h
 exact isTrue_not (ha pins s σ H (λc H1=>Q (!c) H1) I h)
def tIf(t:TT)(ta tb:TE):TE:=λσ H Q=>t σ H λc H1=>if c=true then ta σ H1 Q else tb σ H1 Q
theorem aiw{c:Expr}(hc:PT X c tA)(ha:PE X a ta)(hb:PE X b tb):PE X (.IfExp c a b pos) (tIf tA ta tb):=by
 intro pins s σ H Q I h
 refine wpAny_IfExp (thn (hc pins s σ H _ I h) λd s1 ⟨H1,I1,q1⟩=>?_)
 cases d with
 | true=>exact ha pins s1 σ H1 Q I1 q1
 | false=>exact hb pins s1 σ H1 Q I1 q1
end
def SqL(K:PySem.W.Frag)(H:Hp)(a:Addr)(xs:List V):Prop :=
 Rd H a (.lst xs) \/
  ∃ (o:Obj) (its:Array Value) (n:Nat),K.lookup a=some o/\o.cls = .type "list"/\o.dict=none/\o.data = .seq its n/\its.size<=sizeLine/\Vals xs its.toList
def SqT(K:PySem.W.Frag)(H:Hp)(a:Addr)(xs:List V):Prop :=
 Rd H a (.tup xs) \/
  ∃ (o:Obj) (its:Array Value) (n:Nat),K.lookup a=some o/\o.cls = .type "tuple"/\o.data = .seq its n/\its.size<=sizeLine/\Vals xs its.toList
def axf:Value->Option V
 | .none=>some .non
 | .bool b=>some (.bl b)
 | .int i _=>some (.int i)
 | .str x _=>some (.str x)
 | .bytes b _=>some (.byt b)
 | .float b _=>some (.flt b)
 | .ref a=>some (.ref a)
 | .type n=>some (.ty n)
 | _=>none
theorem RelV.abs(r:RelV x u):axf u=some x:=by
 cases x with
 | non=>cases r;rfl
 | bl _=>cases r;rfl
 | int _=>obtain ⟨t,rfl⟩:=r;rfl
 | str _=>obtain ⟨t,rfl⟩:=r;rfl
 | byt _=>obtain ⟨t,rfl⟩:=r;rfl
 | flt _=>obtain ⟨t,rfl⟩:=r;rfl
 | ref _=>cases r;rfl
 | ty _=>cases r;rfl
theorem RelV.inj(r:RelV x u)(q:RelV y u):x=y:=bv (r.abs.symm.trans q.abs)
theorem Vals.inj:∀ {xs ys:List V} {us:List Value},Vals xs us->Vals ys us->xs=ys
 | _,_,_, .nil, .nil=>rfl
 | _,_,_, .cons r t, .cons r' t'=>by rw [r.inj r',Vals.inj t t']
section
variable{X:Cx}{pins:List (Addr × Obj)}{σ:St}{H:Hp}{s:Shared}{a:Addr}{xs ys:List V}
theorem SqL.of{K:PySem.W.Frag}(h:H a=some (.lst xs)):SqL K H a xs:=.inl (.inl h)
theorem SqT.of{K:PySem.W.Frag}(h:H a=some (.tup xs)):SqT K H a xs:=.inl (.inl h)
theorem Inv.list(I:Inv X pins σ H s)(h:SqL X.K H a xs):∃ its:List Value,Vals xs its/\PlainL s.heap a its.toArray/\xs.length<=sizeLine:=by
 rcases h with h | ⟨o,its,n,hk,hc,hd,hs,hz,r⟩
 ·obtain ⟨z,its,n,r,e⟩:=h.ok I.hok;exact ⟨its,r,⟨_,n,e,rfl,rfl,rfl⟩,z⟩
 ·refine ⟨its.toList,r,⟨o,n,I.kIn a o hk,hc,hd,by simpa using hs⟩,?_⟩
  have e:=r.length;simp only [aJ] at e;omega
theorem Inv.tuple(I:Inv X pins σ H s)(h:SqT X.K H a xs):∃ its:List Value,Vals xs its/\IsTup s.heap a its.toArray/\xs.length<=sizeLine:=by
 rcases h with h | ⟨o,its,n,hk,hc,hs,hz,r⟩
 ·obtain ⟨z,its,r,p⟩:=h.ok I.hok;exact ⟨its,r,p,z⟩
 ·refine ⟨its.toList,r,⟨o,I.kIn a o hk,hc,n,by simpa using hs⟩,?_⟩
  have e:=r.length;simp only [aJ] at e;omega
theorem Inv.list_inj(I:Inv X pins σ H s)(h:SqL X.K H a xs)(h':SqL X.K H a ys):xs=ys:=by
 obtain ⟨its,r,⟨o,n,e,_,_,d⟩,_⟩:=I.list h;obtain ⟨its',r',⟨o',n',e',_,_,d'⟩,_⟩:=I.list h';rw [e] at e';cases e'
 rw [d] at d'
 injection d' with d1 _
 have:its=its':=by simpa using af Array.toList d1
 subst this;exact r.inj r'
theorem Inv.tuple_inj(I:Inv X pins σ H s)(h:SqT X.K H a xs)(h':SqT X.K H a ys):xs=ys:=by
 obtain ⟨its,r,⟨o,e,_,n,d⟩,_⟩:=I.tuple h;obtain ⟨its',r',⟨o',e',_,n',d'⟩,_⟩:=I.tuple h';rw [e] at e';cases e'
 rw [d] at d'
 injection d' with d1 _
 have:its=its':=by simpa using af Array.toList d1
 subst this;exact r.inj r'
end
abbrev Cx.wish(X:Cx)(E:Value->Shared->Prop):Cx:={ X with xe:=E }
abbrev Cx.nox(X:Cx):Cx:=X.wish λ_ _=>False
theorem Cx.Ok.wish{X:Cx}(ok:X.Ok)(E:Value->Shared->Prop):(X.wish E).Ok :=
 ⟨ok.mod,ok.kind,ok.glob,ok.blt,ok.above,ok.inj,ok.has,ok.cab,ok.hd,ok.frames,ok.stk,ok.exf,ok.bs,ok.bsz,ok.noex,ok.exfs,ok.funs,ok.frf⟩
theorem Cx.Ok.unwish{X:Cx}(ok:(X.wish E).Ok):X.Ok :=
 ⟨ok.mod,ok.kind,ok.glob,ok.blt,ok.above,ok.inj,ok.has,ok.cab,ok.hd,ok.frames,ok.stk,ok.exf,ok.bs,ok.bsz,ok.noex,ok.exfs,ok.funs,ok.frf⟩
section
variable{X:Cx}{pins:List (Addr × Obj)}{σ:St}{H:Hp}{s:Shared}{E:Value->Shared->Prop}
theorem Inv.wish(I:Inv X pins σ H s)(E:Value->Shared->Prop):Inv (X.wish E) pins σ H s:=⟨I.ok.wish E,I.os,I.bare,I.base,I.loc,I.cell,I.free,I.freeC,I.pin,I.hok,I.len⟩
theorem Inv.unwish(I:Inv (X.wish E) pins σ H s):Inv X pins σ H s:=⟨I.ok.unwish,I.os,I.bare,I.base,I.loc,I.cell,I.free,I.freeC,I.pin,I.hok,I.len⟩
theorem SP.unwish(h:SP (X.wish E) pins D f s'):SP X pins D f s':=by
 cases f with
 | next=>obtain ⟨σ',H',I,q⟩:=h;exact ⟨σ',H',I.unwish,q⟩
 | brk=>obtain ⟨σ',H',I,q⟩:=h;exact ⟨σ',H',I.unwish,q⟩
 | cont=>obtain ⟨σ',H',I,q⟩:=h;exact ⟨σ',H',I.unwish,q⟩
 | ret u=>obtain ⟨v,σ',H',I,r,q⟩:=h;exact ⟨v,σ',H',I.unwish,r,q⟩
theorem PSs.nox{st:List Stmt}{t:TS}(h:PSs X.nox st t):PSs X st t:=λpins s σ H D I hw =>
 ba (h pins s σ H D (I.wish _) hw) (λ_ _ q=>q.unwish) λ_ _ z=>False.elim z
end
section
variable{X:Cx}{st:Stmt}{rest:List Stmt}{t u:TS}{e:Expr}{te:TE}{pos:Pos}
def av5:TS:=λD σ H=>D.nx σ H
def axg(t u:TS):TS:=λD σ H=>t { D with nx:=u D } σ H
theorem an3:PSs X [] av5:=λ_ _ σ H _ I h=>fz ⟨σ,H,I,h⟩
theorem aix(h1:PS X st t)(h2:PSs X rest u):PSs X (st::rest) (axg t u):=by
 intro pins s σ H D I h
 refine wpAny_execs_cons (thn (h1 pins s σ H { D with nx:=u D } I h) λf s1 q=>?_)
 cases f with
 | next =>
  obtain ⟨σ',H',I',q⟩:=q;exact h2 pins s1 σ' H' D I' q
 | ret v=>exact q
 | brk=>exact q
 | cont=>exact q
theorem an4(h1:PS X st t):PSs X [st] t:=by
 intro pins s σ H D I h
 refine wpAny_execs_cons (thn (h1 pins s σ H D I h) λf s1 q=>?_)
 cases f with
 | next=>exact fz q
 | ret v=>exact q
 | brk=>exact q
 | cont=>exact q
theorem Inv.quiet(I:Inv X pins σ H s):interactive X.env=false:=by simp [interactive,I.ok.kind]
def av6(te:TE):TS:=λD σ H=>te σ H λ_ H1=>D.nx σ H1
theorem an5(he:PE X e te)(hs:swapsWith e none pos.line X.env=pure false:=by rfl):PS X (.Expr e pos) (av6 te):=by
 intro pins s σ H D I h
 exact wpAny_Expr_any (thn (he pins s σ H _ I h) λv s1 ⟨x,H1,I1,r1,q1⟩=>⟨σ,H1,I1,q1⟩) I.quiet hs
def axh(te:TE):TS:=λD σ H=>te σ H D.rt
theorem aq9(he:PE X e te):PS X (.Return (some e) pos) (axh te):=by
 intro pins s σ H D I h
 exact wpAny_Return_some (thn (he pins s σ H _ I h) λv s1 ⟨x,H1,I1,r1,q1⟩=>⟨x,σ,H1,I1,r1,q1⟩)
def axi(c:TT)(t u:TS):TS:=λD σ H=>c σ H λb H1=>if b=true then t D σ H1 else u D σ H1
theorem av7{c:Expr}{a b:List Stmt}{tc:TT}(hc:PT X c tc)(ha:PSs X a t)(hb:PSs X b u):PS X (.If c a b pos) (axi tc t u):=by
 intro pins s σ H D I h
 refine wpAny_If (thn (hc pins s σ H _ I h) λd s1 ⟨H1,I1,q1⟩=>?_)
 cases d with
 | true=>exact ha pins s1 σ H1 D I1 q1
 | false=>exact hb pins s1 σ H1 D I1 q1
end
abbrev TG:=V->St->Hp->(St->Hp->Prop)->Prop
abbrev TGs:=List V->St->Hp->(St->Hp->Prop)->Prop
def PG(X:Cx)(target:Expr)(t:TG):Prop :=
 ∀ (pins:List (Addr × Obj)) (s:Shared) (σ:St) (H:Hp) (v:V) (u:Value) (Q:St->Hp->Prop),Inv X pins σ H s->RelV v u->t v σ H Q->
  wpAny (model X.prog X.w) X.A (assign target X.env u) (λ_ s'=>∃ σ' H',Inv X pins σ' H' s'/\Q σ' H') X.xe s
def PGs(X:Cx)(ts:List Expr)(t:TGs):Prop :=
 ∀ (pins:List (Addr × Obj)) (s:Shared) (σ:St) (H:Hp) (vs:List V) (us:List Value) (Q:St->Hp->Prop),Inv X pins σ H s->Vals vs us->t vs σ H Q->
  wpAny (model X.prog X.w) X.A (assignInOrder ((assignEach ts X.env).map (·.2)) us) (λ_ s'=>∃ σ' H',Inv X pins σ' H' s'/\Q σ' H') X.xe s
abbrev aqa:=V->V->V->Hp->(Hp->Prop)->Prop
def av8(X:Cx)(t:aqa):Prop :=
 ∀ (pins:List (Addr × Obj)) (s:Shared) (σ:St) (H:Hp) (o i v:V) (ov iv u:Value) (Q:Hp->Prop),Inv X pins σ H s->RelV o ov->RelV i iv->RelV v u->t o i v H Q->
  wpAny (model X.prog X.w) X.A (setItem ov iv u) (λ_ s'=>∃ H',Inv X pins σ H' s'/\Q H') X.xe s
abbrev TIp:=V->V->Hp->VK->Prop
def PIp(X:Cx)(op:Operator)(t:TIp):Prop :=
 ∀ (pins:List (Addr × Obj)) (s:Shared) (σ:St) (H:Hp) (x y:V) (v u:Value) (Q:VK),Inv X pins σ H s->RelV x v->RelV y u->t x y H Q->
  wpAny (model X.prog X.w) X.A (inplaceOp op v u) (EP X pins σ Q) X.xe s
section
variable{X:Cx}{pos:Pos}
def a3g(i:Nat):TG:=λv σ H Q=>Q (σ.set i (some v)) H
theorem kh(hN:X.N.Nodup)(hi:X.N[i]? = some x)(hx:Loc X.env.scope x)(hf:X.fn x=true\/X.env.scope.names.lookup x=some .local:=by first | exact .inl rfl | exact .inr rfl | assumption):PG X (.Name x pos) (a3g i):=by
 intro pins s σ H v u Q I r h
 exact wpAny_assign_Name (a7c I hN hi hx r (λs' I'=>⟨_,H,I',h⟩) hf)
def awf:TGs:=λvs σ H Q=>vs=[]/\Q σ H
def aiy(t:TG)(u:TGs):TGs:=λvs σ H Q=>∃ v r,vs=v::r/\t v σ H λσ' H'=>u r σ' H' Q
theorem af0:PGs X [] awf:=by
 intro pins s σ H vs us Q I r h
 obtain ⟨e,h⟩:=h;subst e;cases r
 exact assignInOrder_nil ⟨σ,H,I,h⟩
theorem a7d{e:Expr}{es:List Expr}{t:TG}{u:TGs}(h1:PG X e t)(h2:PGs X es u)
  (hs:(assignEach (e::es) X.env).map (·.2)=assign e X.env::(assignEach es X.env).map (·.2):=by rfl):PGs X (e::es) (aiy t u):=by
 intro pins s σ H vs us Q I r h
 obtain ⟨v,vr,e1,h⟩:=h;subst e1
 cases r with
 | cons r rr =>
  rw [hs];refine assignInOrder_cons (thn (h1 pins s σ H _ _ _ I r h) λ_ s1 ⟨σ1,H1,I1,q1⟩=>?_);exact h2 pins s1 σ1 H1 _ _ Q I1 rr q1
def wk(K:PySem.W.Frag)(n:Nat)(t:TGs):TG:=λv σ H Q=>∃ a xs,v = .ref a/\SqT K H a xs/\xs.length=n/\t xs σ H Q
theorem alv(hc:X.calm=true)(h:PGs X es t)
  (hn:(assignEach es X.env).length=n:=by rfl) (hst:(assignEach es X.env).findIdx? (·.1)=none:=by rfl):PG X (.Tuple es k pos) (wk X.K n t):=by
 intro pins s σ H v u Q I r hw
 obtain ⟨a,xs,e1,hq,hl,hw⟩:=hw;subst e1;cases r
 obtain ⟨its,rv,ht,hz⟩:=I.tuple hq;refine assign_Tuple_tuple (I.ok.hd hc) ht (by simp [hn,<-hl,rv.length]) hst λh' hx=>?_
 have I1:Inv X pins σ H { s with heap:=h' }:=I.kept (t':=s.toks) λb o e=>hx b o (aR (aE e)) e
 exact h pins _ σ H xs _ Q I1 (by simpa using rv) hw
def a6i(to ti:TE)(t:aqa):TG:=λv σ H Q=>to σ H λo H1=>ti σ H1 λi H2=>t o i v H2 λH3=>Q σ H3
theorem aqb{o i:Expr}{to ti:TE}{t:aqa}(ho:PE X o to)(hi:PE X i ti)(hs:av8 X t)
  (ha:∀ v,assign (.Subscript o i pos) X.env v=(do
   let ov <-holding [v] (eval o X.env)
   let iv <-holding [v,ov] (eval i X.env)
   standAt pos
   holding [v,ov,iv] (setItem ov iv v)
   release [v,ov,iv] []):=by intro _;rfl):PG X (.Subscript o i pos) (a6i to ti t):=by
 intro pins s σ H v u Q I r h
 rw [ha];refine ae (bP (thn (ho pins s σ H _ I h) λov s1 ⟨x,H1,I1,r1,q1⟩=>?_));refine ae (bP (thn (hi pins s1 σ H1 _ I1 q1) λiv s2 ⟨y,H2,I2,r2,q2⟩=>?_));refine ae (cD (ae (bP (thn (hs pins s2 σ H2 x y v ov iv u _ I2 r1 r2 r q2) λ_ s3 ⟨H3,I3,q3⟩=>?_))));exact wpAny_release ⟨σ,H3,I3,q3⟩
def aud(te:TE)(g:TG):TS:=λD σ H=>te σ H λx H1=>g x σ H1 D.nx
theorem alw{tg e:Expr}{te:TE}{g:TG}(he:PE X e te)(hg:PG X tg g)(hs:swapsWithSole [tg] e pos.line X.env=pure false:=by rfl)(hw:swappedStores [tg] e X.env=pure none:=by rfl)
  (h1:(assignEach [tg] X.env).map (·.2)=[assign tg X.env]:=by rfl):PS X (.Assign [tg] e pos) (aud te g):=by
 intro pins s σ H D I h
 refine wpAny_Assign_stores (thn (he pins s σ H _ I h) λv s1 ⟨x,H1,I1,r1,q1⟩=>?_) hs hw;rw [h1];exact thn (hg pins s1 σ H1 x v _ I1 r1 q1) λ_ s2 q=>q
theorem aqc{i:Nat}{x:Str}{e:Expr}{te:TE}{pos':Pos}(hN:X.N.Nodup)(hi:X.N[i]? = some x)(hx:Loc X.env.scope x)(he:PE X e te)(hs:swapsWith e (some (.Name x pos')) pos.line X.env=pure false:=by rfl)(hf:X.fn x=true\/X.env.scope.names.lookup x=some .local:=by first | exact .inl rfl | exact .inr rfl | assumption) :
  PS X (.Assign [.Name x pos'] e pos) (aud te (a3g i)):=by
 intro pins s σ H D I h
 refine wpAny_Assign_Name (thn (he pins s σ H _ I h) λv s1 ⟨y,H1,I1,r1,q1⟩=>?_) hs;exact a7c I1 hN hi hx r1 (λs2 I2=>⟨_,H1,I2,q1⟩) hf
def axj(i:Nat)(te:TE)(ti:TIp):TS:=λD σ H=>∃ x,σ[i]? = some (some x)/\te σ H λy H1=>ti x y H1 λz H2=>D.nx (σ.set i (some z)) H2
theorem aqd{i:Nat}{x:Str}{e:Expr}{te:TE}{op:Operator}{ti:TIp}{pos':Pos}(hN:X.N.Nodup)(hi:X.N[i]? = some x)(hx:Loc X.env.scope x)(he:PE X e te)(ho:PIp X op ti)(hf:X.fn x=true\/X.env.scope.names.lookup x=some .local:=by first | exact .inl rfl | exact .inr rfl | assumption) :
  PS X (.AugAssign (.Name x pos') op e pos) (axj i te ti):=by
 intro pins s σ H D I h
 obtain ⟨v,e1,h⟩:=h;obtain ⟨m,hn,hl⟩:=I.loc;have vis:Vis X.env.scope x:=by rcases hx with k | k;exact .inl k;exact .inr (.inl k)
 obtain ⟨u,r,l⟩:=hl i x v hi e1 vis;refine wpAny_AugAssign_Name ?_;have go:wpAny (model X.prog X.w) X.A (eval e X.env) (λw s₂=>wpAny (model X.prog X.w) X.A (inplaceOp op u w) (λr s₃=>wpAny (model X.prog X.w) X.A (storeName X.env x r) (λ_=>SP X pins D .next) X.xe s₃) X.xe s₂) X.xe s:=by
  refine thn (he pins s σ H _ I h) λw s1 ⟨y,H1,I1,r1,q1⟩=>?_;refine thn (ho pins s1 σ H1 v y u w _ I1 r r1 q1) λz s2 ⟨zv,H2,I2,r2,q2⟩=>?_;exact a7c I2 hN hi hx r2 (λs3 I3=>⟨_,H2,I3,q2⟩) hf
 rcases l with ⟨hk,hm⟩ | ⟨hk,c,hc,hcell⟩
 ·exact wpAny_loadName_local I.ok.kind hk hn hm go
 ·rcases hk with hk | hk
  ·exact wpAny_loadName_cell I.ok.kind hk hc hcell go
  ·rcases hx with k | k
   ·have:X.env.scope.names.lookup x=some .free:=hk
    rw [k] at this;cases this
   ·have:X.env.scope.names.lookup x=some .free:=hk
    rw [k] at this;cases this
def av9(to ti te:TE)(tget:V->V->Hp->VK->Prop)(tip:TIp)(tset:aqa):TS:=λD σ H=>to σ H λo H1=>ti σ H1 λi H2=>tget o i H2 λx H3=>te σ H3 λy H4=>tip x y H4 λz H5=>tset o i z H5 λH6=>D.nx σ H6
def awg(X:Cx)(t:V->V->Hp->VK->Prop):Prop :=
 ∀ (pins:List (Addr × Obj)) (s:Shared) (σ:St) (H:Hp) (o i:V) (ov iv:Value) (Q:VK),Inv X pins σ H s->RelV o ov->RelV i iv->t o i H Q->
  wpAny (model X.prog X.w) X.A (getItem ov iv) (EP X pins σ Q) X.xe s
theorem an6{o i e:Expr}{to ti te:TE}{tget:V->V->Hp->VK->Prop}{tip:TIp}{tset:aqa}{op:Operator}{tpos:Pos}(ho:PE X o to)(hi:PE X i ti)(hg:awg X tget)(he:PE X e te)(hp:PIp X op tip)(hs:av8 X tset)
  (ha:∀ ov iv new,augStore i ov iv new=(do holding [new,ov,iv] (setItem ov iv new);release [new,ov,iv] [];pure .next):=by intros;rfl):PS X (.AugAssign (.Subscript o i tpos) op e pos) (av9 to ti te tget tip tset):=by
 intro pins s σ H D I h
 refine wpAny_AugAssign_SubscriptAny (thn (ho pins s σ H _ I h) λov s1 ⟨x1,H1,I1,r1,q1⟩=>?_) ha;refine thn (hi pins s1 σ H1 _ I1 q1) λiv s2 ⟨x2,H2,I2,r2,q2⟩=>?_;refine thn (hg pins s2 σ H2 x1 x2 ov iv _ I2 r1 r2 q2) λold s3 ⟨x3,H3,I3,r3,q3⟩=>?_;refine thn (he pins s3 σ H3 _ I3 q3) λv s4 ⟨x4,H4,I4,r4,q4⟩=>?_;refine thn (hp pins s4 σ H4 x3 x4 old v _ I4 r3 r4 q4) λnew s5 ⟨x5,H5,I5,r5,q5⟩=>?_;exact thn (hs pins s5 σ H5 x1 x2 x5 ov iv new _ I5 r1 r2 r5 q5) λ_ s6 ⟨H6,I6,q6⟩=>⟨σ,H6,I6,q6⟩
end
section
variable{X:Cx}{pos:Pos}
def aqe(c:TT)(tb:TS):TS:=λD σ H=>∃ W:Nat->St->Hp->Prop,(∃ m,W m σ H)/\∀ m σ H,W m σ H->
 c σ H λb H1=>if b=true then ∃ N:St->Hp->Prop,(∀ σ' H',N σ' H'->∃ m',m'<m/\W m' σ' H')/\tb { D with nx:=N,ct:=N,bk:=D.nx } σ H1 else D.nx σ H1
theorem aiz{c:Expr}{body:List Stmt}{tc:TT}{tb:TS}(hp:PassesOwn (model X.prog X.w) X.A X.env X.xe)(hc:PT X c tc)(hb:PSs X body tb):PS X (.While c body [] pos) (aqe tc tb):=by
 intro pins s σ H D I h
 obtain ⟨W,⟨m0,w0⟩,turn⟩:=h;refine wpAny_While (codeAny_whileLoop (λn s'=>∃ σ' H',Inv X pins σ' H' s'/\W n σ' H') ?_ m0 ⟨σ,H,I,w0⟩)
 rintro n s1 ⟨σ1,H1,I1,w1⟩
 refine cY hp (thn (hc pins s1 σ1 H1 _ I1 (turn n σ1 H1 w1)) λb s2 ⟨H2,I2,q2⟩=>?_)
 cases b with
 | true =>
  obtain ⟨N,hN,q2⟩:=q2;rw [aA rfl];refine cY hp (thn (hb pins s2 σ1 H2 _ I2 q2) λf s3 q3=>?_)
  cases f with
  | next =>
   obtain ⟨σ3,H3,I3,n3⟩:=q3;obtain ⟨m',hm,w3⟩:=hN σ3 H3 n3;exact ⟨m',hm,σ3,H3,I3,w3⟩
  | cont =>
   obtain ⟨σ3,H3,I3,n3⟩:=q3;obtain ⟨m',hm,w3⟩:=hN σ3 H3 n3;exact ⟨m',hm,σ3,H3,I3,w3⟩
  | brk=>exact q3
  | ret v=>exact q3
 | false =>
  rw [aL aP];exact fz ⟨σ1,H2,I2,q2⟩
end
structure It where
 go:Nat->Hp->Prop
 yld:Nat->Hp->V->Hp->Prop
 stop:Nat->Hp->Prop
def FpOk(X:Cx)(pins:List (Addr × Obj))(H:Hp)(b:Addr):Prop :=
 H b=none/\b≠X.env.locals/\b ∉ X.fs/\(b∈X.ex\/X.s₀.heap.objs.size<=b)/\(∀ x c,X.env.cells.lookup x=some c->c≠b)/\∀ p∈X.pn++pins,p.1≠b
theorem Inv.fpOk(I:Inv X pins σ H s)(hb:s.heap.objs.size<=b)(hn:H' b=none):FpOk X pins H' b:=by
 refine ⟨hn,gW (aH I.lt hb),I.nofs hb, .inr (bL I.sz hb),λx c e z=>?_,λp hp z=>?_⟩
 ·obtain ⟨v,q⟩:=I.cell x c e;exact absurd (aH q.lt (by rw [z];exact hb)) (bH _)
 ·exact absurd (aH (aE (I.pin p hp).1) (by rw [z];exact hb)) (bH _)
structure Turn (P:Program) (w:World) (K:PySem.W.Frag) (tg:Expr) (J:It) (fp:List Addr) (it:Addr) (tn:Nat->Heap->Prop):Prop where
 mem:it∈fp
 obj:∀ i h,tn i h->∀ b∈fp,∃ o,h.get? b=some o/\∀ v,o.data≠.cell v
 keep:∀ i h h',tn i h->(∀ b∈fp,∀ o,h.get? b=some o->h'.get? b=some o)->tn i h'
 item:∀ (X:Cx),X.prog=P->X.w=w->X.K=K->X.calm=true->∀ (i:Nat) (pins:List (Addr × Obj)) (s:Shared) (σ:St) (H:Hp) (E:Value->Shared->Prop),Inv X pins σ H s->(∀ b∈fp,FpOk X pins H b)->tn i s.heap->J.go i H->
  wpAny (model P w) X.A (pyNext (.ref it)) (λr s1=>∃ u,r=some u /\
   wpAny (model P w) X.A (letOwnedTupleGo tg (.ref it) u) (λ_ s2=>∃ x H',Inv X pins σ H' s2/\RelV x u/\J.yld i H x H'/\tn (i+1) s2.heap/\∀ b∈fp,H' b=none) E s1) E s
 done:∀ (X:Cx),X.prog=P->X.w=w->X.K=K->X.calm=true->∀ (i:Nat) (pins:List (Addr × Obj)) (s:Shared) (σ:St) (H:Hp) (E:Value->Shared->Prop),Inv X pins σ H s->(∀ b∈fp,FpOk X pins H b)->tn i s.heap->J.stop i H->
  wpAny (model P w) X.A (pyNext (.ref it)) (λr s1=>r=none/\Inv X pins σ H s1) E s
 self:∀ (A:Around) (i:Nat) (s:Shared) (Q:Value->Shared->Prop) (E:Value->Shared->Prop),tn i s.heap->Q (.ref it) s->wpAny (model P w) A (pyIter (.ref it)) Q E s
abbrev TI:=St->Hp->(It->Hp->Prop)->Prop
def PIE(X:Cx)(pins:List (Addr × Obj))(σ:St)(tg:Expr)(R:It->Hp->Prop)(itv:Value)(s2:Shared):Prop :=
 ∃ (it:Addr) (fp:List Addr) (tn:Nat->Heap->Prop) (J:It) (H':Hp),itv = .ref it/\Inv X pins σ H' s2/\Turn X.prog X.w X.K tg J fp it tn/\tn 0 s2.heap/\(∀ b∈fp,FpOk X pins H' b)/\R J H'
def PI(X:Cx)(tg iter:Expr)(wi:TI):Prop :=
 ∀ (pins:List (Addr × Obj)) (s:Shared) (σ:St) (H:Hp) (R:It->Hp->Prop),Inv X pins σ H s->wi σ H R->
  wpAny (model X.prog X.w) X.A (eval iter X.env) (λv s1=>wpAny (model X.prog X.w) X.A (pyIter v) (PIE X pins σ tg R) X.xe s1) X.xe s
theorem aj0{s:Shared}(ho:s.heap.get? it=some o)(hc:o.cls = .type n)(hd:o.data = .fields vs)
  (hn:["enumerate", "zip", "dict_itemiterator", "dict_reverseitemiterator", "odict_iterator", "itertools.zip_longest", "itertools.pairwise"].contains n=false) (hQ:Q () s):wpAny M A (letOwnedTupleGo tg (.ref it) u) Q E s:=by
 unfold letOwnedTupleGo
 cases tg<;>first
  | exact aw hQ
  | (cases u<;>first
    | exact aw hQ
    | (refine ae (wpAny_load ho ?_)
       rw [hc,hd];show wpAny M A (if (["enumerate", "zip", "dict_itemiterator", "dict_reverseitemiterator", "odict_iterator", "itertools.zip_longest", "itertools.pairwise"].contains n && vs[0]? == some (rawInt _))=true then _ else _) Q E s
       rw [aL (by intro h;rw [hn,Bool.false_and] at h;cases h)]
       exact aw hQ))
def Itl(K:PySem.W.Frag)(a:Addr):It :=
 ⟨λi H=>∃ xs x,SqL K H a xs/\xs[i]? = some x,λi H x H'=>H'=H/\∀ xs,SqL K H a xs->xs[i]? = some x,λi H=>∃ xs,SqL K H a xs/\xs.length<=i⟩
def Itt(K:PySem.W.Frag)(a:Addr):It :=
 ⟨λi H=>∃ xs x,SqT K H a xs/\xs[i]? = some x,λi H x H'=>H'=H/\∀ xs,SqT K H a xs->xs[i]? = some x,λi H=>∃ xs,SqT K H a xs/\xs.length<=i⟩
def Itr(lo:Int)(n:Nat):It:=⟨λi _=>i<n,λi H x H'=>H'=H/\x = .int (lo+i),λi _=>n<=i⟩
theorem af1{P:Program}{w:World}{K:PySem.W.Frag}{tg:Expr}(a it:Addr):Turn P w K tg (Itl K a) [it] it (λi h=>h.IsListIter it a i) where
 mem:=by simp
 obj:=λi h st b hb=>by
  have e:b=it:=by simpa using hb
  subst e;obtain ⟨o,e,c,d⟩:=st;exact ⟨o,e,λv z=>by rw [d] at z;cases z⟩
 keep:=λi h h' st k=>st.at λo e=>k it (by simp) o e
 item:=by
  intro X hP hw hK hc i pins s σ H E I hf st hg
  subst hP hw hK;obtain ⟨xs,x,hq,hx⟩:=hg;obtain ⟨its,rv,p,hz⟩:=I.list hq;obtain ⟨u,hu,ru⟩:=rv.get hx;obtain ⟨f0,f1,f2,f3,f4,f5⟩:=hf it (by simp)
  refine wpAny_pyNext_list_item st p.isList (x:=u) (by simpa using hu) λh' st' sb=>?_
  have I1:Inv X pins σ H { s with heap:=h' }:=I.turned (t':=s.toks) (λb o hb e=>(sb.2 b hb).trans e) f0 f1 f3 f4 f5
  obtain ⟨o,e,c,d⟩:=id st';exact ⟨u,rfl,aj0 (s:={ s with heap:=h' }) e c d (by decide) ⟨x,H,I1,ru,⟨rfl,λys hy=>by rw [I.list_inj hy hq];exact hx⟩,st',λb hb=>(hf b hb).1⟩⟩
 done:=by
  intro X hP hw hK hc i pins s σ H E I hf st hg
  subst hP hw hK;obtain ⟨xs,hq,hx⟩:=hg;obtain ⟨its,rv,p,hz⟩:=I.list hq;obtain ⟨f0,f1,f2,f3,f4,f5⟩:=hf it (by simp)
  have hl:=rv.length;exact wpAny_pyNext_list_end (I.ok.hd hc) st p.isList (by simp;omega) λh' eb=>⟨rfl,I.turned (t':=s.toks) (λb o hb e=>eb b o hb e) f0 f1 f3 f4 f5⟩
 self:=λ_ _ _ _ _ st h=>wpAny_pyIter_listiter st h
theorem adl{P:Program}{w:World}{K:PySem.W.Frag}{tg:Expr}(a it:Addr):Turn P w K tg (Itt K a) [it] it (λi h=>h.IsTupleIter it a i) where
 mem:=by simp
 obj:=λi h st b hb=>by
  have e:b=it:=by simpa using hb
  subst e;obtain ⟨o,e,c,d⟩:=st;exact ⟨o,e,λv z=>by rw [d] at z;cases z⟩
 keep:=λi h h' st k=>st.at λo e=>k it (by simp) o e
 item:=by
  intro X hP hw hK hc i pins s σ H E I hf st hg
  subst hP hw hK;obtain ⟨xs,x,hq,hx⟩:=hg;obtain ⟨its,rv,p,hz⟩:=I.tuple hq;obtain ⟨u,hu,ru⟩:=rv.get hx;obtain ⟨f0,f1,f2,f3,f4,f5⟩:=hf it (by simp)
  refine wpAny_pyNext_tuple_item st (show s.heap.IsTuple a its.toArray from p) (x:=u) (by simpa using hu) λh' st' sb=>?_
  have I1:Inv X pins σ H { s with heap:=h' }:=I.turned (t':=s.toks) (λb o hb e=>(sb.2 b hb).trans e) f0 f1 f3 f4 f5
  obtain ⟨o,e,c,d⟩:=id st';exact ⟨u,rfl,aj0 (s:={ s with heap:=h' }) e c d (by decide) ⟨x,H,I1,ru,⟨rfl,λys hy=>by rw [I.tuple_inj hy hq];exact hx⟩,st',λb hb=>(hf b hb).1⟩⟩
 done:=by
  intro X hP hw hK hc i pins s σ H E I hf st hg
  subst hP hw hK;obtain ⟨xs,hq,hx⟩:=hg;obtain ⟨its,rv,p,hz⟩:=I.tuple hq;obtain ⟨f0,f1,f2,f3,f4,f5⟩:=hf it (by simp)
  have hl:=rv.length;exact wpAny_pyNext_tuple_end (I.ok.hd hc) st (show s.heap.IsTuple a its.toArray from p) (by simp;omega) λh' eb=>⟨rfl,I.turned (t':=s.toks) (λb o hb e=>eb b o hb e) f0 f1 f3 f4 f5⟩
 self:=λ_ _ _ _ _ st h=>wpAny_pyIter_tupleiter st h
theorem adm{P:Program}{w:World}{K:PySem.W.Frag}{tg:Expr}(it:Addr)(lo:Int)(n:Nat):Turn P w K tg (Itr lo n) [it] it (λi h=>IsRangeIter h it (lo+(i:Nat)*1) ((n:Int) - (i:Nat)) 1) where
 mem:=by simp
 obj:=λi h st b hb=>by
  have e:b=it:=by simpa using hb
  subst e;exact ⟨_,st,λv z=>by
   have z':Data.fields _=Data.cell v:=z
   cases z'⟩
 keep:=λi h h' st k=>k it (by simp) _ st
 item:=by
  intro X hP hw hK hc i pins s σ H E I hf st hg
  subst hP hw hK;obtain ⟨f0,f1,f2,f3,f4,f5⟩:=hf it (by simp)
  have W:=Walks.range (prog:=X.prog) (w:=X.w) (I.ok.hd hc) it lo 1 n;refine W.item i s _ _ hg st λv h' tk hv st' kk=>?_;obtain ⟨t,rfl⟩:=hv;have I1:Inv X pins σ H { s with heap:=h',toks:=tk }:=I.turned (λb o hb e=>kk b o (by simpa using hb) e) f0 f1 f3 f4 f5
  refine ⟨_,rfl,aj0 (s:={ s with heap:=h',toks:=tk }) (n := "range_iterator") st' rfl rfl (by decide) ⟨.int (lo+i),H,I1,⟨t,?_⟩,⟨rfl,rfl⟩,st',λb hb=>(hf b hb).1⟩⟩
  rw [Int.mul_one]
 done:=by
  intro X hP hw hK hc i pins s σ H E I hf st hg
  subst hP hw hK;obtain ⟨f0,f1,f2,f3,f4,f5⟩:=hf it (by simp)
  exact wpAny_pyNext_range_end (I.ok.hd hc) st (by have:n<=i:=hg;omega) λh' eb=>⟨rfl,I.turned (t':=s.toks) (λb o hb e=>eb b o hb e) f0 f1 f3 f4 f5⟩
 self:=λ_ _ _ _ _ st h=>wpAny_pyIter_rangeiter st h
section
variable{X:Cx}{tg:Expr}
def ava(K:PySem.W.Frag)(tl:TE):TI:=λσ H R=>tl σ H λx H1=>∃ a,x = .ref a/\(∃ xs,SqL K H1 a xs)/\R (Itl K a) H1
def axk(K:PySem.W.Frag)(tl:TE):TI:=λσ H R=>tl σ H λx H1=>∃ a,x = .ref a/\(∃ xs,SqT K H1 a xs)/\R (Itt K a) H1
theorem af2{l:Expr}{tl:TE}(hl:PE X l tl):PI X tg l (ava X.K tl):=by
 intro pins s σ H R I h
 refine thn (hl pins s σ H _ I h) λv s1 ⟨x,H1,I1,r1,q1⟩=>?_;obtain ⟨a,e,⟨xs,hq⟩,q⟩:=q1;subst e;cases r1
 obtain ⟨its,rv,p,hz⟩:=I1.list hq;refine fY p.isList ?_;refine ⟨s1.heap.objs.size,[s1.heap.objs.size],_,_,H1,rfl,I1.kept (t':=s1.toks) λb o e=>ai _ e,af1 a _,⟨_,aK _ rfl,rfl,rfl⟩,λb hb=>?_,q⟩;have e:b=s1.heap.objs.size:=by simpa using hb
 subst e;exact I1.fpOk (ar _) (I1.hok.fresh (ar _))
theorem aqf{l:Expr}{tl:TE}(hl:PE X l tl):PI X tg l (axk X.K tl):=by
 intro pins s σ H R I h
 refine thn (hl pins s σ H _ I h) λv s1 ⟨x,H1,I1,r1,q1⟩=>?_;obtain ⟨a,e,⟨xs,hq⟩,q⟩:=q1;subst e;cases r1
 obtain ⟨its,rv,p,hz⟩:=I1.tuple hq;refine fK (show s1.heap.IsTuple a its.toArray from p) ?_
 refine ⟨s1.heap.objs.size,[s1.heap.objs.size],_,_,H1,rfl,I1.kept (t':=s1.toks) λb o e=>ai _ e,adl a _,⟨_,aK _ rfl,rfl,rfl⟩,λb hb=>?_,q⟩;have e:b=s1.heap.objs.size:=by simpa using hb
 subst e;exact I1.fpOk (ar _) (I1.hok.fresh (ar _))
theorem aj1{s:Shared}{lo hi:Int}{tk:Nat}(I:Inv X pins σ H s)(h1 : -(2 ^ 62)<=lo)(h2:lo<2 ^ 62)(h3 : -(2 ^ 62)<=hi)(h4:hi<2 ^ 62)
  (q:R (Itr lo (hi - lo).toNat) H):wpAny (model X.prog X.w) X.A (pyIter (.ref s.heap.objs.size)) (PIE X pins σ tg R) E { s with heap:=s.heap.push { cls:=.type "range",data:=.fields #[.int lo t, .int hi u, .int 1 v] },toks:=tk }:=by
 refine wpAny_pyIter_range (IsRange.new ..) (small_one h1 h2 h3 h4) ?_;have I1:Inv X pins σ H { s with heap:=s.heap.push { cls:=.type "range",data:=.fields #[.int lo t, .int hi u, .int 1 v] },toks:=tk }:=I.kept λb o e=>ai _ e
 refine ⟨(s.heap.push { cls:=.type "range",data:=.fields #[.int lo t, .int hi u, .int 1 v] }).objs.size,[(s.heap.push { cls:=.type "range",data:=.fields #[.int lo t, .int hi u, .int 1 v] }).objs.size],_,_,H,rfl,
  I1.kept (t':=tk) λb o e=>ai _ e,adm _ lo (hi - lo).toNat,?_,λb hb=>?_,q⟩
 ·have e1:lo+((0:Nat):Int)*1=lo:=by simp
  have e2:(((hi - lo).toNat:Nat):Int) - ((0:Nat):Int)=Builtin.Range.rangeSize lo hi 1:=by rw [rangeSize_one];split<;>omega
  show IsRangeIter _ _ (lo+((0:Nat):Int)*1) ((((hi - lo).toNat:Nat):Int) - ((0:Nat):Int)) 1;rw [e1,e2];exact aK _ rfl
 ·have e:b=(s.heap.push { cls:=.type "range",data:=.fields #[.int lo t, .int hi u, .int 1 v] }).objs.size:=by simpa using hb
  subst e;exact I1.fpOk (ar _) (I1.hok.fresh (ar _))
def avb(ta:TA):TI:=λσ H R=>ta σ H λvs H1=>∃ j:Int,vs=[.int j] /\ -(2 ^ 62)<=j/\j<2 ^ 62/\R (Itr 0 j.toNat) H1
theorem af3{a:Expr}{ta:TA}{p pos:Pos}(hg:Gl X "range")(hm:X.mg "range" = none)(ha:PA X [a] ta)(hs:starEach [a] X.env=[(false,eval a X.env)]:=by rfl):PI X tg (.Call (.Name "range" p) [a] [] pos) (avb ta):=by
 intro pins s σ H R I h
 refine Call_ (a6o I hg hm boot_range (cN (thn (ha pos pins s σ H _ I h) λus s1 ⟨vs,H1,I1,r1,q1⟩=>?_) hs rfl));obtain ⟨j,e,q1,q2,q⟩:=q1;subst e
 cases r1 with
 | cons r rr =>
  cases rr
  obtain ⟨t,rfl⟩:=r;exact call_range_1 (aj1 I1 (by omega) (by omega) q1 q2 (by simpa using q))
def axl(wi:TI)(g:TG)(tb:TS):TS:=λD σ H=>wi σ H λJ H1=>∃ W:Nat->Nat->St->Hp->Prop,(∃ m,W 0 m σ H1)/\∀ i m σ H,W i m σ H->
 (J.stop i H/\D.nx σ H)\/(J.go i H/\∃ N:St->Hp->Prop,(∀ σ' H',N σ' H'->∃ m',m'<m/\W (i+1) m' σ' H')/\∀ x H',J.yld i H x H'->g x σ H' λσ2 H2=>tb { D with nx:=N,ct:=N,bk:=D.nx } σ2 H2)
def vq(fp:List Addr)(h:Heap):List (Addr × Obj):=fp.filterMap λb=>(h.get? b).map λo=>(b,o)
theorem ju{h:Heap}(hb:b∈fp)(e:h.get? b=some o):(b,o)∈vq fp h:=fL.mpr ⟨b,hb,by rw [e];rfl⟩
theorem a95(hp:p∈vq fp h):p.1∈fp/\h.get? p.1=some p.2:=by
 obtain ⟨b,hb,e⟩:=fL.mp hp
 cases q:h.get? b with
 | none=>rw [q] at e;cases e
 | some o =>
  rw [q] at e;have e':(b,o)=p:=bv e;subst e';exact ⟨hb,q⟩
theorem Inv.pinned(I:Inv X pins σ H s)(hf:∀ b∈fp,FpOk X pins H b)(ho:∀ b∈fp,∃ o,s.heap.get? b=some o/\∀ v,o.data≠.cell v):Inv X (pins++vq fp s.heap) σ H s :=
 I.pins_of λp hp=>(aQ.mp hp).elim (λz=>I.pin p (aM _ z)) λz=>by
  obtain ⟨hb,e⟩:=a95 z;obtain ⟨f0,f1,f2,_⟩:=hf p.1 hb;obtain ⟨o,e',d⟩:=ho p.1 hb;rw [e] at e';cases e'
  exact ⟨e,f0,f1,f2,d⟩
theorem Inv.unpinned(I:Inv X (pins++pl) σ H s):Inv X pins σ H s:=I.pins_of λp hp=>I.pin p (aM _ (cr _ hp))
theorem aqg{iter:Expr}{body:List Stmt}{wi:TI}{g:TG}{tb:TS}{pos:Pos}(hp:PassesOwn (model X.prog X.w) X.A X.env X.xe)(hc:X.calm=true)(hi:PI X tg iter wi)(hg:PG X tg g)(hb:PSs X body tb)
  (hs:∀ x,foldedSetIterable iter X.env x=pure x:=by intro _;rfl):PS X (.For tg iter body [] pos) (axl wi g tb):=by
 intro pins s σ H D I h
 refine wpAny_For (thn (hi pins s σ H _ I h) λv s1 h1=>thn h1 λitv s2 h2=>?_) hs;obtain ⟨it,fp,tn,J,H2,e,I2,T,st2,f2,W,⟨m0,w0⟩,turn⟩:=h2;subst e;have stat:∀ {H':Hp},(∀ b∈fp,H' b=none)->∀ b∈fp,FpOk X pins H' b:=λhn b hb=>⟨hn b hb,(f2 b hb).2⟩;refine codeAny_forLoop_any (λn s'=>∃ i σ' H',Inv X pins σ' H' s'/\tn i s'.heap/\(∀ b∈fp,H' b=none)/\W i n σ' H') ?_ m0 ⟨0,σ,H2,I2,st2,λb hb=>(f2 b hb).1,w0⟩
 rintro n s3 ⟨i,σ3,H3,I3,st3,fr3,w3⟩
 rcases turn i n σ3 H3 w3 with ⟨stop,qn⟩ | ⟨go,N,hN,step⟩
 ·refine cY hp (thn (T.done X rfl rfl rfl hc i pins s3 σ3 H3 X.xe I3 (stat fr3) st3 stop) λr s4 ⟨hr,I4⟩=>?_);subst hr;exact fz ⟨σ3,H3,I4,qn⟩
 ·refine cY hp (thn (T.item X rfl rfl rfl hc i pins s3 σ3 H3 X.xe I3 (stat fr3) st3 go) λr s4 ⟨u,hr,h4⟩=>?_);subst hr;refine cY hp (thn h4 λ_ s5 ⟨x,H5,I5,r5,y5,st5,fr5⟩=>?_);have I5':=I5.pinned (stat fr5) (T.obj _ _ st5);refine cY hp (thn (hg _ s5 σ3 H5 x u _ I5' r5 (step x H5 y5)) λ_ s6 ⟨σ6,H6,I6,q6⟩=>?_);refine cY hp (thn (hb _ s6 σ6 H6 _ I6 q6) λf s7 q7=>?_);have again:∀ {σ7:St} {H7:Hp},Inv X (pins++vq fp s5.heap) σ7 H7 s7->N σ7 H7->∃ m,m<n/\∃ i σ' H',Inv X pins σ' H' s7/\tn i s7.heap/\(∀ b∈fp,H' b=none)/\W i m σ' H':=λ{σ7 H7} I7 n7=>by
   obtain ⟨m',hm,w7⟩:=hN σ7 H7 n7;refine ⟨m',hm,i+1,σ7,H7,I7.unpinned,T.keep _ _ _ st5 λb hb o e=>(I7.pin (b,o) (aM _ (aM _ (ju hb e)))).1,λb hb=>?_,w7⟩;obtain ⟨o,e,d⟩:=T.obj _ _ st5 b hb;exact (I7.pin (b,o) (aM _ (aM _ (ju hb e)))).2.1
  cases f with
  | next=>obtain ⟨σ7,H7,I7,n7⟩:=q7;exact again I7 n7
  | cont=>obtain ⟨σ7,H7,I7,n7⟩:=q7;exact again I7 n7
  | brk=>obtain ⟨σ7,H7,I7,q7⟩:=q7;exact ⟨σ7,H7,I7.unpinned,q7⟩
  | ret v=>obtain ⟨x7,σ7,H7,I7,r7,q7⟩:=q7;exact ⟨x7,σ7,H7,I7.unpinned,r7,q7⟩
end
abbrev R2:=V->V->Hp->VK->Prop
def OpR(X:Cx)(f:Value->Value->Sem Value)(r:R2):Prop :=
 ∀ (pins:List (Addr × Obj)) (s:Shared) (σ:St) (H:Hp) (x y:V) (v u:Value) (Q:VK),Inv X pins σ H s->RelV x v->RelV y u->r x y H Q->
  wpAny (model X.prog X.w) X.A (f v u) (EP X pins σ Q) X.xe s
def UnR(X:Cx)(f:Value->Sem Value)(r:V->Hp->VK->Prop):Prop :=
 ∀ (pins:List (Addr × Obj)) (s:Shared) (σ:St) (H:Hp) (x:V) (v:Value) (Q:VK),Inv X pins σ H s->RelV x v->r x H Q->
  wpAny (model X.prog X.w) X.A (f v) (EP X pins σ Q) X.xe s
def CallR(X:Cx)(f:Value)(r:List V->Hp->VK->Prop):Prop :=
 ∀ (pins:List (Addr × Obj)) (s:Shared) (σ:St) (H:Hp) (xs:List V) (us:List Value) (Q:VK),Inv X pins σ H s->Vals xs us->r xs H Q->
  wpAny (model X.prog X.w) X.A (call f us) (EP X pins σ Q) X.xe s
def axm(X:Cx)(r:V->Hp->(Bool->Hp->Prop)->Prop):Prop :=
 ∀ (pins:List (Addr × Obj)) (s:Shared) (σ:St) (H:Hp) (x:V) (v:Value) (Q:Bool->Hp->Prop),Inv X pins σ H s->RelV x v->r x H Q->
  wpAny (model X.prog X.w) X.A (truthy v) (TP X pins σ Q) X.xe s
def tOp(r:R2)(ta tb:TE):TE:=λσ H Q=>ta σ H λx H1=>tb σ H1 λy H2=>r x y H2 Q
def tUn(r:V->Hp->VK->Prop)(ta:TE):TE:=λσ H Q=>ta σ H λx H1=>r x H1 Q
def rI(C:Int->Int->Prop)(g:Int->Int->V):R2:=λx y H Q=>∃ i j,x = .int i/\y = .int j/\C i j/\Q (g i j) H
def rI0(g:Int->Int->V):R2:=λx y H Q=>∃ i j,x = .int i/\y = .int j/\Q (g i j) H
def rU(g:Int->V):V->Hp->VK->Prop:=λx H Q=>∃ i,x = .int i/\Q (g i) H
section
variable{X:Cx}{a b c:Expr}{ta tb tc:TE}{pos:Pos}
theorem avc(ha:PE X a ta)(hb:PE X b tb){pins:List (Addr × Obj)}{s:Shared}{σ:St}{H:Hp}{R:V->V->Hp->Prop}(I:Inv X pins σ H s)
  (h:ta σ H λx H1=>tb σ H1 λy H2=>R x y H2) {Q:Value->Shared->Prop} {f:Value->Value->Sem Value}
  (hf:∀ v u s2 x y H2,Inv X pins σ H2 s2->RelV x v->RelV y u->R x y H2->wpAny (model X.prog X.w) X.A (f v u) Q X.xe s2) :
  wpAny (model X.prog X.w) X.A (eval a X.env) (λv s₁=>wpAny (model X.prog X.w) X.A (eval b X.env) (λu s₂=>wpAny (model X.prog X.w) X.A (f v u) Q X.xe s₂) X.xe s₁) X.xe s:=by
 refine thn (ha pins s σ H _ I h) λv s1 ⟨x,H1,I1,r1,q1⟩=>?_;refine thn (hb pins s1 σ H1 _ I1 q1) λu s2 ⟨y,H2,I2,r2,q2⟩=>?_;exact hf v u s2 x y H2 I2 r1 r2 q2
theorem aqh{op:Operator}{r:R2}(ho:OpR X (binaryOp op) r)(ha:PE X a ta)(hb:PE X b tb):PE X (.BinOp a op b pos) (tOp r ta tb):=by
 intro pins s σ H Q I h
 exact wpAny_BinOp (avc ha hb I h λv u s2 x y H2 I2 rx ry q=>ho pins s2 σ H2 x y v u Q I2 rx ry q)
theorem avd{op:UnaryOp}{r:V->Hp->VK->Prop}(ho:UnR X (unaryOp op) r)(ha:PE X a ta):PE X (.UnaryOp op a pos) (tUn r ta):=by
 intro pins s σ H Q I h
 exact UnaryOp_ (thn (ha pins s σ H _ I h) λv s1 ⟨x,H1,I1,r1,q1⟩=>ho pins s1 σ H1 x v Q I1 r1 q1)
theorem opI{f:Value->Value->Sem Value}{C:Int->Int->Prop}{g:Int->Int->Int}
  (rule:∀ (i j:Int) (t u:Tok) (s:Shared) (Q:Value->Shared->Prop) (E:Value->Shared->Prop),C i j->Q (.int (g i j) s.toks) { s with toks:=s.toks+1 }->wpAny (model X.prog X.w) X.A (f (.int i t) (.int j u)) Q E s) :
  OpR X f (rI C λi j=>.int (g i j)):=by
 intro pins s σ H x y v u Q I rx ry h
 obtain ⟨i,j,rfl,rfl,hc,q⟩:=h;obtain ⟨t,rfl⟩:=rx;obtain ⟨t',rfl⟩:=ry;exact rule i j t t' s _ _ hc ⟨.int (g i j),H,I.tok _,⟨_,rfl⟩,q⟩
theorem aue{f:Value->Value->Sem Value}{g:Int->Int->Int}
  (rule:∀ (i j:Int) (t u:Tok) (s:Shared) (Q:Value->Shared->Prop) (E:Value->Shared->Prop),Q (.int (g i j) s.toks) { s with toks:=s.toks+1 }->wpAny (model X.prog X.w) X.A (f (.int i t) (.int j u)) Q E s) :
  OpR X f (rI0 λi j=>.int (g i j)):=by
 intro pins s σ H x y v u Q I rx ry h
 obtain ⟨i,j,rfl,rfl,q⟩:=h;obtain ⟨t,rfl⟩:=rx;obtain ⟨t',rfl⟩:=ry;exact rule i j t t' s _ _ ⟨.int (g i j),H,I.tok _,⟨_,rfl⟩,q⟩
theorem ave{f:Value->Value->Sem Value}{g:Int->Int->Bool}
  (rule:∀ (i j:Int) (t u:Tok) (s:Shared) (Q:Value->Shared->Prop) (E:Value->Shared->Prop),Q (.bool (g i j)) s->wpAny (model X.prog X.w) X.A (f (.int i t) (.int j u)) Q E s) :
  OpR X f (rI0 λi j=>.bl (g i j)):=by
 intro pins s σ H x y v u Q I rx ry h
 obtain ⟨i,j,rfl,rfl,q⟩:=h;obtain ⟨t,rfl⟩:=rx;obtain ⟨t',rfl⟩:=ry;exact rule i j t t' s _ _ ⟨.bl (g i j),H,I,rfl,q⟩
def avf(i j:Int):Prop:=0<j/\j<1073741824
def awh(i j:Int):Prop:=0<=j/\j<=1000000/\i.natAbs<2 ^ 64
def CMul(i j:Int):Prop:=(-(2 ^ 64)<i/\i<2 ^ 64)\/(-(2 ^ 64)<j/\j<2 ^ 64)
theorem CMul.ok(h:CMul i j):IntMulOk i j:=by
 rcases h with ⟨h1,h2⟩ | ⟨h1,h2⟩
 ·exact .of_left (intBits_le_64 h1 h2)
 ·exact .of_right (intBits_le_64 h1 h2)
theorem aqi:OpR X (binaryOp .Add) (rI0 λi j=>.int (i+j)):=aue λ_ _ _ _ _ _ _ q=>add_int q
theorem aqj:OpR X (binaryOp .Sub) (rI0 λi j=>.int (i - j)):=aue λ_ _ _ _ _ _ _ q=>sub_int q
theorem alx:OpR X (binaryOp .Mult) (rI CMul λi j=>.int (i*j)):=opI λ_ _ _ _ _ _ _ hc q=>mul_int q hc.ok
theorem an7:OpR X (binaryOp .FloorDiv) (rI avf λi j=>.int (i / j)):=opI λi j _ _ _ _ _ hc q=>by
 have h1:(0:Int)<j:=hc.1;have h2:j<1073741824:=hc.2;exact floordiv_int (by omega) (by rw [fH i (by omega)];exact q) (.inl (PyProof.noPylong_small (by omega)))
theorem aqk:OpR X (binaryOp .Mod) (rI (λ_ j=>0<j) λi j=>.int (i % j)):=opI λi j _ _ _ _ _ hc q=>by
 have h1:(0:Int)<j:=hc;exact mod_int' (by omega) (by rw [Int.fmod_eq_emod_of_nonneg i (by omega)];exact q)
theorem aql:OpR X (binaryOp .Pow) (rI awh λi j=>.int (i ^ j.toNat)):=opI λ_ _ _ _ _ _ _ hc q=>pow_int_small hc.1 hc.2.1 hc.2.2 q
theorem a3h:OpR X (inplaceOp .Add) (rI0 λi j=>.int (i+j)):=aue λ_ _ _ _ _ _ _ q=>iadd_int q
theorem aam:OpR X (inplaceOp .Sub) (rI0 λi j=>.int (i - j)):=aue λ_ _ _ _ _ _ _ q=>isub_int q
theorem aj2:OpR X (inplaceOp .FloorDiv) (rI avf λi j=>.int (i / j)):=opI λi j _ _ _ _ _ hc q=>by
 have h1:(0:Int)<j:=hc.1;have h2:j<1073741824:=hc.2;exact ifloordiv_int (by omega) (by rw [fH i (by omega)];exact q) (.inl (PyProof.noPylong_small (by omega)))
theorem unI{f:Value->Sem Value}{g:Int->Int}
  (rule:∀ (i:Int) (t:Tok) (s:Shared) (Q:Value->Shared->Prop) (E:Value->Shared->Prop),Q (.int (g i) s.toks) { s with toks:=s.toks+1 }->wpAny (model X.prog X.w) X.A (f (.int i t)) Q E s) :
  UnR X f (rU λi=>.int (g i)):=by
 intro pins s σ H x v Q I rx h
 obtain ⟨i,rfl,q⟩:=h;obtain ⟨t,rfl⟩:=rx;exact rule i t s _ _ ⟨.int (g i),H,I.tok _,⟨_,rfl⟩,q⟩
theorem aqm:UnR X (unaryOp .USub) (rU λi=>.int (-i)):=unI λ_ _ _ _ _ q=>neg_int q
end
section
variable{X:Cx}{a b c:Expr}{ta tb tc:TE}{pos:Pos}
theorem af4(I:Inv X pins σ H s)(q:Q (.bl k) H)(e:k=k'):EP X pins σ Q (.bool k') s:=by
 subst e;exact ⟨.bl k,H,I,rfl,q⟩
theorem a7e:OpR X (compareOp .Lt) (rI0 λi j=>.bl (decide (i<j))):=ave λ_ _ _ _ _ _ _ q=>lt_int q
theorem aj3:OpR X (compareOp .Gt) (rI0 λi j=>.bl (decide (j<i))):=ave λ_ _ _ _ _ _ _ q=>gt_int q
theorem an8:OpR X (compareOp .GtE) (rI0 λi j=>.bl (decide (j<=i))):=ave λ_ _ _ _ _ _ _ q=>ge_int q
theorem ud:OpR X (compareOp .Lt) (λx y H Q=>∃ i j,x = .str i/\y = .str j/\Q (.bl (decide (i.cps.toList<j.cps.toList))) H):=by
 intro pins s σ H x y v u Q I rx ry h
 obtain ⟨i,j,rfl,rfl,q⟩:=h;obtain ⟨t,rfl⟩:=rx;obtain ⟨t',rfl⟩:=ry;exact lt_str (af4 I q rfl)
theorem af5:OpR X (compareOp .In) (λx y H Q=>∃ i j,x = .str i/\y = .str j/\Q (.bl (!(Builtin.Str.occurrences j i 0 j.length 1).isEmpty)) H):=by
 intro pins s σ H x y v u Q I rx ry h
 obtain ⟨i,j,rfl,rfl,q⟩:=h;obtain ⟨t,rfl⟩:=rx;obtain ⟨t',rfl⟩:=ry;exact in_str (af4 I q rfl)
theorem a96:OpR X (compareOp .NotIn) (λx y H Q=>∃ i j,x = .str i/\y = .str j/\Q (.bl (!(!(Builtin.Str.occurrences j i 0 j.length 1).isEmpty))) H):=by
 intro pins s σ H x y v u Q I rx ry h
 obtain ⟨i,j,rfl,rfl,q⟩:=h;obtain ⟨t,rfl⟩:=rx;obtain ⟨t',rfl⟩:=ry;exact notIn_str (af4 I q rfl)
theorem OpR.or(h:OpR X f r)(h':OpR X f r'):OpR X f (λx y H Q=>r x y H Q\/r' x y H Q):=by
 intro pins s σ H x y v u Q I rx ry q
 rcases q with q | q
 ·exact h pins s σ H x y v u Q I rx ry q
 ·exact h' pins s σ H x y v u Q I rx ry q
theorem jh(b:Expr)(h:op≠.In:=by decide)(h2:op≠.NotIn:=by decide):behindInMarks op b=false:=by
 have e1:(op == CmpOp.In)=false:=by cases op<;>first | rfl | exact absurd rfl h
 have e2:(op == CmpOp.NotIn)=false:=by cases op<;>first | rfl | exact absurd rfl h2
 cases b<;>simp [behindInMarks,e1,e2]
theorem an9(ho:OpR X (compareOp op) r)(ha:PE X a ta)(hb:PE X b tb)(hm:behindInMarks op b=false):PE X (.Compare a [op] [b] pos) (tOp r ta tb):=by
 intro pins s σ H Q I h
 exact wpAny_Compare1 (avc ha hb I h λv u s2 x y H2 I2 rx ry q=>ho pins s2 σ H2 x y v u Q I2 rx ry q) hm
def aqn(t:TE):TT:=λσ H Q=>t σ H λx H'=>∃ k,x = .bl k/\Q k H'
theorem ana{op:CmpOp}{r:R2}(ho:OpR X (compareOp op) r)(ha:PE X a ta)(hb:PE X b tb)(hm:behindInMarks op b=false):PT X (.Compare a [op] [b] pos) (aqn (tOp r ta tb)):=by
 intro pins s σ H Q I h
 refine wpAny_isTrue_Compare1 (thn (ha pins s σ H _ I h) λv s1 ⟨x,H1,I1,r1,q1⟩=>thn (hb pins s1 σ H1 _ I1 q1) λu s2 ⟨y,H2,I2,r2,q2⟩ =>
  thn (ho pins s2 σ H2 x y v u _ I2 r1 r2 q2) λc s3 ⟨z,H3,I3,r3,k,e,q3⟩=>?_) hm
 subst e;cases r3
 exact wpAny_truthy_bool ⟨H3,I3,q3⟩
def avh(K:PySem.W.Frag)(x:V)(H:Hp)(k:Bool):Prop :=
 match x with
 | .non=>k=false
 | .bl b=>k=b
 | .int i=>k=(i != 0)
 | .str y=>y.length<=sizeLine/\k=((y.length:Int) != 0)
 | .byt y=>y.size<=sizeLine/\k=((y.size:Int) != 0)
 | .ref p=>(∃ xs,SqL K H p xs/\k = !xs.isEmpty)\/(∃ xs,SqT K H p xs/\k = !xs.isEmpty)\/∃ kvs,H p=some (.dK kvs)/\k = !kvs.isEmpty
 | _=>False
theorem adn{κ:Type}{kvs:List (κ × V)}{vs:List (κ × Value)}(r:KV kvs vs):(!vs.isEmpty) = !kvs.isEmpty:=by
 cases r<;>rfl
theorem a6p(r:Vals xs its):(!its.toArray.isEmpty) = !xs.isEmpty:=by
 cases r<;>simp
theorem a4a:(sizeLine:Nat)<2 ^ 63:=by rw [dE];decide
theorem aqo:axm X (λx H Q=>∃ k,avh X.K x H k/\Q k H):=by
 intro pins s σ H x v Q I rx h
 obtain ⟨k,e,q⟩:=h;have hl:=a4a;have hs:sizeLine=16777216:=dE
 cases x with
 | non =>
  cases rx
  have e':k=false:=e;subst e';exact truthy_none ⟨H,I,q⟩
 | bl b =>
  cases rx
  have e':k=b:=e;subst e';exact wpAny_truthy_bool ⟨H,I,q⟩
 | int i =>
  obtain ⟨t,rfl⟩:=rx;have e':k=(i != 0):=e;subst e';exact PySem.P.truthy_int ⟨H,I,q⟩
 | str y =>
  obtain ⟨t,rfl⟩:=rx;obtain ⟨hy,e'⟩:y.length<=sizeLine/\k=((y.length:Int) != 0):=e;subst e';exact PySem.P.truthy_str (by omega) ⟨H,I.tok _,q⟩
 | byt y =>
  obtain ⟨t,rfl⟩:=rx;obtain ⟨hy,e'⟩:y.size<=sizeLine/\k=((y.size:Int) != 0):=e;subst e';exact PySem.W.truthy_bytes (by omega) ⟨H,I.tok _,q⟩
 | ref p =>
  cases rx
  have e':(∃ xs,SqL X.K H p xs/\k = !xs.isEmpty)\/(∃ xs,SqT X.K H p xs/\k = !xs.isEmpty)\/∃ kvs,H p=some (.dK kvs)/\k = !kvs.isEmpty:=e
  rcases e' with ⟨xs,hx,e'⟩ | ⟨xs,hx,e'⟩ | ⟨kvs,hx,e'⟩
  ·subst e';obtain ⟨its,r,pl,hz⟩:=I.list hx;have hlen:=r.length;exact wpAny_truthy_list pl.isList (by simp only [ay];omega) ⟨H,I.tok _,by rw [a6p r];exact q⟩
  ·subst e';obtain ⟨its,r,pl,hz⟩:=I.tuple hx;have hlen:=r.length;exact truthy_tuple pl (by simp only [ay];omega) ⟨H,I.tok _,by rw [a6p r];exact q⟩
  ·subst e';obtain ⟨hz,hS,vs,r,m⟩:kvs.length<=sizeLine/\(p == sysModules)=false/\∃ vs,KV kvs vs/\s.heap.DictOf (a4w X.prog X.w) p vs:=I.hok p _ hx;have hlen:kvs.length=vs.length:=Paired.length r;exact wpAny_truthy_dict hS m (by omega) ⟨H,I.tok _,by rw [adn r];exact q⟩
 | _=>exact (show False from e).elim
theorem aj4(ha:PE X a ta)(he:∀ whole,isTrue a X.env whole=(do let v <-whole;standAt a.pos;holding [v] (truthy v))) :
  PT X a (λσ H Q=>ta σ H λx H'=>∃ k,avh X.K x H' k/\Q k H'):=by
 intro pins s σ H Q I h
 exact isTrue_plain (thn (ha pins s σ H _ I h) λv s1 ⟨x,H1,I1,r1,q1⟩=>aqo pins s1 σ H1 x v Q I1 r1 q1) (he _)
theorem ado:OpR X (binaryOp .Add) (λx y H Q=>∃ i j,x = .str i/\y = .str j/\i.length+j.length<=sizeLine/\Q (.str (i++j)) H):=by
 intro pins s σ H x y v u Q I rx ry h
 obtain ⟨i,j,rfl,rfl,hz,q⟩:=h;obtain ⟨t,rfl⟩:=rx;obtain ⟨t',rfl⟩:=ry;exact add_str (λt' tk=>⟨.str (i++j),H,I.tok _,⟨_,rfl⟩,q⟩) hz
theorem uz:OpR X (inplaceOp .Add) (λx y H Q=>∃ i j,x = .str i/\y = .str j/\i.length+j.length<=sizeLine/\Q (.str (i++j)) H):=by
 intro pins s σ H x y v u Q I rx ry h
 obtain ⟨i,j,rfl,rfl,hz,q⟩:=h;obtain ⟨t,rfl⟩:=rx;obtain ⟨t',rfl⟩:=ry;exact iadd_str (λt' tk=>⟨.str (i++j),H,I.tok _,⟨_,rfl⟩,q⟩) hz
theorem vals1(r:Vals [x] us):∃ u,us=[u]/\RelV x u:=by
 cases r with
 | cons r1 r2=>cases r2;exact ⟨_,rfl,r1⟩
theorem vals2(r:Vals [x,y] us):∃ u w',us=[u,w']/\RelV x u/\RelV y w':=by
 cases r with
 | cons r1 r2 =>
  cases r2 with
  | cons r3 r4=>cases r4;exact ⟨_,_,rfl,r1,r3⟩
theorem aj5:CallR X (.builtin "abs") (λxs H Q=>∃ i,xs=[.int i]/\Q (.int (if i<0 then -i else i)) H):=by
 intro pins s σ H xs us Q I r h
 obtain ⟨i,rfl,q⟩:=h;obtain ⟨u,rfl,t,rfl⟩:=vals1 r;exact call_abs_int λu tk=>⟨.int (if i<0 then -i else i),H,I.tok _,⟨_,rfl⟩,q⟩
theorem af6(hc:X.calm=true):CallR X (.builtin "max") (λxs H Q=>∃ i j,xs=[.int i, .int j]/\Q (.int (if j > i then j else i)) H):=by
 intro pins s σ H xs us Q I r h
 obtain ⟨i,j,rfl,q⟩:=h;obtain ⟨u,w',rfl,⟨t,rfl⟩,⟨t',rfl⟩⟩:=vals2 r;refine max_two_ints (I.ok.hd hc) λh' tk k=>⟨_,H,I.kept k,?_,q⟩
 by_cases hj:j > i
 ·rw [aA hj,aA hj];exact ⟨_,rfl⟩
 ·rw [aL hj,aL hj];exact ⟨_,rfl⟩
theorem af7:CallR X (.type "int") (λxs H Q=>(∃ i,xs=[.int i]/\Q (.int i) H)\/∃ k,xs=[.bl k]/\Q (.int (if k then 1 else 0)) H):=by
 intro pins s σ H xs us Q I r h
 rcases h with ⟨i,rfl,q⟩ | ⟨k,rfl,q⟩
 ·obtain ⟨u,rfl,t,rfl⟩:=vals1 r;exact call_int_int ⟨.int i,H,I,⟨_,rfl⟩,q⟩
 ·obtain ⟨u,rfl,r1⟩:=vals1 r;cases r1
  exact call_int_bool ⟨.int (if k then 1 else 0),H,I.tok _,⟨_,rfl⟩,q⟩
end
structure ObjM (h:Heap) (x dx C:Addr) (mA:Str->Option Value):Prop where
 obj:h.get? x=some (PySem.W.instObj C dx)
 ns:h.Ns1 dx mA
 ne:dx≠x
theorem af8{h:Heap}(n:h.Ns1 dx mA):∃ od,h.get? dx=some od/\∀ name,PySem.W.lookIn name od=some (mA name):=by
 obtain ⟨o,es,ep,ho,hd,hk,_,hm⟩:=n;refine ⟨o,ho,λname=>?_⟩;have e:=hm name;unfold nsFind findBy at e;rw [<-Array.find?_toList] at e;unfold PySem.W.lookIn;rw [hd];dsimp only
 split
 ·rename_i y q;rw [q] at e;exact af some e
 ·rename_i q;rw [q] at e;have a:es.toList.any (·.refKey)=false:=by
   rw [List.any_eq_false]
   intro y hy
   obtain ⟨z,t,hkey⟩:=hk y (Array.mem_toList_iff.mp hy);simp [DictEntry.refKey,hkey]
  have a':¬ es.toList.any (·.refKey)=true:=by rw [a];exact aP
  rw [aL a'];exact af some e
theorem ObjM.look(I:ObjM h x dx C mA):∃ od,PySem.W.InstAt h x (PySem.W.instObj C dx) C (some od)/\∀ name,PySem.W.lookIn name od=some (mA name) :=
 let ⟨od,ho,hl⟩:=af8 I.ns
 ⟨od,⟨I.obj,rfl,rfl,ho⟩,hl⟩
section
variable{P:Program}{w:World}{H H':Hp}{h h':Heap}{a C dx:Addr}{fs fs':List (Str × V)}
theorem anb(hok:HOk P w H h)(e:H a=some (.ins C dx fs)):∃ mA,ObjM h a dx C mA/\(∀ f,RelO (fs.lookup f) (mA f))/\PySem.Within mA (fs.map (·.1))/\fs.length<=1000/\H dx=some (.own a):=by
 obtain ⟨d,z,ne,ob,mA,n,r,q⟩:=(show ObjOk P w H h a (.ins C dx fs) from hok a _ e)
 exact ⟨mA,⟨ob,n,ne⟩,r,q,z,d⟩
end
structure Cls (K:PySem.W.Frag) (C:Addr):Prop where
 pg:PySem.W.plainGet K C Str.empty=true
 hd:PySem.W.hasDictIn K C=true
 po:PySem.W.plainOver K C=true
 sa:PySem.W.findIn K (.ref C) "__setattr__" = some (some (.builtin "object.__setattr__"))
theorem Cls.get{K:PySem.W.Frag}{C:Addr}(c:Cls K C)(f:Str):PySem.W.plainGet K C f=true:=c.pg
section
variable{X:Cx}{pins:List (Addr × Obj)}{σ:St}{H:Hp}{s:Shared}{A:Around}{E:Value->Shared->Prop}{Q:Value->Shared->Prop}{c:Value}{b:Bool}
inductive TyOf (K:PySem.W.Frag) (H:Hp):V->Value->Prop where
 | non:TyOf K H .non (.type "NoneType")
 | bl (x:Bool):TyOf K H (.bl x) (.type "bool")
 | int (i:Int):TyOf K H (.int i) (.type "int")
 | str (x:Str):TyOf K H (.str x) (.type "str")
 | flt (x:UInt64):TyOf K H (.flt x) (.type "float")
 | lst {a:Addr} {xs:List V} (e:H a=some (.lst xs)):TyOf K H (.ref a) (.type "list")
 | frz {a:Addr} {o:Obj} {xs:List V} (e:H a=some (.frz o (.lst xs))):TyOf K H (.ref a) (.type "list")
 | tup {a:Addr} {xs:List V} (e:H a=some (.tup xs)):TyOf K H (.ref a) (.type "tuple")
 | dK {a:Addr} {kvs:List (Key × V)} (e:H a=some (.dK kvs)):TyOf K H (.ref a) (.type "dict")
 | dT {a:Addr} {kvs:List (List Key × V)} (e:H a=some (.dT kvs)):TyOf K H (.ref a) (.type "dict")
 | ins {a C dx:Addr} {fs:List (Str × V)} (e:H a=some (.ins C dx fs)) (cl:Cls K C) (ha:PySem.W.findIn K (.ref C) "__class__" = some (some (.builtin "object.__class__")))
   (hn:PySem.W.specialIn K (.builtin "object.__class__") "__get__" = some (some (.builtin "getset_descriptor.__get__"))) (htk:PySem.W.takesIn K (.builtin "object.__class__")=some true)
   (hm:PySem.W.mroIn K C (.type "object")=some true):TyOf K H (.ref a) (.ref C)
theorem af9(I:Inv X pins σ H s)(rx:RelV x u)(ty:TyOf X.K H x t)(e:PySem.W.kitOne X.K t c=some b)(h:∀ tk,Q (.bool b) { s with toks:=tk }) :
  wpAny (model X.prog X.w) A (call (.builtin "isinstance") [u,c]) Q E s:=by
 cases ty with
 | non=>cases (show u=Value.none from rx);exact bQ PySem.W.kitx_none I.kIn True.intro e (λz=>nomatch z) h
 | bl y=>cases (show u=Value.bool y from rx);exact bQ PySem.W.kitx_bool I.kIn True.intro e (λz=>nomatch z) h
 | int i=>obtain ⟨t,q⟩:=(show ∃ t,u=Value.int i t from rx);cases q;exact bQ PySem.W.kitx_int I.kIn True.intro e (λz=>nomatch z) h
 | str y=>obtain ⟨t,q⟩:=(show ∃ t,u=Value.str y t from rx);cases q;exact bQ PySem.W.kitx_str I.kIn True.intro e (λz=>nomatch z) h
 | flt y=>obtain ⟨t,q⟩:=(show ∃ t,u=Value.float y t from rx);cases q;exact bQ PySem.W.kitx_float I.kIn True.intro e (λz=>nomatch z) h
 | @lst a xs ea =>
  cases (show u=Value.ref a from rx)
  obtain ⟨_,_,n,_,h1⟩:=(show ObjOk X.prog X.w H s.heap a (.lst xs) from I.hok a _ ea)
  exact bQ PySem.W.kitx_list I.kIn ⟨_,h1,rfl⟩ e (λz=>nomatch z) h
 | @frz a ob xs ea =>
  cases (show u=Value.ref a from rx)
  obtain ⟨_,_,_,n,_,h1⟩:=(show ObjOk X.prog X.w H s.heap a (.frz ob (.lst xs)) from I.hok a _ ea)
  exact bQ PySem.W.kitx_list I.kIn ⟨_,h1,rfl⟩ e (λz=>nomatch z) h
 | @tup a xs ea =>
  cases (show u=Value.ref a from rx)
  obtain ⟨_,_,_,p⟩:=(show ObjOk X.prog X.w H s.heap a (.tup xs) from I.hok a _ ea)
  obtain ⟨o,h1,h2,_⟩:=p;exact bQ PySem.W.kitx_tuple I.kIn ⟨o,h1,h2⟩ e (λz=>nomatch z) h
 | @dK a kvs ea =>
  cases (show u=Value.ref a from rx)
  obtain ⟨_,_,vs,_,p⟩:=(show ObjOk X.prog X.w H s.heap a (.dK kvs) from I.hok a _ ea)
  obtain ⟨o,es,ep,h1,h2,_⟩:=p;exact bQ fZ I.kIn ⟨o,h1,h2.1⟩ e (λz=>nomatch z) h
 | @dT a kvs ea =>
  cases (show u=Value.ref a from rx)
  obtain ⟨_,_,xs,_,o,es,ep,h1,h2,_⟩:=(show ObjOk X.prog X.w H s.heap a (.dT kvs) from I.hok a _ ea)
  exact bQ fZ I.kIn ⟨o,h1,h2.1⟩ e (λz=>nomatch z) h
 | @ins a C dx fs ea cl ha hn htk hm =>
  cases (show u=Value.ref a from rx)
  obtain ⟨mA,O,_⟩:=anb I.hok ea;obtain ⟨od,J,_⟩:=O.look;exact bQ (PySem.W.kitx_own (cl.get _) cl.hd ha hn htk hm) I.kIn J e (λz=>nomatch z) h
end
structure Room (k:Nat) (A:Around):Prop where
 hd:A.handled=none
 dp:A.depth+3*k+5<recursionLimit
 un:A.units+16*k+200<cLine
 gd:A.guards=some []
theorem Room.mono(r:Room k A)(h:j<=k):Room j A:=⟨r.hd,by have:=r.dp;omega,by have:=r.un;omega,r.gd⟩
theorem Room.deeper(r:Room (k+1) A)(env:Env):Room k (A.deeper env) :=
 ⟨r.hd,by have:=r.dp;show A.depth+1+3*k+5<_;omega,by have:=r.un;show A.units+3+16*k+200<_;omega,r.gd⟩
theorem Room.depth(r:Room k A):A.depth<recursionLimit:=by have:=r.dp;omega
theorem Room.units(r:Room k A):A.units+64<cLine:=by have:=r.un;omega
def awi:TA:=λ_ H Q=>Q [] H
def avi(ta:TE)(tr:TA):TA:=λσ H Q=>ta σ H λx H1=>tr σ H1 λxs H2=>Q (x::xs) H2
section
variable{X:Cx}{e:Expr}{es:List Expr}{te:TE}{t:TA}{pos:Pos}
theorem a2i:PA X [] awi:=λ_ _ _ _ H Q I h=>Calls.spliced_nil ⟨[],H,I, .nil,h⟩
theorem a05(ha:PE X e te)(hr:PA X es t)(hs:starEach (e::es) X.env=(false,eval e X.env)::starEach es X.env:=by rfl):PA X (e::es) (avi te t):=by
 intro pos pins s σ H Q I h
 rw [hs];show wpAny _ _ (spliced ((false,eval e X.env)::backTo pos (starEach es X.env))) _ _ s;refine Calls.spliced_cons (thn (ha pins s σ H _ I h) λu s1 ⟨x,H1,I1,r1,q1⟩=>?_);exact thn (hr pos pins s1 σ H1 _ I1 q1) λus s2 ⟨xs,H2,I2,r2,q2⟩=>⟨x::xs,H2,I2, .cons r1 r2,q2⟩
def axn(t:TA):TE:=λσ H Q=>t σ H λxs H1=>xs.length<=sizeLine/\∀ p,H1 p=none->Q (.ref p) (upd H1 p (.tup xs))
def axo(t:TA):TE:=λσ H Q=>t σ H λxs H1=>xs.length<=sizeLine/\∀ p,H1 p=none->Q (.ref p) (upd H1 p (.lst xs))
theorem aqp{x1}(h:PA X es t):PE X (.Tuple es x1 pos) (axn t):=by
 intro pins s σ H Q I hq
 refine wpAny_Tuple_spliced (thn (h pos pins s σ H _ I hq) λus s1 ⟨xs,H1,I1,r,z,q⟩=>⟨by rw [<-r.length];exact z,?_⟩)
 have hf:H1 s1.heap.objs.size=none:=I1.hok.fresh (ar _);refine ⟨.ref s1.heap.objs.size,upd H1 s1.heap.objs.size (.tup xs),I1.laid (t':=s1.toks) (λb u e=>ai _ e) (ar _) ?_,rfl,q _ hf⟩;exact ⟨z,us,r,⟨_,aK _ rfl,rfl,_,rfl⟩⟩
theorem aqq(h:PA X es t):PE X (.List es pos) (axo t):=by
 intro pins s σ H Q I hq
 refine wpAny_List_spliced (thn (h pos pins s σ H _ I hq) λus s1 ⟨xs,H1,I1,r,z,q⟩=>⟨by rw [<-r.length];exact z,?_⟩)
 have hf:H1 s1.heap.objs.size=none:=I1.hok.fresh (ar _);refine ⟨.ref s1.heap.objs.size,upd H1 s1.heap.objs.size (.lst xs),I1.laid (t':=s1.toks) (λb u e=>ai _ e) (ar _) ?_,rfl,q _ hf⟩;exact ⟨z,us,0,r,aK _ rfl⟩
end
abbrev Sp:=List V->Hp->VK->XK->Prop
abbrev CXT:=List Env->Hp->Shared->XK->Value->Shared->Prop
structure Env0 (P:Program) (w:World) (K:PySem.W.Frag) (mg:Str->Option Value) (base:Heap) (A:Around) (outer:List Env) (s:Shared) (H:Hp):Prop where
 frames:A.frames=some outer
 mod:Mod K mg base
 bs:∀ b o,base.get? b=some o->s.heap.get? b=some o/\H b=none
 bsz:base.objs.size<=s.heap.objs.size
 funs:s.heap.FunFrames base outer
 frf:∀ b∈frs outer,H b=none
 hok:HOk P w H s.heap
 bare:AllBare s.gens
def CE(outer:List Env)(P:Program)(w:World)(H:Hp)(s:Shared)(Q:VK)(u:Value)(s':Shared):Prop :=
 ∃ v H',s'.os=s.os/\AllBare s'.gens/\Un (frs outer) [] H H' s.heap s'.heap/\HOk P w H' s'.heap/\RelV v u/\Q v H'
def CR(CX:CXT)(outer:List Env)(P:Program)(w:World)(H:Hp)(s:Shared)(Q:VK)(E:XK)(r:Result)(s':Shared):Prop :=
 match r with
 | .ok (.ret u)=>CE outer P w H s Q u s'
 | .ok _=>False
 | .error e=>CX outer H s E e s'
structure FnOk (P:Program) (w:World) (K:PySem.W.Frag) (mg:Str->Option Value) (base:Heap) (CX:CXT) (k:Nat) (f:Addr) (fd:FuncData) (ps:List Str) (sp:Sp):Prop where
 len:∀ vs H Q E,sp vs H Q E->vs.length=ps.length
 run:∀ (A:Around) (outer:List Env) (s:Shared) (H:Hp) (args:Args) (us:List Value) (vs:List V) (Q:VK) (E:XK),Room k A->Env0 P w K mg base A outer s H->BindsTo s fd args (ps.zip us)->Vals vs us->sp vs H Q E->
  codeAny (model P w) A (.call (.ref f) args) (CR CX outer P w H s Q E) s
theorem FnOk.imp{P:Program}{w:World}{K:PySem.W.Frag}{mg:Str->Option Value}{base:Heap}{CX:CXT}{k:Nat}{f:Addr}{fd:FuncData}{ps:List Str}{sp sp':Sp}(F:FnOk P w K mg base CX k f fd ps sp)
  (h:∀ vs H Q E,sp' vs H Q E->sp vs H Q E):FnOk P w K mg base CX k f fd ps sp' :=
 ⟨λvs H Q E q=>F.len vs H Q E (h _ _ _ _ q),λA outer s H args us vs Q E hr he hb hv hs=>F.run A outer s H args us vs Q E hr he hb hv (h _ _ _ _ hs)⟩
section
variable{X:Cx}{pins:List (Addr × Obj)}{σ:St}{H:Hp}{s s':Shared}
theorem Inv.env0(I:Inv X pins σ H s):Env0 X.prog X.w X.K X.mg X.base X.A X.stack s H :=
 ⟨I.ok.frames,I.ok.mod,I.bs,bL I.ok.bsz I.sz,I.stack,I.stkFree,I.hok,I.bare⟩
theorem Inv.after(I:Inv X pins σ H s)(h:CE X.stack X.prog X.w H s Q u s'):EP X pins σ Q u s':=by
 obtain ⟨v,H',os,bare,un,hok,r,q⟩:=h;obtain ⟨hh,g,d,t,os'⟩:=s';obtain rfl:os'=s.os:=os;exact ⟨v,H',I.call (h':=hh) (g':=g) (d':=d) (t':=t) (ch:=[]) un hok bare (λb z=>absurd z (by simp)),r,q⟩
end
def aqr(sp:Sp)(dvs:List V)(E:XK)(t:TA):TE:=λσ H Q=>t σ H λvs H1=>sp (vs++dvs) H1 Q E
def Binds(K:PySem.W.Frag)(fd:FuncData)(ps:List Str)(ds:List Value):Prop :=
 ∀ (s:Shared) (us:List Value),K.In s.heap->(us++ds).length=ps.length->BindsTo s fd ⟨us,[]⟩ (ps.zip (us++ds))
theorem Binds.all{K:PySem.W.Frag}{fd:FuncData}{ps:List Str}(h:∀ us:List Value,us.length=ps.length->bindArgs fd ⟨us,[]⟩=pure (ps.zip us)):Binds K fd ps []:=λs us _ hl=>by
 rw [bR] at hl ⊢;exact .of_eq (h us hl)
def abq(CX:CXT)(X:Cx)(E:XK):Prop:=∀ (pins:List (Addr × Obj)) (σ:St) (H:Hp) (s:Shared) (e:Value) (s':Shared),Inv X pins σ H s->CX X.stack H s E e s'->X.xe e s'
section
variable{X:Cx}{CX:CXT}{k:Nat}{f C:Addr}{fd:FuncData}{ps:List Str}{sp:Sp}{dvs:List V}{ds:List Value}{E:XK}{x m:Str}{p pos apos:Pos}{e o:Expr}{es:List Expr}{ta:TE}{t:TA}
theorem aly(F:FnOk X.prog X.w X.K X.mg X.base CX k f fd ps sp)(hr:Room k X.A)(hb:Binds X.K fd ps ds)(hd:Vals dvs ds)(hx:abq CX X E)
  (I:Inv X pins σ H s) (r:Vals vs us) (h:sp (vs++dvs) H Q E):wpAny (model X.prog X.w) X.A (call (.ref f) us) (EP X pins σ Q) X.xe s:=by
 have r2:Vals (vs++dvs) (us++ds):=r.append hd;have hl:(us++ds).length=ps.length:=by rw [<-r2.length];exact F.len _ _ _ _ h
 refine wpAny_call (eP (F.run X.A X.stack s H ⟨us,[]⟩ (us++ds) (vs++dvs) Q E hr I.env0 (hb s us I.kIn hl) r2 h) λr s' hq=>?_)
 cases r with
 | error e=>exact hx pins σ H s e s' I hq
 | ok fl =>
  cases fl with
  | ret u=>exact I.after hq
  | next=>exact False.elim hq
  | brk=>exact False.elim hq
  | cont=>exact False.elim hq
theorem anc(F:FnOk X.prog X.w X.K X.mg X.base CX k f fd ps sp)(hr:Room k X.A)(hg:Gl X x)(hm:X.mg x=some (.ref f))(hk:PySem.W.keepIn X.K (.ref f)=true)(hb:Binds X.K fd ps ds)(hd:Vals dvs ds)(hx:abq CX X E)
  (ha:PA X (e::es) t) (hdb:(x == ("__debug__" : Str))=false:=by decide) (he:starEach (e::es) X.env=(false,eval e X.env)::starEach es X.env:=by rfl) (hpl:(backTo pos (starEach es X.env)).any (·.1)=false:=by rfl) :
  PE X (.Call (.Name x p) (e::es) [] pos) (aqr sp dvs E t):=by
 intro pins s σ H Q I h
 refine dD (aez I hg hm ?_ hdb);refine PySem.W.callWith_K (h₀:=X.base) I.ok.mod.kin hk (thn (ha pos pins s σ H _ I h) λus s1 ⟨vs,H1,I1,r,q⟩=>⟨I1.kIn,?_⟩) he hpl;exact aly F hr hb hd hx I1 r q
theorem aj6(F:FnOk X.prog X.w X.K X.mg X.base CX k f fd ps sp)(hr:Room k X.A)(hg:Gl X x)(hm:X.mg x=some (.ref f))(hk:PySem.W.keepIn X.K (.ref f)=true)(hb:Binds X.K fd ps ds)(hd:Vals dvs ds)(hx:abq CX X E)
  (hdb:(x == ("__debug__" : Str))=false:=by decide):PE X (.Call (.Name x p) [] [] pos) (aqr sp dvs E awi):=by
 intro pins s σ H Q I h
 refine dD (aez I hg hm ?_ hdb);exact PySem.W.callWith_K0 I.kIn hk (aly (us:=[]) F hr hb hd hx I .nil h)
end
structure FnScope (N P:List Str) (sc:Scope):Prop where
 kind:sc.kind = .function
 co:sc.isCoroutine=false
 gen:sc.isGenerator=false
 nd:N.Nodup
 pre:N.take P.length=P
 par:∀ x∈P,sc.names.lookup x=some .local\/sc.names.lookup x=some .cell
 nofree:∀ y∈sc.names,y.2≠.free
theorem a97{kindOf:Str->Option NameKind}{x:Str}:∀ {binds:List (Str × Value)} {m:Str->Option Value},(∀ v,(x,v) ∉ binds)->bindL kindOf binds m x=m x
 | [],_,_=>rfl
 | (n,v)::r,m,h=>by
  unfold bindL;rw [a97 λw hw=>h w (aC _ hw)]
  split
  ·have:x≠n:=by rintro rfl;exact h v aF
   simp [this]
  ·rfl
theorem a98{kindOf:Str->Option NameKind}{x:Str}:∀ {binds:List (Str × Value)} {m:Str->Option Value},(∀ v,(x,v) ∉ binds)->bindC kindOf binds m x=m x
 | [],_,_=>rfl
 | (n,v)::r,m,h=>by
  unfold bindC;rw [a98 λw hw=>h w (aC _ hw)]
  split
  ·rfl
  ·have:x≠n:=by rintro rfl;exact h v aF
   simp [this]
theorem a99{kindOf:Str->Option NameKind}{x:Str}{v:Value}:∀ {P:List Str} {vs:List Value} {i:Nat} {m:Str->Option Value},P.Nodup->P[i]? = some x->vs[i]? = some v->kindOf x=some .local->
  bindL kindOf (P.zip vs) m x=some v
 | [],_,_,_,_,h,_,_=>by simp at h
 | _::_,[],_,_,_,_,h,_=>by simp at h
 | p::P,w::vs,0,m,nd,h1,h2,hk=>by
  simp at h1 h2;subst h1;subst h2
  show bindL kindOf ((p,w)::P.zip vs) m p=_;unfold bindL;rw [a97 λv hv=>(cO.mp nd).1 (gX hv).1,aA hk];simp
 | p::P,w::vs,i+1,m,nd,h1,h2,hk=>by
  show bindL kindOf ((p,w)::P.zip vs) m x=_;unfold bindL;exact a99 (i:=i) (cO.mp nd).2 (by simpa using h1) (by simpa using h2) hk
theorem a9a{kindOf:Str->Option NameKind}{x:Str}{v:Value}:∀ {P:List Str} {vs:List Value} {i:Nat} {m:Str->Option Value},P.Nodup->P[i]? = some x->vs[i]? = some v->kindOf x≠some .local->
  bindC kindOf (P.zip vs) m x=some v
 | [],_,_,_,_,h,_,_=>by simp at h
 | _::_,[],_,_,_,_,h,_=>by simp at h
 | p::P,w::vs,0,m,nd,h1,h2,hk=>by
  simp at h1 h2;subst h1;subst h2
  show bindC kindOf ((p,w)::P.zip vs) m p=_;unfold bindC;rw [a98 λv hv=>(cO.mp nd).1 (gX hv).1,aL hk];simp
 | p::P,w::vs,i+1,m,nd,h1,h2,hk=>by
  show bindC kindOf ((p,w)::P.zip vs) m x=_;unfold bindC;exact a9a (i:=i) (cO.mp nd).2 (by simpa using h1) (by simpa using h2) hk
def start(N:List Str)(vs:List V):St:=vs.map some++List.replicate (N.length - vs.length) none
def a1c(CX:CXT)(P:Program)(w:World)(K:PySem.W.Frag)(mg:Str->Option Value)(base:Heap)(N:List Str)(qual:Str)(scope:Scope)(f:Addr)(cd:Value)(A:Around)(outer:List Env)(s:Shared)(H:Hp)(E:XK):Cx where
 prog:=P
 w:=w
 K:=K
 mg:=mg
 base:=base
 A:=A.deeper (envOfC qual scope s.heap.objs.size f cd)
 N:=N
 s₀:=s
 H₀:=H
 env:=envOfC qual scope s.heap.objs.size f cd
 outer:=outer
 stack:=envOfC qual scope s.heap.objs.size f cd::outer
 ex:=[]
 calm:=true
 fn:=λ_=>true
 pn:=[]
 xe:=λe s'=>wpAny (model P w) (A.deeper (envOfC qual scope s.heap.objs.size f cd)) (leaving (envOfC qual scope s.heap.objs.size f cd) e) (λ_ s''=>CX outer H s E e s'') (λe' s''=>CX outer H s E e' s'') s'
theorem abr{sc:Scope}(h:sc.names.lookup x=some .cell):∃ c,(cellsFrom n sc.names []).lookup x=some c:=by
 have q:=PySem.W.cellsFrom_some sc.names n [] (.inl h);exact gc.mp q
theorem afa{CX:CXT}{P:Program}{w:World}{K:PySem.W.Frag}{mg:Str->Option Value}{base:Heap}{N ps:List Str}{qual:Str}{scope:Scope}{f:Addr}{cd:Value}{A:Around}{outer:List Env}{s s1:Shared}{H:Hp}{E:XK}{us:List Value}{vs:List V}
  (S:FnScope N ps scope) (hd:A.handled=none) (e0:Env0 P w K mg base A outer s H) (hl:vs.length=ps.length) (r:Vals vs us)
  (x:InCallC s s.heap.objs.size (bindL (envOfC qual scope s.heap.objs.size f cd).kindOf (ps.zip us) λ_=>none) (cellsFrom (s.heap.objs.size+1) scope.names []) (bindC (envOfC qual scope s.heap.objs.size f cd).kindOf (ps.zip us) λ_=>none) s1) :
  Inv (a1c CX P w K mg base N qual scope f cd A outer s H E) [] (start N vs) H s1:=by
 have hpl:ps.length<=N.length:=by have:=af List.length S.pre;rw [aV] at this;omega
 obtain ⟨h1,tk,rfl,hk⟩:=x.done;have noA:∀ b:Addr,b ∉ (a1c CX P w K mg base N qual scope f cd A outer s H E).ex:=λb z=>absurd (show b∈([]:List Addr) from z) (by simp)
 refine ⟨⟨e0.mod,S.kind,rfl,rfl,ar _,λy z c h1 h2=>?_,λy hy=>?_,λy c _ h=>?_,λ_=>hd,Around.frames_deeper e0.frames, .inr ⟨rfl,rfl⟩,λb z=>absurd z (noA b),e0.bs,e0.bsz,λb _ _=>noA b,λb z=>absurd z (noA b),e0.funs,e0.frf⟩,
  rfl,e0.bare,Un.kept hk,⟨_,x.toInCall.ns,λi y v h1 h2 h3=>?_⟩,λy c h=>⟨_,x.cell y c h⟩,e0.hok.fresh (ar _),λy c h=>?_,λp hp=>absurd (show p∈([]:List (Addr × Obj)) from hp) (by simp),e0.hok.kept hk,?_⟩
 ·exact name_of_addr x.apart (bS h1) (bS h2)
 ·have hy:scope.names.lookup y=some .cell\/scope.names.lookup y=some .free:=hy
  rcases hy with hy | hy
  ·exact abr hy
  ·exact absurd rfl (S.nofree _ (bS hy))
 ·exact fJ (x.above y c (bS h))
 ·have hi:i<vs.length:=by
   unfold start at h2
   by_cases hi:i<vs.length
   ·exact hi
   ·rw [aB (by simpa using hi)] at h2
    rw [dl] at h2
    split at h2<;>cases h2
  have ha:vs[i]? = some v:=by
   unfold start at h2;rw [aI (by simpa using hi),aW] at h2
   cases e:vs[i]? with
   | none=>rw [e] at h2;cases h2
   | some a=>rw [e] at h2;cases h2;rfl
  obtain ⟨u,hu,rv⟩:=r.get ha;have hp:ps[i]? = some y:=by
   rw [<-S.pre,List.getElem?_take_of_lt (by omega)];exact h1
  have ndP:ps.Nodup:=by rw [<-S.pre];exact S.nd.sublist (gu _ _)
  refine ⟨u,rv,?_⟩
  rcases S.par y (aT hp) with k | k
  ·exact .inl ⟨k,a99 ndP hp hu k⟩
  ·obtain ⟨c,e⟩:=abr (n:=s.heap.objs.size+1) k;refine .inr ⟨.inl k,c,e,?_⟩;have q:=x.cell y c e;rw [a9a ndP hp hu (by show scope.names.lookup y≠_;rw [k];decide)] at q
   exact q
 ·exact e0.hok.fresh (fJ (x.above y c (bS h)))
 ·unfold start;show _=N.length;rw [ap,am,bT];omega
theorem avj{CX:CXT}{P:Program}{w:World}{K:PySem.W.Frag}{mg:Str->Option Value}{base:Heap}{k:Nat}{f:Addr}{name qual:Str}{params:Arguments}{body:List Stmt}{scope:Scope}{dV kV doc pm cdv ct oc:Value}{an od:Option Addr}
  {osl:Array (Option Value)} {N ps:List Str} {sp:Sp} (lk:K.lookup f=some ⟨oc,od, .func (PySem.W.fnOf name qual params body scope dV kV doc pm an cdv ct),osl⟩) (hcd:PySem.W.codeIn K cdv qual=true) (S:FnScope N ps scope)
  (len:∀ vs H Q E,sp vs H Q E->vs.length=ps.length)
  (hbody:∀ (A:Around) (outer:List Env) (s:Shared) (H:Hp) (vs:List V) (Q:VK) (E:XK),Room k (A.deeper (envOfC qual scope s.heap.objs.size f cdv))->sp vs H Q E->
   ∃ t,PSs (a1c CX P w K mg base N qual scope f cdv A outer s H E) body t/\t { nx:=λ_ H'=>Q .non H',rt:=Q } (start N vs) H) :
  FnOk P w K mg base CX (k+1) f (PySem.W.fnOf name qual params body scope dV kV doc pm an cdv ct) ps sp:=by
 refine ⟨len,λA outer s H args us vs Q E hr e0 hb r hsp=>?_⟩;have hl:=len _ _ _ _ hsp;have KX:K.In s.heap:=e0.mod.kin.keeps λb o e=>(e0.bs b o e).1;have lim:s.heap.NoLimit:=e0.mod.nolimit.keeps λb o e=>(e0.bs b o e).1;have hkind:∀ y∈ps.zip us,scope.names.lookup y.1=some .local\/(scope.names.lookup y.1=some .cell/\((cellsFrom (s.heap.objs.size+1) scope.names []).lookup y.1).isSome=true):=λ⟨n,v⟩ hy=>by
  rcases S.par n (gX hy).1 with q | q
  ·exact .inl q
  ·exact .inr ⟨q,PySem.W.cellsFrom_some _ _ _ (.inl q)⟩
 refine codeAny_call_function hr.depth (KX _ _ lk) rfl S.co S.gen rfl (PySem.W.codeRec_of KX hcd) (hb _ _ _ _ ?_);refine wpAny_newFunctionEnv_cells S.kind hkind λenv he s1 x=>?_;subst he;refine ⟨lim.keeps x.toInCall.keep,codeAny_func ?_⟩;obtain ⟨t,ht,hq⟩:=hbody A outer s H vs Q E (hr.deeper _) hsp;have I:Inv (a1c CX P w K mg base N qual scope f cdv A outer s H E) [] (start N vs) H s1:=afa S hr.hd e0 hl r x;refine ba (ht [] s1 (start N vs) H _ I hq) (λfl s' hs=>?_) λe s' hs=>hs;have fin:∀ {σ':St} {H':Hp} {v:V} {u:Value},Inv (a1c CX P w K mg base N qual scope f cdv A outer s H E) [] σ' H' s'->RelV v u->Q v H'->CE outer P w H s Q u s' :=
  λ{σ' H' v u} J rv q=>⟨v,H',J.os,J.bare,J.base,J.hok,rv,q⟩
 cases fl with
 | ret u =>
  obtain ⟨v,σ',H',J,rv,q⟩:=hs;exact fin J rv q
 | next =>
  obtain ⟨σ',H',J,q⟩:=hs;exact fin (v:=V.non) (u:=Value.none) J rfl q
 | brk =>
  obtain ⟨_,_,_,q⟩:=hs;exact False.elim q
 | cont =>
  obtain ⟨_,_,_,q⟩:=hs;exact False.elim q
section
variable{X:Cx}{x:Str}{p pos:Pos}{e:Expr}{es:List Expr}{t:TA}{id T:String}{r:List V->Hp->VK->Prop}
def tCB(r:List V->Hp->VK->Prop)(t:TA):TE:=λσ H Q=>t σ H λvs H1=>r vs H1 Q
theorem a4m(hc:CallR X (.builtin id) r)(hg:Gl X x)(hm:X.mg x=none)(hv:bootBuiltins x=some (.builtin id))(ha:PA X (e::es) t)(hn:x ≠ "__name__":=by decide)(hdb:(x == ("__debug__" : Str))=false:=by decide)
  (he:starEach (e::es) X.env=(false,eval e X.env)::starEach es X.env:=by rfl) (hpl:(backTo pos (starEach es X.env)).any (·.1)=false:=by rfl):PE X (.Call (.Name x p) (e::es) [] pos) (tCB r t):=by
 intro pins s σ H Q I h
 refine dD (a6o I hg hm hv ?_ hn hdb);exact PyProof.Rows.callWith_builtin1 (thn (ha pos pins s σ H _ I h) λus s1 ⟨vs,H1,I1,r1,q1⟩=>hc pins s1 σ H1 vs us Q I1 r1 q1) he hpl
theorem a0n(hc:CallR X (.type T) r)(hg:Gl X x)(hm:X.mg x=none)(hv:bootBuiltins x=some (.type T))(ha:PA X (e::es) t)(hn:x ≠ "__name__":=by decide)(hdb:(x == ("__debug__" : Str))=false:=by decide)
  (he:starEach (e::es) X.env=(false,eval e X.env)::starEach es X.env:=by rfl) (hpl:(backTo pos (starEach es X.env)).any (·.1)=false:=by rfl):PE X (.Call (.Name x p) (e::es) [] pos) (tCB r t):=by
 intro pins s σ H Q I h
 refine dD (a6o I hg hm hv ?_ hn hdb);exact cN (thn (ha pos pins s σ H _ I h) λus s1 ⟨vs,H1,I1,r1,q1⟩=>hc pins s1 σ H1 vs us Q I1 r1 q1) he hpl
end
end L2
namespace HT
open PySem PyProof.Rows
section
variable{prog:Program}{w:World}{A:Around}{E:Value->Shared->Prop}{s:Shared}
theorem ane{vs ws:List Value}(ht:IsTup s.heap t vs.toArray)(hb:IsTup s.heap b ws.toArray)(hv:vs≠[])
  (h1:ws=[]->Q (.ref t) s) (h2:ws≠[]->Q (.ref s.heap.objs.size) { s with heap:=s.heap.push { cls:=.type "tuple",data:=.seq (vs++ws).toArray } })
  (hsz:vs.length+ws.length<=sizeLine):wpAny (model prog w) A (binaryOp .Add (.ref t) (.ref b)) Q E s:=by
 obtain ⟨⟨cls,dd,data,sl⟩,ho,hc,n,hd⟩:=id ht;obtain ⟨⟨cls2,dd2,data2,sl2⟩,ho2,hc2,n2,hd2⟩:=id hb;simp only at hc hd hc2 hd2;subst hc hd hc2 hd2;have e:vs.toArray++ws.toArray=(vs++ws).toArray:=by simp
 by_cases hw:ws=[]
 ·exact concat_meets ⟨_,ho,rfl⟩ ⟨_,ho2,rfl⟩ gJ seq_tuple_add PySem.F.slot_tuple_add gF (gy _ _)
   (tuple_addW1 t b vs.toArray ws.toArray n n2 dd dd2 sl sl2 (by simpa using hv) (by simp [hw])) ⟨ho,ho2,h1 hw⟩
 ·refine concat_meets ⟨_,ho,rfl⟩ ⟨_,ho2,rfl⟩ gJ seq_tuple_add PySem.F.slot_tuple_add gF (gy _ _)
   (tuple_addW2 t b vs.toArray ws.toArray n n2 dd dd2 sl sl2 (by simpa using hv) (by simpa using hw) (by rw [ay,ay];exact hsz)) ⟨ho,ho2,?_⟩
  rw [e];exact h2 hw
def sIx(n d:Nat):Option Int->Nat
 | none=>d
 | some v=>if v<0 then (v+(n:Int)).toNat else min v.toNat n
theorem a7f(n d:Nat):sIx n d none=d:=rfl
theorem afb(n d k:Nat):sIx n d (some (k:Int))=min k n:=by
 show (if (k:Int)<0 then ((k:Int)+(n:Int)).toNat else min (k:Int).toNat n)=min k n
 rw [aL (by omega),cC]
theorem afc(n d:Nat)(hd:d<=n)(o:Option Int):sIx n d o<=n:=by
 cases o with
 | none=>exact hd
 | some v =>
  show (if v<0 then (v+(n:Int)).toNat else min v.toNat n)<=n
  by_cases hv:v<0
  ·rw [aA hv];omega
  ·rw [aL hv];exact Nat.min_le_right _ _
theorem afd(v:Int)(n d:Nat):(if v<0 then max (v+(n:Int)) 0 else min v (n:Int))=((sIx n d (some v):Nat):Int):=by
 show (if v<0 then max (v+(n:Int)) 0 else min v (n:Int))=(((if v<0 then (v+(n:Int)).toNat else min v.toNat n):Nat):Int)
 by_cases hv:v<0
 ·simp only [aA hv];omega
 ·simp only [aL hv];omega
theorem adp(lo hi:Option Int)(n:Nat):Builtin.Slice.sliceAdjust lo hi 1 (n:Int)=(((sIx n 0 lo:Nat):Int),((sIx n n hi:Nat):Int)):=by
 have h1:¬ ((1:Int)<0):=by omega
 unfold Builtin.Slice.sliceAdjust;simp only [h1,dW];refine Prod.ext ?_ ?_
 ·cases lo with
  | none=>rfl
  | some v=>exact afd v n 0
 ·cases hi with
  | none=>rfl
  | some v=>exact afd v n n
theorem adq(i j:Nat):Builtin.Slice.slicePlaces (i:Int) (j:Int) 1=j - i:=by
 unfold Builtin.Slice.slicePlaces;have h1:(1:Int) > 0:=by omega
 simp only [h1,dC,Int.ediv_one]
 split<;>omega
theorem a6q(p:IsPart v o)(h:Q o s):wpAny (model prog w) A (Builtin.Slice.slicePartIndex v) Q E s:=by
 cases p with
 | none=>exact slicePart_none h
 | int i t=>exact slicePart_int h
theorem a0g{sl:Addr}{vl vu:Value}{lo hi:Option Int}{n:Nat}{Q:Int × Int × Nat->Shared->Prop}(hs:s.heap.IsSliceOf sl vl vu .none)(pl:IsPart vl lo)(pu:IsPart vu hi)
  (h:Q (((sIx n 0 lo:Nat):Int),1,sIx n n hi - sIx n 0 lo) s):wpAny (model prog w) A (Builtin.Slice.sliceApplied (.ref sl) (pure (n:Int))) Q E s:=by
 obtain ⟨os,hos,hcs,hds⟩:=id hs;unfold Builtin.Slice.sliceApplied Builtin.Slice.sliceFields;refine ae (ae (eJ hos hds (x:=vl) rfl (ae (eJ hos hds (x:=vu) rfl (ae (eJ hos hds (x:=.none) rfl (aw ?_)))))));refine ae (slicePart_none ?_);show wpAny _ _ (if ((1:Int) == 0)=true then _ else _) _ _ s
 rw [aL (by decide)]
 refine ae (a6q pl (ae (a6q pu (ae (aw ?_)))));show wpAny _ _ (match Builtin.Slice.sliceAdjust lo hi 1 (n:Int) with | (lo,hi)=>pure (lo,(1:Int),Builtin.Slice.slicePlaces lo hi 1)) _ _ s
 rw [adp lo hi n];show wpAny _ _ (pure (((sIx n 0 lo:Nat):Int),(1:Int),Builtin.Slice.slicePlaces ((sIx n 0 lo:Nat):Int) ((sIx n n hi:Nat):Int) 1)) _ _ s;rw [adq];exact aw h
theorem aj7(xs:Array Value)(i k:Nat):((List.range k).filterMap λ(m:Nat)=>xs[((i:Int)+(m:Int)*1).toNat]?).toArray=((xs.toList.drop i).take k).toArray:=by
 have e:(λ(m:Nat)=>xs[((i:Int)+(m:Int)*1).toNat]?)=λm=>xs[i+m]?:=by
  funext m
  have:((i:Int)+(m:Int)*1).toNat=i+m:=by omega
  rw [this]
 rw [e];have:=pick_run xs i k;rw [eB] at this;have e2:((λx=>xs[x]?) ∘ λx=>i+x)=λm=>xs[i+m]?:=rfl;rw [e2] at this;rw [this]
theorem a3i{t sl:Addr}{items:Array Value}{vl vu:Value}{lo hi:Option Int}{Q:Value->Shared->Prop}(ht:IsTup s.heap t items)(hs:s.heap.IsSliceOf sl vl vu .none)(pl:IsPart vl lo)(pu:IsPart vu hi)
  (hw:¬ (sIx items.size 0 lo=0/\sIx items.size items.size hi=items.size))
  (h:Q (.ref s.heap.objs.size) { s with heap:=s.heap.push { cls:=.type "tuple",data:=.seq ((items.toList.drop (sIx items.size 0 lo)).take (sIx items.size items.size hi - sIx items.size 0 lo)).toArray } })
  (hsz:items.size<=sizeLine):wpAny (model prog w) A (getItem (.ref t) (.ref sl)) Q E s:=by
 have htake:sizeOk (.seq ((items.toList.drop (sIx items.size 0 lo)).take (sIx items.size items.size hi - sIx items.size 0 lo)).toArray):=by
  show ((items.toList.drop (sIx items.size 0 lo)).take (sIx items.size items.size hi - sIx items.size 0 lo)).toArray.size<=sizeLine;rw [ay,aV,bq,aJ];omega
 have hj:sIx items.size items.size hi<=items.size:=afc _ _ (ar _) hi;obtain ⟨os,hos,hcs,hds⟩:=id hs;have hTs:s.TypeIs (.ref sl) "slice":=⟨os,hos,hcs⟩;unfold getItem
 try with_reducible refine bP ?_
 first | refine ae (aw ?_) | skip
 refine ae (wpAny_sequenceKey ht.typeIs (by decide) ?_)
 refine ae (ci (name:=Str.ofString "__getitem__") ht.typeIs bJ
  (bU bJ ht.typeIs entry_tuple_getitem ?_ (args_tuple_getitem _ _)))
 show wpAny _ _ (Builtin.Tuple.tupleItemsOf (.ref t)>>=_) _ _ s;refine ae (tupleItemsOf_ ht ?_);refine ae (eQ hTs ?_);rw [aA (by decide)]
 refine ae (a0g hs pl pu ?_);have hno:¬ ((((sIx items.size 0 lo:Nat):Int) == 0 && (1:Int) == 1 && (sIx items.size items.size hi - sIx items.size 0 lo) == items.size)=true):=by
  intro q
  rw [bV,bV] at q;have q1:((sIx items.size 0 lo:Nat):Int)=0:=eq_of_beq q.1.1;have q2:sIx items.size items.size hi - sIx items.size 0 lo=items.size:=eq_of_beq q.2;exact hw ⟨by omega,by omega⟩
 show wpAny _ _ (if (((sIx items.size 0 lo:Nat):Int) == 0 && (1:Int) == 1 && (sIx items.size items.size hi - sIx items.size 0 lo) == items.size)=true then _ else _) _ _ s
 rw [aL hno,aj7]
 first
  | exact ae (m:=Builtin.Tuple.tupleExact _) (cf (aw ⟨_,rfl,aw h⟩) htake)
  | exact ae (m:=Builtin.Tuple.tupleExact _) (cf (ae (aw (aw ⟨_,rfl,aw h⟩))) htake)
  | exact ae (ae (m:=Builtin.Tuple.tupleExact _) (cf (aw (aw ⟨_,rfl,aw h⟩)) htake))
  | exact ae (ae (m:=Builtin.Tuple.tupleExact _) (cf (aw ⟨_,rfl,aw h⟩) htake))
end
end HT
namespace L2
open PySem PySem.Spec PyProof.Rows
abbrev TO:=St->Hp->(Option Int->Hp->Prop)->Prop
def PO(X:Cx)(e:Option Expr)(t:TO):Prop :=
 ∀ (pins:List (Addr × Obj)) (s:Shared) (σ:St) (H:Hp) (Q:Option Int->Hp->Prop),Inv X pins σ H s->t σ H Q->
  wpAny (model X.prog X.w) X.A (evalPart e X.env) (λu s'=>∃ o H',Inv X pins σ H' s'/\IsPart u o/\Q o H') X.xe s
def anf:TO:=λ_ H Q=>Q none H
def avk(t:TE):TO:=λσ H Q=>t σ H λx H1=>∃ i,x = .int i/\Q (some i) H1
theorem intsAre_of{ns:List Int}:∀ {us:List Value},Vals (ns.map V.int) us->IntsAre us ns:=by
 induction ns with
 | nil=>intro us r;rw [cL] at r;cases r;exact .nil
 | cons n ns ih =>
  intro us r
  rw [aZ] at r
  cases r with
  | cons r1 r2 =>
   obtain ⟨t,e⟩:=r1;subst e;exact .cons n t (ih r2)
section
variable{X:Cx}{e:Expr}{te:TE}{lo hi:Option Expr}{tl th:TO}{pos p2:Pos}
theorem ang:PO X none anf:=by
 intro pins s σ H Q I h
 rw [evalPart_none];exact aw ⟨none,H,I, .none,h⟩
theorem anh(h:PE X e te):PO X (some e) (avk te):=by
 intro pins s σ H Q I hw
 rw [evalPart_some];refine thn (h pins s σ H _ I hw) λu s1 ⟨x,H1,I1,r1,q1⟩=>?_;obtain ⟨i,rfl,q⟩:=q1;obtain ⟨t,rfl⟩:=r1;exact ⟨some i,H1,I1, .int i t,q⟩
def SlR(X:Cx)(r:V->Option Int->Option Int->Hp->VK->Prop):Prop :=
 ∀ (pins:List (Addr × Obj)) (s:Shared) (σ:St) (H:Hp) (x:V) (v vl vu:Value) (lo hi:Option Int) (sl:Addr) (Q:VK),Inv X pins σ H s->RelV x v->s.heap.IsSliceOf sl vl vu .none->IsPart vl lo->IsPart vu hi->r x lo hi H Q->
  ∃ T id,typeLookup (.type T) "__getitem__" = pure (some (.builtin id))/\s.TypeIs v T/\wpAny (model X.prog X.w) X.A (getItem v (.ref sl)) (EP X pins σ Q) X.xe s
theorem SlR.or(h:SlR X r)(h':SlR X r'):SlR X (λx lo hi H Q=>r x lo hi H Q\/r' x lo hi H Q):=by
 intro pins s σ H x v vl vu lo hi sl Q I rx hs pl pu q
 rcases q with q | q
 ·exact h pins s σ H x v vl vu lo hi sl Q I rx hs pl pu q
 ·exact h' pins s σ H x v vl vu lo hi sl Q I rx hs pl pu q
def tSl(r:V->Option Int->Option Int->Hp->VK->Prop)(te:TE)(tl th:TO):TE:=λσ H Q=>te σ H λx H1=>tl σ H1 λl H2=>th σ H2 λu H3=>r x l u H3 Q
theorem aj8(hr:SlR X r)(he:PE X e te)(hl:PO X lo tl)(hu:PO X hi th):PE X (.Subscript e (.Slice lo hi none p2) pos) (tSl r te tl th):=by
 intro pins s σ H Q I h
 refine Subscript_ (thn (he pins s σ H _ I h) λv s1 ⟨x,H1,I1,r1,q1⟩=>?_);refine wpAny_Slice (thn (hl pins s1 σ H1 _ I1 q1) λvl s2 ⟨l,H2,I2,pl,q2⟩=>thn (hu pins s2 σ H2 _ I2 q2) λvu s3 ⟨u,H3,I3,pu,q3⟩=>?_);rw [evalPart_none];refine aw ?_;have I4:Inv X pins σ H3 { s3 with heap:=s3.heap.push { cls:=.type "slice",data:=.fields #[vl,vu, .none] } }:=I3.kept (t':=s3.toks) λb ob q=>ai _ q
 obtain ⟨T,id,hT,ht,hg⟩:=hr pins { s3 with heap:=s3.heap.push { cls:=.type "slice",data:=.fields #[vl,vu, .none] } } σ H3 x v vl vu l u s3.heap.objs.size Q I4 r1 (Heap.IsSliceOf.new ..) pl pu q3
 show wpAny (model X.prog X.w) X.A (subscriptTail e (.Slice lo hi none p2) v (.ref s3.heap.objs.size)) (EP X pins σ Q) X.xe { s3 with heap:=s3.heap.push { cls:=.type "slice",data:=.fields #[vl,vu, .none] } }
 exact tail_any (ops:=[.ref s3.heap.objs.size,v]) ht hT hg (by with_unfolding_all rfl)
def alz(xs:List V)(lo hi:Option Int):List V:=(xs.drop (HT.sIx xs.length 0 lo)).take (HT.sIx xs.length xs.length hi - HT.sIx xs.length 0 lo)
theorem a4x(xs:List V)(lo hi:Option Int):(alz xs lo hi).length<=xs.length:=by
 unfold alz;rw [aV,bq];omega
def avl(K:PySem.W.Frag):V->Option Int->Option Int->Hp->VK->Prop:=λx lo hi H Q=>∃ a xs,x = .ref a/\SqT K H a xs /\
 ¬ (HT.sIx xs.length 0 lo=0/\HT.sIx xs.length xs.length hi=xs.length)/\∀ p,H p=none->Q (.ref p) (upd H p (.tup (alz xs lo hi)))
theorem aqs:SlR X (avl X.K):=by
 intro pins s σ H x v vl vu lo hi sl Q I rx hs pl pu h
 obtain ⟨a,xs,rfl,hx,hw,q⟩:=h;cases rx
 obtain ⟨its,r,ht,hz⟩:=I.tuple hx;have hlen:its.toArray.size=xs.length:=by rw [ay];exact r.length.symm
 refine ⟨"tuple",_,bJ.lookup,ht.typeIs,?_⟩;refine HT.a3i ht hs pl pu (by rw [hlen];exact hw) ?_ (by rw [hlen];exact hz)
 rw [hlen];refine ⟨.ref s.heap.objs.size,_,I.laid (t':=s.toks) (o:=.tup (alz xs lo hi)) (λb ob q=>ai _ q) (ar _) ?_,rfl,q _ (I.hok.fresh (ar _))⟩;exact ⟨bL (a4x xs lo hi) hz,_,(r.drop (HT.sIx xs.length 0 lo)).take (HT.sIx xs.length xs.length hi - HT.sIx xs.length 0 lo),IsTup.new _ _⟩
def aqt(K:PySem.W.Frag):R2:=λx y H Q=>∃ a b xs ys,x = .ref a/\y = .ref b/\SqT K H a xs/\SqT K H b ys/\xs≠[]/\xs.length+ys.length<=sizeLine /\
 (ys=[]->Q (.ref a) H)/\(ys≠[]->∀ p,H p=none->Q (.ref p) (upd H p (.tup (xs++ys))))
theorem Vals.nil_iff(r:Vals xs us):us=[]↔xs=[]:=by
 cases r with
 | nil=>simp
 | cons _ _=>simp
theorem ani:OpR X (binaryOp .Add) (aqt X.K):=by
 intro pins s σ H x y v u Q I rx ry h
 obtain ⟨a,b,xs,ys,rfl,rfl,ha,hb,hx,hz,q1,q2⟩:=h;cases rx
 cases ry
 obtain ⟨its,r1,p1,_⟩:=I.tuple ha;obtain ⟨its2,r2,p2,_⟩:=I.tuple hb;refine HT.ane p1 p2 (λz=>hx (r1.nil_iff.mp z)) (λz=>⟨.ref a,H,I,rfl,q1 (r2.nil_iff.mp z)⟩) (λz=>?_) (by rw [<-r1.length,<-r2.length];exact hz)
 refine ⟨.ref s.heap.objs.size,_,I.laid (t':=s.toks) (o:=.tup (xs++ys)) (λb ob q=>ai _ q) (ar _) ?_,rfl,q2 (λw=>z (r2.nil_iff.mpr w)) _ (I.hok.fresh (ar _))⟩;exact ⟨by rw [ap];exact hz,_,r1.append r2,IsTup.new _ _⟩
end
def ixN(n:Nat)(i:Int):Option Nat:=if 0<=i then (if i<n then some i.toNat else none) else if -(n:Int)<=i then some (i+n).toNat else none
def atI{α:Type}(xs:List α)(i:Int):Option α:=(ixN xs.length i).bind λj=>xs[j]?
theorem afe(h:ixN n i=some j):seqIndex? i n=some j/\j<n /\ -(n:Int)<=i/\i<n:=by
 unfold ixN at h
 by_cases h0:0<=i
 ·rw [aA h0] at h
  by_cases h1:i<n
  ·rw [aA h1] at h;have e:i.toNat=j:=bv h;exact ⟨by rw [hJ h0 h1,e],by omega,by omega,h1⟩
  ·rw [aL h1] at h;cases h
 ·rw [aL h0] at h
  by_cases h1 : -(n:Int)<=i
  ·rw [aA h1] at h;have e:(i+n).toNat=j:=bv h;exact ⟨by rw [gY (by omega) h1,e],by omega,h1,by omega⟩
  ·rw [aL h1] at h;cases h
theorem a7g{α:Type}{xs:List α}{i:Int}{v:α}(h:atI xs i=some v):∃ j,seqIndex? i xs.length=some j/\xs[j]? = some v/\j<xs.length /\ -(xs.length:Int)<=i/\i<xs.length:=by
 unfold atI at h
 cases e:ixN xs.length i with
 | none=>rw [e] at h;cases h
 | some j =>
  rw [e] at h;obtain ⟨h1,h2,h3,h4⟩:=afe e;exact ⟨j,h1,h,h2,h3,h4⟩
theorem v4{α:Type}{xs:List α}{j:Nat}{v:α}(h:xs[j]? = some v):atI xs (j:Int)=some v:=by
 have hj:j<xs.length:=(ah.mp h).1;have e:ixN xs.length (j:Int)=some j:=by
  unfold ixN;rw [aA (by omega),aA (by omega)];simp
 unfold atI;rw [e];exact h
def aan(b:Expr):Prop:=∀ o i,subscripted b false o i=operate [o,i] (getItem o i)
def IxR(X:Cx)(r:R2):Prop :=
 ∀ (value slice:Expr) (pins:List (Addr × Obj)) (s:Shared) (σ:St) (H:Hp) (x y:V) (v u:Value) (Q:VK),Inv X pins σ H s->RelV x v->RelV y u->r x y H Q->
  subscripted slice false v u=operate [v,u] (getItem v u)->wpAny (model X.prog X.w) X.A (subscriptTail value slice v u) (EP X pins σ Q) X.xe s
def MtR(X:Cx)(id:String)(r:V->List V->Hp->VK->Prop):Prop :=
 ∀ (pins:List (Addr × Obj)) (s:Shared) (σ:St) (H:Hp) (x:V) (xs:List V) (v:Value) (us:List Value) (Q:VK),Inv X pins σ H s->RelV x v->Vals xs us->r x xs H Q->
  wpAny (model X.prog X.w) X.A (call (.builtin id) (v::us)) (EP X pins σ Q) X.xe s
section
variable{X:Cx}{a b:Expr}{ta tb:TE}{pos:Pos}
theorem IxR.or(h:IxR X r)(h':IxR X r'):IxR X (λx y H Q=>r x y H Q\/r' x y H Q):=by
 intro value slice pins s σ H x y v u Q I rx ry q hs
 rcases q with q | q
 ·exact h value slice pins s σ H x y v u Q I rx ry q hs
 ·exact h' value slice pins s σ H x y v u Q I rx ry q hs
theorem MtR.or{id:String}{r r':V->List V->Hp->VK->Prop}(h:MtR X id r)(h':MtR X id r'):MtR X id (λx xs H Q=>r x xs H Q\/r' x xs H Q):=by
 intro pins s σ H x xs v us Q I rx rs q
 rcases q with q | q
 ·exact h pins s σ H x xs v us Q I rx rs q
 ·exact h' pins s σ H x xs v us Q I rx rs q
theorem avm(hr:IxR X r)(ha:PE X a ta)(hb:PE X b tb)(hs:aan b):PE X (.Subscript a b pos) (tOp r ta tb):=by
 intro pins s σ H Q I h
 exact Subscript_ (avc ha hb I h λv u s2 x y H2 I2 rx ry q=>hr a b pins s2 σ H2 x y v u Q I2 rx ry q (hs _ _))
def auf(K:PySem.W.Frag):R2:=λx y H Q=>∃ p xs i v,x = .ref p/\y = .int i/\SqL K H p xs/\atI xs i=some v/\Q v H
def awj(K:PySem.W.Frag):R2:=λx y H Q=>∃ p xs i v,x = .ref p/\y = .int i/\SqT K H p xs/\atI xs i=some v/\Q v H
def awk:R2:=λx y H Q=>∃ z i c,x = .str z/\y = .int i/\z.length<=sizeLine/\atI z.cps.toList i=some c/\Q (.str ⟨#[c]⟩) H
theorem anj:IxR X (auf X.K):=by
 intro value slice pins s σ H x y v u Q I rx ry h hs
 obtain ⟨p,xs,i,z,rfl,rfl,hq,he,q⟩:=h;cases rx
 obtain ⟨t,rfl⟩:=ry;obtain ⟨its,r,pl,hz⟩:=I.list hq;obtain ⟨j,h1,h2,h3,h4,h5⟩:=a7g he;obtain ⟨w,ew,rw'⟩:=r.get h2;have hl:=r.length;have hn:=a4a;have fin:EP X pins σ Q w s:=⟨z,H,I,rw',q⟩
 by_cases h0:0<=i
 ·have hj:i.toNat=j:=by
   rw [hJ h0 h5] at h1;exact bv h1
  exact item_listR pl.isList h0 (by omega) (by rw [hj];simpa using ew) fin hs
 ·have hj:(i+(its.toArray.size:Int)).toNat=j:=by
   rw [gY (by omega) h4] at h1
   rw [ay,<-hl];exact bv h1
  exact subscriptTail_builtinR (x:=w) pl.isList.typeIs slot_list_getitem.lookup
   (wpAny_getItem_list_neg (Q:=λr s'=>r=w/\EP X pins σ Q r s') pl.isList (by omega) (by rw [ay]<;>omega) (by omega) (by rw [hj];simpa using ew) ⟨rfl,fin⟩) hs
theorem a4y:IxR X (awj X.K):=by
 intro value slice pins s σ H x y v u Q I rx ry h hs
 obtain ⟨p,xs,i,z,rfl,rfl,hq,he,q⟩:=h;cases rx
 obtain ⟨t,rfl⟩:=ry;obtain ⟨its,r,pl,hz⟩:=I.tuple hq;obtain ⟨j,h1,h2,h3,h4,h5⟩:=a7g he;obtain ⟨w,ew,rw'⟩:=r.get h2;have hl:=r.length;have hn:=a4a;have fin:EP X pins σ Q w s:=⟨z,H,I,rw',q⟩;exact subscriptTail_builtinR (x:=w) pl.typeIs slot_tuple_getitem.lookup
  (getItem_tuple (j:=j) (Q:=λr s'=>r=w/\EP X pins σ Q r s') pl (by omega) (by omega) (by rw [ay,<-hl];exact h1) (by simpa using ew) ⟨rfl,fin⟩) hs
theorem aqu:IxR X awk:=by
 intro value slice pins s σ H x y v u Q I rx ry h hs
 obtain ⟨z,i,c,rfl,rfl,hz,he,q⟩:=h;obtain ⟨t,rfl⟩:=rx;obtain ⟨t',rfl⟩:=ry;obtain ⟨j,h1,h2,h3,h4,h5⟩:=a7g he;have hl:z.cps.toList.length=z.length:=by simp [Str.length]
 rw [hl] at h1 h4 h5;have hn:=a4a;exact tail_any (typeIs_str s z t) slot_str_getitem.lookup (getItem_str (c:=c) (by
  have e1:decide (i < -(2 ^ 63:Int))=false:=aY (by omega)
  have e2:decide (i≥2 ^ 63)=false:=aY (by omega)
  rw [e1,e2,Bool.or_false]) (by rw [h1];simpa using h2) ⟨.str ⟨#[c]⟩,H,I.tok _,⟨_,rfl⟩,q⟩) hs
def rIx(K:PySem.W.Frag):R2:=λx y H Q=>auf K x y H Q\/awj K x y H Q\/awk x y H Q
theorem aqv:IxR X (rIx X.K):=anj.or (a4y.or aqu)
theorem adt(its:List Value)(n j:Nat)(u:Value):Obj.mapSeq (·.setIfInBounds j u) { cls:=.type "list",data:=.seq its.toArray n }={ cls:=.type "list",data:=.seq (its.set j u).toArray n }:=by
 simp [Obj.mapSeq]
theorem Inv.lst{pins:List (Addr × Obj)}{σ:St}{H:Hp}{s:Shared}{p:Addr}{xs:List V}(I:Inv X pins σ H s)(h:H p=some (.lst xs)) :
  ∃ (its:List Value) (n:Nat),Vals xs its/\s.heap.get? p=some { cls:=.type "list",data:=.seq its.toArray n }/\xs.length<=sizeLine:=by
 obtain ⟨z,its,n,r,e⟩:=I.hok p _ h;exact ⟨its,n,r,e,z⟩
theorem Inv.lstUpd{its its':List Value}(I:Inv X pins σ H s)(h:H p=some (.lst xs))
  (ho:s.heap.get? p=some { cls:=.type "list",data:=.seq its.toArray n }) (hf:f { cls:=.type "list",data:=.seq its.toArray n }={ cls:=.type "list",data:=.seq its'.toArray n' }) (r:Vals ys its') (hz:ys.length<=sizeLine) (t:Nat) :
  Inv X pins σ (upd H p (.lst ys)) { s with heap:=s.heap.update p f,toks:=t }:=by
 have e:(s.heap.update p f).get? p=some { cls:=.type "list",data:=.seq its'.toArray n' }:=by
  rw [cH f ho (by rw [hf]<;>rfl),hf]
 refine I.write (x:=p) (e:=p) (by rw [h];trivial) (.inl rfl) (λb u hb q=>(cA _ _ (cX hb)).trans q) ⟨_,e⟩ ?_
 exact ⟨hz,its',n',r,e⟩
def aqw:V->V->V->Hp->(Hp->Prop)->Prop:=λo i v H Q=>∃ p xs k j,o = .ref p/\i = .int k/\H p=some (.lst xs)/\ixN xs.length k=some j/\Q (upd H p (.lst (xs.set j v)))
theorem set_list:av8 X aqw:=by
 intro pins s σ H o i v ov iv u Q I ro ri rv h
 obtain ⟨p,xs,k,j,rfl,rfl,hp,hj,q⟩:=h;cases ro
 obtain ⟨t,rfl⟩:=ri;obtain ⟨its,n,r,ho,hz⟩:=I.lst hp;obtain ⟨h1,h2,h3,h4⟩:=afe hj;have hl:=r.length;have hn:=a4a;have I':Inv X pins σ (upd H p (.lst (xs.set j v))) { s with heap:=s.heap.update p (Obj.mapSeq (·.setIfInBounds j u)) } :=
  I.lstUpd hp ho (adt its n j u) (r.set rv j) (by rw [cZ];exact hz) s.toks
 by_cases h0:0<=k
 ·have hk:k.toNat=j:=by
   rw [hJ h0 h4] at h1;exact bv h1
  exact PySem.W.ki_setAt ho h0 (by omega) (by rw [ay,<-hl];exact h4) (by rw [hk];exact ⟨_,I',q⟩)
 ·have hk:(k+(its.toArray.size:Int)).toNat=j:=by
   rw [gY (by omega) h3] at h1
   rw [ay,<-hl];exact bv h1
  exact PySem.W.ki_setBack ho (by omega) (by rw [ay,<-hl];exact h3) (by omega) (by rw [hk];exact ⟨_,I',q⟩)
theorem a9b(lo hi:Option Int)(n:Nat):(sliceBounds lo hi none n).1=((HT.sIx n 0 lo:Nat):Int)/\(sliceBounds lo hi none n).2.1=((HT.sIx n n hi:Nat):Int)/\(sliceBounds lo hi none n).2.2=1:=by
 refine ⟨?_,?_,rfl⟩
 ·cases lo with
  | none=>simp [sliceBounds,HT.sIx]
  | some i =>
   simp only [sliceBounds,HT.sIx,gK,show (1:Int) > 0 by decide,dC]
   by_cases h:i<0
   ·simp only [h,dC]<;>omega
   ·simp only [h,dW]<;>omega
 ·cases hi with
  | none=>simp [sliceBounds,HT.sIx]
  | some i =>
   simp only [sliceBounds,HT.sIx,gK,show (1:Int) > 0 by decide,dC]
   by_cases h:i<0
   ·simp only [h,dC]<;>omega
   ·simp only [h,dW]<;>omega
theorem a7h(its:List Value)(lo hi:Option Int):slicePick its.toArray lo hi none=((its.drop (HT.sIx its.length 0 lo)).take (HT.sIx its.length its.length hi - HT.sIx its.length 0 lo)).toArray:=by
 obtain ⟨h1,h2,h3⟩:=a9b lo hi its.toArray.size;unfold slicePick;rw [h1,h2,h3];simp only [sliceRange_one,pick_run,ay]<;>rfl
def avn(K:PySem.W.Frag):V->Option Int->Option Int->Hp->VK->Prop:=λx lo hi H Q=>∃ a xs,x = .ref a/\SqL K H a xs/\∀ p,H p=none->Q (.ref p) (upd H p (.lst (alz xs lo hi)))
theorem ank:SlR X (avn X.K):=by
 intro pins s σ H x v vl vu lo hi sl Q I rx hs pl pu h
 obtain ⟨a,xs,rfl,hx,q⟩:=h;cases rx
 obtain ⟨its,r,ht,hz⟩:=I.list hx;have hlen:=r.length;refine ⟨"list",_,slot_list_getitem.lookup,ht.isList.typeIs,?_⟩;refine wpAny_getItem_list_slice ht.isList hs pl pu .none (by simp) ?_ (by rw [ay]<;>omega)
 rw [a7h,<-hlen];refine ⟨.ref s.heap.objs.size,_,I.laid (t':=s.toks) (o:=.lst (alz xs lo hi)) (λb ob q=>ai _ q) (ar _) ?_,rfl,q _ (I.hok.fresh (ar _))⟩;exact ⟨bL (a4x xs lo hi) hz,_,0,(r.drop (HT.sIx xs.length 0 lo)).take (HT.sIx xs.length xs.length hi - HT.sIx xs.length 0 lo),aK _ rfl⟩
def a2b:V->Bool
 | .non=>true
 | .bl _=>true
 | .int _=>true
 | .str _=>true
 | _=>false
def eqV:V->V->Bool
 | .non, .non=>true
 | .bl a, .bl b=>a == b
 | .bl a, .int b=>(if a then 1 else 0) == b
 | .int a, .bl b=>a == (if b then 1 else 0)
 | .int a, .int b=>a == b
 | .str a, .str b=>a == b
 | _,_=>false
theorem afg(ry:RelV y u)(rx:RelV x v)(fy:a2b y=true)(fx:a2b x=true):SeqAt.EqAt A s u v (eqV y x):=by
 cases y with
 | non =>
  cases ry
  cases x with
  | non=>cases rx;exact SeqAt.EqAt.same _
  | bl b=>cases rx;exact SeqAt.EqAt.none_bool b
  | int b=>obtain ⟨t,rfl⟩:=rx;exact SeqAt.EqAt.none_int b t
  | str b=>obtain ⟨t,rfl⟩:=rx;exact SeqAt.EqAt.none_str b t
  | _=>exact absurd (show false=true from fx) aP
 | bl a =>
  cases ry
  cases x with
  | non=>cases rx;exact SeqAt.EqAt.bool_none a
  | bl b=>cases rx;exact SeqAt.EqAt.bool_bool a b
  | int b=>obtain ⟨t,rfl⟩:=rx;exact SeqAt.EqAt.bool_int a b t
  | str b=>obtain ⟨t,rfl⟩:=rx;exact SeqAt.EqAt.bool_str a b t
  | _=>exact absurd (show false=true from fx) aP
 | int a =>
  obtain ⟨t',rfl⟩:=ry
  cases x with
  | non=>cases rx;exact SeqAt.EqAt.int_none a t'
  | bl b=>cases rx;exact SeqAt.EqAt.int_bool a t' b
  | int b=>obtain ⟨t,rfl⟩:=rx;exact SeqAt.EqAt.int_int a t' b t
  | str b=>obtain ⟨t,rfl⟩:=rx;exact SeqAt.EqAt.int_str a t' b t
  | _=>exact absurd (show false=true from fx) aP
 | str a =>
  obtain ⟨t',rfl⟩:=ry
  cases x with
  | non=>cases rx;exact SeqAt.EqAt.str_none a t'
  | bl b=>cases rx;exact SeqAt.EqAt.str_bool a t' b
  | int b=>obtain ⟨t,rfl⟩:=rx;exact SeqAt.EqAt.str_int a t' b t
  | str b=>obtain ⟨t,rfl⟩:=rx;exact SeqAt.EqAt.str_str a t' b t
  | _=>exact absurd (show false=true from fx) aP
 | _=>exact absurd (show false=true from fy) aP
def eqU(x:V)(u:Value):Bool:=match u with
 | .none=>eqV .non x
 | .bool b=>eqV (.bl b) x
 | .int i _=>eqV (.int i) x
 | .str z _=>eqV (.str z) x
 | _=>false
theorem am0(r:RelV y u)(f:a2b y=true):eqU x u=eqV y x:=by
 cases y with
 | non=>cases r;rfl
 | bl b=>cases r;rfl
 | int i=>obtain ⟨t,rfl⟩:=r;rfl
 | str z=>obtain ⟨t,rfl⟩:=r;rfl
 | _=>exact absurd (show false=true from f) aP
theorem a4z:∀ {xs:List V} {us:List Value},Vals xs us->xs.all a2b=true->us.any (eqU x)=xs.any λy=>eqV y x
 | _,_, .nil,_=>rfl
 | y::xs,u::us, .cons r t,f=>by
  rw [eC,bV] at f;rw [gG,gG,am0 r f.1,a4z t f.2]
theorem a2j(rx:RelV x v)(fx:a2b x=true):∀ {xs:List V} {us:List Value},Vals xs us->xs.all a2b=true->∀ u∈us,SeqAt.EqAt A s u v (eqU x u)
 | _,_, .nil,_=>λu hu=>by cases hu
 | y::xs,u::us, .cons r t,f=>λu' hu=>by
  rw [eC,bV] at f
  rcases aD.mp hu with rfl | hu
  ·rw [am0 r f.1];exact afg r rx f.1 fx
  ·exact a2j rx fx t f.2 u' hu
def inV(x:V)(xs:List V):Bool:=xs.any λy=>eqV y x
def rIn(K:PySem.W.Frag)(neg:Bool):R2:=λx y H Q=>∃ p xs,y = .ref p/\(SqL K H p xs\/SqT K H p xs)/\a2b x=true/\xs.all a2b=true/\Q (.bl (if neg then !inV x xs else inV x xs)) H
theorem zx:OpR X (compareOp .In) (rIn X.K false):=by
 intro pins s σ H x y v u Q I rx ry h
 obtain ⟨p,xs,rfl,hq,fx,fs,q⟩:=h;cases ry
 rcases hq with hq | hq
 ·obtain ⟨its,r,pl,hz⟩:=I.list hq;refine SeqAt.in_listAt (eqU x) pl.isList (λw hw=>a2j rx fx r fs w (by simpa using hw)) ⟨.bl _,H,I,rfl,?_⟩
  rw [show its.toArray.any (eqU x)=its.any (eqU x) by simp,a4z r fs]
  exact q
 ·obtain ⟨its,r,pl,hz⟩:=I.tuple hq;refine SeqAt.in_tupleAt (eqU x) pl (λw hw=>a2j rx fx r fs w (by simpa using hw)) ⟨.bl _,H,I,rfl,?_⟩
  rw [show its.toArray.any (eqU x)=its.any (eqU x) by simp,a4z r fs]
  exact q
theorem a4b:OpR X (compareOp .NotIn) (rIn X.K true):=by
 intro pins s σ H x y v u Q I rx ry h
 obtain ⟨p,xs,rfl,hq,fx,fs,q⟩:=h;cases ry
 rcases hq with hq | hq
 ·obtain ⟨its,r,pl,hz⟩:=I.list hq;refine SeqAt.notIn_listAt (eqU x) pl.isList (λw hw=>a2j rx fx r fs w (by simpa using hw)) ⟨.bl _,H,I,rfl,?_⟩
  rw [show its.toArray.any (eqU x)=its.any (eqU x) by simp,a4z r fs]
  exact q
 ·obtain ⟨its,r,pl,hz⟩:=I.tuple hq;refine SeqAt.notIn_tupleAt (eqU x) pl (λw hw=>a2j rx fx r fs w (by simpa using hw)) ⟨.bl _,H,I,rfl,?_⟩
  rw [show its.toArray.any (eqU x)=its.any (eqU x) by simp,a4z r fs]
  exact q
theorem dz:CallR X (.builtin "len") (λxs H Q=>∃ p ys,xs=[.ref p]/\(SqL X.K H p ys\/SqT X.K H p ys)/\Q (.int ys.length) H):=by
 intro pins s σ H xs us Q I r h
 obtain ⟨p,ys,rfl,hq,q⟩:=h;obtain ⟨u,rfl,rx⟩:=vals1 r;cases rx
 have hn:=a4a
 rcases hq with hq | hq
 ·obtain ⟨its,r',pl,hz⟩:=I.list hq;have hlen:=r'.length;exact Calls.call_len_list pl.isList (by simp only [ay]<;>omega) ⟨.int ys.length,H,I.tok _,⟨s.toks+1,by rw [ay,hlen]⟩,q⟩
 ·obtain ⟨its,r',pl,hz⟩:=I.tuple hq;have hlen:=r'.length;exact len_tuple pl (by simp only [ay]<;>omega) ⟨.int ys.length,H,I.tok _,⟨s.toks+1,by rw [ay,hlen]⟩,q⟩
theorem fu:CallR X (.builtin "len") (λxs H Q=>∃ z,xs=[.str z]/\z.length<=sizeLine/\Q (.int z.length) H):=by
 intro pins s σ H xs us Q I r h
 obtain ⟨z,rfl,hz,q⟩:=h;obtain ⟨u,rfl,t,rfl⟩:=vals1 r;have hn:=a4a;exact len_str (by omega) ⟨.int z.length,H,I.tok _,⟨_,rfl⟩,q⟩
theorem CallR.or(h:CallR X f r)(h':CallR X f r'):CallR X f (λxs H Q=>r xs H Q\/r' xs H Q):=by
 intro pins s σ H xs us Q I rs q
 rcases q with q | q
 ·exact h pins s σ H xs us Q I rs q
 ·exact h' pins s σ H xs us Q I rs q
theorem xr:CallR X (.type "tuple") (λxs H Q=>∃ p ys,xs=[.ref p]/\((SqL X.K H p ys/\∀ l,H l=none->Q (.ref l) (upd H l (.tup ys)))\/(SqT X.K H p ys/\Q (.ref p) H))):=by
 intro pins s σ H xs us Q I r h
 obtain ⟨p,ys,rfl,h⟩:=h;obtain ⟨u,rfl,rx⟩:=vals1 r;cases rx
 rcases h with ⟨hq,q⟩ | ⟨hq,q⟩
 ·obtain ⟨its,r',pl,hz⟩:=I.list hq;have hlen:=r'.length;refine call_tuple_list pl.isList (λh' kp=>?_) (by simp only [ay]<;>omega)
  have I1:Inv X pins σ H { s with heap:=h' }:=I.kept (t':=s.toks) kp
  have I2:Inv X pins σ (upd H h'.objs.size (.tup ys)) { s with heap:=h'.push { cls:=.type "tuple",data:=.seq its.toArray } } :=
   I1.laid (t':=s.toks) (λb o e=>ai _ e) (ar _) (show ObjOk X.prog X.w _ _ _ (.tup ys) from ⟨hz,its,r',IsTup.new _ _⟩)
  exact ⟨.ref h'.objs.size,_,I2,rfl,q _ (I1.hok.fresh (ar _))⟩
 ·obtain ⟨its,r',pl,hz⟩:=I.tuple hq;exact call_tuple_same pl ⟨.ref p,H,I,rfl,q⟩
def tyV(K:PySem.W.Frag)(T:String)(x:V)(H:Hp):Prop:=match x with
 | .str _=>T = "str"
 | .int _=>T = "int"
 | .ref p=>(T = "list"/\∃ xs,SqL K H p xs)\/(T = "tuple"/\∃ o,K.lookup p=some o/\o.cls = .type "tuple"/\o.dict=none) \/
   (T = "dict"/\((∃ kvs,H p=some (.dK kvs))\/∃ kvs,H p=some (.dT kvs)))\/(T = "set"/\∃ S n,H p=some (.set S n))
 | _=>False
theorem am1(I:Inv X pins σ H s)(r:RelV x v)(ty:tyV X.K T x H) :
  s.TypeIs v T/\∀ a,v = .ref a->∃ ob,s.heap.get? a=some ob/\ob.dict=none:=by
 cases x with
 | str z =>
  obtain ⟨t,rfl⟩:=r
  cases (show T = "str" from ty)
  exact ⟨typeIs_str s z t,λ_ e=>nomatch e⟩
 | int i =>
  obtain ⟨t,rfl⟩:=r
  cases (show T = "int" from ty)
  exact ⟨dA s i t,λ_ e=>nomatch e⟩
 | ref p =>
  cases r
  rcases ty with ⟨rfl,xs,hq⟩ | ⟨rfl,o,hk,hc,hd⟩ | ⟨rfl,hk⟩ | ⟨rfl,S,n,hk⟩
  ·obtain ⟨its,_,pl,_⟩:=I.list hq;refine ⟨pl.isList.typeIs,λa e=>?_⟩;cases e
   obtain ⟨o,n,e,c,hd,_⟩:=pl;exact ⟨o,e,hd⟩
  ·refine ⟨⟨o,I.kIn p o hk,hc⟩,λa e=>?_⟩;cases e
   exact ⟨o,I.kIn _ o hk,hd⟩
  ·have z:∃ o,s.heap.get? p=some o/\o.ExactDict:=by
    rcases hk with ⟨kvs,hk⟩ | ⟨kvs,hk⟩
    ·obtain ⟨_,_,_,_,o,_,_,e,ex,_⟩:=I.hok p _ hk;exact ⟨o,e,ex⟩
    ·obtain ⟨_,_,_,_,o,_,_,e,ex,_⟩:=I.hok p _ hk;exact ⟨o,e,ex⟩
   obtain ⟨o,e,ex⟩:=z;refine ⟨⟨o,e,ex.1⟩,λa e2=>?_⟩;cases e2
   exact ⟨o,e,ex.2.1⟩
  ·obtain ⟨o,_,_,_,e,ex,_⟩:=I.hok p _ hk;refine ⟨⟨o,e,ex.1⟩,λa e2=>?_⟩;cases e2
   exact ⟨o,e,ex.2.1⟩
 | _=>exact False.elim ty
def tBM(K:PySem.W.Frag)(T:String)(r:V->List V->Hp->VK->Prop)(to:TE)(t:TA):TE:=λσ H Q=>to σ H λx H1=>tyV K T x H1/\t σ H1 λxs H2=>r x xs H2 Q
variable{o e:Expr}{es:List Expr}{to:TE}{t:TA}{name:Str}{apos cpos:Pos}{T id:String}{r:V->List V->Hp->VK->Prop}
theorem avo(pa:PlainAttrs T)(slot:Slot T name id)(hty:typeOf (.builtin id)=pure (.type "method_descriptor"))(hm:MtR X id r)(ho:PE X o to)(ha:PA X (e::es) t)
  (hbase:attributeBase o name X.env (eval o X.env)=eval o X.env:=by rfl)
  (hfew:((backTo cpos (starEach (e::es) X.env)).all (λx => !x.1) && (backToKw cpos (keywordEach [] X.env)).all (λx=>x.1.isSome)
   && decide ((e::es).length+([]:List Keyword).length+(if ([]:List Keyword).isEmpty then 0 else 1)<30))=true:=by rfl)
  (hline:(apos.endLine == cpos.line)=true:=by rfl) (hs:starEach (e::es) X.env=(false,eval e X.env)::starEach es X.env:=by rfl) (hplain:(backTo cpos (starEach es X.env)).any (·.1)=false:=by rfl) :
  PE X (.Call (.Attribute o name apos) (e::es) [] cpos) (tBM X.K T r to t):=by
 intro pins s σ H Q I h
 refine wpAny_Call_method_late hbase hfew hline rfl (thn (ho pins s σ H _ I h) λv s1 ⟨x,H1,I1,r1,ty,q1⟩=>?_);obtain ⟨h1,h2⟩:=am1 I1 r1 ty;refine ⟨T,id,pa,slot,hty,h1,h2,?_⟩;have hA:=ha cpos pins s1 σ H1 _ I1 q1;rw [hs] at hA ⊢;refine Calls.callWith_builtin (by show (false || (backTo cpos (starEach es X.env)).any (·.1))=false;rw [hplain]<;>rfl) (Calls.evalArgs_plain ?_)
 exact thn hA λus s2 ⟨vs,H2,I2,r2,q2⟩=>hm pins s2 σ H2 x vs v us Q I2 r1 r2 q2
end
def MtM(X:Cx)(id:String)(r:V->List V->Hp->VK->Prop):Prop :=
 ∀ (pins:List (Addr × Obj)) (s:Shared) (σ:St) (H:Hp) (x:V) (xs:List V) (v:Value) (us:List Value) (Q:VK),Inv X pins σ H s->RelV x v->Vals xs us->r x xs H Q->
  wpAny (model X.prog X.w) X.A (call (.builtin id) (v::us)) (EP X pins σ Q) X.xe s
theorem Vals.one:∀ {x:V} {us:List Value},Vals [x] us->∃ u,us=[u]/\RelV x u
 | _,_, .cons r .nil=>⟨_,rfl,r⟩
theorem Vals.rep(h:Vals xs us):∀ k:Nat,Vals (List.replicate k xs).flatten (List.replicate k us).flatten
 | 0=>.nil
 | k+1=>by
  rw [ce,ce,bK,bK];exact Vals.append h (Vals.rep h k)
theorem foldl_rep(its:List Value):∀ (k:Nat) (acc:List Value),
  List.foldl (λx1 x2=>x1++x2) acc.toArray (List.replicate k its.toArray)=(acc++(List.replicate k its).flatten).toArray
 | 0,acc=>by simp
 | k+1,acc=>by
  have e:acc.toArray++its.toArray=(acc++its).toArray:=by simp
  have e2:(acc++its)++(List.replicate k its).flatten=acc++(List.replicate (k+1) its).flatten:=by
   rw [ce,bK,da]
  rw [<-e2,<-foldl_rep its k (acc++its),<-e,ce,cP]
section
variable{X:Cx}{pins:List (Addr × Obj)}{σ:St}{H:Hp}{s:Shared}{l b:Addr}{xs ys zs:List V}
theorem Inv.lset{its its':List Value}(I:Inv X pins σ H s)(hH:H l=some (.lst xs))
  (e:s.heap.get? l=some { cls:=.type "list",data:=.seq its.toArray n }) (hf:f its.toArray=its'.toArray) (hv:Vals ys its') (hz:ys.length<=sizeLine) :
  Inv X pins σ (upd H l (.lst ys)) { s with heap:=s.heap.update l (Obj.mapSeq f),toks:=t' }:=by
 have q:=gL e f;rw [hf] at q;refine I.write (x:=l) (e:=l) (by rw [hH];exact trivial) (.inl rfl) (λb' u hb hu=>(cA s.heap (Obj.mapSeq f) (cX hb)).trans hu) ⟨_,q⟩ ?_
 exact ⟨hz,its',_,hv,q⟩
theorem Inv.lnew(I:Inv X pins σ H s)(hv:Vals ys its)(hz:ys.length<=sizeLine) :
  Inv X pins σ (upd H s.heap.objs.size (.lst ys)) { s with heap:=s.heap.push { cls:=.type "list",data:=.seq its.toArray },toks:=t' } :=
 I.laid (λ_ _ q=>ai _ q) (ar _) ⟨hz,its,0,hv,aK _ rfl⟩
theorem Inv.fresh(I:Inv X pins σ H s):H s.heap.objs.size=none:=I.hok.fresh (ar _)
theorem Inv.lstM(I:Inv X pins σ H s)(hH:H l=some (.lst xs)):xs.length<=sizeLine/\∃ (its:List Value) (n:Nat),Vals xs its/\xs.length=its.length/\s.heap.get? l=some { cls:=.type "list",data:=.seq its.toArray n }:=by
 obtain ⟨z,its,n,r,e⟩:=I.hok l _ hH;exact ⟨z,its,n,r,r.length,e⟩
theorem a2k(h:n<=sizeLine):Builtin.List.listTooLong n=false:=by
 unfold Builtin.List.listTooLong;exact aY (by omega)
end
section
variable{X:Cx}
def afh:V->List V->Hp->VK->Prop:=λx vs H Q=>∃ l xs y,x = .ref l/\vs=[y]/\H l=some (.lst xs)/\xs.length<sizeLine/\Q .non (upd H l (.lst (xs++[y])))
theorem a2l:MtM X "list.append" afh:=by
 intro pins s σ H x vs v us Q I rx rv h
 obtain ⟨l,xs,y,rfl,rfl,hH,hz,q⟩:=h;cases rx
 obtain ⟨u,rfl,ru⟩:=rv.one;obtain ⟨z,its,n,r,hl,e⟩:=I.lstM hH;refine cv c9 ⟨_,e,rfl⟩ fA (eZ _ _) (gA l its.toArray n u (by rw [ay];omega)) ⟨e,?_⟩
 refine ⟨.non,_,I.lset (its':=its++[u]) hH e (by simp) (r.append (.cons ru .nil)) ?_,rfl,q⟩
 rw [ap,ax];omega
def aqx:R2:=λx y H Q=>∃ l k xs,x = .ref l/\y = .int k/\H l=some (.lst xs) /\ -(2 ^ 63)<=k/\k<2 ^ 63/\xs.length*k.toNat<=sizeLine /\
 ∀ p,H p=none->Q (.ref p) (upd H p (.lst (List.replicate k.toNat xs).flatten))
theorem len_rep{α:Type}(xs:List α)(k:Nat):(List.replicate k xs).flatten.length=k*xs.length:=by
 induction k with
 | zero=>simp
 | succ k ih=>rw [ce,bK,ap,ih,dF,Nat.add_comm]
theorem aqy:OpR X (binaryOp .Mult) aqx:=by
 intro pins s σ H x y v u Q I rx ry h
 obtain ⟨l,k,xs,rfl,rfl,hH,h1,h2,hz,q⟩:=h;cases rx
 obtain ⟨t,rfl⟩:=ry;obtain ⟨z,its,n,r,hl,e⟩:=I.lstM hH;have hlen:its.toArray.size*k.toNat<=sizeLine:=by rw [ay,<-hl];exact hz
 have hcap:¬ its.toArray.size*k.toNat > (2 ^ 63 - 1) / 8:=by
  have:(sizeLine:Nat)<=(2 ^ 63 - 1) / 8:=by decide
  omega
 have hfit:¬ (!Builtin.List.listFitsIndex k)=true:=by
  rw [fitsIndex_both h1 h2];exact aP
 have hlong:¬ Builtin.List.listTooLong (its.toArray.size*k.toNat)=true:=by
  rw [a2k hlen];exact aP
 have hnew:List.foldl (λx1 x2=>x1++x2) #[] (List.replicate (if its.toArray.isEmpty=true then 0 else k.toNat) its.toArray)=(List.replicate k.toNat its).flatten.toArray:=by
  have f0:∀ m:Nat,List.foldl (λx1 x2=>x1++x2) #[] (List.replicate m its.toArray)=(List.replicate m its).flatten.toArray:=λm=>by
   have:=foldl_rep its m []
   rw [cI] at this;exact this
  rw [f0]
  cases its with
  | nil=>simp
  | cons a r'=>rw [aL (by simp)]
 refine cE (T := "list") (U := "int") (by decide) ⟨_,e,rfl⟩ (λs'=>dA s' k t) noFill_list_mul eD cm repeat_list dX.lookup
  (cv cm (dA s k t) dY (dM _ _) (int___rmul___int_list k t l its.toArray n)
   ⟨e,rfl,⟨_,e,rfl⟩,cv F.slot_list_mul ⟨_,e,rfl⟩ F.entry_list_mul (F.args_list_mul_2 _ _) (eE l its.toArray n k t hfit hcap hlong) ⟨e,?_⟩⟩)
 rw [hnew];exact ⟨.ref _,_,I.lnew (t':=s.toks) (r.rep k.toNat) (by rw [len_rep,eR];exact hz),rfl,q _ I.fresh⟩
end
end L2
namespace Att
open PySem PySem.W PySem.Calls PyProof.Rows
theorem a5a:∀ (ns:List Int) (vs:List Value),WellAll P h vs (ns.map WData.int)->IntsAre vs ns:=by
 intro ns
 induction ns with
 | nil =>
  intro vs w
  rw [cL] at w;cases w
  exact .nil
 | cons n ns ih =>
  intro vs w
  rw [aZ] at w
  cases w with
  | cons a b =>
   cases a
   exact .cons _ _ (ih _ b)
theorem afi{l:OpenLaw}(hn:l.most=some n)
  (hpre:l.row.toRowW.claim.pre args=true) (hwl:WellAll P h vals args) :
  ∃ a vs ns,vals=[Value.ref a]/\args=[WData.list (ns.map WData.int)]/\h.get? a=some { cls:=.type "list",data:=.seq vs.toArray }/\IntsAre vs ns/\ns.length<=n:=by
 have hsh:WShape.hasAll [] args [.list .int]=true:=(pre_splitW hpre).1;have hc:l.pre.holds [] { args:=args }=true:=(pre_splitW hpre).2;obtain ⟨d,r,rfl,h1,h2⟩:=hasAllW_cons hsh;obtain rfl:=hasAllW_nil h2;obtain ⟨xs,rfl,h3⟩:=hasW_list h1;obtain ⟨ns,rfl⟩:=items_int h3;have hlen:ns.length<=n:=by
  unfold OpenLaw.pre at hc;have h4:(WTm.not (.lt (.lit (.int (n:Int))) (.len (.arg 0)))).holds [] { args:=[.list (ns.map .int)] }=true:=by
   have h4:=(holds_andW hc).1;rw [hn] at h4;exact h4
  have h5:=condW_of h4 (w_not (w_lt w_lit (w_len_list (w_arg rfl))));rw [am] at h5;refine Nat.le_of_not_lt λq=>?_;have q':(n:Int)<((ns.length:Nat):Int):=by omega
  first
   | (rw [cF q'] at h5;exact absurd h5 (by decide))
   | (simp at h5;omega)
 cases hwl with
 | cons w1 w2 =>
  cases w2
  cases w1 with
  | list ho hall=>exact ⟨_,_,ns,rfl,rfl,ho,a5a ns _ hall,hlen⟩
theorem afj(l:OpenLaw)(args:List WData):l.row.toRowW.claim.post args (.bool true) args=true :=
 postW_of (r:=l.row.toRowW) (X:=(true == true))
  (show WShape.has [] (.bool true) .bool=true by first | rfl | decide | simp [WShape.has,WShape.arms,WShape.armsAll])
  (show (WTm.eq .res (.lit (.bool true))).value [] { args:=args,res:=some (.bool true),after:=args }=some (.bool (true == true)) from w_eq_bool (w_res rfl) w_lit) rfl
theorem aao{l:OpenLaw}{d:DefRec}
  (hn:l.most=some n) (hdf:d.params.defaults=[])
  (call:∀ (w:World) (s₀ s₁:Shared) (mg mb:Str->Option Value) (fa:Addr) (o:Obj) (pm cd doc:Value) (a:Addr) (vs:List Value) (ns:List Int),
   Ground q loose [] XP w s₀ mg mb s₁.heap->YP w s₁.heap->
   s₁.heap.get? fa=some o->o.data = .func (docDef d.name d.params d.body d.scope pm cd doc)->s₁.heap.CodeRec cd d.name->mg d.name=some (.ref fa)->
   s₁.heap.get? a=some { cls:=.type "list",data:=.seq vs.toArray }->IntsAre vs ns->ns.length<=n->s₁.gens = #[]->
   codeAny (model l.prog w) callerA (.call (.ref fa) ⟨[.ref a],[]⟩) (λr s'=>r = .ok (.ret (.bool true))/\OldK s₁.heap s'.heap/\s'.os=s₁.os/\AllBare s'.gens) s₁) :
  WalkO q loose XP YP l.row.toRowW d [] (λf vs=>PySem.call f vs):=by
 intro w s₀ s₁ mg mb G Y fa o pm cd doc dV kV ho hd hcd hD hmg hg args vals as hpre hlay hrd hwl hlo
 obtain rfl:dV = .none:=Dflts.none hD hdf
 obtain rfl:kV = .none:=Dflts.noKw hD
 obtain ⟨a,vs,ns,rfl,rfl,hobj,hints,hlen⟩:=afi hn hpre hwl;refine enter_call (eP (call w s₀ s₁ mg mb fa o pm cd doc a vs ns G Y ho (fd_plain hd) hcd hmg hobj hints hlen hg) λr s' hq=>?_);obtain ⟨rfl,h2,h3,h4⟩:=hq;exact ⟨.inl ⟨.bool true, .bool true,[],rfl,λ_=>rfl, .bool true,afj l _,λ_=>⟨List.Pairwise.nil,λ_ hm=>(nomatch hm)⟩⟩,h2,h3,h4⟩
end Att
namespace L2
open PySem PySem.Spec PyProof.Rows
theorem a2m:∀ {vs:List Value} {ns:List Int},IntsAre vs ns->Vals (ns.map V.int) vs
 | _,_, .nil=>.nil
 | _,_, .cons n t h=>.cons ⟨t,rfl⟩ (a2m h)
def Only(H:Hp):Prop:=∀ b,H b=none\/∃ o xs,H b=some (.frz o (.lst xs))
theorem aj9{K:PySem.W.Frag}{s₁:Shared}{vs:List Value}
  (KX:K.In s₁.heap) (hns:s₁.heap.Ns mainGlobals mg) (hb:s₁.heap.Ns builtinsNs mb) (hbb:∀ x:Str,x ≠ "__name__"->mb x=bootBuiltins x) (hlim:s₁.heap.NoLimit) (hg:s₁.gens = #[])
  (ha:s₁.heap.get? a=some { cls:=.type "list",data:=.seq vs.toArray }) (hi:IntsAre vs ns) (hl:ns.length<=sizeLine) (hr:Room k callerA)
  (F:∀ base:Heap,K.In base->base.Ns mainGlobals mg->FnOk P w K mg base CX k fa fd [x] sp) (hbind:∀ (s:Shared) (u:Value),BindsTo s fd ⟨[u],[]⟩ [(x,u)])
  (hsp:∀ H:Hp,Only H->SqL K H a (ns.map V.int)->sp [.ref a] H (λv _=>v = .bl true) λ_ _ _=>False)
  (hCX:∀ H e s',CX [] H s₁ (λ_ _ _=>False) e s'->False) :
  codeAny (model P w) callerA (.call (.ref fa) ⟨[.ref a],[]⟩) (λr s'=>r = .ok (.ret (.bool true))/\OldK s₁.heap s'.heap/\s'.os=s₁.os/\AllBare s'.gens) s₁:=by
 have rv:=a2m hi;have lenV:=hi.length;have core:∀ H:Hp,Only H->SqL K H a (ns.map V.int)->HOk P w H s₁.heap->(∀ b,H b≠none->b=a)->(H a≠none->K.lookup a=none)->
   codeAny (model P w) callerA (.call (.ref fa) ⟨[.ref a],[]⟩) (λr s'=>r = .ok (.ret (.bool true))/\OldK s₁.heap s'.heap/\s'.os=s₁.os/\AllBare s'.gens) s₁:=by
  intro H hO hS hok hA hK
  have base_of:∀ {b:Addr} {o:Obj},s₁.heap.get? b=some o->H b=none->(aiu s₁.heap H).get? b=some o:=λe n=>aiv e n;have noA:∀ {b:Addr} {o:Obj} {es:Array DictEntry} {ep:Nat},s₁.heap.get? b=some o->o.data = .dict es ep->H b=none:=λ{b o es ep} e d=>by
   cases q:H b with
   | none=>rfl
   | some u =>
    have e':b=a:=hA b (by rw [q];simp)
    subst e';rw [ha] at e;cases e
    have d':Data.seq vs.toArray _=Data.dict es ep:=d
    cases d'
  have nsK:∀ {b:Addr} {m:Str->Option Value},s₁.heap.Ns b m->(aiu s₁.heap H).Ns b m:=λ{b m} ⟨o,es,ep,e,d,r⟩=>⟨o,es,ep,base_of e (noA e d),d,r⟩;have hKb:K.In (aiu s₁.heap H):=λb o e=>base_of (KX b o e) (by
   cases q:H b with
   | none=>rfl
   | some u =>
    have e':b=a:=hA b (by rw [q];simp)
    subst e';rw [hK (by rw [q];simp)] at e;cases e)
  have hM:Mod K mg (aiu s₁.heap H):=⟨hKb,nsK hns,⟨mb,nsK hb,hbb⟩,let ⟨mc,h1,h2⟩:=hlim; ⟨mc,nsK h1,h2⟩⟩;have e0:Env0 P w K mg (aiu s₁.heap H) callerA [] s₁ H:=⟨rfl,hM,λb o e=>amz e,Nat.le_of_eq (aey _ _),trivial,λb hb=>absurd (show b∈([]:List Addr) from hb) (by simp),hok, .of_eq hg⟩
  refine eP ((F _ hKb (nsK hns)).run callerA [] s₁ H ⟨[.ref a],[]⟩ [.ref a] [.ref a] _ _ hr e0 (hbind s₁ (.ref a)) (.cons rfl .nil) (hsp H hO hS)) λr s' h=>?_
  cases r with
  | error e=>exact (hCX H e s' h).elim
  | ok fl =>
   cases fl with
   | next=>exact False.elim h
   | brk=>exact False.elim h
   | cont=>exact False.elim h
   | ret u =>
    obtain ⟨v,H',os,bare,un,hok',r',q⟩:=h;have q':v = .bl true:=q;subst q';obtain rfl:u=Value.bool true:=r';refine ⟨rfl,OldK.of_keep λb o e=>?_,os,bare⟩
    cases q:H b with
    | none=>exact un.keep b o e q (by intro z;exact absurd (show b∈([]:List Addr) from z) (by simp)) (by simp)
    | some u =>
     rcases hO b with z | ⟨ob,xs,z⟩
     ·rw [q] at z;cases z
     ·have z2:=un.frzs b ob _ z;obtain ⟨e1,_⟩:=hok b _ z;obtain ⟨e2,_⟩:=hok' b _ z2;rw [e] at e1;cases e1
      exact e2
 cases hk:K.lookup a with
 | some o =>
  have e:=KX a o hk;rw [ha] at e;cases e
  refine core (λ_=>none) (λ_=>.inl rfl) (.inr ⟨_,vs.toArray,_,hk,rfl,rfl,rfl,by rw [ay,lenV];exact hl,by simpa using rv⟩) (λb u z=>by have z':(none:Option HO)=some u:=z;cases z') (λb z=>absurd rfl z) λz=>absurd rfl z
 | none =>
  refine core (λb=>if b=a then some (.frz { cls:=.type "list",data:=.seq vs.toArray } (.lst (ns.map V.int))) else none) (λb=>?_) (.inl (.inr ⟨{ cls:=.type "list",data:=.seq vs.toArray },aA rfl⟩)) (λb u z=>?_) (λb z=>?_) λ_=>hk
  ·by_cases hb:b=a
   ·exact .inr ⟨_,_,aA hb⟩
   ·exact .inl (aL hb)
  ·by_cases hb:b=a
   ·have z':=(aA hb).symm.trans z
    cases z'
    subst hb;exact ⟨ha,by rw [am];exact hl,vs,_,rv,ha⟩
   ·have z':=(aL hb).symm.trans z
    cases z'
  ·by_cases hb:b=a
   ·exact hb
   ·exact absurd (aL hb) z
theorem anl{l:PySem.W.OpenLaw}{n k:Nat}{q:Program}{loose:List Str}{XP:(Str->Option Value)->Heap->Prop}{YP:World->Heap->Prop}{d:DefRec}{K:Params->PySem.W.Frag}{CX:World->CXT}{sp:World->Sp}{x:Str}
  (hn:l.most=some n) (hn2:n<=sizeLine) (hdf:d.params.defaults=[]) (hr:Room k callerA)
  (hY:∀ (w:World) (h:Heap),YP w h->(K w.params).In h)
  (F:∀ (w:World) (mg:Str->Option Value) (fa:Addr) (h:Heap),(K w.params).In h->h.Ns mainGlobals mg->mg d.name=some (.ref fa)->
   ∃ fd:FuncData,(∀ (s:Shared) (u:Value),BindsTo s fd ⟨[u],[]⟩ [(x,u)]) /\
    ∀ base:Heap,(K w.params).In base->base.Ns mainGlobals mg->FnOk l.prog w (K w.params) mg base (CX w) k fa fd [x] (sp w))
  (hsp:∀ (w:World) (H:Hp) (a:Addr) (ns:List Int),ns.length<=n->Only H->SqL (K w.params) H a (ns.map V.int)->sp w [.ref a] H (λv _=>v = .bl true) λ_ _ _=>False)
  (hCX:∀ (w:World) (H:Hp) (s:Shared) (e:Value) (s':Shared),CX w [] H s (λ_ _ _=>False) e s'->False) :
  PySem.W.WalkO q loose XP YP l.row.toRowW d [] (λf vs=>PySem.call f vs):=by
 refine Att.aao hn hdf λw s₀ s₁ mg mb fa o pm cd doc a vs ns G Y ho hd hcd hmg hobj hints hlen hg=>?_;have KX:=hY w _ Y;obtain ⟨fd,hb,hF⟩:=F w mg fa _ KX G.T.g hmg;exact aj9 KX G.T.g G.T.b G.T.builtins G.T.nolimit hg hobj hints (bL hlen hn2) hr hF hb (λH hO hS=>hsp w H a ns hlen hO hS) λH e s'=>hCX w H s₁ e s'
def a3j(s:Stmt):Arguments:=match s with
 | .FunctionDef _ a _ _ _ _ _ _ _ _=>a
 | _=>{ posonlyargs:=[],args:=[],vararg:=none,kwonlyargs:=[],kw_defaults:=[],kwarg:=none,defaults:=[] }
def ji(s:Stmt):List Stmt:=match s with
 | .FunctionDef _ _ b _ _ _ _ _ _ _=>b
 | _=>[]
def bj(s:Stmt):Scope:=match s with
 | .FunctionDef _ _ _ _ _ _ sc _ _ _=>sc
 | _=>{ kind:=.function,names:=[],isGenerator:=false,isCoroutine:=false }
abbrev CX0:CXT:=λ_ _ _ _ _ _=>False
abbrev E0:XK:=λ_ _ _=>False
theorem aqz:abq CX0 X E0:=λ_ _ _ _ _ _ _ h=>h.elim
structure Fun (K:PySem.W.Frag) (x qual:Str) (st:Stmt) (f:Addr) (fd:FuncData):Prop where
 ex:∃ (oc:Value) (od:Option Addr) (kV doc pm:Value) (an:Option Addr) (cdv ct:Value) (osl:Array (Option Value)),
  fd=PySem.W.fnOf x qual (a3j st) (ji st) (bj st) .none kV doc pm an cdv ct/\K.lookup f=some ⟨oc,od, .func fd,osl⟩/\PySem.W.codeIn K cdv qual=true
 kp:PySem.W.keepIn K (.ref f)=true
section
variable{P:Program}{w:World}{K:PySem.W.Frag}{mg:Str->Option Value}{base:Heap}
theorem Fun.ok{x qual:Str}{st:Stmt}{f:Addr}{fd:FuncData}{N ps:List Str}{k:Nat}{sp:Sp}(F:Fun K x qual st f fd)(S:FnScope N ps (bj st))(len:∀ vs H Q E,sp vs H Q E->vs.length=ps.length)
  (hbody:∀ (cdv:Value) (A:Around) (outer:List Env) (s:Shared) (H:Hp) (vs:List V) (Q:VK) (E:XK),Room k (A.deeper (envOfC qual (bj st) s.heap.objs.size f cdv))->sp vs H Q E->
   ∃ t,PSs (a1c CX0 P w K mg base N qual (bj st) f cdv A outer s H E).nox (ji st) t/\t { nx:=λ_ H'=>Q .non H',rt:=Q } (start N vs) H):FnOk P w K mg base CX0 (k+1) f fd ps sp:=by
 obtain ⟨oc,od,kV,doc,pm,an,cdv,ct,osl,rfl,lk,hcd⟩:=F.ex;refine avj lk hcd S len λA outer s H vs Q E hr hsp=>?_;obtain ⟨t,h,q⟩:=hbody cdv A outer s H vs Q E hr hsp;exact ⟨t,h.nox,q⟩
theorem Fun.binds{x qual:Str}{st:Stmt}{f:Addr}{fd:FuncData}{ps:List Str}(F:Fun K x qual st f fd)
  (h:∀ (kV doc pm:Value) (an:Option Addr) (cdv ct:Value) (us:List Value),us.length=ps.length->bindArgs (PySem.W.fnOf x qual (a3j st) (ji st) (bj st) .none kV doc pm an cdv ct) ⟨us,[]⟩=pure (ps.zip us)):Binds K fd ps []:=by
 obtain ⟨oc,od,kV,doc,pm,an,cdv,ct,osl,rfl,lk,hcd⟩:=F.ex;exact .all (h kV doc pm an cdv ct)
theorem ar0{x qual:Str}{st:Stmt}{f:Addr}{oc:Value}{od an:Option Addr}{osl:Array (Option Value)}{kV doc pm cdv ct:Value}(l:K.lookup f=some ⟨oc,od, .func (PySem.W.fnOf x qual (a3j st) (ji st) (bj st) .none kV doc pm an cdv ct),osl⟩)
  (c:PySem.W.codeIn K cdv qual=true) (k:PySem.W.keepIn K (.ref f)=true):Fun K x qual st f (PySem.W.fnOf x qual (a3j st) (ji st) (bj st) .none kV doc pm an cdv ct):=⟨⟨oc,od,kV,doc,pm,an,cdv,ct,osl,rfl,l,c⟩,k⟩
end
def Same(H H':Hp):Prop:=∀ b o,H b=some o->H' b=some o
theorem Same.seq{K:PySem.W.Frag}{H H':Hp}{a:Addr}{xs:List V}(e:Same H H')(h:SqL K H a xs):SqL K H' a xs:=by
 rcases h with (h | ⟨o,h⟩) | h
 ·exact .inl (.inl (e _ _ h))
 ·exact .inl (.inr ⟨o,e _ _ h⟩)
 ·exact .inr h
section
variable{κ:Type}[DecidableEq κ]
theorem RelO.getD(r:RelO o u)(rd:RelV d d'):RelV (o.getD d) (u.getD d'):=by
 cases o with
 | none=>cases u with
  | none=>exact rd
  | some _=>exact (show False from r).elim
 | some _=>cases u with
  | none=>exact (show False from r).elim
  | some _=>exact r
end
end L2
set_option maxHeartbeats 4000000
namespace L2
open PySem PySem.Spec PyProof.Rows
section
variable{X:Cx}
def a5b{α:Type}(xs:List α)(lo hi:Option Int):List α:=(xs.drop (HT.sIx xs.length 0 lo)).take (HT.sIx xs.length xs.length hi - HT.sIx xs.length 0 lo)
def avp:V->Option Int->Option Int->Hp->VK->Prop:=λx lo hi H Q=>∃ z,x = .str z/\z.length<=sizeLine/\Q (.str ⟨(a5b z.cps.toList lo hi).toArray⟩) H
theorem ar3(lo hi:Option Int)(n:Nat):Builtin.Str.strSliceIndices lo hi 1 n=(List.range (HT.sIx n n hi - HT.sIx n 0 lo)).map λk=>HT.sIx n 0 lo+k:=by
 have e1:Builtin.Str.strSliceIndices lo hi 1 n=sliceRange ((HT.sIx n 0 lo:Nat):Int) ((HT.sIx n n hi:Nat):Int) 1:=by
  unfold Builtin.Str.strSliceIndices;dsimp only
  congr 1
  ·cases lo with
   | none=>simp [HT.sIx]
   | some i=>simp only [HT.sIx,show (1:Int) > 0 by decide,dC];split<;>omega
  ·cases hi with
   | none=>simp [HT.sIx]
   | some i=>simp only [HT.sIx,show (1:Int) > 0 by decide,dC];split<;>omega
 rw [e1];exact sliceRange_one _ _
theorem ar4{α:Type}(xs:List α)(a:Nat):∀ k,a+k<=xs.length->((List.range k).map λj=>a+j).filterMap (xs[·]?)=(xs.drop a).take k
 | 0,_=>by simp
 | k+1,h=>by
  rw [List.range_succ,bg,List.filterMap_append,ar4 xs a k (by omega)]
  have hk:a+k<xs.length:=by omega
  rw [List.take_succ]
  congr 1
  simp [List.getElem?_drop,hk]
theorem ar5:SlR X avp:=by
 intro pins s σ H x v vl vu lo hi sl Q I rx hs pl pu h
 obtain ⟨z,rfl,hz,q⟩:=h;obtain ⟨t,rfl⟩:=rx;refine ⟨"str",_,PyProof.Rows.slot_str_getitem.lookup,typeIs_str s z t,?_⟩;have hl:z.cps.toList.length=z.length:=by simp [Str.length]
 have fin:∀ (l u:Option (Int × Tok)),vl=partValue l->vu=partValue u->l.map (·.1)=lo->u.map (·.1)=hi->wpAny (model X.prog X.w) X.A (getItem (.str z t) (.ref sl)) (EP X pins σ Q) X.xe s:=by
  intro l u e1 e2 e3 e4
  subst e1 e2;refine wpAny_getItem_str_slice (l:=l) (u:=u) (st:=none) hs rfl ?_;have hp:slicePicked z l u none=(List.range (HT.sIx z.length z.length hi - HT.sIx z.length 0 lo)).map λk=>HT.sIx z.length 0 lo+k:=by
   unfold slicePicked;rw [e3,e4];exact ar3 lo hi z.length
  have hb1:HT.sIx z.length z.length hi<=z.length:=HT.afc _ _ (ar _) _;have hb2:HT.sIx z.length 0 lo<=z.length:=HT.afc _ _ (bE _) _;unfold sliceMade
  split
  ·rename_i c;simp only [bV,i3] at c;obtain ⟨_,c⟩:=c;rw [hp,am,aG] at c;have e:(⟨(a5b z.cps.toList lo hi).toArray⟩:Str)=z:=by
    unfold a5b;rw [hl];have z1:HT.sIx z.length 0 lo=0:=by omega
    have z2:HT.sIx z.length z.length hi=z.length:=by omega
    rw [z1,z2,fS,Nat.sub_zero,bG (by omega)]
   rw [e] at q;exact ⟨.str z,H,I,⟨_,rfl⟩,q⟩
  ·have e:(⟨(a5b z.cps.toList lo hi).toArray⟩:Str)=⟨((slicePicked z l u none).filterMap (z.cps[·]?)).toArray⟩:=by
    rw [hp];unfold a5b;rw [hl]
    by_cases hc:HT.sIx z.length 0 lo<=HT.sIx z.length z.length hi
    ·rw [<-ar4 z.cps.toList _ _ (by omega)]
     simp only [Array.getElem?_toList]
    ·rw [show HT.sIx z.length z.length hi - HT.sIx z.length 0 lo=0 by omega]
     simp
   rw [e] at q;refine ⟨?_, .str _,H,I.tok _,⟨_,rfl⟩,q⟩;rw [<-e];show (a5b z.cps.toList lo hi).toArray.size<=sizeLine;rw [ay];unfold a5b;rw [aV,bq,hl];omega
 cases pl with
 | none=>cases pu with
  | none=>exact fin none none rfl rfl rfl rfl
  | int j t'=>exact fin none (some (j,t')) rfl rfl rfl rfl
 | int i t'=>cases pu with
  | none=>exact fin (some (i,t')) none rfl rfl rfl rfl
  | int j t''=>exact fin (some (i,t')) (some (j,t'')) rfl rfl rfl rfl
theorem a5c:CallR X (.builtin "isinstance") (λxs H Q=>∃ x T t b,xs=[x, .ty T]/\TyOf X.K H x t/\PySem.W.kitOne X.K t (.type T)=some b/\Q (.bl b) H):=by
 intro pins s σ H xs us Q I r h
 obtain ⟨x,T,t,b,rfl,ty,e,q⟩:=h;obtain ⟨u,w',rfl,rx,rt⟩:=vals2 r;cases rt
 exact af9 I rx ty e λtk=>⟨.bl b,H,I.tok tk,rfl,q⟩
def a0h(x:Str):List V:=x.cps.toList.map λc=>V.str ⟨#[c]⟩
theorem adu(h:ItemsOf (SignAt x) acc x.cps.size):Vals (a0h x) acc.toList:=by
 obtain ⟨hs,ha⟩:=h;have key:∀ (cs:List Nat) (us:List Value),us.length=cs.length->(∀ (j:Nat) (v:Value),us[j]? = some v->∃ c u,cs[j]? = some c/\v = .str ⟨#[c]⟩ u)->Vals (cs.map λc=>V.str ⟨#[c]⟩) us:=by
  intro cs
  induction cs with
  | nil=>intro us hl _;cases us with | nil=>exact .nil | cons _ _=>simp at hl
  | cons c cs ih =>
   intro us hl hp
   cases us with
   | nil=>simp at hl
   | cons u us =>
    refine .cons ?_ (ih us (by simpa using hl) λj v e=>hp (j+1) v (by simpa using e))
    obtain ⟨c',t,e1,e2⟩:=hp 0 u rfl;simp at e1;subst e1;exact ⟨t,e2⟩
 refine key _ _ (by simp [hs]) λj v e=>?_
 obtain ⟨c,u,e1,e2⟩:=ha j v (by simpa using e)
 exact ⟨c,u,by simpa using e1,e2⟩
theorem za(hc:X.calm=true):CallR X (.type "tuple") (λxs H Q=>∃ z,xs=[.str z]/\z.length<=sizeLine/\∀ l,H l=none->Q (.ref l) (upd H l (.tup (a0h z)))):=by
 intro pins s σ H xs us Q I r h
 obtain ⟨z,rfl,hz,q⟩:=h;obtain ⟨u,rfl,t,rfl⟩:=vals1 r;refine PySem.call_tuple_str (I.ok.hd hc) z t (λh' tk acc kp hi=>?_) (by simpa [Str.length] using hz)
 have I1:Inv X pins σ H { s with heap:=h',toks:=tk }:=I.kept kp
 have I2:Inv X pins σ (upd H h'.objs.size (.tup (a0h z))) { s with heap:=h'.push { cls:=.type "tuple",data:=.seq acc },toks:=tk } :=
  I1.laid (t':=tk) (λb o e=>ai _ e) (ar _) (show ObjOk X.prog X.w _ _ _ (.tup (a0h z)) from ⟨by simpa [a0h,Str.length] using hz,acc.toList,adu hi,by simpa using IsTup.new h' acc⟩)
 exact ⟨.ref h'.objs.size,_,I2,rfl,q _ (I1.hok.fresh (ar _))⟩
end
def Its(x:Str):It:=⟨λi _=>i<x.cps.size,λi H v H'=>H'=H/\∃ c,x.cps.toList[i]? = some c/\v = .str ⟨#[c]⟩,λi _=>i=x.cps.size⟩
theorem abt{P:Program}{w:World}{K:PySem.W.Frag}{tg:Expr}(it:Addr)(x:Str)(t:Tok)(ty:String)
  (hty:["enumerate", "zip", "dict_itemiterator", "dict_reverseitemiterator", "odict_iterator", "itertools.zip_longest", "itertools.pairwise"].contains ty=false)
  (W:∀ A':Around,A'.handled=none->Walks P w A' it [it] [it] x.cps.size (SignAt x) (λi h=>h.IsStrIter it ty x t i))
  (slf:∀ (A:Around) (i:Nat) (s:Shared) (Q:Value->Shared->Prop) (E:Value->Shared->Prop),s.heap.IsStrIter it ty x t i->Q (.ref it) s->wpAny (model P w) A (pyIter (.ref it)) Q E s) :
  Turn P w K tg (Its x) [it] it (λi h=>h.IsStrIter it ty x t i) where
 mem:=by simp
 obj:=λi h st b hb=>by
  have e:b=it:=by simpa using hb
  subst e;obtain ⟨o,e,c,d⟩:=st;exact ⟨o,e,λv z=>by rw [d] at z;cases z⟩
 keep:=λi h h' st k=>by
  obtain ⟨o,e,c,d⟩:=st;exact ⟨o,k it (by simp) o e,c,d⟩
 item:=by
  intro X hP hw hK hc i pins s σ H E I hf st hg
  subst hP hw hK;obtain ⟨f0,f1,f2,f3,f4,f5⟩:=hf it (by simp)
  refine (W X.A (I.ok.hd hc)).item i s _ _ hg st λv h' tk hv st' kk=>?_;obtain ⟨c,u,hx,rfl⟩:=hv;have I1:Inv X pins σ H { s with heap:=h',toks:=tk }:=I.turned (λb o hb e=>kk b o (by simpa using hb) e) f0 f1 f3 f4 f5
  obtain ⟨o,e,oc,d⟩:=id st';exact ⟨_,rfl,aj0 (s:={ s with heap:=h',toks:=tk }) e oc d hty ⟨.str ⟨#[c]⟩,H,I1,⟨_,rfl⟩,⟨rfl,c,by simpa using hx,rfl⟩,st',λb hb=>(hf b hb).1⟩⟩
 done:=by
  intro X hP hw hK hc i pins s σ H E I hf st hg
  subst hP hw hK;obtain ⟨f0,f1,f2,f3,f4,f5⟩:=hf it (by simp)
  have hg':i=x.cps.size:=hg;subst hg';exact (W X.A (I.ok.hd hc)).done s _ _ st λh' tk eb=>⟨rfl,I.turned (λb o hb e=>eb b o (by simpa using hb) e) f0 f1 f3 f4 f5⟩
 self:=slf
section
variable{X:Cx}{tg:Expr}
def axp(tl:TE):TI:=λσ H R=>tl σ H λx H1=>∃ z,x = .str z/\R (Its z) H1
theorem am2{l:Expr}{tl:TE}(hl:PE X l tl):PI X tg l (axp tl):=by
 intro pins s σ H R I h
 refine thn (hl pins s σ H _ I h) λv s1 ⟨x,H1,I1,r1,q1⟩=>?_;obtain ⟨z,e,q⟩:=q1;subst e;obtain ⟨t,rfl⟩:=r1;have fp:∀ b∈[s1.heap.objs.size],FpOk X pins H1 b:=λb hb=>by
  have e:b=s1.heap.objs.size:=by simpa using hb
  subst e;exact I1.fpOk (ar _) (I1.hok.fresh (ar _))
 cases ha:z.cps.all (· < 128)
 ·exact wpAny_pyIter_wide ha ⟨s1.heap.objs.size,[s1.heap.objs.size],_,_,H1,rfl,I1.kept (t':=s1.toks) λb o e=>ai _ e,
   abt _ z t "str_iterator" (by decide) (λA' hA=>Walks.strWide hA _ z t) (λ_ _ _ _ _ st h=>wpAny_pyIter_striter_wide st h),⟨_,aK _ rfl,rfl,rfl⟩,fp,q⟩
 ·exact wpAny_pyIter_ascii ha ⟨s1.heap.objs.size,[s1.heap.objs.size],_,_,H1,rfl,I1.kept (t':=s1.toks) λb o e=>ai _ e,
   abt _ z t "str_ascii_iterator" (by decide) (λA' hA=>Walks.strAscii hA _ z t) (λ_ _ _ _ _ st h=>wpAny_pyIter_striter_ascii st h),⟨_,aK _ rfl,rfl,rfl⟩,fp,q⟩
end
def cxC(X:Cx)(N:List Str)(scope:Scope)(cl:List (Str × Addr))(C:Addr)(fp:List Addr)(s:Shared)(H:Hp):Cx where
 prog:=X.prog
 w:=X.w
 K:=X.K
 mg:=X.mg
 base:=X.base
 A:=X.A
 N:=N
 s₀:=s
 H₀:=H
 env:=compEnvC scope cl C X.env
 outer:=X.stack
 stack:=X.stack
 ex:=fp
 fn:=λ_=>false
 calm:=X.calm
 pn:=[]
 xe:=λ_ _=>False
structure CSc (X:Cx) (scope:Scope) (cl:List (Str × Addr)) (ts fr:List Str) (ix:List Nat):Prop where
 clos:closureFor scope X.env=pure cl
 kind:scope.kind = .function
 nocell:∀ y∈scope.names,y.2≠.cell
 names:∀ y∈scope.names,y.2 = .local->scope.names.lookup y.1=some .local
 sub:∀ y c,cl.lookup y=some c->X.env.cells.lookup y=some c
 has:∀ y,((relabel scope X.env).names.lookup y=some .cell\/(relabel scope X.env).names.lookup y=some .free)->∃ c,cl.lookup y=some c
 nofn:∀ y∈ts,(relabel scope X.env).names.lookup y=some .local
 len:ix.length=fr.length
 vis:∀ (j:Nat) (y:Str),fr[j]? = some y->∃ i:Nat,ix[j]? = some i/\X.N[i]? = some y/\(X.env.kindOf y=some .cell\/X.env.kindOf y=some .free)/\((relabel scope X.env).names.lookup y=some .cell\/(relabel scope X.env).names.lookup y=some .free)
def Ext(a b:St):Prop:=b.length=a.length/\∀ (i:Nat) v,a[i]? = some (some v)->b[i]? = some (some v)
def m9(nt:Nat)(ix:List Nat)(σ:St):St:=List.replicate nt none++ix.map λi=>(σ[i]?).join
def ar6(J:It)(s0:St)(g:TG)(te:TE)(Q:VK)(H1:Hp):Prop:=∃ W:Nat->Nat->List V->Hp->Prop,(∃ m,W 0 m [] H1)/\∀ i m ys H,W i m ys H->
 (J.stop i H/\∀ p,H p=none->Q (.ref p) (upd H p (.lst ys))) \/
 (J.go i H/\ys.length<sizeLine/\∀ x H',J.yld i H x H'->g x s0 H' λσ2 H2=>Ext s0 σ2/\te σ2 H2 λy H3=>∃ m',m'<m/\W (i+1) m' (ys++[y]) H3)
def aja(wi:TI)(s0:St->St)(g:TG)(te:TE):TE:=λσ H Q=>wi σ H λJ H1=>ar6 J (s0 σ) g te Q H1
theorem afk(J:Nat->Shared->Prop)
  (step:∀ m z,J m z->wpAny (model prog w) A (pyNext it) (λgot z1=>match got with
   | none=>R (.ok .next) z1
   | some v=>wpAny (model prog w) A (letOwnedTupleGo target it v) (λ_ z2=>wpAny (model prog w) A (assign target env v) (λ_ z3=>wpAny (model prog w) A (eval elt env) (λx z4 =>
     wpAny (model prog w) A (call (.builtin "list.append") [acc,x]) (λ_ z5=>∃ m',m'<m/\J m' z5) (λ_ _=>False) z4)
     (λ_ _=>False) z3) (λ_ _=>False) z2) (λ_ _=>False) z1) (λ_ _=>False) z)
  (m:Nat) (j0:J m s):codeAny (model prog w) A (.compLoop (.ListComp elt [⟨target,iter,[],0⟩] scope pos) 0 it acc env) R s:=by
 refine gZ rfl J (λm z hj=>(hU ?_:wpAny _ _ ((compTurn (.ListComp elt [⟨target,iter,[],0⟩] scope pos) 0 it acc env).onRaise _) _ _ z)) m j0;rw [compTurn_list1];refine ae (cD (ae (ba (step m z hj) (λgot z1 h1=>?_) λ_ _ no=>no.elim)))
 match got,h1 with
 | none,h1=>exact aw h1
 | some v,h1 =>
  refine ae (ba h1 (λ_ z2 h2=>ae (ba h2 (λ_ z3 h3=>?_) λ_ _ no=>no.elim)) λ_ _ no=>no.elim);refine ae (ae (ba h3 (λx z4 h4=>?_) λ_ _ no=>no.elim));exact ae (ba h4 (λ_ z5 h5=>aw (aw ⟨rfl,h5⟩)) λ_ _ no=>no.elim)
section
variable{X:Cx}
theorem a5d(S:CSc X scope cl ts fr ix)(I:Inv X pins σ H s)
  (hf:∀ b∈fp,FpOk X pins H b) (hb:∀ b∈fp,b<s.heap.objs.size) (hC:s.heap.objs.size<=C):(cxC X (ts++fr) scope cl C fp s H).Ok where
 mod:=I.ok.mod
 kind:=S.kind
 glob:=I.ok.glob
 blt:=I.ok.blt
 above:=hC
 inj:=λx y c h1 h2=>I.ok.inj x y c (S.sub x c h1) (S.sub y c h2)
 has:=S.has
 cab:=λ_ _ z=>nomatch z
 hd:=I.ok.hd
 frames:=I.ok.frames
 stk:=.inl rfl
 exf:=λb hb'=>⟨aR (aH (hb b hb') hC),λx c e=>(hf b hb').2.2.2.2.1 x c (S.sub x c e)⟩
 bs:=λb o e=>I.bs b o e
 bsz:=bL I.ok.bsz I.sz
 noex:=λb o e hb'=>by
  rcases (hf b hb').2.2.2.1 with z | z
  ·exact I.ok.noex b o e z
  ·exact absurd (aH (aE e) (bL I.ok.bsz z)) (bH _)
 exfs:=λb hb' z=>by
  rcases aD.mp (I.stkSub b z) with e | e
  ·exact (hf b hb').2.1 e
  ·exact (hf b hb').2.2.1 e
 funs:=I.stack
 frf:=λb hb'=>I.stkFree b hb'
theorem adv:(m9 nt ix σ).length=nt+ix.length:=by
 unfold m9;rw [ap,bT,am]
theorem aap{s4:Shared}(S:CSc X scope cl ts fr ix)(I:Inv X pins σ H s)
  (hf:∀ b∈fp,FpOk X pins H b) (hb:∀ b∈fp,b<s.heap.objs.size) (hC:s.heap.objs.size<=C)
  (k:∀ b o,s.heap.get? b=some o->s4.heap.get? b=some o) (hn:s4.heap.Ns C m) (ho:s4.os=s.os) (hg:s4.gens=s.gens) :
  Inv (cxC X (ts++fr) scope cl C fp s H) [] (m9 ts.length ix σ) H s4 where
 ok:=a5d S I hf hb hC
 os:=ho
 bare:=by rw [hg];exact I.bare
 base:=Un.kept k
 loc:=by
  refine ⟨m,hn,λi x v e1 e2 e3=>?_⟩;have e1:(ts++fr)[i]? = some x:=e1
  by_cases hi:i<ts.length
  ·unfold m9 at e2;rw [aI (by simpa using hi),dl,aA hi] at e2
   cases e2
  ·rw [aB (by omega)] at e1
   unfold m9 at e2;rw [aB (by simpa using hi),bT,aW] at e2
   obtain ⟨j,h1,h2,h3,h4⟩:=S.vis _ x e1;rw [h1] at e2;have e2':(σ[j]?).join=some v:=bv e2;have e5:σ[j]? = some (some v):=by
    cases q:σ[j]? with
    | none=>rw [q] at e2';cases e2'
    | some o=>rw [q] at e2';simp at e2';rw [e2']
   obtain ⟨m0,_,hl⟩:=I.loc;have vis:Vis X.env.scope x:=h3.elim (λz=>.inr (.inl z)) λz=>.inr (.inr z);obtain ⟨u,ru,l⟩:=hl j x v h2 e5 vis;refine ⟨u,ru,?_⟩
   rcases l with ⟨z,_⟩ | ⟨_,c,hc,hcell⟩
   ·rcases h3 with h3 | h3<;>rw [h3] at z<;>cases z
   ·obtain ⟨c',hc'⟩:=S.has x h4;have e6:c'=c:=bv ((S.sub x c' hc').symm.trans hc);subst e6;obtain ⟨o,ho,hd⟩:=hcell;exact .inr ⟨h4,c',hc',o,k _ _ ho,hd⟩
 cell:=λx c e=>by
  obtain ⟨v,o,ho,hd⟩:=I.cell x c (S.sub x c e);exact ⟨v,o,k _ _ ho,hd⟩
 free:=I.hok.fresh hC
 freeC:=λx c e=>I.freeC x c (S.sub x c e)
 pin:=λp hp=>absurd (show p∈([]:List (Addr × Obj)) from hp) (by simp)
 hok:=I.hok.kept k
 len:=by
  rw [adv];show _=(ts++fr).length;rw [ap,S.len]
theorem Inv.unpinned'(I:Inv X pins σ H s):Inv X [] σ H s:=I.pins_of λ_ hp=>nomatch hp
theorem comp_back{its:List Value}(I:Inv X pins σ H s)
  (hf:∀ b∈fp,FpOk X pins H b) (hC:s.heap.objs.size<=C) (hacc:s.heap.objs.size<=acc) (hCa:C≠acc)
  (J:Inv (cxC X N scope cl C fp s H) [] σ' H' s') (hn:H' acc=none) (ha:s'.heap.get? acc=some { cls:=.type "list",data:=.seq its.toArray n }) (rv:Vals ys its) (hz:ys.length<=sizeLine) (sb:Heap.SameBut C s'.heap h') :
  Inv X pins σ (upd H' acc (.lst ys)) { s' with heap:=h' }:=by
 have k:∀ b o,b≠C->s'.heap.get? b=some o->h'.get? b=some o:=λb o hb e=>sb.extBut b o hb e;have old:∀ b o,s.heap.get? b=some o->b≠C/\b≠acc:=λb o e=>⟨aR (aH (aE e) hC),aR (aH (aE e) hacc)⟩;have u0:Un (frs X.stack) fp H H' s.heap s'.heap:=J.base;have fC:H' C=none:=J.free;have u:Un (frs X.stack) fp H (upd H' acc (.lst ys)) s.heap h':=by
  refine ⟨λb o e n' hb hx=>k b o (old b o e).1 (u0.keep b o e n' hb hx),λb o e n' hb hx=>?_,λb o e n' hx=>?_,λb o e hx=>?_,λb xs e=>?_,λb o v e=>?_,λb ps e=>?_⟩
  ·obtain ⟨sl,e1⟩:=u0.slot b o e n' hb hx;exact ⟨sl,k b _ (old b o e).1 e1⟩
  ·rw [jo (old b o e).2];exact u0.free b o e n' hx
  ·obtain ⟨o',e1⟩:=u0.there b o e hx;exact ⟨o',k b _ (old b o e).1 e1⟩
  ·rw [jo (j5 (u0.tups b xs e) hn)];exact u0.tups b xs e
  ·rw [jo (j5 (u0.frzs b o v e) hn)];exact u0.frzs b o v e
  ·obtain ⟨more,e1⟩:=u0.tbls b ps e;exact ⟨more,by rw [jo (j5 e1 hn)];exact e1⟩
 have hok:HOk X.prog X.w (upd H' acc (.lst ys)) h':=λb o e=>by
  by_cases hb:b=acc
  ·subst hb;rw [mz] at e;cases e
   exact ⟨hz,its,n,rv,k _ _ (cX hCa) ha⟩
  ·rw [jo hb] at e;refine (J.hok b o e).stay (λc v hc q=>k c v ?_ q) (λc q=>by rw [jo (j5 q hn)];exact q) λc xs q=>by rw [jo (j5 q hn)];exact q
   rcases hc with z | z
   ·rw [z];exact j5 e fC
   ·exact j5 z fC
 have J':=I.call (g':=s'.gens) (t':=s'.toks) (d':=s'.drawn) (ch:=fp) u hok J.bare λb hb=>⟨(hf b hb).2.2.2.1,(hf b hb).2.1,(hf b hb).2.2.2.2.1,(hf b hb).2.2.2.2.2⟩;have eo:s'.os=s.os:=J.os;obtain ⟨hp,g,d,t,o⟩:=s';have eo':o=s.os:=eo;subst eo';exact J'
def a7i(X:Cx)(pins:List (Addr × Obj))(σ:St)(use:Option (Value->Sem Unit))(Q:VK)(Qf:Value->Shared->Prop):Prop :=
 ∀ (acc C:Addr) (s6:Shared) (H6:Hp) (m6:Str->Option Value),s6.heap.Ns C m6->FpOk X pins H6 C->(∀ h',Heap.SameBut C s6.heap h'->Inv X pins σ H6 { s6 with heap:=h' })->Q (.ref acc) H6->
  compPost (model X.prog X.w) X.A X.xe use Qf (.ref acc) C (.ok .next) s6
theorem a7j:a7i X pins σ none Q (EP X pins σ Q):=λacc C s6 H6 m6 hn _ k q=>⟨m6,hn,λh' sb=>⟨.ref acc,H6,k h' sb,rfl,q⟩⟩
theorem abu{D:Ends}(hN:X.N.Nodup)(hi:X.N[i]? = some x)(hx:Loc X.env.scope x)(hf:X.fn x=true\/X.env.scope.names.lookup x=some .local) :
  a7i X pins σ (some (assign (.Name x pos') X.env)) (λv H1=>a3g i v σ H1 D.nx) (λ_ s'=>SP X pins D .next s'):=by
 intro acc C s6 H6 m6 hn fp k q
 obtain ⟨f1,f2,f3,f4,f5,f6⟩:=fp;have I6:Inv X pins σ H6 s6:=k s6.heap (eK _ _);refine wpAny_assign_Name (a94 (v:=.ref acc) I6 hN hi hx rfl (λs' I' ⟨a,sb,ha⟩=>⟨m6,hn.sameBut sb ?_,λh' sb'=>⟨_,H6,I'.turned (t':=s'.toks) (it:=C) (λb o hb e=>sb'.extBut b o hb e) f1 f2 f4 f5 f6,q⟩⟩) hf)
 rcases ha with ha | ha
 ·rw [ha];exact f2
 ·exact λz=>f5 x a ha z.symm
theorem a9c(hc:X.calm=true)(S:CSc X scope cl ts fr ix)(hi:PI X tg iter wi)
  (hg:∀ C fp s H,PG (cxC X (ts++fr) scope cl C fp s H) tg g) (he:∀ C fp s H,PE (cxC X (ts++fr) scope cl C fp s H) elt te) (hs:∀ x,foldedSetIterable iter X.env x=pure x)
  (use:Option (Value->Sem Unit)) (I:Inv X pins σ H s) (h:aja wi (m9 ts.length ix) g te σ H Q) (fin:a7i X pins σ use Q Qf) :
  wpAny (model X.prog X.w) X.A (comprehension (.ListComp elt [⟨tg,iter,[],0⟩] scope pos) scope X.env ppos (newList []) false (eval iter X.env) use) Qf X.xe s:=by
 refine eh (use:=use) rfl hs S.clos S.kind S.names (thn (hi pins s σ H _ I h) λv s1 h1=>thn h1 λitv s2 h2=>?_);obtain ⟨it,fp,tn,J,H2,e,I2,T,st2,f2,W,⟨m0,w0⟩,turn⟩:=h2;subst e;have hob:∀ b∈fp,b<s2.heap.objs.size:=λb hb=>let ⟨o,e,_⟩:=T.obj _ _ st2 b hb;aE e;refine cf (fg S.nocell (by intro y hy;simp at hy) (λh4 hns4 hsb4=>?_) S.kind)
 dsimp only at hns4 hsb4 ⊢
 generalize hH2:s2.heap.push { cls:=.type "list",dict:=none,data:=.seq ([]:List Value).toArray }=G at hns4 hsb4 ⊢
 have hCs:G.objs.size=s2.heap.objs.size+1:=by rw [<-hH2,dB]
 have hCle:s2.heap.objs.size<=G.objs.size:=by omega
 have hne:G.objs.size≠s2.heap.objs.size:=by omega
 have old:∀ b o,s2.heap.get? b=some o->h4.get? b=some o:=λb o e=>by
  have hlt:=aE e;exact hsb4.extBut b o (aR (aH hlt hCle)) (ai _ (hH2 ▸ ai _ e))
 have hacc:h4.get? s2.heap.objs.size=some { cls:=.type "list",data:=.seq ([]:List Value).toArray 0 } :=
  hsb4.extBut _ _ (cX hne) (ai _ (hH2 ▸ aK _ rfl))
 have K0:Inv (cxC X (ts++fr) scope cl G.objs.size fp s2 H2) [] (m9 ts.length ix σ) H2 { s2 with heap:=h4,toks:=s2.toks+([]:List (Str × Value)).length } :=
  aap S I2 f2 hob hCle old hns4 rfl rfl
 have st4:tn 0 h4:=T.keep _ _ _ st2 λb _ o e=>old b o e;have accF:s2.heap.objs.size ∉ fp:=λz=>bH _ (hob _ z);have stat:∀ {H':Hp},(∀ b∈fp,H' b=none)->∀ b∈fp,FpOk (cxC X (ts++fr) scope cl G.objs.size fp s2 H2) [] H' b:=λhn b hb =>
  ⟨hn b hb,λz=>by have h1:=hob b hb;have z':b=G.objs.size:=z;exact aR (aH h1 hCle) z',λz=>(a5d S I2 f2 hob hCle).exfs b hb z, .inl hb,λx c e=>(f2 b hb).2.2.2.2.1 x c (S.sub x c e),λp hp=>absurd (show p∈([]:List (Addr × Obj)) from hp) (by simp)⟩
 have statA:∀ {H':Hp},H' s2.heap.objs.size=none->FpOk (cxC X (ts++fr) scope cl G.objs.size fp s2 H2) [] H' s2.heap.objs.size:=λhn =>
  ⟨hn,λz=>hne (show G.objs.size=s2.heap.objs.size from z.symm),λz=>by
   obtain ⟨_,o,ho,_⟩:=(a5d S I2 f2 hob hCle).funs.mem z;exact bH _ (aE ho), .inr (ar _),λx c e z=>by
   obtain ⟨v,o,ho,_⟩:=I2.cell x c (S.sub x c e);rw [z] at ho;exact bH _ (aE ho),λp hp=>absurd (show p∈([]:List (Addr × Obj)) from hp) (by simp)⟩
 have loop:∀ s4:Shared,s4={ s2 with heap:=h4,toks:=s2.toks+([]:List (Str × Value)).length }->
   codeAny (model X.prog X.w) X.A (.compLoop (.ListComp elt [⟨tg,iter,[],0⟩] scope pos) 0 (.ref it) (.ref s2.heap.objs.size) (compEnvC scope cl G.objs.size X.env))
    (compPost (model X.prog X.w) X.A X.xe use Qf (.ref s2.heap.objs.size) G.objs.size) s4:=by
  rintro s4 rfl
  refine afk (λn s'=>∃ i σ' H' ys its k,Inv (cxC X (ts++fr) scope cl G.objs.size fp s2 H2) [] σ' H' s'/\Ext (m9 ts.length ix σ) σ'/\tn i s'.heap/\(∀ b∈fp,H' b=none)/\H' s2.heap.objs.size=none /\
   s'.heap.get? s2.heap.objs.size=some { cls:=.type "list",data:=.seq its.toArray k }/\Vals ys its/\ys.length<=sizeLine/\W i n ys H') ?_ m0
   ⟨0,_,H2,[],[],0,K0,⟨rfl,λ_ _ z=>z⟩,st4,λb hb=>(f2 b hb).1,I2.hok.fresh (ar _),hacc, .nil,bE _,w0⟩
  rintro n s5 ⟨i,σ5,H5,ys,its,k5,I5,x5,st5,fr5,fa5,ac5,rv5,hz5,w5⟩
  have I5':Inv (cxC X (ts++fr) scope cl G.objs.size fp s2 H2) [] (m9 ts.length ix σ) H5 s5:=I5.weak x5.1.symm x5.2
  rcases turn i n ys H5 w5 with ⟨stop,qn⟩ | ⟨go,hlt,step⟩
  ·refine thn (T.done (cxC X (ts++fr) scope cl G.objs.size fp s2 H2) rfl rfl rfl hc i [(s2.heap.objs.size,{ cls:=.type "list",data:=.seq its.toArray k5 })] s5 _ H5 _ (I5'.pins_of λp hp=>?_) (λb hb=>?_) st5 stop) λr s6 ⟨hr,I6⟩=>?_
   ·have e:p=(s2.heap.objs.size,{ cls:=.type "list",data:=.seq its.toArray k5 }):=by simpa using hp
    subst e;obtain ⟨a0,a1,a2,_⟩:=statA fa5;exact ⟨ac5,a0,a1,a2,λv z=>by cases z⟩
   ·obtain ⟨b0,b1,b2,b3,b4,b5⟩:=stat fr5 b hb;refine ⟨b0,b1,b2,b3,b4,λp hp=>?_⟩;have e:p=(s2.heap.objs.size,{ cls:=.type "list",data:=.seq its.toArray k5 }):=by
     have hp':p∈[(s2.heap.objs.size,_)]:=hp;simpa using hp'
    subst e;exact λz=>accF (by have z':s2.heap.objs.size=b:=z;rw [z'];exact hb)
   ·subst hr;have e6:=(I6.pin (s2.heap.objs.size,{ cls:=.type "list",data:=.seq its.toArray k5 }) (by show _∈[]++[_];simp)).1
    obtain ⟨m6,hn6,_⟩:=I6.loc;exact fin _ _ s6 _ m6 hn6 (I2.fpOk hCle (by rw [jo hne];exact I6.free)) (λh' sb=>comp_back I2 f2 hCle (ar _) hne I6.unpinned' fa5 e6 rv5 hz5 sb) (qn _ fa5)
  ·refine thn (T.item (cxC X (ts++fr) scope cl G.objs.size fp s2 H2) rfl rfl rfl hc i [(s2.heap.objs.size,{ cls:=.type "list",data:=.seq its.toArray k5 })] s5 _ H5 _ (I5'.pins_of λp hp=>?_) (λb hb=>?_) st5 go) λr s6 ⟨u,hr,h6⟩=>?_
   ·have e:p=(s2.heap.objs.size,{ cls:=.type "list",data:=.seq its.toArray k5 }):=by simpa using hp
    subst e;obtain ⟨a0,a1,a2,_⟩:=statA fa5;exact ⟨ac5,a0,a1,a2,λv z=>by cases z⟩
   ·obtain ⟨b0,b1,b2,b3,b4,b5⟩:=stat fr5 b hb;refine ⟨b0,b1,b2,b3,b4,λp hp=>?_⟩;have e:p=(s2.heap.objs.size,{ cls:=.type "list",data:=.seq its.toArray k5 }):=by
     have hp':p∈[(s2.heap.objs.size,_)]:=hp;simpa using hp'
    subst e;exact λz=>accF (by have z':s2.heap.objs.size=b:=z;rw [z'];exact hb)
   ·subst hr;refine thn h6 λ_ s7 ⟨x,H7,I7,r7,y7,st7,fr7⟩=>?_;have fa7:H7 s2.heap.objs.size=none:=(I7.pin (s2.heap.objs.size,{ cls:=.type "list",data:=.seq its.toArray k5 }) (by show _∈[]++[_];simp)).2.1
    have ac7:=(I7.pin (s2.heap.objs.size,{ cls:=.type "list",data:=.seq its.toArray k5 }) (by show _∈[]++[_];simp)).1
    have I7':Inv (cxC X (ts++fr) scope cl G.objs.size fp s2 H2) ([]++vq (s2.heap.objs.size::fp) s7.heap) (m9 ts.length ix σ) H7 s7:=by
     refine Inv.pinned I7.unpinned' (λb hb=>?_) λb hb=>?_
     ·rcases aD.mp hb with e | e
      ·subst e;exact statA fa7
      ·exact stat fr7 b e
     ·rcases aD.mp hb with e | e
      ·subst e;exact ⟨_,ac7,λv z=>by cases z⟩
      ·exact T.obj _ _ st7 b e
    refine thn (hg G.objs.size fp s2 H2 _ s7 _ H7 x u _ I7' r7 (step x H7 y7)) λ_ s8 ⟨σ8,H8,I8,x8,q8⟩=>?_;refine thn (he G.objs.size fp s2 H2 _ s8 _ H8 _ I8 q8) λyv s9 ⟨y,H9,I9,r9,m',hm',w9⟩=>?_;obtain ⟨ac9,fa9,_⟩:=I9.pin (s2.heap.objs.size,{ cls:=.type "list",data:=.seq its.toArray k5 }) (by show _∈[]++([]++_);simp;exact ju aF ac7)
    have keep9:∀ b∈fp,∀ o,s7.heap.get? b=some o->s9.heap.get? b=some o/\H9 b=none:=λb hb o e=>by
     obtain ⟨z1,z2,_⟩:=I9.pin (b,o) (by show _∈[]++([]++_);simp;exact ju (aC _ hb) e)
     exact ⟨z1,z2⟩
    have hl:=rv5.length;refine cv c9 ⟨_,ac9,rfl⟩ fA (eZ _ _) (gA s2.heap.objs.size its.toArray k5 yv (by rw [ay];omega)) ⟨ac9,?_⟩
    have q:=gL ac9 (λa=>a.push yv);have qo:∀ b o,b≠s2.heap.objs.size->s9.heap.get? b=some o->(s9.heap.update s2.heap.objs.size (Obj.mapSeq (λa=>a.push yv))).get? b=some o:=λb o hb e=>(cA s9.heap _ (cX hb)).trans e;have q':∃ k,(s9.heap.update s2.heap.objs.size (Obj.mapSeq (λa=>a.push yv))).get? s2.heap.objs.size=some { cls:=.type "list",data:=.seq (its++[yv]).toArray k }:=⟨_,by rw [q];simp;rfl⟩
    obtain ⟨k9,q9⟩:=q';obtain ⟨a0,a1,a2,a3,a4,a5⟩:=statA (show H9 s2.heap.objs.size=none from fa9)
    refine ⟨m',hm',i+1,σ8,H9,ys++[y],its++[yv],k9,(I9.unpinned').turned qo a0 a1 a3 a4 a5,x8,?_,?_,fa9,q9,rv5.append (.cons r9 .nil),?_,w9⟩
    ·refine T.keep _ _ _ st7 λb hb o e=>qo b o (λz=>accF (z ▸ hb)) (keep9 b hb o e).1
    ·intro b hb
     obtain ⟨o,e,_⟩:=T.obj _ _ st7 b hb;exact (keep9 b hb o e).2
    ·rw [ap,ax];omega
 exact codeAny_compStart_list (loop _ rfl) (T.self _ 0 _ _ _ st4 (loop _ rfl))
theorem ajb(hc:X.calm=true)(S:CSc X scope cl ts fr ix)(hi:PI X tg iter wi)
  (hg:∀ C fp s H,PG (cxC X (ts++fr) scope cl C fp s H) tg g) (he:∀ C fp s H,PE (cxC X (ts++fr) scope cl C fp s H) elt te)
  (hs:∀ x,foldedSetIterable iter X.env x=pure x:=by intro _;rfl) :
  PE X (.ListComp elt [⟨tg,iter,[],0⟩] scope pos) (aja wi (m9 ts.length ix) g te):=by
 intro pins s σ H Q I h
 rw [eval_ListComp];exact a9c hc S hi hg he hs none I h a7j
theorem ajc{spos:Pos}(hN:X.N.Nodup)(hi':X.N[i]? = some x)(hx:Loc X.env.scope x)(hc:X.calm=true)(S:CSc X scope cl ts fr ix)(hi:PI X tg iter wi)
  (hg:∀ C fp s H,PG (cxC X (ts++fr) scope cl C fp s H) tg g) (he:∀ C fp s H,PE (cxC X (ts++fr) scope cl C fp s H) elt te)
  (hs:∀ x,foldedSetIterable iter X.env x=pure x:=by intro _;rfl) (hsw:swapsWith (.ListComp elt [⟨tg,iter,[],0⟩] scope pos) (some (.Name x pos')) spos.line X.env=pure true:=by rfl) (hf:X.fn x=true\/X.env.scope.names.lookup x=some .local:=by first | exact .inl rfl | exact .inr rfl | assumption) :
  PS X (.Assign [.Name x pos'] (.ListComp elt [⟨tg,iter,[],0⟩] scope pos) spos) (aud (aja wi (m9 ts.length ix) g te) (a3g i)):=by
 intro pins s σ H D I h
 rw [exec_Assign_Name_used _ _ _ _ hsw];refine ae (cD (ae ?_));refine ae (ba (a9c hc S hi hg he hs (some (assign (.Name x pos') X.env)) I h (abu hN hi' hx hf)) (λ_ s' hq=>aw (aw hq)) λ_ _ e=>e)
end
section
variable{K:Type}[DecidableEq K]
def stepK(l:List K)(v:K):List K:=if v∈l then l else l++[v]
end
end L2
namespace L2
open PySem PySem.Spec
theorem o8:bootBuiltins "len" = some (.builtin "len"):=PySem.boot_len
theorem a2n:bootBuiltins "isinstance" = some (.builtin "isinstance"):=by first | exact PySem.boot_isinstance | exact PyProof.Rows.boot_isinstance
theorem ar7:bootBuiltins "abs" = some (.builtin "abs"):=by first | exact PySem.boot_abs | exact PyProof.Rows.boot_abs
theorem am3:bootBuiltins "int" = some (.type "int"):=by first | exact PySem.boot_int | exact PyProof.Rows.boot_int
theorem anm:bootBuiltins "list" = some (.type "list"):=by first | exact PySem.boot_list | exact PyProof.Rows.boot_list
theorem a4n:bootBuiltins "tuple" = some (.type "tuple"):=by first | exact PySem.boot_tuple | exact PyProof.Rows.boot_tuple
structure Dn (P:Program) (w:World) (K:PySem.W.Frag) (mg:Str->Option Value) (base:Heap) (k:Nat) (x:Str) (ps:List Str) (sp:Sp) (f:Addr) (fd:FuncData):Prop where
 ok:FnOk P w K mg base CX0 k f fd ps sp
 m:mg x=some (.ref f)
 kp:PySem.W.keepIn K (.ref f)=true
 b:Binds K fd ps []
theorem avq:sizeLine=16777216:=dE
theorem ano(h:n<=16777216):n<=sizeLine:=by rw [dE];exact h
theorem CSc.noFree{scope:Scope}(kind:scope.kind = .function)(h:∀ y∈scope.names,y.2≠.cell/\y.2≠.free)(names:∀ y∈scope.names,y.2 = .local->scope.names.lookup y.1=some .local)
  (ht:∀ y∈ts,scope.names.lookup y=some .local):CSc X scope [] ts [] []:=by
 have e:(relabel scope X.env).names=scope.names:=by
  show scope.names.map _=_;refine map_eq_self λy hy=>?_;obtain ⟨n,k⟩:=y;have:(k == NameKind.free)=false:=by simpa using (h _ hy).2
  simp [this]
 refine ⟨closureFor_none λy hy=>(h y hy).2,kind,λy hy=>(h y hy).1,names,(λ_ _ z=>nomatch z),λy z=>?_,λy hy=>by rw [e];exact ht y hy,rfl,(λ_ _ z=>by simp at z)⟩
 rw [e] at z
 rcases z with z | z
 ·exact absurd rfl (h _ (bS z)).1
 ·exact absurd rfl (h _ (bS z)).2
theorem avr(x y:Str):(x++y).cps.toList=x.cps.toList++y.cps.toList:=by
 show (x.cps++y.cps).toList=_;simp
theorem aaq{α:Type}(xs:List α)(k:Nat):a5b xs none (some (k:Int))=xs.take k:=by
 unfold a5b;rw [HT.a7f,HT.afb,fS,Nat.sub_zero]
 by_cases h:k<=xs.length
 ·rw [fB h]
 ·rw [Nat.min_eq_right (by omega),bG (ar _),bG (by omega)]
theorem a9d{α:Type}(xs:List α)(k:Nat):a5b xs (some (k:Int)) none=xs.drop k:=by
 unfold a5b;rw [HT.a7f,HT.afb]
 by_cases h:k<=xs.length
 ·rw [fB h,bG (by rw [bq];omega)]
 ·rw [Nat.min_eq_right (by omega),bO (ar _),bO (by omega),List.take_nil]
end L2
namespace L2
open PySem PySem.Spec PyProof.Rows
def afl(J:It)(s0:St)(g:TG)(tc:TT)(te:TE)(Q:VK)(H1:Hp):Prop:=∃ W:Nat->Nat->List V->Hp->Prop,(∃ m,W 0 m [] H1)/\∀ i m ys H,W i m ys H->
 (J.stop i H/\∀ p,H p=none->Q (.ref p) (upd H p (.lst ys))) \/
 (J.go i H/\ys.length<sizeLine/\∀ x H',J.yld i H x H'->g x s0 H' λσ2 H2=>Ext s0 σ2/\tc σ2 H2 λok H2'=>if ok=true then te σ2 H2' (λy H3=>∃ m',m'<m/\W (i+1) m' (ys++[y]) H3) else ∃ m',m'<m/\W (i+1) m' ys H2')
def a7k(wi:TI)(s0:St->St)(g:TG)(tc:TT)(te:TE):TE:=λσ H Q=>wi σ H λJ H1=>afl J (s0 σ) g tc te Q H1
theorem a5e(elt target iter cnd:Expr)(scope:Scope)(pos:Pos)(it acc:Value)(env:Env) :
  compTurn (.ListComp elt [⟨target,iter,[cnd],0⟩] scope pos) 0 it acc env=(standAt iter.pos>>=λ_=>pyNext it>>=λr=>match r with
   | none=>pure (.done .next)
   | some v=>letOwnedTupleGo target it v>>=λ_=>assign target env v>>=λ_=>isTrue cnd env (eval cnd env)>>=λok =>
    (if ok=true then (eval elt env>>=λx=>call (.builtin "list.append") [acc,x]>>=λ_=>pure ()) else pure ())>>=λ_ =>
     again (.compLoop (.ListComp elt [⟨target,iter,[cnd],0⟩] scope pos) 0 it acc env)):=by
 first
  | rfl
  | (unfold compTurn;simp only [gH];rfl)
  | (show (standAt iter.pos>>=λ_=>pyNext it>>=λr=>_)=_
     congr 1;funext _;congr 1;funext r
     cases r with
     | none=>rfl
     | some v =>
      show (letOwnedTupleGo target it v>>=λ_=>assign target env v>>=λ_=>_)=(letOwnedTupleGo target it v>>=λ_=>assign target env v>>=λ_=>_)
      congr 1;funext _;congr 1;funext _
      simp
      congr 1;funext ok
      cases ok with
      | false=>rw [aL aP,aL aP,pure_bind]
      | true =>
       rw [aA rfl,aA rfl,bind_assoc]
       congr 1;funext x
       rw [map_eq_pure_bind,bind_assoc]
       congr 1)
theorem adw(J:Nat->Shared->Prop)
  (step:∀ m z,J m z->wpAny (model prog w) A (pyNext it) (λgot z1=>match got with
   | none=>R (.ok .next) z1
   | some v=>wpAny (model prog w) A (letOwnedTupleGo target it v) (λ_ z2=>wpAny (model prog w) A (assign target env v) (λ_ z3=>wpAny (model prog w) A (isTrue cnd env (eval cnd env)) (λok z3'=>if ok=true then wpAny (model prog w) A (eval elt env) (λx z4 =>
     wpAny (model prog w) A (call (.builtin "list.append") [acc,x]) (λ_ z5=>∃ m',m'<m/\J m' z5) (λ_ _=>False) z4)
     (λ_ _=>False) z3' else ∃ m',m'<m/\J m' z3') (λ_ _=>False) z3) (λ_ _=>False) z2) (λ_ _=>False) z1) (λ_ _=>False) z)
  (m:Nat) (j0:J m s):codeAny (model prog w) A (.compLoop (.ListComp elt [⟨target,iter,[cnd],0⟩] scope pos) 0 it acc env) R s:=by
 refine gZ rfl J (λm z hj=>(hU ?_:wpAny _ _ ((compTurn (.ListComp elt [⟨target,iter,[cnd],0⟩] scope pos) 0 it acc env).onRaise _) _ _ z)) m j0;rw [a5e];refine ae (cD (ae (ba (step m z hj) (λgot z1 h1=>?_) λ_ _ no=>no.elim)))
 match got,h1 with
 | none,h1=>exact aw h1
 | some v,h1 =>
  refine ae (ba h1 (λ_ z2 h2=>ae (ba h2 (λ_ z3 h3=>ae (ba h3 (λok z3' h3'=>?_) λ_ _ no=>no.elim)) λ_ _ no=>no.elim)) λ_ _ no=>no.elim)
  match ok,h3' with
  | true,h3' =>
   rw [aA rfl] at h3';refine ae (ae (ba h3' (λx z4 h4=>?_) λ_ _ no=>no.elim));exact ae (ba h4 (λ_ z5 h5=>aw (aw ⟨rfl,h5⟩)) λ_ _ no=>no.elim)
  | false,h3' =>
   rw [aL aP] at h3';exact ae (aw (aw ⟨rfl,h3'⟩))
section
variable{X:Cx}
theorem a5f(hc:X.calm=true)(S:CSc X scope cl ts fr ix)(hi:PI X tg iter wi)
  (hg:∀ C fp s H,PG (cxC X (ts++fr) scope cl C fp s H) tg g) (he:∀ C fp s H,PE (cxC X (ts++fr) scope cl C fp s H) elt te) (ht:∀ C fp s H,PT (cxC X (ts++fr) scope cl C fp s H) cnd tc) (hs:∀ x,foldedSetIterable iter X.env x=pure x)
  (use:Option (Value->Sem Unit)) (I:Inv X pins σ H s) (h:a7k wi (m9 ts.length ix) g tc te σ H Q) (fin:a7i X pins σ use Q Qf) :
  wpAny (model X.prog X.w) X.A (comprehension (.ListComp elt [⟨tg,iter,[cnd],0⟩] scope pos) scope X.env ppos (newList []) false (eval iter X.env) use) Qf X.xe s:=by
 refine eh (use:=use) rfl hs S.clos S.kind S.names (thn (hi pins s σ H _ I h) λv s1 h1=>thn h1 λitv s2 h2=>?_);obtain ⟨it,fp,tn,J,H2,e,I2,T,st2,f2,W,⟨m0,w0⟩,turn⟩:=h2;subst e;have hob:∀ b∈fp,b<s2.heap.objs.size:=λb hb=>let ⟨o,e,_⟩:=T.obj _ _ st2 b hb;aE e;refine cf (fg S.nocell (by intro y hy;simp at hy) (λh4 hns4 hsb4=>?_) S.kind)
 dsimp only at hns4 hsb4 ⊢
 generalize hH2:s2.heap.push { cls:=.type "list",dict:=none,data:=.seq ([]:List Value).toArray }=G at hns4 hsb4 ⊢
 have hCs:G.objs.size=s2.heap.objs.size+1:=by rw [<-hH2,dB]
 have hCle:s2.heap.objs.size<=G.objs.size:=by omega
 have hne:G.objs.size≠s2.heap.objs.size:=by omega
 have old:∀ b o,s2.heap.get? b=some o->h4.get? b=some o:=λb o e=>by
  have hlt:=aE e;exact hsb4.extBut b o (aR (aH hlt hCle)) (ai _ (hH2 ▸ ai _ e))
 have hacc:h4.get? s2.heap.objs.size=some { cls:=.type "list",data:=.seq ([]:List Value).toArray 0 } :=
  hsb4.extBut _ _ (cX hne) (ai _ (hH2 ▸ aK _ rfl))
 have K0:Inv (cxC X (ts++fr) scope cl G.objs.size fp s2 H2) [] (m9 ts.length ix σ) H2 { s2 with heap:=h4,toks:=s2.toks+([]:List (Str × Value)).length } :=
  aap S I2 f2 hob hCle old hns4 rfl rfl
 have st4:tn 0 h4:=T.keep _ _ _ st2 λb _ o e=>old b o e;have accF:s2.heap.objs.size ∉ fp:=λz=>bH _ (hob _ z);have stat:∀ {H':Hp},(∀ b∈fp,H' b=none)->∀ b∈fp,FpOk (cxC X (ts++fr) scope cl G.objs.size fp s2 H2) [] H' b:=λhn b hb =>
  ⟨hn b hb,λz=>by have h1:=hob b hb;have z':b=G.objs.size:=z;exact aR (aH h1 hCle) z',λz=>(a5d S I2 f2 hob hCle).exfs b hb z, .inl hb,λx c e=>(f2 b hb).2.2.2.2.1 x c (S.sub x c e),λp hp=>absurd (show p∈([]:List (Addr × Obj)) from hp) (by simp)⟩
 have statA:∀ {H':Hp},H' s2.heap.objs.size=none->FpOk (cxC X (ts++fr) scope cl G.objs.size fp s2 H2) [] H' s2.heap.objs.size:=λhn =>
  ⟨hn,λz=>hne (show G.objs.size=s2.heap.objs.size from z.symm),λz=>by
   obtain ⟨_,o,ho,_⟩:=(a5d S I2 f2 hob hCle).funs.mem z;exact bH _ (aE ho), .inr (ar _),λx c e z=>by
   obtain ⟨v,o,ho,_⟩:=I2.cell x c (S.sub x c e);rw [z] at ho;exact bH _ (aE ho),λp hp=>absurd (show p∈([]:List (Addr × Obj)) from hp) (by simp)⟩
 have loop:∀ s4:Shared,s4={ s2 with heap:=h4,toks:=s2.toks+([]:List (Str × Value)).length }->
   codeAny (model X.prog X.w) X.A (.compLoop (.ListComp elt [⟨tg,iter,[cnd],0⟩] scope pos) 0 (.ref it) (.ref s2.heap.objs.size) (compEnvC scope cl G.objs.size X.env))
    (compPost (model X.prog X.w) X.A X.xe use Qf (.ref s2.heap.objs.size) G.objs.size) s4:=by
  rintro s4 rfl
  refine adw (λn s'=>∃ i σ' H' ys its k,Inv (cxC X (ts++fr) scope cl G.objs.size fp s2 H2) [] σ' H' s'/\Ext (m9 ts.length ix σ) σ'/\tn i s'.heap/\(∀ b∈fp,H' b=none)/\H' s2.heap.objs.size=none /\
   s'.heap.get? s2.heap.objs.size=some { cls:=.type "list",data:=.seq its.toArray k }/\Vals ys its/\ys.length<=sizeLine/\W i n ys H') ?_ m0
   ⟨0,_,H2,[],[],0,K0,⟨rfl,λ_ _ z=>z⟩,st4,λb hb=>(f2 b hb).1,I2.hok.fresh (ar _),hacc, .nil,bE _,w0⟩
  rintro n s5 ⟨i,σ5,H5,ys,its,k5,I5,x5,st5,fr5,fa5,ac5,rv5,hz5,w5⟩
  have I5':Inv (cxC X (ts++fr) scope cl G.objs.size fp s2 H2) [] (m9 ts.length ix σ) H5 s5:=I5.weak x5.1.symm x5.2
  rcases turn i n ys H5 w5 with ⟨stop,qn⟩ | ⟨go,hlt,step⟩
  ·refine thn (T.done (cxC X (ts++fr) scope cl G.objs.size fp s2 H2) rfl rfl rfl hc i [(s2.heap.objs.size,{ cls:=.type "list",data:=.seq its.toArray k5 })] s5 _ H5 _ (I5'.pins_of λp hp=>?_) (λb hb=>?_) st5 stop) λr s6 ⟨hr,I6⟩=>?_
   ·have e:p=(s2.heap.objs.size,{ cls:=.type "list",data:=.seq its.toArray k5 }):=by simpa using hp
    subst e;obtain ⟨a0,a1,a2,_⟩:=statA fa5;exact ⟨ac5,a0,a1,a2,λv z=>by cases z⟩
   ·obtain ⟨b0,b1,b2,b3,b4,b5⟩:=stat fr5 b hb;refine ⟨b0,b1,b2,b3,b4,λp hp=>?_⟩;have e:p=(s2.heap.objs.size,{ cls:=.type "list",data:=.seq its.toArray k5 }):=by
     have hp':p∈[(s2.heap.objs.size,_)]:=hp;simpa using hp'
    subst e;exact λz=>accF (by have z':s2.heap.objs.size=b:=z;rw [z'];exact hb)
   ·subst hr;have e6:=(I6.pin (s2.heap.objs.size,{ cls:=.type "list",data:=.seq its.toArray k5 }) (by show _∈[]++[_];simp)).1
    obtain ⟨m6,hn6,_⟩:=I6.loc;exact fin _ _ s6 _ m6 hn6 (I2.fpOk hCle (by rw [jo hne];exact I6.free)) (λh' sb=>comp_back I2 f2 hCle (ar _) hne I6.unpinned' fa5 e6 rv5 hz5 sb) (qn _ fa5)
  ·refine thn (T.item (cxC X (ts++fr) scope cl G.objs.size fp s2 H2) rfl rfl rfl hc i [(s2.heap.objs.size,{ cls:=.type "list",data:=.seq its.toArray k5 })] s5 _ H5 _ (I5'.pins_of λp hp=>?_) (λb hb=>?_) st5 go) λr s6 ⟨u,hr,h6⟩=>?_
   ·have e:p=(s2.heap.objs.size,{ cls:=.type "list",data:=.seq its.toArray k5 }):=by simpa using hp
    subst e;obtain ⟨a0,a1,a2,_⟩:=statA fa5;exact ⟨ac5,a0,a1,a2,λv z=>by cases z⟩
   ·obtain ⟨b0,b1,b2,b3,b4,b5⟩:=stat fr5 b hb;refine ⟨b0,b1,b2,b3,b4,λp hp=>?_⟩;have e:p=(s2.heap.objs.size,{ cls:=.type "list",data:=.seq its.toArray k5 }):=by
     have hp':p∈[(s2.heap.objs.size,_)]:=hp;simpa using hp'
    subst e;exact λz=>accF (by have z':s2.heap.objs.size=b:=z;rw [z'];exact hb)
   ·subst hr;refine thn h6 λ_ s7 ⟨x,H7,I7,r7,y7,st7,fr7⟩=>?_;have fa7:H7 s2.heap.objs.size=none:=(I7.pin (s2.heap.objs.size,{ cls:=.type "list",data:=.seq its.toArray k5 }) (by show _∈[]++[_];simp)).2.1
    have ac7:=(I7.pin (s2.heap.objs.size,{ cls:=.type "list",data:=.seq its.toArray k5 }) (by show _∈[]++[_];simp)).1
    have I7':Inv (cxC X (ts++fr) scope cl G.objs.size fp s2 H2) ([]++vq (s2.heap.objs.size::fp) s7.heap) (m9 ts.length ix σ) H7 s7:=by
     refine Inv.pinned I7.unpinned' (λb hb=>?_) λb hb=>?_
     ·rcases aD.mp hb with e | e
      ·subst e;exact statA fa7
      ·exact stat fr7 b e
     ·rcases aD.mp hb with e | e
      ·subst e;exact ⟨_,ac7,λv z=>by cases z⟩
      ·exact T.obj _ _ st7 b e
    refine thn (hg G.objs.size fp s2 H2 _ s7 _ H7 x u _ I7' r7 (step x H7 y7)) λ_ s8 ⟨σ8,H8,I8,x8,q8⟩=>?_;refine thn (ht G.objs.size fp s2 H2 _ s8 _ H8 _ I8 q8) λok s8' ⟨H8',I8',q8'⟩=>?_
    cases ok with
    | false =>
     rw [aL aP] at q8' ⊢;obtain ⟨m',hm',w9⟩:=q8';obtain ⟨ac9,fa9,_⟩:=I8'.pin (s2.heap.objs.size,{ cls:=.type "list",data:=.seq its.toArray k5 }) (by show _∈[]++([]++_);simp;exact ju aF ac7)
     have keep9:∀ b∈fp,∀ o,s7.heap.get? b=some o->s8'.heap.get? b=some o/\H8' b=none:=λb hb o e=>by
      obtain ⟨z1,z2,_⟩:=I8'.pin (b,o) (by show _∈[]++([]++_);simp;exact ju (aC _ hb) e)
      exact ⟨z1,z2⟩
     refine ⟨m',hm',i+1,σ8,H8',ys,its,k5,I8'.unpinned',x8,?_,?_,fa9,ac9,rv5,hz5,w9⟩
     ·exact T.keep _ _ _ st7 λb hb o e=>(keep9 b hb o e).1
     ·intro b hb
      obtain ⟨o,e,_⟩:=T.obj _ _ st7 b hb;exact (keep9 b hb o e).2
    | true =>
     rw [aA rfl] at q8' ⊢;refine thn (he G.objs.size fp s2 H2 _ s8' _ H8' _ I8' q8') λyv s9 ⟨y,H9,I9,r9,m',hm',w9⟩=>?_;obtain ⟨ac9,fa9,_⟩:=I9.pin (s2.heap.objs.size,{ cls:=.type "list",data:=.seq its.toArray k5 }) (by show _∈[]++([]++_);simp;exact ju aF ac7)
     have keep9:∀ b∈fp,∀ o,s7.heap.get? b=some o->s9.heap.get? b=some o/\H9 b=none:=λb hb o e=>by
      obtain ⟨z1,z2,_⟩:=I9.pin (b,o) (by show _∈[]++([]++_);simp;exact ju (aC _ hb) e)
      exact ⟨z1,z2⟩
     have hl:=rv5.length;refine cv c9 ⟨_,ac9,rfl⟩ fA (eZ _ _) (gA s2.heap.objs.size its.toArray k5 yv (by rw [ay];omega)) ⟨ac9,?_⟩
     have q:=gL ac9 (λa=>a.push yv);have qo:∀ b o,b≠s2.heap.objs.size->s9.heap.get? b=some o->(s9.heap.update s2.heap.objs.size (Obj.mapSeq (λa=>a.push yv))).get? b=some o:=λb o hb e=>(cA s9.heap _ (cX hb)).trans e;have q':∃ k,(s9.heap.update s2.heap.objs.size (Obj.mapSeq (λa=>a.push yv))).get? s2.heap.objs.size=some { cls:=.type "list",data:=.seq (its++[yv]).toArray k }:=⟨_,by rw [q];simp;rfl⟩
     obtain ⟨k9,q9⟩:=q';obtain ⟨a0,a1,a2,a3,a4,a5⟩:=statA (show H9 s2.heap.objs.size=none from fa9)
     refine ⟨m',hm',i+1,σ8,H9,ys++[y],its++[yv],k9,(I9.unpinned').turned qo a0 a1 a3 a4 a5,x8,?_,?_,fa9,q9,rv5.append (.cons r9 .nil),?_,w9⟩
     ·refine T.keep _ _ _ st7 λb hb o e=>qo b o (λz=>accF (z ▸ hb)) (keep9 b hb o e).1
     ·intro b hb
      obtain ⟨o,e,_⟩:=T.obj _ _ st7 b hb;exact (keep9 b hb o e).2
     ·rw [ap,ax];omega
 exact codeAny_compStart_list (loop _ rfl) (T.self _ 0 _ _ _ st4 (loop _ rfl))
theorem adx(hc:X.calm=true)(S:CSc X scope cl ts fr ix)(hi:PI X tg iter wi)
  (hg:∀ C fp s H,PG (cxC X (ts++fr) scope cl C fp s H) tg g) (he:∀ C fp s H,PE (cxC X (ts++fr) scope cl C fp s H) elt te) (ht:∀ C fp s H,PT (cxC X (ts++fr) scope cl C fp s H) cnd tc)
  (hs:∀ x,foldedSetIterable iter X.env x=pure x:=by intro _;rfl) :
  PE X (.ListComp elt [⟨tg,iter,[cnd],0⟩] scope pos) (a7k wi (m9 ts.length ix) g tc te):=by
 intro pins s σ H Q I h
 rw [eval_ListComp];exact a5f hc S hi hg he ht hs none I h a7j
theorem ady{spos:Pos}(hN:X.N.Nodup)(hi':X.N[i]? = some x)(hx:Loc X.env.scope x)(hc:X.calm=true)(S:CSc X scope cl ts fr ix)(hi:PI X tg iter wi)
  (hg:∀ C fp s H,PG (cxC X (ts++fr) scope cl C fp s H) tg g) (he:∀ C fp s H,PE (cxC X (ts++fr) scope cl C fp s H) elt te) (ht:∀ C fp s H,PT (cxC X (ts++fr) scope cl C fp s H) cnd tc)
  (hs:∀ x,foldedSetIterable iter X.env x=pure x:=by intro _;rfl) (hsw:swapsWith (.ListComp elt [⟨tg,iter,[cnd],0⟩] scope pos) (some (.Name x pos')) spos.line X.env=pure true:=by rfl) (hf:X.fn x=true\/X.env.scope.names.lookup x=some .local:=by first | exact .inl rfl | exact .inr rfl | assumption) :
  PS X (.Assign [.Name x pos'] (.ListComp elt [⟨tg,iter,[cnd],0⟩] scope pos) spos) (aud (a7k wi (m9 ts.length ix) g tc te) (a3g i)):=by
 intro pins s σ H D I h
 rw [exec_Assign_Name_used _ _ _ _ hsw];refine ae (cD (ae ?_));refine ae (ba (a5f hc S hi hg he ht hs (some (assign (.Name x pos') X.env)) I h (abu hN hi' hx hf)) (λ_ s' hq=>aw (aw hq)) λ_ _ e=>e)
end
section
variable{X:Cx}
def a9e(T:Str)(c:Nat):Int:=Txt.find T ⟨#[c]⟩
theorem aar(s sub:Str)(hi limit:Nat):∀ (l:List Nat) (st:Array Nat × Nat) (k:Nat),k∈(forIn l st (StrLaws.occBody s sub hi limit)).run.fst.toList->k∈st.fst.toList\/(k+sub.length<=hi/\Builtin.Str.subAt s sub k=true)
 | [],st,k,h=>.inl h
 | a::l,st,k,h=>by
  rw [List.forIn_cons] at h;unfold StrLaws.occBody at h
  split at h
  ·rename_i c
   rcases aar s sub hi limit l _ k h with z | z
   ·simp at z
    rcases z with z | z
    ·exact .inl (by simpa using z)
    ·subst z;exact .inr ⟨c.1.2,c.2⟩
   ·exact .inr z
  ·rcases aar s sub hi limit l _ k h with z | z
   ·exact .inl z
   ·exact .inr z
theorem abv{T:Str}(h:c∈T.cps.toList):∃ i:Nat,a9e T c=(i:Int)/\T.cps.toList[i]? = some c/\∃ rest,Builtin.Str.occurrences T ⟨#[c]⟩ 0 T.length 1=i::rest:=by
 have h1:=gB T c;rw [cF h] at h1
 cases ho:Builtin.Str.occurrences T ⟨#[c]⟩ 0 T.length 1 with
 | nil=>rw [ho] at h1;cases h1
 | cons i rest =>
  refine ⟨i,by simp [a9e,Txt.find,ho],?_,rest,rfl⟩
  rw [StrLaws.occ_eq] at ho;have hm:=aar T ⟨#[c]⟩ T.length 1 (List.range' 0 (T.length+1 - 0)) (#[],0) i (by rw [ho];exact aF)
  rcases hm with z | z
  ·simp at z
  ·exact (StrLaws.subAt_one T c i).mp z
theorem a3k:OpR X (compareOp .In) (λx y H Q=>∃ c T,x = .str ⟨#[c]⟩/\y = .str T/\Q (.bl (decide (c∈T.cps.toList))) H):=by
 intro pins s σ H x y v u Q I rx ry h
 obtain ⟨c,T,rfl,rfl,q⟩:=h;exact af5 pins s σ H _ _ v u Q I rx ry ⟨_,_,rfl,rfl,by rw [gB];exact q⟩
theorem a6r:OpR X (compareOp .NotIn) (λx y H Q=>∃ c T,x = .str ⟨#[c]⟩/\y = .str T/\Q (.bl (!decide (c∈T.cps.toList))) H):=by
 intro pins s σ H x y v u Q I rx ry h
 obtain ⟨c,T,rfl,rfl,q⟩:=h;exact a96 pins s σ H _ _ v u Q I rx ry ⟨_,_,rfl,rfl,by rw [gB];exact q⟩
theorem ajd:MtR X "str.index" (λx xs H Q=>∃ T c,x = .str T/\xs=[.str ⟨#[c]⟩]/\c∈T.cps.toList/\Q (.int (a9e T c)) H):=by
 intro pins s σ H x xs v us Q I rx rs h
 obtain ⟨T,c,rfl,rfl,hc,q⟩:=h;obtain ⟨t,rfl⟩:=rx;obtain ⟨u,rfl,t',rfl⟩:=vals1 rs;obtain ⟨i,e1,e2,rest,ho⟩:=abv hc;refine cv F.slot_str_index (typeIs_str _ _ _) F.entry_str_index (F.args_str_index_2 _ _) (gives_str_index _ _ _ _ i rest ho).meets ⟨.int (a9e T c),H,I.tok _,⟨_,by rw [e1]⟩,q⟩
theorem anp{zs:List Str}:∀ {us:List Value},Vals (zs.map V.str) us->StrsAre us zs:=by
 induction zs with
 | nil=>intro us r;rw [cL] at r;cases r;exact .nil
 | cons z zs ih =>
  intro us r
  rw [aZ] at r
  cases r with
  | cons r1 r2 =>
   obtain ⟨t,e⟩:=r1;subst e;exact .cons z t (ih r2)
theorem aas:MtR X "str.join" (λx xs H Q=>∃ sep p zs,x = .str sep/\xs=[.ref p]/\SqL X.K H p (zs.map V.str)/\(zs.map (·.length)).sum+zs.length*sep.length<=16777216/\Q (.str (Txt.join sep zs)) H):=by
 intro pins s σ H x xs v us Q I rx rs h
 obtain ⟨sep,p,zs,rfl,rfl,hp,hz,q⟩:=h;obtain ⟨t,rfl⟩:=rx;obtain ⟨u,rfl,ru⟩:=vals1 rs;cases ru
 obtain ⟨its,r,pl,_⟩:=I.list hp;exact join_list pl.isList (by simpa using anp r) hz λt' k=>⟨.str _,H,I.tok _,⟨_,rfl⟩,q⟩
end
theorem CSc.of{X:Cx}{ts fr:List Str}{ix:List Nat}(clos:closureFor scope X.env=pure cl)(kind:scope.kind = .function)
  (nocell:(scope.names.all λp=>p.2 != .cell)=true) (names:(scope.names.all λp=>p.2 != .local || scope.names.lookup p.1 == some .local)=true) (sub:∀ p∈cl,X.env.cells.lookup p.1=some p.2)
  (has:((relabel scope X.env).names.all λp => !(p.2 == .cell || p.2 == .free) || (cl.lookup p.1).isSome)=true) (nofn:(ts.all λy=>(relabel scope X.env).names.lookup y == some .local)=true)
  (len:ix.length=fr.length) (vis:((fr.zip ix).all λp=>X.N[p.2]? == some p.1 && (X.env.kindOf p.1 == some .cell || X.env.kindOf p.1 == some .free) && ((relabel scope X.env).names.lookup p.1 == some .cell || (relabel scope X.env).names.lookup p.1 == some .free))=true) :
  CSc X scope cl ts fr ix:=by
 refine ⟨clos,kind,λy hy=>?_,λy hy e=>?_,λy c e=>sub _ (bS e),λy z=>?_,λy hy=>?_,len,λj y e=>?_⟩
 ·have:=br.mp nocell y hy
  simpa using this
 ·have:=br.mp names y hy
  rw [e] at this;simpa using this
 ·have key:∀ k,(relabel scope X.env).names.lookup y=some k->(k == .cell || k == .free)=true->∃ c,cl.lookup y=some c:=λk e hk=>by
   have:=br.mp has _ (bS e)
   rw [hk] at this;exact gc.mp (by simpa using this)
  rcases z with z | z
  ·exact key _ z rfl
  ·exact key _ z rfl
 ·have:=br.mp nofn y hy
  simpa using this
 ·obtain ⟨hj,_⟩:=ah.mp e;have hj2:j<ix.length:=by omega
  have hm:(y,ix[j])∈fr.zip ix:=by
   rw [List.mem_iff_getElem?];exact ⟨j,by rw [fT];exact ⟨e,ad hj2⟩⟩
  have:=br.mp vis _ hm
  simp only [bV,Bool.or_eq_true,i3] at this;exact ⟨ix[j],ad hj2,this.1.1,this.1.2,this.2⟩
end L2
namespace HT
open PySem PySem.Spec PyProof.Rows
end HT
namespace L2
open PySem PySem.Spec PyProof.Rows
def tSM(r:V->List V->Hp->VK->Prop)(to:TE)(t:TA):TE:=λσ H Q=>to σ H λx H1=>(∃ z,x = .str z)/\t σ H1 λxs H2=>r x xs H2 Q
theorem avs{X:Cx}{o e:Expr}{es:List Expr}{to:TE}{t:TA}{name:Str}{apos cpos:Pos}{id:String}{r:V->List V->Hp->VK->Prop}(slot:Slot "str" name id)(hty:typeOf (.builtin id)=pure (.type "method_descriptor"))(hm:MtR X id r)(ho:PE X o to)(ha:PA X (e::es) t)
  (hbase:attributeBase o name X.env (eval o X.env)=eval o X.env:=by rfl)
  (hfew:((backTo cpos (starEach (e::es) X.env)).all (λx => !x.1) && (backToKw cpos (keywordEach [] X.env)).all (λx=>x.1.isSome)
   && decide ((e::es).length+([]:List Keyword).length+(if ([]:List Keyword).isEmpty then 0 else 1)<30))=true:=by rfl)
  (hline:(apos.endLine == cpos.line)=true:=by rfl) (hs:starEach (e::es) X.env=(false,eval e X.env)::starEach es X.env:=by rfl) (hplain:(backTo cpos (starEach es X.env)).any (·.1)=false:=by rfl) :
  PE X (.Call (.Attribute o name apos) (e::es) [] cpos) (tSM r to t):=by
 intro pins s σ H Q I h
 refine wpAny_Call_method_late hbase hfew hline rfl (thn (ho pins s σ H _ I h) λv s1 ⟨x,H1,I1,r1,⟨z,hz⟩,q1⟩=>?_);subst hz;obtain ⟨h1,h2⟩:=am1 (T := "str") I1 r1 rfl;refine ⟨"str",id,PySem.F.plainAttrs_str,slot,hty,h1,h2,?_⟩;have hA:=ha cpos pins s1 σ H1 _ I1 q1;rw [hs] at hA ⊢;refine Calls.callWith_builtin (by show (false || (backTo cpos (starEach es X.env)).any (·.1))=false;rw [hplain]<;>rfl) (Calls.evalArgs_plain ?_)
 exact thn hA λus s2 ⟨vs,H2,I2,r2,q2⟩=>hm pins s2 σ H2 _ vs v us Q I2 r1 r2 q2
section
variable{X:Cx}
theorem a6s(hc:X.calm=true):CallR X (.builtin "sum") (λxs H Q=>∃ (p:Addr) (ns:List Int),xs=[.ref p]/\SqL X.K H p (ns.map V.int)/\Q (.int ns.sum) H):=by
 intro pins s σ H xs us Q I r h
 obtain ⟨p,ns,rfl,hq,q⟩:=h;obtain ⟨u,rfl,rx⟩:=vals1 r;cases rx
 obtain ⟨its,r',pl,hz⟩:=I.list hq;have hInts:IntsAre its ns:=intsAre_of r';obtain ⟨prs,ep⟩:=hInts.allInts.items;refine sum_intListG (xs:=prs) (I.ok.hd hc) (ep ▸ pl.isList) λh' tk t' hk=>⟨.int ns.sum,H,I.kept hk,⟨t',?_⟩,q⟩;have nums:prs.toList.map (·.1)=ns:=by
  rw [<-nums_intItems,<-ep];exact hInts.numsOf
 have tot:preSum (numAt prs) prs.size=ns.sum:=by
  rw [preSum_eq,<-nums]
  congr 1
  exact bG (by simp)
 rw [tot]
end
end L2
namespace SHP
open PySem L2
end SHP
namespace L2
open PySem PySem.Spec PyProof.Rows
open PySem.AutoSeq1 in
theorem a5g(l b:Addr)(xs ys:Array Value)(n m:Nat)(dd:Option Addr)(sl:Array (Option Value))(long:¬(!xs.isEmpty && Builtin.List.listTooLong (xs.size+ys.size))=true)(fit1:xs.size<=sizeLine)(fit2:xs.size+ys.size<=sizeLine+1) :
  Meets (Builtin.«list.extend» ⟨[.ref l, .ref b],[]⟩) (λ_ R s=>(s.heap.get? l=some { cls:=.type "list",dict:=none,data:=.seq xs n,slots := #[] }/\s.heap.get? b=some { cls:=.type "tuple",dict:=dd,data:=.seq ys m,slots:=sl })/\R (.ok (.ret Value.none)) { s with heap:=s.heap.update l (Obj.mapSeq (·++ys)) }) :=
 .of_wp λprog w A R ⟨hp,gn,dr,tk,os⟩ ⟨⟨hl,hb⟩,q⟩=>by
  have a1:=idx_int;have a2:=AutoSeq1.sub_tuple_tuple;have a3:=AutoSeq1.sub_list_list;have a4:=AutoSeq1.sub_tuple_list;have a5:=AutoSeq1.sub_list_tuple;have both:(xs++ys).size<=sizeLine+1:=by simpa using fit2
  wp_walk using hE hl rfl (hz:=fit1) (_hz':=both),wpAny_loadPart' hl,wpAny_loadPart' hb
  exact ⟨_,rfl,q⟩
section
variable{X:Cx}
def abw(K:PySem.W.Frag):V->List V->Hp->VK->Prop:=λx vs H Q=>∃ l b xs zs,x = .ref l/\vs=[.ref b]/\H l=some (.lst xs)/\SqT K H b zs/\xs.length+zs.length<=sizeLine/\Q .non (upd H l (.lst (xs++zs)))
theorem adz:MtM X "list.extend" (abw X.K):=by
 intro pins s σ H x vs v us Q I rx rv h
 obtain ⟨l,b,xs,zs,rfl,rfl,hH,hB,hz,q⟩:=h;cases rx
 obtain ⟨u,rfl,ru⟩:=rv.one;cases ru
 obtain ⟨z,its,n,r,hl,e⟩:=I.lstM hH;obtain ⟨its2,r2,p2,_⟩:=I.tuple hB;have hl2:=r2.length;obtain ⟨⟨cls,dd,data,sl⟩,e2,hc,hrest⟩:=id p2;have hsz:its.toArray.size+its2.toArray.size<=sizeLine:=by rw [ay,ay];omega
 have hlong:¬ (!its.toArray.isEmpty && Builtin.List.listTooLong (its.toArray.size+its2.toArray.size))=true:=by
  rw [a2k hsz,eO];exact aP
 obtain ⟨n2,hd⟩:=(show ∃ n2,data = .seq its2.toArray n2 from by first | exact hrest | exact ⟨_,hrest.2⟩ | (obtain ⟨_,n,hd⟩:=hrest;exact ⟨n,hd⟩))
 have hc':cls = .type "tuple":=hc;subst hc' hd;refine cv F.slot_list_extend ⟨_,e,rfl⟩ F.entry_list_extend (F.args_list_extend_2 _ _)
  (a5g l b its.toArray its2.toArray n n2 dd sl hlong (by rw [ay];omega) (by omega)) ⟨⟨e,e2⟩,?_⟩
 refine ⟨.non,_,I.lset (its':=its++its2) hH e (by simp) (r.append r2) ?_,rfl,q⟩
 rw [ap];omega
end
end L2
namespace SHP
open PySem L2
end SHP
namespace MI
open PySem L2
inductive D where
 | non | bl (b:Bool) | int (i:Int) | str (x:Str) | ty (n:String) | tup (xs:List D) | rol (xs:List D) | ref (i:Nat) | scr (xs:List D) | rod (ks:List Key) (xs:List D) | rdT (ks:List (List Key)) (xs:List D) | exc (c:Str)
inductive O where
 | lst (xs:List D) | dK (kvs:List (Key × D)) | dT (kvs:List (List Key × D))
abbrev Hd:=List O
abbrev Sd:=List (Option D)
inductive R (α:Type) where
 | ok (a:α) (h:Hd) | ex (c:Str) (h:Hd) | no
def R.bind{α β:Type}:R α->(α->Hd->R β)->R β
 | .ok a h,k=>k a h
 | .ex c h,_=>.ex c h
 | .no,_=>.no
inductive Fl where
 | nx (σ:Sd) (h:Hd) | rt (d:D) (h:Hd) | bk (σ:Sd) (h:Hd) | ct (σ:Sd) (h:Hd) | ex (c:Str) (h:Hd) | no
def R.fl{α:Type}:R α->(α->Hd->Fl)->Fl
 | .ok a h,k=>k a h
 | .ex c h,_=>.ex c h
 | .no,_=>.no
abbrev SE:=Sd->Hd->R D
abbrev ST:=Sd->Hd->R Bool
abbrev SA:=Sd->Hd->R (List D)
abbrev SS:=Sd->Hd->Fl
def SqF(K:PySem.W.Frag)(H:Hp)(a:Addr)(vs:List V):Prop:=(∃ o,H a=some (.frz o (.lst vs)))\/SqL K (λ_=>none) a vs
theorem SqF.l(h:SqF K H a vs):SqL K H a vs:=by
 rcases h with ⟨o,h⟩ | h
 ·exact .inl (.inr ⟨o,h⟩)
 ·rcases h with (h | ⟨o,h⟩) | h
  ·cases h
  ·cases h
  ·exact .inr h
def SqZ(H:Hp)(a:Addr)(vs:List V):Prop:=∃ o,H a=some (.frz o (.lst vs))
theorem SqZ.l(h:SqZ H a vs):SqL K H a vs:=let ⟨o,e⟩:=h; .inl (.inr ⟨o,e⟩)
def exO(a:Addr):HO:=.ext λh=>∃ o,h.get? a=some o
mutual
inductive Rep (K:PySem.W.Frag) (ι:List Addr) (H:Hp):V->D->Prop
 | non:Rep K ι H .non .non
 | bl (b:Bool):Rep K ι H (.bl b) (.bl b)
 | int (i:Int):Rep K ι H (.int i) (.int i)
 | str (x:Str):Rep K ι H (.str x) (.str x)
 | ty (n:String):Rep K ι H (.ty n) (.ty n)
 | tup {a:Addr} {vs:List V} {xs:List D} (h:H a=some (.tup vs)) (r:Reps K ι H vs xs):Rep K ι H (.ref a) (.tup xs)
 | rol {a:Addr} {vs:List V} {xs:List D} (h:SqZ H a vs) (r:Reps K ι H vs xs):Rep K ι H (.ref a) (.rol xs)
 | scr {a:Addr} {vs:List V} {xs:List D} (h:SqF K H a vs) (r:Reps K ι H vs xs):Rep K ι H (.ref a) (.scr xs)
 | ref {a:Addr} {i:Nat} (h:ι[i]? = some a):Rep K ι H (.ref a) (.ref i)
 | rod {a:Addr} {o:Obj} {us:List (Key × V)} {ks:List Key} {xs:List D} (h:H a=some (.frz o (.dK us))) (e:us.map (·.1)=ks) (r:Reps K ι H (us.map (·.2)) xs):Rep K ι H (.ref a) (.rod ks xs)
 | rdT {a:Addr} {o:Obj} {us:List (List Key × V)} {ks:List (List Key)} {xs:List D} (h:H a=some (.frz o (.dT us))) (e:us.map (·.1)=ks) (r:Reps K ι H (us.map (·.2)) xs):Rep K ι H (.ref a) (.rdT ks xs)
 | exc {a C:Addr} {o:Obj} {c:Str} (h:H a=some (.frz o (exO a))) (hc:o.cls = .ref C) (hn:PySem.W.nsIn K mainGlobals c=some (some (.ref C))):Rep K ι H (.ref a) (.exc c)
inductive Reps (K:PySem.W.Frag) (ι:List Addr) (H:Hp):List V->List D->Prop
 | nil:Reps K ι H [] []
 | cons {v:V} {d:D} {vs:List V} {ds:List D} (r:Rep K ι H v d) (rs:Reps K ι H vs ds):Reps K ι H (v::vs) (d::ds)
end
structure Gw (ι:List Addr) (H:Hp) (ι':List Addr) (H':Hp):Prop where
 pre:∃ m,ι'=ι++m
 tup:∀ a vs,H a=some (.tup vs)->H' a=some (.tup vs)
 frz:∀ a o u,H a=some (.frz o u)->H' a=some (.frz o u)
structure Gr (ι:List Addr) (H:Hp) (ι':List Addr) (H':Hp):Prop where
 pre:∃ m,ι'=ι++m/\∀ a∈m,H a=none
 tup:∀ a vs,H a=some (.tup vs)->H' a=some (.tup vs)
 frz:∀ a o u,H a=some (.frz o u)->H' a=some (.frz o u)
 oth:∀ a u,H a=some u->a ∉ ι->H' a=some u
 kp:∀ a u,H a=some u->∃ u',H' a=some u'
theorem Gr.w(g:Gr ι H ι' H'):Gw ι H ι' H':=⟨let ⟨m,e,_⟩:=g.pre; ⟨m,e⟩,g.tup,g.frz⟩
theorem Gr.refl(ι:List Addr)(H:Hp):Gr ι H ι H:=⟨⟨[],by simp,by simp⟩,λ_ _ h=>h,λ_ _ _ h=>h,λ_ _ h _=>h,λ_ u h=>⟨u,h⟩⟩
theorem Gr.trans(a:Gr ι H ι1 H1)(b:Gr ι1 H1 ι2 H2):Gr ι H ι2 H2:=by
 obtain ⟨m,rfl,hm⟩:=a.pre;obtain ⟨n,rfl,hn⟩:=b.pre;refine ⟨⟨m++n,by simp,λx hx=>?_⟩,λx vs h=>b.tup x vs (a.tup x vs h),λx o u h=>b.frz x o u (a.frz x o u h),λx u h hx=>?_,λx u h=>?_⟩
 ·rcases aQ.mp hx with hx | hx
  ·exact hm x hx
  ·cases e:H x with
   | none=>rfl
   | some u =>
    obtain ⟨u',e'⟩:=a.kp x u e;rw [hn x hx] at e';cases e'
 ·refine b.oth x u (a.oth x u h hx) λz=>?_
  rcases aQ.mp z with z | z
  ·exact hx z
  ·rw [hm x z] at h;cases h
 ·obtain ⟨u',e⟩:=a.kp x u h;exact b.kp x u' e
theorem Gw.at(g:Gw ι H ι' H'){i:Nat}(h:ι[i]? = some a):ι'[i]? = some a:=by
 obtain ⟨m,rfl⟩:=g.pre;rw [aI (ah.mp h).1];exact h
theorem Gr.at(g:Gr ι H ι' H'){i:Nat}(h:ι[i]? = some a):ι'[i]? = some a:=g.w.at h
theorem SqF.monoW(g:Gw ι H ι' H')(h:SqF K H a vs):SqF K H' a vs:=by
 rcases h with ⟨o,h⟩ | h
 ·exact .inl ⟨o,g.frz _ _ _ h⟩
 ·exact .inr h
theorem SqZ.monoW(g:Gw ι H ι' H')(h:SqZ H a vs):SqZ H' a vs:=let ⟨o,e⟩:=h; ⟨o,g.frz _ _ _ e⟩
theorem SqZ.mono(g:Gr ι H ι' H')(h:SqZ H a vs):SqZ H' a vs:=h.monoW g.w
mutual
theorem Rep.monoW(g:Gw ι H ι' H'):∀ {v:V} {d:D},Rep K ι H v d->Rep K ι' H' v d
 | _,_, .non=>.non
 | _,_, .bl b=>.bl b
 | _,_, .int i=>.int i
 | _,_, .str x=>.str x
 | _,_, .ty n=>.ty n
 | _,_, .tup h r=>.tup (g.tup _ _ h) (Reps.monoW g r)
 | _,_, .rol h r=>.rol (h.monoW g) (Reps.monoW g r)
 | _,_, .scr h r=>.scr (h.monoW g) (Reps.monoW g r)
 | _,_, .ref h=>.ref (g.at h)
 | _,_, .rod h e r=>.rod (g.frz _ _ _ h) e (Reps.monoW g r)
 | _,_, .rdT h e r=>.rdT (g.frz _ _ _ h) e (Reps.monoW g r)
 | _,_, .exc h hc hn=>.exc (g.frz _ _ _ h) hc hn
theorem Reps.monoW(g:Gw ι H ι' H'):∀ {vs:List V} {ds:List D},Reps K ι H vs ds->Reps K ι' H' vs ds
 | _,_, .nil=>.nil
 | _,_, .cons r rs=>.cons (Rep.monoW g r) (Reps.monoW g rs)
end
theorem Rep.mono(g:Gr ι H ι' H')(r:Rep K ι H v d):Rep K ι' H' v d:=r.monoW g.w
theorem Reps.mono(g:Gr ι H ι' H')(r:Reps K ι H vs ds):Reps K ι' H' vs ds:=r.monoW g.w
section
variable{K:PySem.W.Frag}{ι:List Addr}{H:Hp}
theorem Reps.len:Reps K ι H vs ds->vs.length=ds.length
 | .nil=>rfl
 | .cons _ rs=>by rw [aS,aS,rs.len]
theorem Reps.get:∀ {vs:List V} {ds:List D} {i:Nat} {d:D},Reps K ι H vs ds->ds[i]? = some d->∃ v,vs[i]? = some v/\Rep K ι H v d
 | _,_,_,_, .nil,e=>by simp at e
 | _,_,0,_, .cons r _,e=>by simp at e;subst e;exact ⟨_,rfl,r⟩
 | _,_,i+1,d, .cons _ rs,e=>by
  obtain ⟨u,h1,h2⟩:=Reps.get (i:=i) (d:=d) rs (by simpa using e)
  exact ⟨u,by simpa using h1,h2⟩
theorem Reps.app:∀ {vs us:List V} {ds es:List D},Reps K ι H vs ds->Reps K ι H us es->Reps K ι H (vs++us) (ds++es)
 | _,_,_,_, .nil,s=>s
 | _,_,_,_, .cons r rs,s=>.cons r (Reps.app rs s)
theorem Reps.set(q:Rep K ι H v d):∀ {vs:List V} {ds:List D} (i:Nat),Reps K ι H vs ds->Reps K ι H (vs.set i v) (ds.set i d)
 | _,_,_, .nil=>.nil
 | _,_,0, .cons _ rs=>.cons q rs
 | _,_,i+1, .cons r rs=>.cons r (Reps.set q i rs)
theorem Reps.take:∀ {vs:List V} {ds:List D} (n:Nat),Reps K ι H vs ds->Reps K ι H (vs.take n) (ds.take n)
 | _,_,0,_=>.nil
 | _,_,_+1, .nil=>.nil
 | _,_,n+1, .cons r rs=>.cons r (Reps.take n rs)
theorem Reps.drop:∀ {vs:List V} {ds:List D} (n:Nat),Reps K ι H vs ds->Reps K ι H (vs.drop n) (ds.drop n)
 | _,_,0,r=>r
 | _,_,_+1, .nil=>.nil
 | _,_,n+1, .cons _ rs=>Reps.drop n rs
theorem Reps.snoc(r:Reps K ι H vs ds)(q:Rep K ι H v d):Reps K ι H (vs++[v]) (ds++[d]):=r.app (.cons q .nil)
theorem Reps.flat:∀ {vs:List V} {ds:List D} (k:Nat),Reps K ι H vs ds->Reps K ι H (List.replicate k vs).flatten (List.replicate k ds).flatten
 | _,_,0,_=>.nil
 | vs,ds,k+1,r=>by
  rw [ce,ce,bK,bK];exact r.app (Reps.flat k r)
end
def KRep{κ:Type}(K:PySem.W.Frag)(ι:List Addr)(H:Hp)(us:List (κ × V))(kvs:List (κ × D)):Prop:=us.map (·.1)=kvs.map (·.1)/\Reps K ι H (us.map (·.2)) (kvs.map (·.2))
def ORep(K:PySem.W.Frag)(ι:List Addr)(H:Hp)(a:Addr):O->Prop
 | .lst xs=>∃ vs,H a=some (.lst vs)/\Reps K ι H vs xs
 | .dK kvs=>∃ us,H a=some (.dK us)/\KRep K ι H us kvs
 | .dT kvs=>∃ us,H a=some (.dT us)/\KRep K ι H us kvs
structure HRep (K:PySem.W.Frag) (ι:List Addr) (H:Hp) (h:Hd):Prop where
 nd:ι.Nodup
 len:ι.length=h.length
 obj:∀ (i:Nat) (a:Addr) (o:O),ι[i]? = some a->h[i]? = some o->ORep K ι H a o
section
variable{K:PySem.W.Frag}{ι:List Addr}{H:Hp}{h:Hd}
theorem ORep.some(r:ORep K ι H a o):∃ u,H a=some u/\(∀ vs,u≠.tup vs)/\(∀ o' u',u≠.frz o' u'):=by
 cases o with
 | lst xs=>obtain ⟨vs,e,_⟩:=r;exact ⟨_,e,λ_ z=>(by cases z),λ_ _ z=>(by cases z)⟩
 | dK kvs=>obtain ⟨us,e,_⟩:=r;exact ⟨_,e,λ_ z=>(by cases z),λ_ _ z=>(by cases z)⟩
 | dT kvs=>obtain ⟨us,e,_⟩:=r;exact ⟨_,e,λ_ z=>(by cases z),λ_ _ z=>(by cases z)⟩
theorem HRep.at(r:HRep K ι H h){i:Nat}(e:ι[i]? = some a):∃ o,h[i]? = some o/\ORep K ι H a o:=by
 have hi:i<h.length:=by rw [<-r.len];exact (ah.mp e).1
 exact ⟨h[i],ad hi,r.obj i a _ e (ad hi)⟩
theorem HRep.addr(r:HRep K ι H h){i:Nat}(e:h[i]? = some o):∃ a,ι[i]? = some a/\ORep K ι H a o:=by
 have hi:i<ι.length:=by rw [r.len];exact (ah.mp e).1
 exact ⟨ι[i],ad hi,r.obj i _ o (ad hi) e⟩
theorem HRep.notin(r:HRep K ι H h)(e:H p=none):p ∉ ι:=λz=>by
 obtain ⟨i,hi⟩:=bI z;obtain ⟨o,_,q⟩:=r.at hi;obtain ⟨u,q,_⟩:=q.some;rw [e] at q;cases q
theorem ORep.monoW(g:Gw ι H ι' H')(e:H' a=H a)(r:ORep K ι H a o):ORep K ι' H' a o:=by
 cases o with
 | lst xs=>obtain ⟨vs,h1,h2⟩:=r;exact ⟨vs,by rw [e];exact h1,h2.monoW g⟩
 | dK kvs=>obtain ⟨us,h1,h2,h3⟩:=r;exact ⟨us,by rw [e];exact h1,h2,h3.monoW g⟩
 | dT kvs=>obtain ⟨us,h1,h2,h3⟩:=r;exact ⟨us,by rw [e];exact h1,h2,h3.monoW g⟩
theorem ORep.mono(g:Gr ι H ι' H')(e:H' a=H a)(r:ORep K ι H a o):ORep K ι' H' a o:=r.monoW g.w e
theorem yg(e:H p=none)(o:HO):Gr ι H ι (upd H p o) :=
 ⟨⟨[],by simp,by simp⟩,λa vs h=>by rw [jo (j5 h e)];exact h,λa o u h=>by rw [jo (j5 h e)];exact h,λa u h _=>by rw [jo (j5 h e)];exact h,λa u h=>⟨u,by rw [jo (j5 h e)];exact h⟩⟩
theorem HRep.aside(r:HRep K ι H h)(e:H p=none)(o:HO):HRep K ι (upd H p o) h:=by
 refine ⟨r.nd,r.len,λi a o' e1 e2=>?_⟩;have q:=r.obj i a o' e1 e2;obtain ⟨u,hu,_⟩:=q.some;exact q.mono (yg e o) (jo (j5 hu e))
theorem afm(e:H p=none)(o:HO):Gr ι H (ι++[p]) (upd H p o) :=
 ⟨⟨[p],rfl,by simpa using e⟩,(yg (ι:=ι) e o).tup,(yg (ι:=ι) e o).frz,(yg (ι:=ι) e o).oth,(yg (ι:=ι) e o).kp⟩
theorem HRep.add(r:HRep K ι H h)(e:H p=none)(q:ORep K (ι++[p]) (upd H p o) p ob):HRep K (ι++[p]) (upd H p o) (h++[ob]):=by
 refine ⟨?_,by simp [r.len],λi a o' e1 e2=>?_⟩
 ·rw [bA];exact ⟨r.nd,by simp,λa ha b hb z=>r.notin e (by rw [av.mp hb] at z;rw [<-z];exact ha)⟩
 ·by_cases hi:i<ι.length
  ·rw [aI hi] at e1;rw [aI (by rw [<-r.len];exact hi)] at e2
   have q:=r.obj i a o' e1 e2;obtain ⟨u,hu,_⟩:=q.some;exact q.mono (afm e o) (jo (j5 hu e))
  ·have hi2:i<(ι++[p]).length:=(ah.mp e1).1;have:i=ι.length:=by simp at hi2;omega
   subst this;rw [aB (ar _)] at e1;rw [r.len,aB (ar _)] at e2;simp at e1 e2;subst e1 e2;exact q
theorem a6t{i:Nat}(r:HRep K ι H h)(e:ι[i]? = some a)(o:HO):Gr ι H ι (upd H a o):=by
 obtain ⟨_,_,q⟩:=r.at e;obtain ⟨u,hu,n1,n2⟩:=q.some;refine ⟨⟨[],by simp,by simp⟩,λb vs hb=>?_,λb o' u' hb=>?_,λb u' hb hn=>?_,λb u' hb=>?_⟩
 ·rw [jo (λz=>by subst z;rw [hu] at hb;exact n1 _ (bv hb))];exact hb
 ·rw [jo (λz=>by subst z;rw [hu] at hb;exact n2 _ _ (bv hb))];exact hb
 ·rw [jo (λz=>hn (by subst z;exact aT e))];exact hb
 ·by_cases z:b=a
  ·subst z;exact ⟨o,mz⟩
  ·exact ⟨u',by rw [jo z];exact hb⟩
theorem HRep.put(r:HRep K ι H h){i:Nat}(e:ι[i]? = some a)(q:ORep K ι (upd H a o) a ob):HRep K ι (upd H a o) (h.set i ob):=by
 refine ⟨r.nd,by rw [cZ];exact r.len,λj b o' e1 e2=>?_⟩
 by_cases hj:i=j
 ·subst hj;rw [e] at e1;cases e1
  have hi:i<h.length:=by rw [<-r.len];exact (ah.mp e).1
  rw [bC hi] at e2;cases e2
  exact q
 ·rw [cK hj] at e2;have hne:b≠a:=λz=>by
   subst z;obtain ⟨h1,g1⟩:=ah.mp e;obtain ⟨h2,g2⟩:=ah.mp e1;have np:=bZ.mp r.nd
   rcases fM hj with l | l
   ·exact np i j h1 h2 l (g1.trans g2.symm)
   ·exact np j i h2 h1 l (g2.trans g1.symm)
  exact (r.obj j b o' e1 e2).mono (a6t r e o) (jo hne)
end
structure SRep (K:PySem.W.Frag) (ι:List Addr) (H:Hp) (σ:St) (τ:Sd):Prop where
 len:σ.length=τ.length
 val:∀ (i:Nat) (d:D),τ[i]? = some (some d)->∃ v,σ[i]? = some (some v)/\Rep K ι H v d
theorem SRep.mono(g:Gr ι H ι' H')(s:SRep K ι H σ τ):SRep K ι' H' σ τ :=
 ⟨s.len,λi d e=>let ⟨v,h1,h2⟩:=s.val i d e; ⟨v,h1,h2.mono g⟩⟩
theorem SRep.set(s:SRep K ι H σ τ)(r:Rep K ι H v d)(i:Nat):SRep K ι H (σ.set i (some v)) (τ.set i (some d)):=by
 refine ⟨by simp [s.len],λj d' e=>?_⟩
 by_cases hj:i=j
 ·subst hj;have hi:i<τ.length:=by
   have:=(ah.mp e).1
   simpa using this
  rw [bC hi] at e;cases e
  exact ⟨v,by rw [bC (by rw [s.len];exact hi)],r⟩
 ·rw [cK hj] at e ⊢;exact s.val j d' e
abbrev XD:=Str->List Addr->Hp->Hd->Prop
def out{α β:Type}(K:PySem.W.Frag)(E:XD)(Rp:List Addr->Hp->β->α->Prop)(ι:List Addr)(H:Hp)(r:R α)(Q:β->Hp->Prop):Prop :=
 match r with
 | .ok a h=>∀ ι' H' b,Gr ι H ι' H'->Rp ι' H' b a->HRep K ι' H' h->Q b H'
 | .ex c h=>∀ ι' H',Gr ι H ι' H'->HRep K ι' H' h->E c ι' H' h
 | .no=>False
theorem vg{α β:Type}{K:PySem.W.Frag}{E:XD}{Rp:List Addr->Hp->β->α->Prop}{ι ι1:List Addr}{H H1:Hp}{r:R α}{Q:β->Hp->Prop}(o:out K E Rp ι H r Q)(g:Gr ι H ι1 H1):out K E Rp ι1 H1 r Q:=by
 cases r with
 | ok a h=>exact λι' H' b g'=>o ι' H' b (g.trans g')
 | ex c h=>exact λι' H' g'=>o ι' H' (g.trans g')
 | no=>exact o
theorem ik{α β γ δ:Type}{K:PySem.W.Frag}{E:XD}{Rp:List Addr->Hp->β->α->Prop}{Sp:List Addr->Hp->δ->γ->Prop}{ι:List Addr}{H:Hp}{r:R α}{k:α->Hd->R γ}{Q:δ->Hp->Prop}{P:β->Hp->Prop}
  (o:out K E Sp ι H (r.bind k) Q) (hP:∀ a h ι1 H1 b,Gr ι H ι1 H1->Rp ι1 H1 b a->HRep K ι1 H1 h->out K E Sp ι1 H1 (k a h) Q->P b H1):out K E Rp ι H r P:=by
 cases r with
 | ok a h=>exact λι' H' b g r' hr=>hP a h ι' H' b g r' hr (vg o g)
 | ex c h=>exact o
 | no=>exact o
abbrev yh(K:PySem.W.Frag):List Addr->Hp->V->D->Prop:=λι H v d=>Rep K ι H v d
abbrev axq(K:PySem.W.Frag):List Addr->Hp->List V->List D->Prop:=λι H v d=>Reps K ι H v d
abbrev am4:List Addr->Hp->Bool->Bool->Prop:=λ_ _ a b=>a=b
abbrev axr:List Addr->Hp->Option Int->Option Int->Prop:=λ_ _ a b=>a=b
def ain(K:PySem.W.Frag)(E:XD)(ι:List Addr)(H:Hp)(r:Fl)(N:Ends):Prop :=
 match r with
 | .nx τ h=>∀ ι' H' σ,Gr ι H ι' H'->SRep K ι' H' σ τ->HRep K ι' H' h->N.nx σ H'
 | .bk τ h=>∀ ι' H' σ,Gr ι H ι' H'->SRep K ι' H' σ τ->HRep K ι' H' h->N.bk σ H'
 | .ct τ h=>∀ ι' H' σ,Gr ι H ι' H'->SRep K ι' H' σ τ->HRep K ι' H' h->N.ct σ H'
 | .rt d h=>∀ ι' H' v,Gr ι H ι' H'->Rep K ι' H' v d->HRep K ι' H' h->N.rt v H'
 | .ex c h=>∀ ι' H',Gr ι H ι' H'->HRep K ι' H' h->E c ι' H' h
 | .no=>False
theorem ue(o:ain K E ι H r N)(g:Gr ι H ι1 H1):ain K E ι1 H1 r N:=by
 cases r with
 | nx τ h=>exact λι' H' b g'=>o ι' H' b (g.trans g')
 | bk τ h=>exact λι' H' b g'=>o ι' H' b (g.trans g')
 | ct τ h=>exact λι' H' b g'=>o ι' H' b (g.trans g')
 | rt d h=>exact λι' H' b g'=>o ι' H' b (g.trans g')
 | ex c h=>exact λι' H' g'=>o ι' H' (g.trans g')
 | no=>exact o
theorem ux{α β:Type}{K:PySem.W.Frag}{E:XD}{Rp:List Addr->Hp->β->α->Prop}{ι:List Addr}{H:Hp}{r:R α}{k:α->Hd->Fl}{N:Ends}{P:β->Hp->Prop}
  (o:ain K E ι H (r.fl k) N) (hP:∀ a h ι1 H1 b,Gr ι H ι1 H1->Rp ι1 H1 b a->HRep K ι1 H1 h->ain K E ι1 H1 (k a h) N->P b H1):out K E Rp ι H r P:=by
 cases r with
 | ok a h=>exact λι' H' b g r' hr=>hP a h ι' H' b g r' hr (ue o g)
 | ex c h=>exact o
 | no=>exact o
def lift{α β:Type}(K:PySem.W.Frag)(E:XD)(Rp:List Addr->Hp->β->α->Prop)(f:Sd->Hd->R α):St->Hp->(β->Hp->Prop)->Prop:=λσ H Q =>
 ∃ ι τ h,SRep K ι H σ τ/\HRep K ι H h/\out K E Rp ι H (f τ h) Q
def a7l(K:PySem.W.Frag)(E:XD)(f:SS):TS:=λN σ H=>∃ ι τ h,SRep K ι H σ τ/\HRep K ι H h/\ain K E ι H (f τ h) N
abbrev ME(X:Cx)(E:XD)(e:Expr)(f:SE):Prop:=PE X e (lift X.K E (yh X.K) f)
abbrev MT(X:Cx)(E:XD)(e:Expr)(f:ST):Prop:=PT X e (lift X.K E am4 f)
abbrev MW(X:Cx)(E:XD)(e:Expr)(f:ST):Prop:=PW X e (lift X.K E am4 f)
abbrev MA(X:Cx)(E:XD)(es:List Expr)(f:SA):Prop:=PA X es (lift X.K E (axq X.K) f)
abbrev MS(X:Cx)(E:XD)(st:Stmt)(f:SS):Prop:=PS X st (a7l X.K E f)
abbrev MSs(X:Cx)(E:XD)(st:List Stmt)(f:SS):Prop:=PSs X st (a7l X.K E f)
theorem PE.weak(h:PE X e t)(i:∀ σ H Q,t' σ H Q->t σ H Q):PE X e t':=λpins s σ H Q I q=>h pins s σ H Q I (i _ _ _ q)
theorem PT.weak(h:PT X e t)(i:∀ σ H Q,t' σ H Q->t σ H Q):PT X e t':=λpins s σ H Q I q=>h pins s σ H Q I (i _ _ _ q)
theorem PW.weak(h:PW X e t)(i:∀ σ H Q,t' σ H Q->t σ H Q):PW X e t':=λwh pins s σ H Q I q=>h wh pins s σ H Q I (i _ _ _ q)
theorem PA.weak(h:PA X e t)(i:∀ σ H Q,t' σ H Q->t σ H Q):PA X e t':=λpos pins s σ H Q I q=>h pos pins s σ H Q I (i _ _ _ q)
theorem PS.weak(h:PS X e t)(i:∀ N σ H,t' N σ H->t N σ H):PS X e t':=λpins s σ H N I q=>h pins s σ H N I (i _ _ _ q)
theorem PSs.weak(h:PSs X e t)(i:∀ N σ H,t' N σ H->t N σ H):PSs X e t':=λpins s σ H N I q=>h pins s σ H N I (i _ _ _ q)
abbrev LINE:Nat:=16777216
theorem ll{n:Nat}(h:n<=LINE):n<=sizeLine:=ano h
def sV(i:Nat):SE:=λτ h=>match τ[i]? with | some (some d)=>.ok d h | _=>.no
def sC(d:D):SE:=λ_ h=>.ok d h
section
variable{X:Cx}{E:XD}{a b c e:Expr}{fa fb fc:SE}{pos:Pos}
theorem c7(i:Nat)(hN:X.N[i]? = some x:=by rfl)(hv:Vis X.env.scope x:=by first | exact Or.inl rfl | exact Or.inr (Or.inl rfl) | exact Or.inr (Or.inr rfl))(hd:(x == ("__debug__" : Str))=false:=by decide)
  (hcd:(x == ("__classdict__" : Str))=false:=by decide):ME X E (.Name x pos) (sV i):=by
 refine PE.weak (aq3 hN hv hd hcd) λσ H Q ⟨ι,τ,h,S,Rh,o⟩=>?_;unfold sV at o
 split at o
 ·rename_i d e;obtain ⟨v,h1,h2⟩:=S.val i d e;exact ⟨v,h1,o ι H v (.refl _ _) h2 Rh⟩
 ·exact o.elim
theorem auh(h:PE X e (tC v))(r:∀ ι H,Rep X.K ι H v d):ME X E e (sC d) :=
 PE.weak h λσ H Q ⟨ι,τ,h,S,Rh,o⟩=>o ι H v (.refl _ _) (r ι H) Rh
theorem au{i j pos}:ME X E (.Constant (.int i) j pos) (sC (.int i)):=auh aq4 λ_ _=>.int i
theorem avt{i j pos}:ME X E (.Constant (.bool i) j pos) (sC (.bl i)):=auh av3 λ_ _=>.bl i
theorem jx{i j pos}:ME X E (.Constant (.str i) j pos) (sC (.str i)):=auh aq5 λ_ _=>.str i
theorem ar8(hg:Gl X x)(hm:X.mg x=none)(hv:bootBuiltins x=some (.type n))(hn:x ≠ "__name__":=by decide)(hd:(x == ("__debug__" : Str))=false:=by decide):ME X E (.Name x pos) (sC (.ty n)) :=
 auh (an1 (v:=.ty n) hg hm hv rfl hn hd) λ_ _=>.ty n
def s2(g:D->D->Hd->R D)(fa fb:SE):SE:=λτ h=>(fa τ h).bind λx h1=>(fb τ h1).bind λy h2=>g x y h2
def s1(g:D->Hd->R D)(fa:SE):SE:=λτ h=>(fa τ h).bind g
def a2g(K:PySem.W.Frag)(g:D->D->Hd->R D)(r:R2):Prop:=∀ (E:XD) ι H h x y dx dy Q,Rep K ι H x dx->Rep K ι H y dy->HRep K ι H h->out K E (yh K) ι H (g dx dy h) Q->r x y H Q
def axs(K:PySem.W.Frag)(g:D->Hd->R D)(r:V->Hp->VK->Prop):Prop:=∀ (E:XD) ι H h x dx Q,Rep K ι H x dx->HRep K ι H h->out K E (yh K) ι H (g dx h) Q->r x H Q
def afn(K:PySem.W.Frag)(g:List D->Hd->R D)(r:List V->Hp->VK->Prop):Prop:=∀ (E:XD) ι H h xs ds Q,Reps K ι H xs ds->HRep K ι H h->out K E (yh K) ι H (g ds h) Q->r xs H Q
theorem aui(hs:a2g K g r)(q:lift K E (yh K) (s2 g fa fb) σ H Q):tOp r (lift K E (yh K) fa) (lift K E (yh K) fb) σ H Q:=by
 obtain ⟨ι,τ,h,S,Rh,o⟩:=q;refine ⟨ι,τ,h,S,Rh,ik o λd h1 ι1 H1 v g1 r1 hr1 o1=>?_⟩;refine ⟨ι1,τ,h1,S.mono g1,hr1,ik o1 λd2 h2 ι2 H2 u g2 r2 hr2 o2=>?_⟩;exact hs E ι2 H2 h2 v u d d2 Q (r1.mono g2) r2 hr2 o2
theorem aat(ho:OpR X (binaryOp op) r)(hs:a2g X.K g r)(ha:ME X E a fa)(hb:ME X E b fb):ME X E (.BinOp a op b pos) (s2 g fa fb) :=
 PE.weak (aqh ho ha hb) λσ H Q q=>aui hs q
theorem afo(ho:OpR X (compareOp op) r)(hs:a2g X.K g r)(ha:ME X E a fa)(hb:ME X E b fb)(hm:behindInMarks op b=false):ME X E (.Compare a [op] [b] pos) (s2 g fa fb) :=
 PE.weak (an9 ho ha hb hm) λσ H Q q=>aui hs q
theorem avu(ho:UnR X (unaryOp op) r)(hs:axs X.K g r)(ha:ME X E a fa):ME X E (.UnaryOp op a pos) (s1 g fa):=by
 refine PE.weak (avd ho ha) λσ H Q ⟨ι,τ,h,S,Rh,o⟩=>?_;exact ⟨ι,τ,h,S,Rh,ik o λd h1 ι1 H1 v g1 r1 hr1 o1=>hs E ι1 H1 h1 v d Q r1 hr1 o1⟩
theorem avv(ho:IxR X r)(hs:a2g X.K g r)(ha:ME X E a fa)(hb:ME X E b fb)(hp:aan b):ME X E (.Subscript a b pos) (s2 g fa fb) :=
 PE.weak (avm ho ha hb hp) λσ H Q q=>aui hs q
def asB(d:D)(h:Hd):R Bool:=match d with | .bl b=>.ok b h | _=>.no
def sT(f:SE):ST:=λτ h=>(f τ h).bind asB
theorem anq(hi:∀ σ H Q,lift K E (yh K) f σ H Q->t σ H Q)(q:lift K E am4 (sT f) σ H Q):aqn t σ H Q:=by
 refine hi σ H _ ?_;obtain ⟨ι,τ,h,S,Rh,o⟩:=q;refine ⟨ι,τ,h,S,Rh,ik o λd h1 ι1 H1 v g1 r1 hr1 o1=>?_⟩
 cases r1 with
 | bl b=>exact ⟨b,rfl,o1 ι1 H1 b (.refl _ _) rfl hr1⟩
 | _=>exact o1.elim
theorem gq(ho:OpR X (compareOp op) r)(hs:a2g X.K g r)(ha:ME X E a fa)(hb:ME X E b fb)(hm:behindInMarks op b=false):MT X E (.Compare a [op] [b] pos) (sT (s2 g fa fb)) :=
 PT.weak (ana ho ha hb hm) λσ H Q q=>anq (λ_ _ _=>aui hs) q
def sCh(g g':D->D->Hd->R D)(fa fb fc:SE):SE:=λτ h=>(fa τ h).bind λx h1=>(fb τ h1).bind λy h2=>(g x y h2).bind λz h3=>match z with
 | .bl true=>(fc τ h3).bind λw h4=>g' y w h4
 | .bl false=>.ok (.bl false) h3
 | _=>.no
def tru(d:D)(h:Hd):R Bool:=match d with
 | .non=>.ok false h
 | .bl b=>.ok b h
 | .int i=>.ok (i != 0) h
 | .str x=>if x.length<=LINE then .ok ((x.length:Int) != 0) h else .no
 | .tup xs=>.ok (!xs.isEmpty) h
 | .rol xs=>.ok (!xs.isEmpty) h
 | .ref i=>match h[i]? with
  | some (.lst xs)=>.ok (!xs.isEmpty) h
  | some (.dK kvs)=>.ok (!kvs.isEmpty) h
  | _=>.no
 | _=>.no
theorem Reps.emp{K:PySem.W.Frag}{ι:List Addr}{H:Hp}{vs:List V}{ds:List D}(r:Reps K ι H vs ds):vs.isEmpty=ds.isEmpty:=by cases r<;>rfl
theorem KRep.emp{κ:Type}{K:PySem.W.Frag}{ι:List Addr}{H:Hp}{us:List (κ × V)}{kvs:List (κ × D)}(r:KRep K ι H us kvs):us.isEmpty=kvs.isEmpty:=by
 have:=af List.length r.1
 cases us<;>cases kvs<;>simp at this ⊢
theorem anr{K:PySem.W.Frag}{ι:List Addr}{H:Hp}{h:Hd}{x:V}{d:D}{Q:Bool->Hp->Prop}(r:Rep K ι H x d)(hr:HRep K ι H h)(o:out K E am4 ι H (tru d h) Q):∃ k,avh K x H k/\Q k H:=by
 cases r with
 | non=>exact ⟨false,rfl,o ι H _ (.refl _ _) rfl hr⟩
 | bl b=>exact ⟨b,rfl,o ι H _ (.refl _ _) rfl hr⟩
 | int i=>exact ⟨_,rfl,o ι H _ (.refl _ _) rfl hr⟩
 | str x =>
  by_cases hl:x.length<=LINE
  ·simp only [tru,aA hl] at o;exact ⟨_,⟨ll hl,rfl⟩,o ι H _ (.refl _ _) rfl hr⟩
  ·simp only [tru,aL hl] at o;exact o.elim
 | ty n=>exact o.elim
 | rod _ _ _=>exact o.elim
 | scr _ _=>exact o.elim
 | rdT _ _ _=>exact o.elim
 | exc _ _ _=>exact o.elim
 | tup e rs=>exact ⟨_, .inr (.inl ⟨_,SqT.of e,rfl⟩),by rw [rs.emp];exact o ι H _ (.refl _ _) rfl hr⟩
 | rol e rs=>exact ⟨_, .inl ⟨_,e.l,rfl⟩,by rw [rs.emp];exact o ι H _ (.refl _ _) rfl hr⟩
 | @ref a i e =>
  obtain ⟨ob,h1,h2⟩:=hr.at e;simp only [tru,h1] at o
  cases ob with
  | lst xs =>
   obtain ⟨vs,h3,h4⟩:=h2;exact ⟨_, .inl ⟨_,SqL.of h3,rfl⟩,by rw [h4.emp];exact o ι H _ (.refl _ _) rfl hr⟩
  | dK kvs =>
   obtain ⟨us,h3,h4⟩:=h2;exact ⟨_, .inr (.inr ⟨_,h3,rfl⟩),by rw [h4.emp];exact o ι H _ (.refl _ _) rfl hr⟩
  | dT kvs=>exact o.elim
def afp(f:SE):ST:=λτ h=>(f τ h).bind tru
theorem afq(ha:ME X E a fa)(he:∀ whole,isTrue a X.env whole=(do let v <-whole;standAt a.pos;holding [v] (truthy v)):=by intro _;rfl):MT X E a (afp fa):=by
 refine PT.weak (aj4 ha he) λσ H Q ⟨ι,τ,h,S,Rh,o⟩=>?_;exact ⟨ι,τ,h,S,Rh,ik o λd h1 ι1 H1 v g1 r1 hr1 o1=>anr r1 hr1 o1⟩
def a6u(f g:ST):ST:=λτ h=>(f τ h).bind λb h1=>if b=true then g τ h1 else .ok false h1
def sOr(f g:ST):ST:=λτ h=>(f τ h).bind λb h1=>if b=true then .ok true h1 else g τ h1
def aio(f:ST):ST:=λτ h=>(f τ h).bind λb h1=>.ok (!b) h1
variable{ga gb:ST}
theorem a7m(ha:MT X E a ga):MW X E (.BoolOp .And [a] pos) ga:=an2 ha
theorem a9f(ha:MT X E a ga):MW X E (.BoolOp .Or [a] pos) ga:=aq6 ha
theorem abx{rest:List Expr}(ha:MT X E a ga)(hb:MW X E (.BoolOp .And (b::rest) pos) gb):MW X E (.BoolOp .And (a::b::rest) pos) (a6u ga gb):=by
 refine PW.weak (aq7 ha hb) λσ H Q ⟨ι,τ,h,S,Rh,o⟩=>?_;refine ⟨ι,τ,h,S,Rh,ik o λd h1 ι1 H1 v g1 r1 hr1 o1=>?_⟩;cases r1
 cases d with
 | true=>exact ⟨ι1,τ,h1,S.mono g1,hr1,o1⟩
 | false=>exact o1 ι1 H1 false (.refl _ _) rfl hr1
theorem aau{rest:List Expr}(ha:MT X E a ga)(hb:MW X E (.BoolOp .Or (b::rest) pos) gb):MW X E (.BoolOp .Or (a::b::rest) pos) (sOr ga gb):=by
 refine PW.weak (av4 ha hb) λσ H Q ⟨ι,τ,h,S,Rh,o⟩=>?_;refine ⟨ι,τ,h,S,Rh,ik o λd h1 ι1 H1 v g1 r1 hr1 o1=>?_⟩;cases r1
 cases d with
 | true=>exact o1 ι1 H1 true (.refl _ _) rfl hr1
 | false=>exact ⟨ι1,τ,h1,S.mono g1,hr1,o1⟩
theorem ar9(ha:MT X E a ga):MT X E (.UnaryOp .Not a pos) (aio ga):=by
 refine PT.weak (aq8 ha) λσ H Q ⟨ι,τ,h,S,Rh,o⟩=>?_;refine ⟨ι,τ,h,S,Rh,ik o λd h1 ι1 H1 v g1 r1 hr1 o1=>?_⟩;cases r1
 exact o1 ι1 H1 _ (.refl _ _) rfl hr1
def aje(f g:SE):SE:=λτ h=>(f τ h).bind λd h1=>match d with | .bl true=>g τ h1 | .bl false=>.ok (.bl false) h1 | _=>.no
def auj(f g:SE):SE:=λτ h=>(f τ h).bind λd h1=>match d with | .bl true=>.ok (.bl true) h1 | .bl false=>g τ h1 | _=>.no
def ajf(f:SE):SE:=λτ h=>(f τ h).bind λd h1=>match d with | .bl b=>.ok (.bl (!b)) h1 | _=>.no
def afr(c:ST)(f g:SE):SE:=λτ h=>(c τ h).bind λb h1=>if b=true then f τ h1 else g τ h1
theorem am5(hc:MT X E c ga)(ha:ME X E a fa)(hb:ME X E b fb):ME X E (.IfExp c a b pos) (afr ga fa fb):=by
 refine PE.weak (aiw hc ha hb) λσ H Q ⟨ι,τ,h,S,Rh,o⟩=>?_;refine ⟨ι,τ,h,S,Rh,ik o λd h1 ι1 H1 v g1 r1 hr1 o1=>?_⟩;cases r1
 cases d with
 | true=>exact ⟨ι1,τ,h1,S.mono g1,hr1,o1⟩
 | false=>exact ⟨ι1,τ,h1,S.mono g1,hr1,o1⟩
def dq:SA:=λ_ h=>.ok [] h
def aj(f:SE)(g:SA):SA:=λτ h=>(f τ h).bind λd h1=>(g τ h1).bind λds h2=>.ok (d::ds) h2
variable{es:List Expr}{ka:SA}
theorem bh:MA X E [] dq:=PA.weak a2i λσ H Q ⟨ι,τ,h,S,Rh,o⟩=>o ι H [] (.refl _ _) .nil Rh
theorem aa(ha:ME X E e fa)(hr:MA X E es ka)(hs:starEach (e::es) X.env=(false,eval e X.env)::starEach es X.env:=by rfl):MA X E (e::es) (aj fa ka):=by
 refine PA.weak (a05 ha hr hs) λσ H Q ⟨ι,τ,h,S,Rh,o⟩=>?_;refine ⟨ι,τ,h,S,Rh,ik o λd h1 ι1 H1 v g1 r1 hr1 o1=>?_⟩;refine ⟨ι1,τ,h1,S.mono g1,hr1,ik o1 λd2 h2 ι2 H2 u g2 r2 hr2 o2=>?_⟩;exact o2 ι2 H2 _ (.refl _ _) (.cons (r1.mono g2) r2) hr2
def wk(ds:List D)(h:Hd):R D:=if ds.length<=LINE then .ok (.tup ds) h else .no
def vy(ds:List D)(h:Hd):R D:=if ds.length<=LINE then .ok (.ref h.length) (h++[.lst ds]) else .no
def sA(g:List D->Hd->R D)(k:SA):SE:=λτ h=>(k τ h).bind g
theorem a06(r:Reps K ι H vs ds)(hr:HRep K ι H h)(o:out K E (yh K) ι H (.ok (.tup ds) h) Q):∀ p,H p=none->Q (.ref p) (upd H p (.tup vs)):=λp hp =>
 o ι _ _ (yg hp _) (.tup mz (r.mono (yg hp _))) (hr.aside hp _)
theorem uf(r:Reps K ι H vs ds)(hr:HRep K ι H h)(o:out K E (yh K) ι H (.ok (.ref h.length) (h++[.lst ds])) Q):∀ p,H p=none->Q (.ref p) (upd H p (.lst vs)):=λp hp =>
 o (ι++[p]) _ _ (afm hp _) (.ref (by rw [aB (by rw [hr.len];exact ar _),hr.len];simp)) (hr.add hp ⟨_,mz,r.mono (afm hp _)⟩)
theorem a7n{K:PySem.W.Frag}{ι:List Addr}{H:Hp}{h:Hd}{i:Nat}{a:Addr}{vs:List V}{ds:List D}{d:D}{v:V}{Q:VK}(r:Reps K ι H vs ds)(hr:HRep K ι H h)(hi:ι[i]? = some a)(rd:Rep K ι H v d)(o:out K E (yh K) ι H (.ok d (h.set i (.lst ds))) Q):Q v (upd H a (.lst vs)) :=
 o ι _ _ (a6t hr hi _) (rd.mono (a6t hr hi _)) (hr.put hi ⟨_,mz,r.mono (a6t hr hi _)⟩)
theorem tu{x1}(h:MA X E es ka):ME X E (.Tuple es x1 pos) (sA wk ka):=by
 refine PE.weak (aqp h) λσ H Q ⟨ι,τ,h,S,Rh,o⟩=>?_;refine ⟨ι,τ,h,S,Rh,ik o λd h1 ι1 H1 v g1 r1 hr1 o1=>?_⟩;unfold wk at o1
 split at o1
 ·rename_i hl;exact ⟨ll (by rw [r1.len];exact hl),a06 r1 hr1 o1⟩
 ·exact o1.elim
theorem pq(h:MA X E es ka):ME X E (.List es pos) (sA vy ka):=by
 refine PE.weak (aqq h) λσ H Q ⟨ι,τ,h,S,Rh,o⟩=>?_;refine ⟨ι,τ,h,S,Rh,ik o λd h1 ι1 H1 v g1 r1 hr1 o1=>?_⟩;unfold vy at o1
 split at o1
 ·rename_i hl;exact ⟨ll (by rw [r1.len];exact hl),uf r1 hr1 o1⟩
 ·exact o1.elim
theorem qw{x:Str}{p:Pos}{id:String}{r:List V->Hp->VK->Prop}{g:List D->Hd->R D}(hc:CallR X (.builtin id) r)(hs:afn X.K g r)(hg:Gl X x)(hm:X.mg x=none)(hv:bootBuiltins x=some (.builtin id))(ha:MA X E (e::es) ka)(hn:x ≠ "__name__":=by decide)(hdb:(x == ("__debug__" : Str))=false:=by decide)
  (he:starEach (e::es) X.env=(false,eval e X.env)::starEach es X.env:=by rfl) (hpl:(backTo pos (starEach es X.env)).any (·.1)=false:=by rfl):ME X E (.Call (.Name x p) (e::es) [] pos) (sA g ka):=by
 refine PE.weak (a4m hc hg hm hv ha hn hdb he hpl) λσ H Q ⟨ι,τ,h,S,Rh,o⟩=>?_;exact ⟨ι,τ,h,S,Rh,ik o λd h1 ι1 H1 v g1 r1 hr1 o1=>hs E ι1 H1 h1 v d Q r1 hr1 o1⟩
theorem a5h{x:Str}{p:Pos}{id:String}{r:List V->Hp->VK->Prop}{g:List D->Hd->R D}(hc:CallR X (.type id) r)(hs:afn X.K g r)(hg:Gl X x)(hm:X.mg x=none)(hv:bootBuiltins x=some (.type id))(ha:MA X E (e::es) ka)(hn:x ≠ "__name__":=by decide)(hdb:(x == ("__debug__" : Str))=false:=by decide)
  (he:starEach (e::es) X.env=(false,eval e X.env)::starEach es X.env:=by rfl) (hpl:(backTo pos (starEach es X.env)).any (·.1)=false:=by rfl):ME X E (.Call (.Name x p) (e::es) [] pos) (sA g ka):=by
 refine PE.weak (a0n hc hg hm hv ha hn hdb he hpl) λσ H Q ⟨ι,τ,h,S,Rh,o⟩=>?_;exact ⟨ι,τ,h,S,Rh,ik o λd h1 ι1 H1 v g1 r1 hr1 o1=>hs E ι1 H1 h1 v d Q r1 hr1 o1⟩
end
def jd(f g:SS):SS:=λτ h=>match f τ h with | .nx τ1 h1=>g τ1 h1 | r=>r
def sNx:SS:=λτ h=>.nx τ h
def qg(f:SE):SS:=λτ h=>(f τ h).fl λd h1=>.rt d h1
def a4j(f:SE):SS:=λτ h=>(f τ h).fl λ_ h1=>.nx τ h1
def sIf(c:ST)(f g:SS):SS:=λτ h=>(c τ h).fl λb h1=>if b=true then f τ h1 else g τ h1
def km(i:Nat)(f:SE):SS:=λτ h=>(f τ h).fl λd h1=>.nx (τ.set i (some d)) h1
def aai(i:Nat)(g:D->D->Hd->R D)(f:SE):SS:=λτ h=>match τ[i]? with
 | some (some x)=>(f τ h).fl λy h1=>(g x y h1).fl λz h2=>.nx (τ.set i (some z)) h2
 | _=>.no
section
variable{X:Cx}{E:XD}{e o:Expr}{es:List Expr}{fa fb fc:SE}{ga:ST}{st:Stmt}{sts a b:List Stmt}{f g:SS}{pos:Pos}
theorem jg:MSs X E [] sNx:=PSs.weak an3 λN σ H ⟨ι,τ,h,S,Rh,o⟩=>o ι H σ (.refl _ _) S Rh
theorem ara(q:a7l K E (jd f g) N σ H):a7l K E f { N with nx:=a7l K E g N } σ H:=by
 obtain ⟨ι,τ,h,S,Rh,o⟩:=q;refine ⟨ι,τ,h,S,Rh,?_⟩;unfold jd at o
 cases hf:f τ h with
 | nx τ1 h1 =>
  rw [hf] at o;exact λι1 H1 σ1 g1 S1 R1=>⟨ι1,τ1,h1,S1,R1,ue o g1⟩
 | _=>rw [hf] at o;exact o
theorem aq(h1:MS X E st f)(h2:MSs X E sts g):MSs X E (st::sts) (jd f g):=PSs.weak (aix h1 h2) λN σ H q=>ara q
theorem dh(h1:MS X E st f):MSs X E [st] f:=an4 h1
theorem jf(he:ME X E e fa):MS X E (.Return (some e) pos) (qg fa):=by
 refine PS.weak (aq9 he) λN σ H ⟨ι,τ,h,S,Rh,o⟩=>?_;exact ⟨ι,τ,h,S,Rh,ux o λd h1 ι1 H1 v g1 r1 hr1 o1=>o1 ι1 H1 v (.refl _ _) r1 hr1⟩
theorem a5i(he:ME X E e fa)(hs:swapsWith e none pos.line X.env=pure false:=by rfl):MS X E (.Expr e pos) (a4j fa):=by
 refine PS.weak (an5 he hs) λN σ H ⟨ι,τ,h,S,Rh,o⟩=>?_;exact ⟨ι,τ,h,S,Rh,ux o λd h1 ι1 H1 v g1 r1 hr1 o1=>o1 ι1 H1 σ (.refl _ _) (S.mono g1) hr1⟩
theorem o9(hc:MT X E c ga)(ha:MSs X E a f)(hb:MSs X E b g):MS X E (.If c a b pos) (sIf ga f g):=by
 refine PS.weak (av7 hc ha hb) λN σ H ⟨ι,τ,h,S,Rh,o⟩=>?_;refine ⟨ι,τ,h,S,Rh,ux o λd h1 ι1 H1 v g1 r1 hr1 o1=>?_⟩;cases r1
 cases d with
 | true=>exact ⟨ι1,τ,h1,S.mono g1,hr1,o1⟩
 | false=>exact ⟨ι1,τ,h1,S.mono g1,hr1,o1⟩
theorem gh(hN:X.N.Nodup)(hi:X.N[i]? = some x)(hx:Loc X.env.scope x)(he:ME X E e fa)(hs:swapsWith e (some (.Name x pos')) pos.line X.env=pure false:=by rfl)(hf:X.fn x=true\/X.env.scope.names.lookup x=some .local:=by first | exact .inl rfl | exact .inr rfl | assumption) :
  MS X E (.Assign [.Name x pos'] e pos) (km i fa):=by
 refine PS.weak (aqc hN hi hx he hs hf) λN σ H ⟨ι,τ,h,S,Rh,o⟩=>?_;exact ⟨ι,τ,h,S,Rh,ux o λd h1 ι1 H1 v g1 r1 hr1 o1=>o1 ι1 H1 _ (.refl _ _) ((S.mono g1).set r1 i) hr1⟩
theorem a4c(hN:X.N.Nodup)(hi:X.N[i]? = some x)(hx:Loc X.env.scope x)(ho:OpR X (inplaceOp op) r)(hs:a2g X.K gg r)(he:ME X E e fa)(hf:X.fn x=true\/X.env.scope.names.lookup x=some .local:=by first | exact .inl rfl | exact .inr rfl | assumption) :
  MS X E (.AugAssign (.Name x pos') op e pos) (aai i gg fa):=by
 refine PS.weak (aqd hN hi hx he ho hf) λN σ H ⟨ι,τ,h,S,Rh,o⟩=>?_;unfold aai at o
 split at o
 ·rename_i d ed;obtain ⟨v,h1,h2⟩:=S.val i d ed;refine ⟨v,h1,ι,τ,h,S,Rh,ux o λd2 h3 ι1 H1 u g1 r1 hr1 o1=>?_⟩;refine hs E ι1 H1 h3 v u d d2 _ (h2.mono g1) r1 hr1 (ux o1 λd3 h4 ι2 H2 z g2 r2 hr2 o2=>?_);exact o2 ι2 H2 _ (.refl _ _) (((S.mono g1).mono g2).set r2 i) hr2
 ·exact o.elim
def put(o k v:D)(h:Hd):Option Hd:=match o,k with
 | .ref i, .int j=>match h[i]? with
  | some (.lst xs)=>match ixN xs.length j with
   | some m=>some (h.set i (.lst (xs.set m v)))
   | none=>none
  | _=>none
 | _,_=>none
theorem afs{K:PySem.W.Frag}{ι:List Addr}{H:Hp}{h h':Hd}{o k v:V}{od kd vd:D}{Q:Hp->Prop}(r1:Rep K ι H o od)(r2:Rep K ι H k kd)(r3:Rep K ι H v vd)(hr:HRep K ι H h)(e:put od kd vd h=some h')
  (q:∀ H',Gr ι H ι H'->HRep K ι H' h'->Q H'):aqw o k v H Q:=by
 cases r1 with
 | @ref a i ha =>
  cases r2 with
  | int j =>
   obtain ⟨ob,h1,h2⟩:=hr.at ha
   cases ob with
   | lst xs =>
    obtain ⟨vs,h3,h4⟩:=h2;simp only [put,h1] at e
    cases hm:ixN xs.length j with
    | none=>rw [hm] at e;cases e
    | some m =>
     rw [hm] at e;cases e
     exact ⟨a,vs,j,m,rfl,rfl,h3,by rw [h4.len];exact hm,q _ (a6t hr ha _) (hr.put ha ⟨_,mz,(h4.set r3 m).mono (a6t hr ha _)⟩)⟩
   | dK _=>simp only [put,h1] at e;cases e
   | dT _=>simp only [put,h1] at e;cases e
  | _=>cases e
 | _=>cases e
def ae0(fe fo fi:SE):SS:=λτ h=>(fe τ h).fl λv h1=>(fo τ h1).fl λo h2=>(fi τ h2).fl λk h3=>match put o k v h3 with | some h4=>.nx τ h4 | none=>.no
theorem am6(he:ME X E e fa)(ho:ME X E o fb)(hi:ME X E i fc)
  (hs:swapsWithSole [.Subscript o i pos'] e pos.line X.env=pure false:=by rfl) (hw:swappedStores [.Subscript o i pos'] e X.env=pure none:=by rfl)
  (h1:(assignEach [.Subscript o i pos'] X.env).map (·.2)=[assign (.Subscript o i pos') X.env]:=by rfl)
  (ha:∀ v,assign (.Subscript o i pos') X.env v=(do
   let ov <-holding [v] (eval o X.env)
   let iv <-holding [v,ov] (eval i X.env)
   standAt pos'
   holding [v,ov,iv] (setItem ov iv v)
   release [v,ov,iv] []):=by intro _;rfl):MS X E (.Assign [.Subscript o i pos'] e pos) (ae0 fa fb fc):=by
 refine PS.weak (alw he (aqb ho hi set_list ha) hs hw h1) λN σ H ⟨ι,τ,h,S,Rh,oo⟩=>?_;refine ⟨ι,τ,h,S,Rh,ux oo λd h1 ι1 H1 v g1 r1 hr1 o1=>?_⟩;refine ⟨ι1,τ,h1,S.mono g1,hr1,ux o1 λd2 h2 ι2 H2 u g2 r2 hr2 o2=>?_⟩;refine ⟨ι2,τ,h2,(S.mono g1).mono g2,hr2,ux o2 λd3 h3 ι3 H3 w g3 r3 hr3 o3=>?_⟩
 cases hp:put d2 d3 d h3 with
 | none=>rw [hp] at o3;exact o3.elim
 | some h4 =>
  rw [hp] at o3;exact afs (r2.mono g3) r3 ((r1.mono g2).mono g3) hr3 hp λH' g4 hr4=>o3 ι3 H' σ g4 ((((S.mono g1).mono g2).mono g3).mono g4) hr4
def sWh(c:ST)(f:SS):Nat->SS
 | 0,_,_=>.no
 | n+1,τ,h=>(c τ h).fl λb h1=>if b=true then (match f τ h1 with | .nx τ2 h2=>sWh c f n τ2 h2 | .ct τ2 h2=>sWh c f n τ2 h2 | .bk τ2 h2=>.nx τ2 h2 | r=>r) else .nx τ h1
theorem a7o(n:Nat)(hp:PassesOwn (model X.prog X.w) X.A X.env X.xe)(hc:MT X E c ga)(hb:MSs X E a f):MS X E (.While c a [] pos) (sWh ga f n):=by
 refine PS.weak (aiz hp hc hb) λN σ H q=>?_;refine ⟨λm σ H=>a7l X.K E (sWh ga f m) N σ H,⟨n,q⟩,?_⟩
 rintro m σ1 H1 ⟨ι,τ,h,S,Rh,o⟩
 cases m with
 | zero=>exact o.elim
 | succ m =>
  refine ⟨ι,τ,h,S,Rh,ux o λd h1 ι1 H1 v g1 r1 hr1 o1=>?_⟩;cases r1
  cases d with
  | false=>exact o1 ι1 H1 _ (.refl _ _) (S.mono g1) hr1
  | true =>
   refine ⟨λσ' H'=>a7l X.K E (sWh ga f m) N σ' H',λσ' H' q=>⟨m,eY m,q⟩,ι1,τ,h1,S.mono g1,hr1,?_⟩;rw [aA rfl] at o1
   cases hf:f τ h1 with
   | nx τ2 h2=>rw [hf] at o1;exact λι2 H2 σ2 g2 S2 R2=>⟨ι2,τ2,h2,S2,R2,ue o1 g2⟩
   | ct τ2 h2=>rw [hf] at o1;exact λι2 H2 σ2 g2 S2 R2=>⟨ι2,τ2,h2,S2,R2,ue o1 g2⟩
   | bk τ2 h2=>rw [hf] at o1;exact o1
   | rt d h2=>rw [hf] at o1;exact o1
   | ex c h2=>rw [hf] at o1;exact o1
   | no=>rw [hf] at o1;exact o1.elim
end
abbrev SG:=D->Sd->Hd->Fl
def ant(K:PySem.W.Frag)(E:XD)(g:SG):TG:=λv σ H Q=>∃ ι τ h d,Rep K ι H v d/\SRep K ι H σ τ/\HRep K ι H h/\ain K E ι H (g d τ h) { nx:=Q,rt:=λ_ _=>False }
abbrev MG(X:Cx)(E:XD)(tg:Expr)(g:SG):Prop:=PG X tg (ant X.K E g)
abbrev SGs:=List D->Sd->Hd->Fl
def aft(K:PySem.W.Frag)(E:XD)(g:SGs):TGs:=λvs σ H Q=>∃ ι τ h ds,Reps K ι H vs ds/\SRep K ι H σ τ/\HRep K ι H h/\ain K E ι H (g ds τ h) { nx:=Q,rt:=λ_ _=>False }
abbrev MGs(X:Cx)(E:XD)(tg:List Expr)(g:SGs):Prop:=PGs X tg (aft X.K E g)
theorem PG.weak(h:PG X e t)(i:∀ v σ H Q,t' v σ H Q->t v σ H Q):PG X e t':=λpins s σ H v u Q I r q=>h pins s σ H v u Q I r (i _ _ _ _ q)
theorem PGs.weak(h:PGs X e t)(i:∀ v σ H Q,t' v σ H Q->t v σ H Q):PGs X e t':=λpins s σ H v u Q I r q=>h pins s σ H v u Q I r (i _ _ _ _ q)
def kN(i:Nat):SG:=λd τ h=>.nx (τ.set i (some d)) h
def aaj:SGs:=λds τ h=>match ds with | []=>.nx τ h | _=>.no
def ug(g:SG)(k:SGs):SGs:=λds τ h=>match ds with | d::r=>(match g d τ h with | .nx τ1 h1=>k r τ1 h1 | _=>.no) | []=>.no
def a9g(n:Nat)(k:SGs):SG:=λd τ h=>match d with | .tup ds=>if ds.length=n then k ds τ h else .no | _=>.no
section
variable{X:Cx}{E:XD}{e:Expr}{es:List Expr}{fa:SE}{pos:Pos}{g:SG}{ks:SGs}
theorem p7(hN:X.N.Nodup)(hi:X.N[i]? = some x)(hx:Loc X.env.scope x)(hf:X.fn x=true\/X.env.scope.names.lookup x=some .local:=by first | exact .inl rfl | exact .inr rfl | assumption):MG X E (.Name x pos) (kN i) :=
 PG.weak (kh hN hi hx hf) λv σ H Q ⟨ι,τ,h,d,r,S,Rh,o⟩=>o ι H _ (.refl _ _) (S.set r i) Rh
theorem a7p:MGs X E [] aaj:=by
 refine PGs.weak af0 λvs σ H Q ⟨ι,τ,h,ds,r,S,Rh,o⟩=>?_
 cases r with
 | nil=>exact ⟨rfl,o ι H σ (.refl _ _) S Rh⟩
 | cons _ _=>exact o.elim
theorem ajg(q:aft K E (ug g ks) vs σ H Q):aiy (ant K E g) (aft K E ks) vs σ H Q:=by
 obtain ⟨ι,τ,h,ds,r,S,Rh,o⟩:=q
 cases r with
 | nil=>exact o.elim
 | @cons v d vs ds r rs =>
  refine ⟨v,vs,rfl,ι,τ,h,d,r,S,Rh,?_⟩;simp only [ug] at o
  cases hg:g d τ h with
  | nx τ1 h1 =>
   rw [hg] at o;exact λι1 H1 σ1 g1 S1 R1=>⟨ι1,τ1,h1,ds,rs.mono g1,S1,R1,ue o g1⟩
  | _=>rw [hg] at o;exact o.elim
theorem aby(hc:X.calm=true)(h:MGs X E es ks)(hn:(assignEach es X.env).length=n:=by rfl)(hst:(assignEach es X.env).findIdx? (·.1)=none:=by rfl):MG X E (.Tuple es k pos) (a9g n ks):=by
 refine PG.weak (alv hc h hn hst) λv σ H Q ⟨ι,τ,h,d,r,S,Rh,o⟩=>?_
 cases r with
 | @tup a vs xs e rs =>
  simp only [a9g] at o
  by_cases hl:xs.length=n
  ·rw [aA hl] at o;exact ⟨a,vs,rfl,SqT.of e,by rw [rs.len];exact hl,ι,τ,h,xs,rs,S,Rh,o⟩
  ·rw [aL hl] at o;exact o.elim
 | _=>exact o.elim
def ajh(f:SE)(g:SG):SS:=λτ h=>(f τ h).fl λd h1=>match g d τ h1 with | .nx τ2 h2=>.nx τ2 h2 | _=>.no
theorem am7(he:ME X E e fa)(hg:MG X E tg g)(hs:swapsWithSole [tg] e pos.line X.env=pure false:=by rfl)(hw:swappedStores [tg] e X.env=pure none:=by rfl)
  (h1:(assignEach [tg] X.env).map (·.2)=[assign tg X.env]:=by rfl):MS X E (.Assign [tg] e pos) (ajh fa g):=by
 refine PS.weak (alw he hg hs hw h1) λN σ H ⟨ι,τ,h,S,Rh,o⟩=>?_;refine ⟨ι,τ,h,S,Rh,ux o λd h1 ι1 H1 v g1 r1 hr1 o1=>⟨ι1,τ,h1,d,r1,S.mono g1,hr1,?_⟩⟩
 cases hg:g d τ h1 with
 | nx τ1 h1=>rw [hg] at o1;exact o1
 | _=>rw [hg] at o1;exact o1.elim
end
structure Itm where
 xs:List D
 ck:Hd->Prop
def am8(K:PySem.W.Frag)(ι0:List Addr)(H0:Hp)(J:It)(it:Itm):Prop:=∀ ι H h,Gr ι0 H0 ι H->HRep K ι H h->it.ck h->
 (∀ (i:Nat) (d:D),it.xs[i]? = some d->J.go i H/\∀ x H',J.yld i H x H'->Gr ι H ι H'/\Rep K ι H' x d/\HRep K ι H' h)/\J.stop it.xs.length H
abbrev arb(K:PySem.W.Frag):List Addr->Hp->It->Itm->Prop:=λι H J it=>am8 K ι H J it
abbrev SI:=Sd->Hd->R Itm
abbrev MI(X:Cx)(E:XD)(tg iter:Expr)(f:SI):Prop:=PI X tg iter (lift X.K E (arb X.K) f)
def a0o(x:Str):List D:=x.cps.toList.map λc=>D.str ⟨#[c]⟩
def anu(d:D)(h:Hd):R Itm:=match d with
 | .tup xs=>.ok ⟨xs,λ_=>True⟩ h
 | .rol xs=>.ok ⟨xs,λ_=>True⟩ h
 | .str x=>.ok ⟨a0o x,λ_=>True⟩ h
 | .ref i=>match h[i]? with
  | some (.lst xs)=>.ok ⟨xs,λh=>h[i]? = some (.lst xs)⟩ h
  | _=>.no
 | _=>.no
def sIt(f:SE):SI:=λτ h=>(f τ h).bind anu
theorem am9(hl:∀ ι H h,Gr ι0 H0 ι H->HRep K ι H h->ck h->∃ vs,SqL K H a vs/\Reps K ι H vs xs):am8 K ι0 H0 (Itl K a) ⟨xs,ck⟩:=by
 intro ι H h g hr c
 obtain ⟨vs,h1,h2⟩:=hl ι H h g hr c;refine ⟨λi d e=>?_,⟨vs,h1,by rw [h2.len];exact ar _⟩⟩
 obtain ⟨v,e1,r⟩:=h2.get e;refine ⟨⟨vs,v,h1,e1⟩,λx H' y=>?_⟩;obtain ⟨rfl,y⟩:=y;have:=y vs h1;rw [e1] at this;cases this
 exact ⟨.refl _ _,r,hr⟩
theorem qb(hl:ME X E l f):MI X E tg l (sIt f):=by
 intro pins s σ H Rr I ⟨ι,τ,h,S,Rh,o⟩
 unfold sIt at o
 cases hf:f τ h with
 | no=>rw [hf] at o;exact o.elim
 | ex c h1 =>
  rw [hf] at o;exact am2 hl pins s σ H Rr I ⟨ι,τ,h,S,Rh,by rw [hf];exact o⟩
 | ok d h1 =>
  rw [hf] at o
  cases d with
  | tup xs =>
   refine aqf hl pins s σ H Rr I ⟨ι,τ,h,S,Rh,?_⟩;rw [hf]
   intro ι1 H1 v g1 r1 hr1
   cases r1 with
   | @tup a vs _ e rs =>
    refine ⟨a,rfl,⟨vs,SqT.of e⟩,o ι1 H1 _ g1 ?_ hr1⟩
    intro ι2 H2 h2 g2 hr2 _
    have e2:=g2.tup _ _ e;have rs2:=rs.mono g2;refine ⟨λi d ed=>?_,⟨vs,SqT.of e2,by rw [rs2.len];exact ar _⟩⟩
    obtain ⟨v,e1,r⟩:=rs2.get ed;refine ⟨⟨vs,v,SqT.of e2,e1⟩,λx H' y=>?_⟩;obtain ⟨rfl,y⟩:=y;have:=y vs (SqT.of e2);rw [e1] at this;cases this
    exact ⟨.refl _ _,r,hr2⟩
  | rol xs =>
   refine af2 hl pins s σ H Rr I ⟨ι,τ,h,S,Rh,?_⟩;rw [hf]
   intro ι1 H1 v g1 r1 hr1
   cases r1 with
   | @rol a vs _ e rs =>
    refine ⟨a,rfl,⟨vs,e.l⟩,o ι1 H1 _ g1 ?_ hr1⟩;exact am9 (λι2 H2 h2 g2 hr2 _=>⟨vs,(e.mono g2).l,rs.mono g2⟩)
  | str x =>
   refine am2 hl pins s σ H Rr I ⟨ι,τ,h,S,Rh,?_⟩;rw [hf]
   intro ι1 H1 v g1 r1 hr1
   cases r1
   refine ⟨x,rfl,o ι1 H1 _ g1 ?_ hr1⟩
   intro ι2 H2 h2 g2 hr2 _
   refine ⟨λi d ed=>?_,by show (a0o x).length=_;simp [a0o]⟩
   simp only [a0o,aW,aO] at ed;obtain ⟨c,ec,rfl⟩:=ed;refine ⟨by show i<x.cps.size;have:=(ah.mp ec).1;simpa using this,λy H' q=>?_⟩
   obtain ⟨rfl,c',ec',rfl⟩:=q;rw [ec] at ec';cases ec'
   exact ⟨.refl _ _, .str _,hr2⟩
  | ref i =>
   simp only [R.bind,anu] at o
   cases ho:h1[i]? with
   | none=>rw [ho] at o;exact o.elim
   | some ob =>
    rw [ho] at o
    cases ob with
    | dK _=>exact o.elim
    | dT _=>exact o.elim
    | lst xs =>
     refine af2 hl pins s σ H Rr I ⟨ι,τ,h,S,Rh,?_⟩;rw [hf]
     intro ι1 H1 v g1 r1 hr1
     cases r1 with
     | @ref a _ e =>
      obtain ⟨vs,e1,rs⟩:=hr1.obj i a _ e ho;refine ⟨a,rfl,⟨vs,SqL.of e1⟩,o ι1 H1 _ g1 ?_ hr1⟩;refine am9 (λι2 H2 h2 g2 hr2 c=>?_);obtain ⟨us,e3,rs3⟩:=hr2.obj i a _ (g2.at e) c;exact ⟨us,SqL.of e3,rs3⟩
  | _=>exact o.elim
def rng(lo:Int)(n:Nat):List D:=(List.range n).map λi=>D.int (lo+(i:Nat))
def B62(j:Int):Prop := -(2 ^ 62)<=j/\j<2 ^ 62
instance (j:Int):Decidable (B62 j):=by unfold B62;exact inferInstance
def v6(ds:List D)(h:Hd):R Itm:=match ds with
 | [.int j]=>if B62 j then .ok ⟨rng 0 j.toNat,λ_=>True⟩ h else .no
 | _=>.no
def arc(ds:List D)(h:Hd):R Itm:=match ds with
 | [.int i, .int j]=>if B62 i/\B62 j then .ok ⟨rng i (j - i).toNat,λ_=>True⟩ h else .no
 | _=>.no
def sRg(g:List D->Hd->R Itm)(k:SA):SI:=λτ h=>(k τ h).bind g
theorem ard(lo:Int)(n:Nat):am8 K ι0 H0 (Itr lo n) ⟨rng lo n,λ_=>True⟩:=by
 intro ι H h g hr _
 refine ⟨λi d ed=>?_,by show n<=(rng lo n).length;simp [rng]⟩
 simp only [rng,aW,aO] at ed;obtain ⟨j,ej,rfl⟩:=ed;obtain ⟨hj,e⟩:=ah.mp ej;simp at e hj;subst e;refine ⟨hj,λy H' q=>?_⟩;obtain ⟨rfl,rfl⟩:=q;exact ⟨.refl _ _, .int _,hr⟩
theorem yj(hg:Gl X "range")(hm:X.mg "range" = none)(ha:MA X E [a] k)(hs:starEach [a] X.env=[(false,eval a X.env)]:=by rfl):MI X E tg (.Call (.Name "range" p) [a] [] pos) (sRg v6 k):=by
 intro pins s σ H Rr I ⟨ι,τ,h,S,Rh,o⟩
 refine af3 hg hm ha hs pins s σ H Rr I ⟨ι,τ,h,S,Rh,ik o λds h1 ι1 H1 vs g1 r1 hr1 o1=>?_⟩;unfold v6 at o1
 split at o1
 ·rename_i j
  cases r1 with
  | cons r rs =>
   cases r;cases rs
   by_cases hb:B62 j
   ·rw [aA hb] at o1;exact ⟨j,rfl,hb.1,hb.2,o1 ι1 H1 _ (.refl _ _) (ard 0 j.toNat) hr1⟩
   ·rw [aL hb] at o1;exact o1.elim
 ·exact o1.elim
open Classical in
noncomputable def forL(ck:Hd->Prop)(g:SG)(b:SS):List D->Sd->Hd->Fl
 | [],τ,h=>if ck h then .nx τ h else .no
 | x::xs,τ,h=>if ck h then (match g x τ h with
   | .nx τ1 h1=>(match b τ1 h1 with
    | .nx τ2 h2=>forL ck g b xs τ2 h2
    | .ct τ2 h2=>forL ck g b xs τ2 h2
    | .bk τ2 h2=>.nx τ2 h2
    | r=>r)
   | _=>.no) else .no
noncomputable def a7q(f:SI)(g:SG)(b:SS):SS:=λτ h=>(f τ h).fl λit h1=>forL it.ck g b it.xs τ h1
theorem anv(ir:am8 K ι0 H0 J it)(S:SRep K ι0 H0 σ0 τ0)(Rh:HRep K ι0 H0 h0)(o:ain K E ι0 H0 (forL it.ck g b it.xs τ0 h0) N) :
  ∃ W:Nat->Nat->St->Hp->Prop,(∃ m,W 0 m σ0 H0)/\∀ i m σ H,W i m σ H->
   (J.stop i H/\N.nx σ H)\/(J.go i H/\∃ M:St->Hp->Prop,(∀ σ' H',M σ' H'->∃ m',m'<m/\W (i+1) m' σ' H')/\∀ x H',J.yld i H x H'->ant K E g x σ H' λσ2 H2=>a7l K E b { N with nx:=M,ct:=M,bk:=N.nx } σ2 H2):=by
 refine ⟨λi m σ H=>m=it.xs.length - i/\i<=it.xs.length/\∃ ι τ h,Gr ι0 H0 ι H/\SRep K ι H σ τ/\HRep K ι H h/\ain K E ι H (forL it.ck g b (it.xs.drop i) τ h) N,⟨_,rfl,bE _,ι0,τ0,h0, .refl _ _,S,Rh,o⟩,?_⟩
 rintro i m σ H ⟨rfl,hi,ι,τ,h,g0,S,Rh,o⟩
 by_cases hlt:i<it.xs.length
 ·rw [cG hlt,forL] at o
  by_cases hc:it.ck h
  ·rw [aA hc] at o;obtain ⟨go,yl⟩:=(ir ι H h g0 Rh hc).1 i _ (ad hlt);refine .inr ⟨go,λσ' H'=>it.xs.length - (i+1)<it.xs.length - i/\∃ ι τ h,Gr ι0 H0 ι H'/\SRep K ι H' σ' τ/\HRep K ι H' h/\ain K E ι H' (forL it.ck g b (it.xs.drop (i+1)) τ h) N,λσ' H' q=>⟨_,q.1,rfl,hlt,q.2⟩,λx H' y=>?_⟩;obtain ⟨g1,r1,hr1⟩:=yl x H' y;refine ⟨ι,τ,h,_,r1,S.mono g1,hr1,?_⟩;have o':=ue o g1
   cases hg:g it.xs[i] τ h with
   | nx τ1 h1 =>
    rw [hg] at o';dsimp only at o'
    intro ι2 H2 σ2 g2 S2 R2
    refine ⟨ι2,τ1,h1,S2,R2,?_⟩;have o2:=ue o' g2;have gg:=(g0.trans g1).trans g2
    cases hb:b τ1 h1 with
    | nx τ2 h2=>rw [hb] at o2;exact λι3 H3 σ3 g3 S3 R3=>⟨by omega,ι3,τ2,h2,gg.trans g3,S3,R3,ue o2 g3⟩
    | ct τ2 h2=>rw [hb] at o2;exact λι3 H3 σ3 g3 S3 R3=>⟨by omega,ι3,τ2,h2,gg.trans g3,S3,R3,ue o2 g3⟩
    | bk τ2 h2=>rw [hb] at o2;exact o2
    | rt d h2=>rw [hb] at o2;exact o2
    | ex c h2=>rw [hb] at o2;exact o2
    | no=>rw [hb] at o2;exact o2.elim
   | _=>rw [hg] at o';exact o'.elim
  ·rw [aL hc] at o;exact o.elim
 ·have e:i=it.xs.length:=by omega
  subst e;rw [bO (ar _),forL] at o
  by_cases hc:it.ck h
  ·rw [aA hc] at o;exact .inl ⟨(ir ι H h g0 Rh hc).2,o ι H σ (.refl _ _) S Rh⟩
  ·rw [aL hc] at o;exact o.elim
theorem a0i{X:Cx}(hp:PassesOwn (model X.prog X.w) X.A X.env X.xe)(hc:X.calm=true)(hi:MI X E tg iter f)(hg:MG X E tg g)(hb:MSs X E body b)(hs:∀ x,foldedSetIterable iter X.env x=pure x:=by intro _;rfl):MS X E (.For tg iter body [] pos) (a7q f g b):=by
 refine PS.weak (aqg hp hc hi hg hb hs) λN σ H ⟨ι,τ,h,S,Rh,o⟩=>?_;exact ⟨ι,τ,h,S,Rh,ux o λit h1 ι1 H1 J g1 r1 hr1 o1=>anv r1 (S.mono g1) hr1 o1⟩
end MI
namespace MI
open PySem PySem.Spec L2
theorem R.bind_assoc{α β γ:Type}(r:R α)(f:α->Hd->R β)(g:β->Hd->R γ):(r.bind f).bind g=r.bind λa h=>(f a h).bind g:=by cases r<;>rfl
open Classical in
noncomputable def mapR(ck:Hd->Prop)(f:D->Hd->R D):List D->Hd->R (List D)
 | [],h=>if ck h then .ok [] h else .no
 | x::xs,h=>if ck h then (f x h).bind λy h1=>(mapR ck f xs h1).bind λys h2=>.ok (y::ys) h2 else .no
open Classical in
noncomputable def aip(ck:Hd->Prop)(f:D->Hd->R (Option D)):List D->Hd->R (List D)
 | [],h=>if ck h then .ok [] h else .no
 | x::xs,h=>if ck h then (f x h).bind λy h1=>(aip ck f xs h1).bind λys h2=>.ok (y.toList++ys) h2 else .no
def frs'(ix:List Nat)(τ:Sd):Sd:=ix.map λi=>(τ[i]?).join
def t1(d:D):Option Sd:=some [some d]
def tN(n:Nat)(d:D):Option Sd:=match d with | .tup ds=>if ds.length=n then some (ds.map some) else none | _=>none
def a7r(t:D->Option Sd)(fe:SE)(rest:Sd)(x:D)(h:Hd):R D:=match t x with | some ts=>fe (ts++rest) h | none=>.no
def aav(t:D->Option Sd)(c:ST)(fe:SE)(rest:Sd)(x:D)(h:Hd):R (Option D):=match t x with
 | some ts=>(c (ts++rest) h).bind λb h1=>if b=true then (fe (ts++rest) h1).bind λy h2=>.ok (some y) h2 else .ok none h1
 | none=>.no
def abz(yd zs:List D)(h:Hd):R D:=.ok (.ref h.length) (h++[.lst (yd++zs)])
theorem arf(r:R D)(m:Hd->R (List D))(yd:List D):(r.bind λy h1=>(m h1).bind λys h2=>.ok (y::ys) h2).bind (abz yd)=r.bind λy h1=>(m h1).bind (abz (yd++[y])):=by
 cases r with
 | ok y h1 =>
  show ((m h1).bind _).bind _=(m h1).bind _
  cases m h1 with
  | ok ys h2=>simp [R.bind,abz]
  | _=>rfl
 | _=>rfl
theorem avw(r:R (Option D))(m:Hd->R (List D))(yd:List D):(r.bind λy h1=>(m h1).bind λys h2=>.ok (y.toList++ys) h2).bind (abz yd)=r.bind λy h1=>(m h1).bind (abz (yd++y.toList)):=by
 cases r with
 | ok y h1 =>
  show ((m h1).bind _).bind _=(m h1).bind _
  cases m h1 with
  | ok ys h2=>simp [R.bind,abz]
  | _=>rfl
 | _=>rfl
noncomputable def n6(fi:SI)(t:D->Option Sd)(fe:SE)(ix:List Nat):SE:=λτ h=>(fi τ h).bind λit h1=>if it.xs.length<=LINE then (mapR it.ck (a7r t fe (frs' ix τ)) it.xs h1).bind (abz []) else .no
noncomputable def a1r(fi:SI)(t:D->Option Sd)(c:ST)(fe:SE)(ix:List Nat):SE:=λτ h=>(fi τ h).bind λit h1=>if it.xs.length<=LINE then (aip it.ck (aav t c fe (frs' ix τ)) it.xs h1).bind (abz []) else .no
def aiq(K:PySem.W.Frag)(n:Nat)(g:TG)(t:D->Option Sd):Prop:=∀ ι H v d ts (r:St) (Q:St->Hp->Prop),Rep K ι H v d->t d=some ts->(∀ us:St,us.length=n->SRep K ι H us ts->Q (us++r) H)->g v (List.replicate n none++r) H Q
theorem a7s:SRep K ι H [] []:=⟨rfl,λi d e=>by simp at e⟩
theorem ym(r:Rep K ι H v d)(s:SRep K ι H σ τ):SRep K ι H (some v::σ) (some d::τ):=by
 refine ⟨by simp [s.len],λi d' e=>?_⟩
 cases i with
 | zero=>simp at e;subst e;exact ⟨v,rfl,r⟩
 | succ i=>simpa using s.val i d' (by simpa using e)
theorem a4o(s:SRep K ι H σ τ)(s':SRep K ι H σ' τ'):SRep K ι H (σ++σ') (τ++τ'):=by
 refine ⟨by simp [s.len,s'.len],λi d e=>?_⟩
 by_cases hi:i<τ.length
 ·rw [aI hi] at e;rw [aI (by rw [s.len];exact hi)]
  exact s.val i d e
 ·rw [aB (by omega)] at e
  rw [aB (by rw [s.len];omega),s.len]
  exact s'.val _ d e
theorem a2o(s:SRep K ι H σ τ)(ix:List Nat):SRep K ι H (ix.map λi=>(σ[i]?).join) (frs' ix τ):=by
 refine ⟨by simp [frs'],λj d e=>?_⟩
 simp only [frs',aW,aO] at e;obtain ⟨i,hi,e⟩:=e;have:τ[i]? = some (some d):=by
  cases q:τ[i]? with
  | none=>rw [q] at e;cases e
  | some o=>rw [q] at e;simp at e;rw [e]
 obtain ⟨v,h1,h2⟩:=s.val i d this;exact ⟨v,by simp [hi,h1],h2⟩
theorem uh:aiq K 1 (a3g 0) t1:=λι H v d ts r Q hr e q=>by
 cases e
 exact q [some v] rfl (ym hr a7s)
theorem arh:aiq K 2 (L2.wk K 2 (aiy (a3g 0) (aiy (a3g 1) awf))) (tN 2):=λι H v d ts r Q hr e q=>by
 unfold tN at e
 cases hr with
 | @tup a vs xs h rs =>
  simp only at e
  split at e
  ·rename_i hl;cases e
   match xs,hl,rs with
   | [_,_],_, .cons r1 (.cons r2 .nil)=>exact ⟨a,_,rfl,SqT.of h,rfl,_,_,rfl,_,_,rfl,rfl,q [some _,some _] rfl (ym r1 (ym r2 a7s))⟩
  ·cases e
 | _=>cases e
theorem afu{us:St}(h:us.length=n):L2.Ext (List.replicate n none++r) (us++r):=by
 refine ⟨by simp [h],λi v e=>?_⟩
 by_cases hi:i<n
 ·rw [aI (by simpa using hi),dl,aA hi] at e
  cases e
 ·rw [aB (by simpa using hi),bT] at e
  rw [aB (by omega),h]
  exact e
theorem ac0(ir:am8 K ι0 H0 J it)(tg:aiq K n g t)(S:SRep K ι0 H0 r rd)(Rh:HRep K ι0 H0 h0)(hl:it.xs.length<=LINE)
  (o:out K E (yh K) ι0 H0 ((mapR it.ck (a7r t fe rd) it.xs h0).bind (abz [])) Q):ar6 J (List.replicate n none++r) g (lift K E (yh K) fe) Q H0:=by
 refine ⟨λi m ys H=>m=it.xs.length - i/\i<=it.xs.length/\ys.length<=i/\∃ ι h yd,Gr ι0 H0 ι H/\HRep K ι H h/\Reps K ι H ys yd/\out K E (yh K) ι H ((mapR it.ck (a7r t fe rd) (it.xs.drop i) h).bind (abz yd)) Q,
  ⟨_,rfl,bE _,bE _,ι0,h0,[], .refl _ _,Rh, .nil,o⟩,?_⟩
 rintro i m ys H ⟨rfl,hi,hy,ι,h,yd,g0,Rh,ry,o⟩
 by_cases hlt:i<it.xs.length
 ·rw [cG hlt,mapR] at o
  by_cases hc:it.ck h
  ·rw [aA hc,arf] at o;obtain ⟨go,yl⟩:=(ir ι H h g0 Rh hc).1 i _ (ad hlt);refine .inr ⟨go,Nat.lt_of_le_of_lt hy (aH hlt (ll hl)),λx H' y=>?_⟩;obtain ⟨g1,r1,hr1⟩:=yl x H' y;have o':=vg o g1
   cases ht:t it.xs[i] with
   | none=>simp only [a7r,ht] at o';exact o'.elim
   | some ts =>
    simp only [a7r,ht] at o';refine tg ι H' x _ ts r _ r1 ht λus hus su=>⟨afu hus,ι,ts++rd,h,a4o su (S.mono (g0.trans g1)),hr1,ik o' λd2 h2 ι2 H2 u g2 r2 hr2 o2=>?_⟩;refine ⟨it.xs.length - (i+1),by omega,rfl,hlt,by simp;omega,ι2,h2,yd++[d2],(g0.trans g1).trans g2,hr2,((ry.mono g1).mono g2).snoc r2,o2⟩
  ·rw [aL hc] at o;exact o.elim
 ·have e:i=it.xs.length:=by omega
  subst e;rw [bO (ar _),mapR] at o
  by_cases hc:it.ck h
  ·rw [aA hc] at o;refine .inl ⟨(ir ι H h g0 Rh hc).2,uf (E:=E) ry Rh ?_⟩;simpa [R.bind,abz] using o
  ·rw [aL hc] at o;exact o.elim
theorem a9h(ir:am8 K ι0 H0 J it)(tg:aiq K n g t)(S:SRep K ι0 H0 r rd)(Rh:HRep K ι0 H0 h0)(hl:it.xs.length<=LINE)
  (o:out K E (yh K) ι0 H0 ((aip it.ck (aav t c fe rd) it.xs h0).bind (abz [])) Q):afl J (List.replicate n none++r) g (lift K E am4 c) (lift K E (yh K) fe) Q H0:=by
 refine ⟨λi m ys H=>m=it.xs.length - i/\i<=it.xs.length/\ys.length<=i/\∃ ι h yd,Gr ι0 H0 ι H/\HRep K ι H h/\Reps K ι H ys yd/\out K E (yh K) ι H ((aip it.ck (aav t c fe rd) (it.xs.drop i) h).bind (abz yd)) Q,
  ⟨_,rfl,bE _,bE _,ι0,h0,[], .refl _ _,Rh, .nil,o⟩,?_⟩
 rintro i m ys H ⟨rfl,hi,hy,ι,h,yd,g0,Rh,ry,o⟩
 by_cases hlt:i<it.xs.length
 ·rw [cG hlt,aip] at o
  by_cases hc:it.ck h
  ·rw [aA hc,avw] at o;obtain ⟨go,yl⟩:=(ir ι H h g0 Rh hc).1 i _ (ad hlt);refine .inr ⟨go,Nat.lt_of_le_of_lt hy (aH hlt (ll hl)),λx H' y=>?_⟩;obtain ⟨g1,r1,hr1⟩:=yl x H' y;have o':=vg o g1
   cases ht:t it.xs[i] with
   | none=>simp only [aav,ht] at o';exact o'.elim
   | some ts =>
    simp only [aav,ht] at o';rw [R.bind_assoc] at o';refine tg ι H' x _ ts r _ r1 ht λus hus su=>⟨afu hus,ι,ts++rd,h,a4o su (S.mono (g0.trans g1)),hr1,ik o' λb h1 ι1 H1 b' g2 rb hrb ob=>?_⟩;have su1:SRep K ι1 H1 (us++r) (ts++rd):=(a4o su (S.mono (g0.trans g1))).mono g2;cases rb
    cases b with
    | true =>
     rw [aA rfl] at ob ⊢;rw [R.bind_assoc] at ob;refine ⟨ι1,ts++rd,h1,su1,hrb,ik ob λd2 h2 ι2 H2 u g3 r2 hr2 o2=>?_⟩;refine ⟨it.xs.length - (i+1),by omega,rfl,hlt,by simp;omega,ι2,h2,yd++[d2],((g0.trans g1).trans g2).trans g3,hr2,(((ry.mono g1).mono g2).mono g3).snoc r2,?_⟩
     simpa [R.bind] using o2
    | false =>
     rw [aL aP] at ob ⊢;refine ⟨it.xs.length - (i+1),by omega,rfl,hlt,by omega,ι1,h1,yd,(g0.trans g1).trans g2,hrb,(ry.mono g1).mono g2,?_⟩
     simpa [R.bind] using ob
  ·rw [aL hc] at o;exact o.elim
 ·have e:i=it.xs.length:=by omega
  subst e;rw [bO (ar _),aip] at o
  by_cases hc:it.ck h
  ·rw [aA hc] at o;refine .inl ⟨(ir ι H h g0 Rh hc).2,uf (E:=E) ry Rh ?_⟩;simpa [R.bind,abz] using o
  ·rw [aL hc] at o;exact o.elim
section
variable{X:Cx}{E:XD}{elt tg iter cnd:Expr}{scope:Scope}{pos:Pos}{cl:List (Str × Addr)}{ts fr:List Str}{ix:List Nat}{fi:SI}{g:TG}{t:D->Option Sd}{fe:SE}{fc:ST}
theorem ul(hc:X.calm=true)(S:CSc X scope cl ts fr ix)(hi:MI X E tg iter fi)(hg:∀ C fp s H,PG (cxC X (ts++fr) scope cl C fp s H) tg g)(ht:aiq X.K ts.length g t)(he:∀ C fp s H,ME (cxC X (ts++fr) scope cl C fp s H) E elt fe)
  (hs:∀ x,foldedSetIterable iter X.env x=pure x:=by intro _;rfl):ME X E (.ListComp elt [⟨tg,iter,[],0⟩] scope pos) (n6 fi t fe ix):=by
 refine PE.weak (ajb (te:=lift X.K E (yh X.K) fe) hc S hi hg he hs) λσ H Q ⟨ι,τ,h,Sr,Rh,o⟩=>?_;refine ⟨ι,τ,h,Sr,Rh,ik o λit h1 ι1 H1 J g1 r1 hr1 o1=>?_⟩
 by_cases hl:it.xs.length<=LINE
 ·rw [aA hl] at o1;exact ac0 r1 ht (a2o (Sr.mono g1) ix) hr1 hl o1
 ·rw [aL hl] at o1;exact o1.elim
theorem ac1(hc:X.calm=true)(S:CSc X scope cl ts fr ix)(hi:MI X E tg iter fi)(hg:∀ C fp s H,PG (cxC X (ts++fr) scope cl C fp s H) tg g)(ht:aiq X.K ts.length g t)(he:∀ C fp s H,ME (cxC X (ts++fr) scope cl C fp s H) E elt fe)
  (hq:∀ C fp s H,MT (cxC X (ts++fr) scope cl C fp s H) E cnd fc)
  (hs:∀ x,foldedSetIterable iter X.env x=pure x:=by intro _;rfl):ME X E (.ListComp elt [⟨tg,iter,[cnd],0⟩] scope pos) (a1r fi t fc fe ix):=by
 refine PE.weak (adx (te:=lift X.K E (yh X.K) fe) (tc:=lift X.K E am4 fc) hc S hi hg he hq hs) λσ H Q ⟨ι,τ,h,Sr,Rh,o⟩=>?_;refine ⟨ι,τ,h,Sr,Rh,ik o λit h1 ι1 H1 J g1 r1 hr1 o1=>?_⟩
 by_cases hl:it.xs.length<=LINE
 ·rw [aA hl] at o1;exact a9h r1 ht (a2o (Sr.mono g1) ix) hr1 hl o1
 ·rw [aL hl] at o1;exact o1.elim
end
mutual
def clo(n:Nat):D->Prop
 | .tup xs=>clos n xs
 | .rol xs=>clos n xs
 | .rod _ xs=>clos n xs
 | .scr xs=>clos n xs
 | .rdT _ xs=>clos n xs
 | .ref i=>i<n
 | _=>True
def clos(n:Nat):List D->Prop
 | []=>True
 | x::xs=>clo n x/\clos n xs
end
mutual
theorem Rep.clo:∀ {v:V} {d:D},Rep K ι H v d->clo ι.length d
 | _,_, .non=>by simp [MI.clo]
 | _,_, .bl b=>by simp [MI.clo]
 | _,_, .int i=>by simp [MI.clo]
 | _,_, .str x=>by simp [MI.clo]
 | _,_, .ty n=>by simp [MI.clo]
 | _,_, .tup h r=>by simp only [MI.clo];exact Reps.clo r
 | _,_, .rol h r=>by simp only [MI.clo];exact Reps.clo r
 | _,_, .ref h=>by simp only [MI.clo];exact (ah.mp h).1
 | _,_, .rod h e r=>by simp only [MI.clo];exact Reps.clo r
 | _,_, .scr h r=>by simp only [MI.clo];exact Reps.clo r
 | _,_, .rdT h e r=>by simp only [MI.clo];exact Reps.clo r
 | _,_, .exc h hc hn=>by simp [MI.clo]
theorem Reps.clo:∀ {vs:List V} {ds:List D},Reps K ι H vs ds->clos ι.length ds
 | _,_, .nil=>by simp [MI.clos]
 | _,_, .cons r rs=>by simp only [MI.clos];exact ⟨Rep.clo r,Reps.clo rs⟩
end
mutual
theorem Rep.cut:∀ {v:V} {d:D},Rep K ι H v d->clo n d->Rep K (ι.take n) H v d
 | _,_, .non,_=>.non
 | _,_, .bl b,_=>.bl b
 | _,_, .int i,_=>.int i
 | _,_, .str x,_=>.str x
 | _,_, .ty n,_=>.ty n
 | _,_, .tup h r,c=>.tup h (Reps.cut r (by simpa only [MI.clo] using c))
 | _,_, .rol h r,c=>.rol h (Reps.cut r (by simpa only [MI.clo] using c))
 | _,_, .ref h,c=>.ref (by simp only [MI.clo] at c;rw [eF,aA c];exact h)
 | _,_, .rod h e r,c=>.rod h e (Reps.cut r (by simpa only [MI.clo] using c))
 | _,_, .scr h r,c=>.scr h (Reps.cut r (by simpa only [MI.clo] using c))
 | _,_, .rdT h e r,c=>.rdT h e (Reps.cut r (by simpa only [MI.clo] using c))
 | _,_, .exc h hc hn,_=>.exc h hc hn
theorem Reps.cut:∀ {vs:List V} {ds:List D},Reps K ι H vs ds->clos n ds->Reps K (ι.take n) H vs ds
 | _,_, .nil,_=>.nil
 | _,_, .cons r rs,c=>by simp only [MI.clos] at c;exact .cons (Rep.cut r c.1) (Reps.cut rs c.2)
end
def u5(n:Nat):O->Prop
 | .lst xs=>clos n xs
 | .dK kvs=>clos n (kvs.map (·.2))
 | .dT kvs=>clos n (kvs.map (·.2))
def ari(n:Nat)(h:Hd):Prop:=∀ o∈h,u5 n o
theorem ORep.clo(r:ORep K ι H a o):u5 ι.length o:=by
 cases o with
 | lst xs=>obtain ⟨vs,_,r⟩:=r;exact r.clo
 | dK kvs=>obtain ⟨us,_,_,r⟩:=r;exact r.clo
 | dT kvs=>obtain ⟨us,_,_,r⟩:=r;exact r.clo
theorem ORep.cut(r:ORep K ι H a o)(c:u5 n o):ORep K (ι.take n) H a o:=by
 cases o with
 | lst xs=>obtain ⟨vs,h,r⟩:=r;exact ⟨vs,h,r.cut c⟩
 | dK kvs=>obtain ⟨us,h,e,r⟩:=r;exact ⟨us,h,e,r.cut c⟩
 | dT kvs=>obtain ⟨us,h,e,r⟩:=r;exact ⟨us,h,e,r.cut c⟩
theorem HRep.clo(r:HRep K ι H h):ari h.length h:=λo ho=>by
 obtain ⟨i,hi⟩:=bI ho;obtain ⟨a,_,q⟩:=r.addr hi;rw [<-r.len];exact q.clo
theorem HRep.cut(r:HRep K ι H (h++g))(c:ari h.length h):HRep K (ι.take h.length) H h:=by
 refine ⟨r.nd.sublist (gu _ _),?_,λi a o e1 e2=>?_⟩
 ·have:=r.len
  rw [ap] at this;rw [aV];omega
 ·have hi:i<h.length:=(ah.mp e2).1;rw [eF,aA hi] at e1;exact (r.obj i a o e1 (by rw [aI hi];exact e2)).cut (c o (aT e2))
def X0:XD:=λ_ _ _ _=>False
abbrev SF:=List D->Hd->R D
def n8(K:PySem.W.Frag)(n:Nat)(F:SF):Sp:=λvs H Q _=>vs.length=n/\∃ ι ds h,Reps K ι H vs ds/\HRep K ι H h/\out K X0 (yh K) ι H (F ds h) Q
def a5j(n:Nat)(ds:List D):Sd:=ds.map some++List.replicate (n - ds.length) none
def qj(b:SS)(n:Nat)(ds:List D)(h:Hd):R D:=match b (a5j n ds) h with
 | .rt d h1=>.ok d h1
 | .nx _ h1=>.ok .non h1
 | .ex c h1=>.ex c h1
 | _=>.no
def Rf(n:Nat)(r' r:R D):Prop:=match r with
 | .no=>True
 | .ok d h1=>∃ g,r' = .ok d (h1++g)/\(g=[]\/(n<=h1.length/\clo h1.length d/\ari h1.length h1))
 | .ex c h1=>∃ g,r' = .ex c (h1++g)/\(g=[]\/(n<=h1.length/\ari h1.length h1))
theorem Rf.same(h:r'=r):Rf n r' r:=by
 subst h
 cases r' with
 | ok d h1=>exact ⟨[],by simp, .inl rfl⟩
 | ex c h1=>exact ⟨[],by simp, .inl rfl⟩
 | no=>exact True.intro
theorem ae1(r:Reps K ι H vs ds):SRep K ι H (start N vs) (a5j N.length ds):=by
 refine a4o ?_ ?_
 ·clear N
  induction r using Reps.rec (motive_1:=λ_ _ _=>True) with
  | nil=>exact a7s
  | cons r rs _ ih=>exact ym r ih
  | _=>trivial
 ·rw [r.len];exact ⟨by simp,λi d e=>by rw [dl] at e;split at e<;>cases e⟩
theorem ama(g:Gr ι H ι' H')(hn:ι.length<=n):Gr ι H (ι'.take n) H':=by
 obtain ⟨m,rfl,hm⟩:=g.pre;exact ⟨⟨m.take (n - ι.length),by rw [List.take_append,bG hn],λa ha=>hm a (dQ ha)⟩,g.tup,g.frz,g.oth,g.kp⟩
section
variable{P:Program}{w:World}{K:PySem.W.Frag}{mg:Str->Option Value}{base:Heap}
theorem arj(Fu:Fun K x qual st f fd)(S:FnScope N ps (bj st))
  (hb:∀ (cdv:Value) (A:Around) (outer:List Env) (s:Shared) (H:Hp) (E:XK),Room k (A.deeper (PyProof.Rows.envOfC qual (bj st) s.heap.objs.size f cdv))->MSs (a1c CX0 P w K mg base N qual (bj st) f cdv A outer s H E).nox X0 (ji st) b)
  (hF:∀ ds h,ds.length=ps.length->clos h.length ds->ari h.length h->Rf h.length (qj b N.length ds h) (F ds h)):FnOk P w K mg base CX0 (k+1) f fd ps (n8 K ps.length F):=by
 refine Fu.ok S (λvs H Q E h=>h.1) λcdv A outer s H vs Q E hr h=>⟨_,hb cdv A outer s H E hr,?_⟩;obtain ⟨hl,ι,ds,h,r,hr',o⟩:=h;refine ⟨ι,a5j N.length ds,h,ae1 r,hr',?_⟩;have q:=hF ds h (by rw [<-r.len];exact hl) (by rw [<-hr'.len];exact r.clo) hr'.clo
 unfold qj at q
 cases hFd:F ds h with
 | no=>rw [hFd] at o;exact o.elim
 | ex c h1 =>
  rw [hFd] at q o;obtain ⟨g,e,cl⟩:=q;have fin:∀ ι' H',Gr ι H ι' H'->HRep K ι' H' (h1++g)->X0 c ι' H' (h1++g):=λι' H' g1 hr1=>by
   rcases cl with rfl | ⟨hn,c2⟩
   ·rw [bR] at hr1;exact o ι' H' g1 hr1
   ·exact o (ι'.take h1.length) H' (ama g1 (by rw [hr'.len];exact hn)) (hr1.cut c2)
  cases hbd:b (a5j N.length ds) h with
  | ex c' h' =>
   rw [hbd] at e
   injection e with e1 e2
   subst e1 e2;exact fin
  | _=>rw [hbd] at e;cases e
 | ok d h1 =>
  rw [hFd] at q o;obtain ⟨g,e,cl⟩:=q;have fin:∀ ι' H' v,Gr ι H ι' H'->Rep K ι' H' v d->HRep K ι' H' (h1++g)->Q v H':=λι' H' v g1 r1 hr1=>by
   rcases cl with rfl | ⟨hn,c1,c2⟩
   ·rw [bR] at hr1;exact o ι' H' v g1 r1 hr1
   ·exact o (ι'.take h1.length) H' v (ama g1 (by rw [hr'.len];exact hn)) (r1.cut c1) (hr1.cut c2)
  cases hbd:b (a5j N.length ds) h with
  | rt d' h' =>
   rw [hbd] at e
   injection e with e1 e2
   subst e1 e2;exact fin
  | nx τ' h' =>
   rw [hbd] at e
   injection e with e1 e2
   subst e1 e2;exact λι' H' σ' g1 S1 hr1=>fin ι' H' .non g1 .non hr1
  | _=>rw [hbd] at e;cases e
end
section
variable{K:PySem.W.Frag}{E:XD}{ι:List Addr}{H:Hp}{h:Hd}{Q:VK}
theorem ans(o:out K E (yh K) ι H (.ok d h) Q)(r:Rep K ι H v d)(hr:HRep K ι H h):Q v H:=o ι H v (.refl _ _) r hr
theorem HRep.lst(hr:HRep K ι H h){i:Nat}{a:Addr}{xs:List D}(e:ι[i]? = some a)(hi:h[i]? = some (.lst xs)):∃ vs,H a=some (.lst vs)/\Reps K ι H vs xs:=hr.obj i a _ e hi
end
def axt:D->D->Hd->R D
 | .int i, .int j,h=>.ok (.int (i+j)) h
 | .str x, .str y,h=>if x.length+y.length<=LINE then .ok (.str (x++y)) h else .no
 | .tup xs, .tup ys,h=>if xs≠[]/\xs.length+ys.length<=LINE then .ok (.tup (xs++ys)) h else .no
 | .ref i, .ref j,h=>match h[i]?,h[j]? with
  | some (.lst xs),some (.lst ys)=>if xs.length+ys.length<=LINE then .ok (.ref h.length) (h++[.lst (xs++ys)]) else .no
  | _,_=>.no
 | _,_,_=>.no
def a6i:D->D->Hd->R D
 | .int i, .int j,h=>.ok (.int (i - j)) h
 | _,_,_=>.no
open Classical in
noncomputable def ark:D->D->Hd->R D
 | .int i, .int j,h=>if CMul i j then .ok (.int (i*j)) h else .no
 | .ref i, .int k,h=>match h[i]? with
  | some (.lst xs)=>if (-(2 ^ 63)<=k/\k<2 ^ 63)/\xs.length*k.toNat<=LINE then .ok (.ref h.length) (h++[.lst (List.replicate k.toNat xs).flatten]) else .no
  | _=>.no
 | _,_,_=>.no
def a3f:D->D->Hd->R D
 | .int i, .int j,h=>if 0<j then .ok (.int (i % j)) h else .no
 | _,_,_=>.no
def a6k:D->D->Hd->R D
 | .int i, .int j,h=>if 0<j/\j<1073741824 then .ok (.int (i / j)) h else .no
 | _,_,_=>.no
def a6v:D->D->Hd->R D
 | .int i, .int j,h=>if 0<=j/\j<=1000000/\i.natAbs<2 ^ 64 then .ok (.int (i ^ j.toNat)) h else .no
 | _,_,_=>.no
section
variable{X:Cx}{K:PySem.W.Frag}
theorem a7t:a2g K a6i (rI0 λi j=>.int (i - j)):=by
 intro E ι H h x y dx dy Q rx ry hr o
 cases rx with
 | int i =>
  cases ry with
  | int j=>exact ⟨i,j,rfl,rfl,ans o (.int _) hr⟩
  | _=>exact o.elim
 | _=>exact o.elim
theorem anw:a2g K a3f (rI (λ_ j=>0<j) λi j=>.int (i % j)):=by
 intro E ι H h x y dx dy Q rx ry hr o
 cases rx with
 | int i =>
  cases ry with
  | int j =>
   by_cases hc:0<j
   ·simp only [a3f,aA hc] at o;exact ⟨i,j,rfl,rfl,hc,ans o (.int _) hr⟩
   ·simp only [a3f,aL hc] at o;exact o.elim
  | _=>exact o.elim
 | _=>exact o.elim
theorem afv:a2g K a6k (rI avf λi j=>.int (i / j)):=by
 intro E ι H h x y dx dy Q rx ry hr o
 cases rx with
 | int i =>
  cases ry with
  | int j =>
   by_cases hc:0<j/\j<1073741824
   ·simp only [a6k,aA hc] at o;exact ⟨i,j,rfl,rfl,hc,ans o (.int _) hr⟩
   ·simp only [a6k,aL hc] at o;exact o.elim
  | _=>exact o.elim
 | _=>exact o.elim
theorem anx:a2g K a6v (rI awh λi j=>.int (i ^ j.toNat)):=by
 intro E ι H h x y dx dy Q rx ry hr o
 cases rx with
 | int i =>
  cases ry with
  | int j =>
   by_cases hc:0<=j/\j<=1000000/\i.natAbs<2 ^ 64
   ·simp only [a6v,aA hc] at o;exact ⟨i,j,rfl,rfl,hc,ans o (.int _) hr⟩
   ·simp only [a6v,aL hc] at o;exact o.elim
  | _=>exact o.elim
 | _=>exact o.elim
theorem afw:a2g K ark (λx y H Q=>rI CMul (λi j=>.int (i*j)) x y H Q\/aqx x y H Q):=by
 intro E ι H h x y dx dy Q rx ry hr o
 cases rx with
 | int i =>
  cases ry with
  | int j =>
   by_cases hc:CMul i j
   ·simp only [ark,aA hc] at o;exact .inl ⟨i,j,rfl,rfl,hc,ans o (.int _) hr⟩
   ·simp only [ark,aL hc] at o;exact o.elim
  | _=>exact o.elim
 | @ref a i ha =>
  cases ry with
  | int k =>
   simp only [ark] at o
   split at o
   ·rename_i xs hx;obtain ⟨vs,h3,h4⟩:=hr.lst ha hx
    split at o
    ·rename_i hc;exact .inr ⟨a,k,vs,rfl,rfl,h3,hc.1.1,hc.1.2,ll (by rw [h4.len];exact hc.2),uf (h4.flat _) hr o⟩
    ·exact o.elim
   ·exact o.elim
  | _=>exact o.elim
 | _=>exact o.elim
variable{E:XD}{a b e:Expr}{es:List Expr}{fa fb:SE}{ka:SA}{pos:Pos}
theorem a9i(ha:ME X E a fa)(hb:ME X E b fb):ME X E (.BinOp a .Sub b pos) (s2 a6i fa fb):=aat aqj a7t ha hb
theorem a5k(ha:ME X E a fa)(hb:ME X E b fb):ME X E (.BinOp a .Mod b pos) (s2 a3f fa fb):=aat aqk anw ha hb
theorem afx(ha:ME X E a fa)(hb:ME X E b fb):ME X E (.BinOp a .FloorDiv b pos) (s2 a6k fa fb):=aat an7 afv ha hb
theorem afy(ha:ME X E a fa)(hb:ME X E b fb):ME X E (.BinOp a .Pow b pos) (s2 a6v fa fb):=aat aql anx ha hb
def aaw:D->Hd->R D
 | .int i,h=>.ok (.int (-i)) h
 | _,_=>.no
theorem ac2(ha:ME X E a fa):ME X E (.UnaryOp .USub a pos) (s1 aaw fa):=avu aqm (λE ι H h x dx Q rx hr o=>by
 cases rx with
 | int i=>exact ⟨i,rfl,ans o (.int _) hr⟩
 | _=>exact o.elim) ha
def gLt:D->D->Hd->R D
 | .int i, .int j,h=>.ok (.bl (decide (i<j))) h
 | .str i, .str j,h=>.ok (.bl (decide (i.cps.toList<j.cps.toList))) h
 | _,_,_=>.no
def gLe:D->D->Hd->R D
 | .int i, .int j,h=>.ok (.bl (decide (i<=j))) h
 | .str i, .str j,h=>.ok (.bl (!decide (j.cps.toList<i.cps.toList))) h
 | _,_,_=>.no
def gGt:D->D->Hd->R D
 | .int i, .int j,h=>.ok (.bl (decide (j<i))) h
 | _,_,_=>.no
def gGe:D->D->Hd->R D
 | .int i, .int j,h=>.ok (.bl (decide (j<=i))) h
 | _,_,_=>.no
theorem a2p:a2g K gLt (λx y H Q=>rI0 (λi j=>.bl (decide (i<j))) x y H Q\/∃ i j,x = .str i/\y = .str j/\Q (.bl (decide (i.cps.toList<j.cps.toList))) H):=by
 intro E ι H h x y dx dy Q rx ry hr o
 cases rx with
 | int i =>
  cases ry with
  | int j=>exact .inl ⟨i,j,rfl,rfl,ans o (.bl _) hr⟩
  | _=>exact o.elim
 | str i =>
  cases ry with
  | str j=>exact .inr ⟨i,j,rfl,rfl,ans o (.bl _) hr⟩
  | _=>exact o.elim
 | _=>exact o.elim
theorem ac3:a2g K gGt (rI0 λi j=>.bl (decide (j<i))):=by
 intro E ι H h x y dx dy Q rx ry hr o
 cases rx with
 | int i =>
  cases ry with
  | int j=>exact ⟨i,j,rfl,rfl,ans o (.bl _) hr⟩
  | _=>exact o.elim
 | _=>exact o.elim
theorem afz:a2g K gGe (rI0 λi j=>.bl (decide (j<=i))):=by
 intro E ι H h x y dx dy Q rx ry hr o
 cases rx with
 | int i =>
  cases ry with
  | int j=>exact ⟨i,j,rfl,rfl,ans o (.bl _) hr⟩
  | _=>exact o.elim
 | _=>exact o.elim
def a9j:D->Bool
 | .non=>true
 | _=>false
def gIs:D->D->Hd->R D
 | x, .non,h=>.ok (.bl (a9j x)) h
 | .bl i, .bl j,h=>.ok (.bl (i == j)) h
 | _,_,_=>.no
def amb:D->D->Hd->R D
 | x, .non,h=>.ok (.bl (!a9j x)) h
 | .bl i, .bl j,h=>.ok (.bl (i != j)) h
 | _,_,_=>.no
def zj:D->Bool
 | .non=>true | .bl _=>true | .int _=>true | .str _=>true
 | _=>false
def eqF:D->D->Bool
 | .non, .non=>true
 | .bl i, .bl j=>i == j
 | .int i, .int j=>i == j
 | .str i, .str j=>i == j
 | .int i, .bl j=>i == (if j then 1 else 0)
 | .bl i, .int j=>(if i then 1 else 0) == j
 | _,_=>false
end
section
variable{X:Cx}{K:PySem.W.Frag}{E:XD}{a b e o:Expr}{es:List Expr}{fa fb:SE}{ka:SA}{pos:Pos}
def a07(d:D)(h:Hd):Option (List D):=match d with
 | .tup xs=>some xs
 | .rol xs=>some xs
 | .ref i=>match h[i]? with | some (.lst xs)=>some xs | _=>none
 | _=>none
def gIx(x y:D)(h:Hd):R D:=match y with
 | .int i=>(match x with
  | .str z=>if z.length<=LINE then (match atI z.cps.toList i with | some c=>.ok (.str ⟨#[c]⟩) h | none=>.no) else .no
  | x=>match a07 x h with
   | some xs=>(match atI xs i with | some d=>.ok d h | none=>.no)
   | none=>.no)
 | _=>.no
theorem ac4(r:Reps K ι H vs xs)(e:atI xs i=some d):∃ v,atI vs i=some v/\Rep K ι H v d:=by
 unfold atI at e ⊢;rw [r.len]
 cases hx:ixN xs.length i with
 | none=>rw [hx] at e;cases e
 | some j=>rw [hx] at e;exact r.get e
theorem arl:a2g K gIx (rIx K):=by
 intro E ι H h x y dx dy Q rx ry hr o
 cases ry with
 | int i =>
  have go:∀ {p:Addr} {vs:List V} {xs:List D},Reps K ι H vs xs->out K E (yh K) ι H (match atI xs i with | some d=>.ok d h | none=>.no) Q->∃ v,atI vs i=some v/\Q v H:=λ{p vs xs} r o=>by
   cases he:atI xs i with
   | none=>rw [he] at o;exact o.elim
   | some d =>
    rw [he] at o;obtain ⟨v,h1,h2⟩:=ac4 r he;exact ⟨v,h1,ans o h2 hr⟩
  cases rx with
  | str z =>
   by_cases hc:z.length<=LINE
   ·simp only [gIx,aA hc] at o
    cases he:atI z.cps.toList i with
    | none=>rw [he] at o;exact o.elim
    | some c=>rw [he] at o;exact .inr (.inr ⟨z,i,c,rfl,rfl,ll hc,he,ans o (.str _) hr⟩)
   ·simp only [gIx,aL hc] at o;exact o.elim
  | @tup p vs xs hp r =>
   simp only [gIx,a07] at o;obtain ⟨v,h1,h2⟩:=go (p:=p) r o;exact .inr (.inl ⟨p,vs,i,v,rfl,rfl,SqT.of hp,h1,h2⟩)
  | @rol p vs xs hp r =>
   simp only [gIx,a07] at o;obtain ⟨v,h1,h2⟩:=go (p:=p) r o;exact .inl ⟨p,vs,i,v,rfl,rfl,hp.l,h1,h2⟩
  | @ref p j hp =>
   obtain ⟨ob,e1,e2⟩:=hr.at hp
   cases ob with
   | lst xs =>
    simp only [gIx,a07,e1] at o;obtain ⟨vs,h3,h4⟩:=e2;obtain ⟨v,h1,h2⟩:=go (p:=p) h4 o;exact .inl ⟨p,vs,i,v,rfl,rfl,SqL.of h3,h1,h2⟩
   | dK _=>simp only [gIx,a07,e1] at o;exact o.elim
   | dT _=>simp only [gIx,a07,e1] at o;exact o.elim
  | _=>exact o.elim
 | _=>exact o.elim
theorem bx(ha:ME X E a fa)(hb:ME X E b fb)(hp:aan b):ME X E (.Subscript a b pos) (s2 gIx fa fb):=avv aqv arl ha hb hp
abbrev SO:=Sd->Hd->R (Option Int)
abbrev MO(X:Cx)(E:XD)(e:Option Expr)(f:SO):Prop:=PO X e (lift X.K E axr f)
def oN:SO:=λ_ h=>.ok none h
def oS(f:SE):SO:=λτ h=>(f τ h).bind λd h1=>match d with | .int i=>.ok (some i) h1 | _=>.no
theorem PO.weak{e:Option Expr}{t t':St->Hp->(Option Int->Hp->Prop)->Prop}(h:PO X e t)(i:∀ σ H Q,t' σ H Q->t σ H Q):PO X e t':=λpins s σ H Q I q=>h pins s σ H Q I (i _ _ _ q)
theorem wu:MO X E none oN:=PO.weak ang λσ H Q ⟨ι,τ,h,S,Rh,o⟩=>o ι H none (.refl _ _) rfl Rh
theorem ww(he:ME X E e fa):MO X E (some e) (oS fa):=by
 refine PO.weak (anh he) λσ H Q ⟨ι,τ,h,S,Rh,o⟩=>?_;refine ⟨ι,τ,h,S,Rh,ik o λd h1 ι1 H1 v g1 r1 hr1 o1=>?_⟩
 cases r1 with
 | int i=>exact ⟨i,rfl,o1 ι1 H1 _ (.refl _ _) rfl hr1⟩
 | _=>exact o1.elim
def whole(n:Nat)(lo hi:Option Int):Prop:=HT.sIx n 0 lo=0/\HT.sIx n n hi=n
instance (n:Nat) (lo hi:Option Int):Decidable (whole n lo hi):=by unfold whole;exact inferInstance
def gSl(d:D)(lo hi:Option Int)(h:Hd):R D:=match d with
 | .str z=>if z.length<=LINE then .ok (.str ⟨(a5b z.cps.toList lo hi).toArray⟩) h else .no
 | .tup xs=>if ¬ whole xs.length lo hi then .ok (.tup (a5b xs lo hi)) h else .no
 | .rol xs=>.ok (.ref h.length) (h++[.lst (a5b xs lo hi)])
 | .scr xs=>.ok (.ref h.length) (h++[.lst (a5b xs lo hi)])
 | .ref i=>match h[i]? with | some (.lst xs)=>.ok (.ref h.length) (h++[.lst (a5b xs lo hi)]) | _=>.no
 | _=>.no
theorem a2q(r:Reps K ι H vs xs)(lo hi:Option Int):Reps K ι H (alz vs lo hi) (a5b xs lo hi):=by
 unfold alz a5b;rw [r.len];exact (r.drop _).take _
theorem ac6(rx:Rep K ι H x d)(hr:HRep K ι H h)(o:out K E (yh K) ι H (gSl d lo hi h) Q):avp x lo hi H Q\/avl K x lo hi H Q\/avn K x lo hi H Q:=by
 cases rx with
 | str z =>
  by_cases hc:z.length<=LINE
  ·simp only [gSl,aA hc] at o;exact .inl ⟨z,rfl,ll hc,ans o (.str _) hr⟩
  ·simp only [gSl,aL hc] at o;exact o.elim
 | @tup p vs xs hp r =>
  by_cases hc:¬ whole xs.length lo hi
  ·simp only [gSl,aA hc] at o;exact .inr (.inl ⟨p,vs,rfl,SqT.of hp,by rw [r.len];exact hc,a06 (a2q r lo hi) hr o⟩)
  ·simp only [gSl,aL hc] at o;exact o.elim
 | @rol p vs xs hp r=>exact .inr (.inr ⟨p,vs,rfl,hp.l,uf (a2q r lo hi) hr o⟩)
 | @scr p vs xs hp r=>exact .inr (.inr ⟨p,vs,rfl,hp.l,uf (a2q r lo hi) hr o⟩)
 | @ref p j hp =>
  obtain ⟨ob,e1,e2⟩:=hr.at hp
  cases ob with
  | lst xs =>
   simp only [gSl,e1] at o;obtain ⟨vs,h3,h4⟩:=e2;exact .inr (.inr ⟨p,vs,rfl,SqL.of h3,uf (a2q h4 lo hi) hr o⟩)
  | dK _=>simp only [gSl,e1] at o;exact o.elim
  | dT _=>simp only [gSl,e1] at o;exact o.elim
 | _=>exact o.elim
theorem ag0(r:Rep K ι H x d)(f:zj d=true):a2b x=true:=by cases r<;>first | rfl | cases f
theorem arn(r:Rep K ι H x d)(q:Rep K ι H y c):zj d=true->zj c=true->eqV x y=eqF d c:=λf g=>by
 cases r<;>cases q<;>first | rfl | (cases f;done) | (cases g;done)
def inD(x:D)(xs:List D):Bool:=xs.any λy=>eqF y x
theorem aji(r:Reps K ι H vs xs)(f:xs.all zj=true):vs.all a2b=true:=by
 induction r using Reps.rec (motive_1:=λ_ _ _=>True) with
 | nil=>rfl
 | cons r rs _ ih =>
  rw [eC,bV] at f ⊢;exact ⟨ag0 r f.1,ih f.2⟩
 | _=>trivial
theorem aro(rx:Rep K ι H x d)(fx:zj d=true)(r:Reps K ι H vs xs)(f:xs.all zj=true):inV x vs=inD d xs:=by
 unfold inV inD
 induction r using Reps.rec (motive_1:=λ_ _ _=>True) with
 | nil=>rfl
 | cons r rs _ ih =>
  rw [eC,bV] at f;rw [gG,gG,ih f.2,arn r rx f.1 fx]
 | _=>trivial
def gIn(neg:Bool)(x y:D)(h:Hd):R D:=match y with
 | .str T=>(match x with
  | .str z=>(match z.cps.toList with | [c]=>.ok (.bl (if neg then !decide (c∈T.cps.toList) else decide (c∈T.cps.toList))) h | _=>.no)
  | _=>.no)
 | y=>match a07 y h with
  | some xs=>if zj x=true/\xs.all zj=true then .ok (.bl (if neg then !inD x xs else inD x xs)) h else .no
  | none=>.no
theorem one_sign{z:Str}(h:z.cps.toList=[c]):z=⟨#[c]⟩:=by
 obtain ⟨cps⟩:=z
 congr
 exact Array.ext' (by simpa using h)
theorem amc(neg:Bool){r1:R2}(h1:∀ c T H (Q:VK),Q (.bl (if neg then !decide (c∈T.cps.toList) else decide (c∈T.cps.toList))) H->r1 (.str ⟨#[c]⟩) (.str T) H Q):a2g K (gIn neg) (λx y H Q=>r1 x y H Q\/rIn K neg x y H Q):=by
 intro E ι H h x y dx dy Q rx ry hr o
 have go:∀ {p:Addr} {vs:List V} {xs:List D},(SqL K H p vs\/SqT K H p vs)->Reps K ι H vs xs->out K E (yh K) ι H (if zj dx=true/\xs.all zj=true then .ok (.bl (if neg then !inD dx xs else inD dx xs)) h else .no) Q->rIn K neg x (.ref p) H Q:=λ{p vs xs} sq r o=>by
  split at o
  ·rename_i hc;exact ⟨p,vs,rfl,sq,ag0 rx hc.1,aji r hc.2,by rw [aro rx hc.1 r hc.2];exact ans o (.bl _) hr⟩
  ·exact o.elim
 cases ry with
 | str T =>
  cases rx with
  | str z =>
   simp only [gIn] at o
   split at o
   ·rename_i c hz;rw [one_sign hz];exact .inl (h1 c T H Q (ans o (.bl _) hr))
   ·exact o.elim
  | _=>exact o.elim
 | @tup p vs xs hp r=>simp only [gIn,a07] at o;exact .inr (go (.inr (SqT.of hp)) r o)
 | @rol p vs xs hp r=>simp only [gIn,a07] at o;exact .inr (go (.inl hp.l) r o)
 | @ref p j hp =>
  obtain ⟨ob,e1,e2⟩:=hr.at hp
  cases ob with
  | lst xs =>
   simp only [gIn,a07,e1] at o;obtain ⟨vs,h3,h4⟩:=e2;exact .inr (go (.inl (SqL.of h3)) h4 o)
  | dK _=>simp only [gIn,a07,e1] at o;exact o.elim
  | dT _=>simp only [gIn,a07,e1] at o;exact o.elim
 | _=>exact o.elim
theorem a3l:a2g K (gIn false) (λx y H Q=>(∃ c T,x = .str ⟨#[c]⟩/\y = .str T/\Q (.bl (decide (c∈T.cps.toList))) H)\/rIn K false x y H Q):=amc false λc T H Q q=>⟨c,T,rfl,rfl,q⟩
theorem ag1:a2g K (gIn true) (λx y H Q=>(∃ c T,x = .str ⟨#[c]⟩/\y = .str T/\Q (.bl (!decide (c∈T.cps.toList))) H)\/rIn K true x y H Q):=amc true λc T H Q q=>⟨c,T,rfl,rfl,q⟩
def rm:List D->Hd->R D
 | [.str z],h=>if z.length<=LINE then .ok (.int z.length) h else .no
 | [x],h=>(match a07 x h with | some xs=>.ok (.int xs.length) h | none=>.no)
 | _,_=>.no
theorem lr:afn K rm (λxs H Q=>(∃ p ys,xs=[.ref p]/\(SqL K H p ys\/SqT K H p ys)/\Q (.int ys.length) H)\/∃ z,xs=[.str z]/\z.length<=sizeLine/\Q (.int z.length) H):=by
 intro E ι H h xs ds Q r hr o
 cases r with
 | nil=>exact o.elim
 | cons r rs =>
  cases rs with
  | cons _ _=>exact (show False by cases r<;>exact o).elim
  | nil =>
   cases r with
   | str z =>
    by_cases hc:z.length<=LINE
    ·simp only [rm,aA hc] at o;exact .inr ⟨z,rfl,ll hc,ans o (.int _) hr⟩
    ·simp only [rm,aL hc] at o;exact o.elim
   | @tup p vs xs hp r=>simp only [rm,a07] at o;exact .inl ⟨p,vs,rfl, .inr (SqT.of hp),by rw [r.len];exact ans o (.int _) hr⟩
   | @rol p vs xs hp r=>simp only [rm,a07] at o;exact .inl ⟨p,vs,rfl, .inl hp.l,by rw [r.len];exact ans o (.int _) hr⟩
   | @ref p j hp =>
    obtain ⟨ob,e1,e2⟩:=hr.at hp
    cases ob with
    | lst xs =>
     simp only [rm,a07,e1] at o;obtain ⟨vs,h3,h4⟩:=e2;exact .inl ⟨p,vs,rfl, .inl (SqL.of h3),by rw [h4.len];exact ans o (.int _) hr⟩
    | dK _=>simp only [rm,a07,e1] at o;exact o.elim
    | dT _=>simp only [rm,a07,e1] at o;exact o.elim
   | _=>exact o.elim
def auk:List D->Hd->R D
 | [.int i],h=>.ok (.int (if i<0 then -i else i)) h
 | _,_=>.no
theorem anz:afn K auk (λxs H Q=>∃ i,xs=[.int i]/\Q (.int (if i<0 then -i else i)) H):=by
 intro E ι H h xs ds Q r hr o
 unfold auk at o
 split at o
 ·cases r with | cons r rs=>cases r;cases rs;exact ⟨_,rfl,ans o (.int _) hr⟩
 ·exact o.elim
def a9k:List D->Hd->R D
 | [.int i, .int j],h=>.ok (.int (if j > i then j else i)) h
 | _,_=>.no
def ajj:List D->Hd->R D
 | [.int i, .int j],h=>.ok (.int (if j<i then j else i)) h
 | _,_=>.no
theorem ajk:afn K a9k (λxs H Q=>∃ i j,xs=[.int i, .int j]/\Q (.int (if j > i then j else i)) H):=by
 intro E ι H h xs ds Q r hr o
 unfold a9k at o
 split at o
 ·cases r with | cons r rs=>cases rs with | cons q rs=>cases r;cases q;cases rs;exact ⟨_,_,rfl,ans o (.int _) hr⟩
 ·exact o.elim
def ao0:List D->Hd->R D
 | [.int i],h=>.ok (.int i) h
 | [.bl k],h=>.ok (.int (if k then 1 else 0)) h
 | _,_=>.no
theorem ao1:afn K ao0 (λxs H Q=>(∃ i,xs=[.int i]/\Q (.int i) H)\/∃ k,xs=[.bl k]/\Q (.int (if k then 1 else 0)) H):=by
 intro E ι H h xs ds Q r hr o
 unfold ao0 at o
 split at o
 ·cases r with | cons r rs=>cases r;cases rs;exact .inl ⟨_,rfl,ans o (.int _) hr⟩
 ·cases r with | cons r rs=>cases r;cases rs;exact .inr ⟨_,rfl,ans o (.int _) hr⟩
 ·exact o.elim
def tyD(d:D)(h:Hd):Option String:=match d with
 | .non=>some "NoneType" | .bl _=>some "bool" | .int _=>some "int" | .str _=>some "str" | .tup _=>some "tuple" | .rol _=>some "list"
 | .ref i=>(match h[i]? with | some (.lst _)=>some "list" | some (.dK _)=>some "dict" | _=>none)
 | _=>none
def ao2(t T:String):Option Bool :=
 if t∈["NoneType", "bool", "int", "str", "tuple", "list", "dict"]/\T∈["bool", "int", "str", "tuple", "list", "dict"] then some (t == T || (t == "bool" && T == "int")) else none
theorem ag2{t T:String}{b:Bool}(e:ao2 t T=some b):PySem.W.kitOne K (.type t) (.type T)=some b:=by
 unfold ao2 at e
 split at e
 ·rename_i h;obtain ⟨h1,h2⟩:=h;simp only [aD,aN,cn] at h1 h2
  rcases h1 with rfl | rfl | rfl | rfl | rfl | rfl | rfl<;>rcases h2 with rfl | rfl | rfl | rfl | rfl | rfl<;>(cases e;rfl)
 ·cases e
def arp:List D->Hd->R D
 | [x, .ty T],h=>(match tyD x h with | some t=>(match ao2 t T with | some b=>.ok (.bl b) h | none=>.no) | none=>.no)
 | _,_=>.no
theorem arq(r:Rep K ι H x d)(hr:HRep K ι H h)(e:tyD d h=some t):TyOf K H x (.type t):=by
 cases r with
 | non=>cases e;exact .non
 | bl b=>cases e;exact .bl b
 | int b=>cases e;exact .int b
 | str b=>cases e;exact .str b
 | ty _=>cases e
 | tup hp r=>cases e;exact .tup hp
 | rol hp r=>cases e;obtain ⟨o,hp⟩:=hp;exact .frz hp
 | scr _ _=>cases e
 | rod _ _ _=>cases e
 | rdT _ _ _=>cases e
 | exc _ _ _=>cases e
 | ref hp =>
  obtain ⟨ob,e1,e2⟩:=hr.at hp
  cases ob with
  | lst xs=>simp only [tyD,e1] at e;cases e;obtain ⟨vs,h3,h4⟩:=e2;exact .lst h3
  | dK _=>simp only [tyD,e1] at e;cases e;obtain ⟨vs,h3,h4⟩:=e2;exact .dK h3
  | dT _=>simp only [tyD,e1] at e;cases e
theorem ao3:afn K arp (λxs H Q=>∃ x T t b,xs=[x, .ty T]/\TyOf K H x t/\PySem.W.kitOne K t (.type T)=some b/\Q (.bl b) H):=by
 intro E ι H h xs ds Q r hr o
 unfold arp at o
 split at o
 ·rename_i d T
  cases r with
  | cons r rs =>
   cases rs with
   | cons q rs =>
    cases q;cases rs
    cases ht:tyD d h with
    | none=>rw [ht] at o;exact o.elim
    | some t =>
     rw [ht] at o
     cases hb:ao2 t T with
     | none=>simp only [hb] at o;exact o.elim
     | some b =>
      simp only [hb] at o;exact ⟨_,T, .type t,b,rfl,arq r hr ht,ag2 hb,ans o (.bl _) hr⟩
 ·exact o.elim
end
section
variable{X:Cx}{K:PySem.W.Frag}{E:XD}{a b e o:Expr}{es:List Expr}{fa fb fo:SE}{ka:SA}{pos apos cpos:Pos}{name:Str}{idn:String}
def apu(K:PySem.W.Frag)(g:D->List D->Hd->R D)(r:V->List V->Hp->VK->Prop):Prop:=∀ (E:XD) ι H h x dx xs ds Q,Rep K ι H x dx->Reps K ι H xs ds->HRep K ι H h->out K E (yh K) ι H (g dx ds h) Q->r x xs H Q
def isL(d:D)(h:Hd):Bool:=match d with | .ref i=>(match h[i]? with | some (.lst _)=>true | _=>false) | .rol _=>true | _=>false
def sML(g:D->List D->Hd->R D)(f:SE)(k:SA):SE:=λτ h=>(f τ h).bind λd h1=>if isL d h1=true then (k τ h1).bind λds h2=>g d ds h2 else .no
theorem ars(r:Rep K ι H x d)(hr:HRep K ι H h)(e:isL d h=true):tyV K "list" x H:=by
 cases r with
 | rol hp _=>exact .inl ⟨rfl,_,hp.l⟩
 | ref hp =>
  obtain ⟨ob,e1,e2⟩:=hr.at hp
  cases ob with
  | lst xs=>obtain ⟨vs,h3,_⟩:=e2;exact .inl ⟨rfl,_,SqL.of h3⟩
  | dK _=>simp [isL,e1] at e
  | dT _=>simp [isL,e1] at e
 | _=>cases e
theorem ag3(slot:Slot "list" name idn)(hty:typeOf (.builtin idn)=pure (.type "method_descriptor"))(hm:MtR X idn r)(hs:apu X.K g r)(ho:ME X E o fo)(ha:MA X E (e::es) ka)
  (hbase:attributeBase o name X.env (eval o X.env)=eval o X.env:=by rfl)
  (hfew:((backTo cpos (starEach (e::es) X.env)).all (λx => !x.1) && (backToKw cpos (keywordEach [] X.env)).all (λx=>x.1.isSome)
   && decide ((e::es).length+([]:List Keyword).length+(if ([]:List Keyword).isEmpty then 0 else 1)<30))=true:=by rfl)
  (hline:(apos.endLine == cpos.line)=true:=by rfl) (hst:starEach (e::es) X.env=(false,eval e X.env)::starEach es X.env:=by rfl) (hplain:(backTo cpos (starEach es X.env)).any (·.1)=false:=by rfl) :
  ME X E (.Call (.Attribute o name apos) (e::es) [] cpos) (sML g fo ka):=by
 refine PE.weak (avo PySem.F.plainAttrs_list slot hty hm ho ha hbase hfew hline hst hplain) λσ H Q ⟨ι,τ,h,S,Rh,o⟩=>?_;refine ⟨ι,τ,h,S,Rh,ik o λd h1 ι1 H1 v g1 r1 hr1 o1=>?_⟩
 by_cases hc:isL d h1=true
 ·rw [aA hc] at o1;refine ⟨ars r1 hr1 hc,ι1,τ,h1,S.mono g1,hr1,ik o1 λds h2 ι2 H2 vs g2 r2 hr2 o2=>?_⟩;exact hs E ι2 H2 h2 v d vs ds Q (r1.mono g2) r2 hr2 o2
 ·rw [aL hc] at o1;exact o1.elim
def aet:D->List D->Hd->R D
 | .ref i,[y],h=>(match h[i]? with | some (.lst xs)=>if xs.length<LINE then .ok .non (h.set i (.lst (xs++[y]))) else .no | _=>.no)
 | _,_,_=>.no
theorem a7u:apu K aet afh:=by
 intro E ι H h x dx xs ds Q rx r hr o
 unfold aet at o
 split at o
 ·rename_i i y
  cases rx with
  | @ref p _ hp =>
   cases r with
   | cons r1 rs =>
    cases rs
    split at o
    ·rename_i xs hx;obtain ⟨vs,h3,h4⟩:=hr.lst hp hx
     split at o
     ·rename_i hc;exact ⟨p,vs,_,rfl,rfl,h3,by rw [h4.len,avq];exact hc,a7n (h4.snoc r1) hr hp .non o⟩
     ·exact o.elim
    ·exact o.elim
 ·exact o.elim
def sMS(g:D->List D->Hd->R D)(f:SE)(k:SA):SE:=λτ h=>(f τ h).bind λd h1=>match d with | .str z=>(k τ h1).bind λds h2=>g (.str z) ds h2 | _=>.no
theorem ajl(slot:Slot "str" name idn)(hty:typeOf (.builtin idn)=pure (.type "method_descriptor"))(hm:MtR X idn r)(hs:apu X.K g r)(ho:ME X E o fo)(ha:MA X E (e::es) ka)
  (hbase:attributeBase o name X.env (eval o X.env)=eval o X.env:=by rfl)
  (hfew:((backTo cpos (starEach (e::es) X.env)).all (λx => !x.1) && (backToKw cpos (keywordEach [] X.env)).all (λx=>x.1.isSome)
   && decide ((e::es).length+([]:List Keyword).length+(if ([]:List Keyword).isEmpty then 0 else 1)<30))=true:=by rfl)
  (hline:(apos.endLine == cpos.line)=true:=by rfl) (hst:starEach (e::es) X.env=(false,eval e X.env)::starEach es X.env:=by rfl) (hplain:(backTo cpos (starEach es X.env)).any (·.1)=false:=by rfl) :
  ME X E (.Call (.Attribute o name apos) (e::es) [] cpos) (sMS g fo ka):=by
 refine PE.weak (avs slot hty hm ho ha hbase hfew hline hst hplain) λσ H Q ⟨ι,τ,h,S,Rh,o⟩=>?_;refine ⟨ι,τ,h,S,Rh,ik o λd h1 ι1 H1 v g1 r1 hr1 o1=>?_⟩
 cases r1 with
 | str z=>exact ⟨⟨z,rfl⟩,ι1,τ,h1,S.mono g1,hr1,ik o1 λds h2 ι2 H2 vs g2 r2 hr2 o2=>hs E ι2 H2 h2 _ _ vs ds Q (.str z) r2 hr2 o2⟩
 | _=>exact o1.elim
def ac8:D->List D->Hd->R D
 | .str T,[.str z],h=>(match z.cps.toList with | [c]=>if c∈T.cps.toList then .ok (.int (a9e T c)) h else .no | _=>.no)
 | _,_,_=>.no
theorem ag4:apu K ac8 (λx xs H Q=>∃ T c,x = .str T/\xs=[.str ⟨#[c]⟩]/\c∈T.cps.toList/\Q (.int (a9e T c)) H):=by
 intro E ι H h x dx xs ds Q rx r hr o
 unfold ac8 at o
 split at o
 ·cases rx
  cases r with
  | cons r1 rs =>
   cases r1;cases rs
   split at o
   ·rename_i c hz
    split at o
    ·rename_i hc;exact ⟨_,c,rfl,by rw [one_sign hz],hc,ans o (.int _) hr⟩
    ·exact o.elim
   ·exact o.elim
 ·exact o.elim
def aax:List D->Option (List Str)
 | []=>some []
 | .str z::r=>(aax r).map (z::·)
 | _::_=>none
theorem a7v:∀ {vs:List V} {xs:List D} {zs:List Str},Reps K ι H vs xs->aax xs=some zs->vs=zs.map V.str
 | _,_,_, .nil,e=>by cases e;rfl
 | _,_,zs, .cons (d:=d) r rs,e=>by
  cases r with
  | str z =>
   simp only [aax,aO] at e;obtain ⟨ws,h1,rfl⟩:=e;rw [a7v rs h1];rfl
  | _=>cases e
def a6l:D->List D->Hd->R D
 | .str sep,[.ref i],h=>(match h[i]? with | some (.lst xs)=>(match aax xs with | some zs=>if (zs.map (·.length)).sum+zs.length*sep.length<=16777216 then .ok (.str (Txt.join sep zs)) h else .no | none=>.no) | _=>.no)
 | .str sep,[.rol xs],h=>(match aax xs with | some zs=>if (zs.map (·.length)).sum+zs.length*sep.length<=16777216 then .ok (.str (Txt.join sep zs)) h else .no | none=>.no)
 | _,_,_=>.no
theorem a7w:apu K a6l (λx xs H Q=>∃ sep p zs,x = .str sep/\xs=[.ref p]/\SqL K H p (zs.map V.str)/\(zs.map (·.length)).sum+zs.length*sep.length<=16777216/\Q (.str (Txt.join sep zs)) H):=by
 intro E ι H h x dx xs ds Q rx r hr o
 unfold a6l at o
 split at o
 ·rename_i sep i;cases rx
  cases r with
  | cons r1 rs =>
   cases rs
   cases r1 with
   | @ref p _ hp =>
    split at o
    ·rename_i xs hx;obtain ⟨vs,h3,h4⟩:=hr.lst hp hx
     split at o
     ·rename_i zs hz
      split at o
      ·rename_i hc;exact ⟨sep,p,zs,rfl,rfl,SqL.of (by rw [h3,a7v h4 hz]),hc,ans o (.str _) hr⟩
      ·exact o.elim
     ·exact o.elim
    ·exact o.elim
 ·rename_i sep xs;cases rx
  cases r with
  | cons r1 rs =>
   cases rs
   cases r1 with
   | @rol p vs xs hp r =>
    split at o
    ·rename_i zs hz
     split at o
     ·rename_i hc;exact ⟨sep,p,zs,rfl,rfl,by rw [<-a7v r hz];exact hp.l,hc,ans o (.str _) hr⟩
     ·exact o.elim
    ·exact o.elim
 ·exact o.elim
def art:List D->Hd->R D
 | [.str z],h=>if z.length<=LINE then .ok (.ref h.length) (h++[.lst (a0o z)]) else .no
 | [x],h=>(match a07 x h with | some xs=>.ok (.ref h.length) (h++[.lst xs]) | none=>.no)
 | _,_=>.no
theorem a6w(z:Str):Reps K ι H (a0h z) (a0o z):=by
 unfold a0h a0o
 induction z.cps.toList with
 | nil=>exact .nil
 | cons c cs ih=>exact .cons (.str _) ih
def xn:List D->Hd->R D
 | [.str z],h=>if z.length<=LINE then .ok (.tup (a0o z)) h else .no
 | [x],h=>(match a07 x h with | some xs=>.ok (.tup xs) h | none=>.no)
 | _,_=>.no
theorem a2r:afn K xn (λxs H Q=>(∃ p ys,xs=[.ref p]/\((SqL K H p ys/\∀ l,H l=none->Q (.ref l) (upd H l (.tup ys)))\/(SqT K H p ys/\Q (.ref p) H)))\/∃ z,xs=[.str z]/\z.length<=sizeLine/\∀ l,H l=none->Q (.ref l) (upd H l (.tup (a0h z)))):=by
 intro E ι H h xs ds Q r hr o
 cases r with
 | nil=>exact o.elim
 | cons r rs =>
  cases rs with
  | cons _ _=>exact (show False by cases r<;>exact o).elim
  | nil =>
   cases r with
   | str z =>
    by_cases hc:z.length<=LINE
    ·simp only [xn,aA hc] at o;exact .inr ⟨z,rfl,ll hc,a06 (a6w z) hr o⟩
    ·simp only [xn,aL hc] at o;exact o.elim
   | @tup p vs xs hp r=>simp only [xn,a07] at o;exact .inl ⟨p,vs,rfl, .inr ⟨SqT.of hp,ans o (.tup hp r) hr⟩⟩
   | @rol p vs xs hp r=>simp only [xn,a07] at o;exact .inl ⟨p,vs,rfl, .inl ⟨hp.l,a06 r hr o⟩⟩
   | @ref p j hp =>
    obtain ⟨ob,e1,e2⟩:=hr.at hp
    cases ob with
    | lst xs =>
     simp only [xn,a07,e1] at o;obtain ⟨vs,h3,h4⟩:=e2;exact .inl ⟨p,vs,rfl, .inl ⟨SqL.of h3,a06 h4 hr o⟩⟩
    | dK _=>simp only [xn,a07,e1] at o;exact o.elim
    | dT _=>simp only [xn,a07,e1] at o;exact o.elim
   | _=>exact o.elim
def a3m:List D->Option (List Int)
 | []=>some []
 | .int z::r=>(a3m r).map (z::·)
 | _::_=>none
theorem a1d:∀ {vs:List V} {xs:List D} {zs:List Int},Reps K ι H vs xs->a3m xs=some zs->vs=zs.map V.int
 | _,_,_, .nil,e=>by cases e;rfl
 | _,_,zs, .cons (d:=d) r rs,e=>by
  cases r with
  | int z =>
   simp only [a3m,aO] at e;obtain ⟨ws,h1,rfl⟩:=e;rw [a1d rs h1];rfl
  | _=>cases e
def amd:List D->Hd->R D
 | [.ref i],h=>(match h[i]? with | some (.lst xs)=>(match a3m xs with | some bs=>.ok (.int bs.sum) h | none=>.no) | _=>.no)
 | [.rol xs],h=>(match a3m xs with | some bs=>.ok (.int bs.sum) h | none=>.no)
 | _,_=>.no
theorem ag5:afn K amd (λxs H Q=>∃ (p:Addr) (ns:List Int),xs=[.ref p]/\SqL K H p (ns.map V.int)/\Q (.int ns.sum) H):=by
 intro E ι H h xs ds Q r hr o
 unfold amd at o
 split at o
 ·cases r with
  | cons r rs =>
   cases rs
   cases r with
   | @ref p _ hp =>
    split at o
    ·rename_i xs hx;obtain ⟨vs,h3,h4⟩:=hr.lst hp hx
     split at o
     ·rename_i bs hb;exact ⟨p,bs,rfl,SqL.of (by rw [h3,a1d h4 hb]),ans o (.int _) hr⟩
     ·exact o.elim
    ·exact o.elim
 ·cases r with
  | cons r rs =>
   cases rs
   cases r with
   | @rol p vs xs hp r =>
    split at o
    ·rename_i bs hb;exact ⟨p,bs,rfl,by rw [<-a1d r hb];exact hp.l,ans o (.int _) hr⟩
    ·exact o.elim
 ·exact o.elim
end
end MI
theorem L2.Room.u(r:L2.Room k A):A.units+64<PySem.cLine:=r.units
namespace MI
open PySem PySem.Spec L2
mutual
def eqD:D->D->Bool
 | .non, .non=>true
 | .bl a, .bl b=>a == b
 | .bl a, .int b=>(if a then 1 else 0) == b
 | .int a, .bl b=>a == (if b then 1 else 0)
 | .int a, .int b=>a == b
 | .str a, .str b=>a == b
 | .tup xs, .tup ys=>aak xs ys
 | _,_=>false
def aak:List D->List D->Bool
 | [],[]=>true
 | x::xs,y::ys=>eqD x y && aak xs ys
 | _,_=>false
end
def pur:Nat->D->Bool
 | _, .non=>true
 | _, .bl _=>true
 | _, .int _=>true
 | _, .str _=>true
 | n+1, .tup xs=>xs.all (pur n)
 | _,_=>false
theorem ag6:∀ {m:Nat} {d:D},n<=m->pur n d=true->pur m d=true:=by
 induction n with
 | zero=>intro m d _ h;cases d<;>first | (cases m<;>rfl) | (cases h;done)
 | succ n ih =>
  intro m d hm h
  cases m with
  | zero=>omega
  | succ m =>
   cases d with
   | tup xs =>
    simp only [pur,br] at h ⊢;exact λx hx=>ih (by omega) (h x hx)
   | _=>first | rfl | (cases h;done)
def pairE(xs ys:List D)(j:Nat):Bool:=match xs[j]?,ys[j]? with | some x,some y=>eqD x y | _,_=>false
theorem a2s:∀ xs ys:List D,((List.range (min xs.length ys.length)).all (pairE xs ys) && xs.length == ys.length)=aak xs ys
 | [],[]=>by simp [aak]
 | [],_::_=>by simp [aak]
 | _::_,[]=>by simp [aak]
 | x::xs,y::ys=>by
  have ih:=a2s xs ys;rw [show min (x::xs).length (y::ys).length=min xs.length ys.length+1 by simp only [aS];omega,cQ]
  rw [eC,List.all_map];have e:(pairE (x::xs) (y::ys) ∘ Nat.succ)=pairE xs ys:=by funext j;simp [pairE]
  rw [e];simp only [aak];rw [<-ih];have e2:((x::xs).length == (y::ys).length)=(xs.length == ys.length):=by simp
  rw [e2,Bool.and_assoc];rfl
section
variable{K:PySem.W.Frag}{ι:List Addr}{H:Hp}
theorem ajm:∀ (n:Nat) {v:V} {d e:D},Rep K ι H v d->Rep K ι H v e->pur n d=true->pur n e=true->eqD d e=true:=by
 intro n
 induction n with
 | zero=>intro v d e r q p1 p2;cases r<;>cases q<;>first | (simp [eqD];done) | (cases p1;done) | (cases p2;done)
 | succ n ih =>
  intro v d e r q p1 p2
  cases r with
  | @tup a vs xs h rs =>
   cases q with
   | @tup _ us ys h' qs =>
    rw [h] at h';cases h'
    simp only [eqD];simp only [pur,br] at p1 p2
    clear h
    induction rs using Reps.rec (motive_1:=λ_ _ _=>True) generalizing ys with
    | nil=>cases qs;rfl
    | cons r rs _ ih2 =>
     cases qs with
     | cons q qs =>
      simp only [aak,bV];exact ⟨ih r q (p1 _ (aF ..)) (p2 _ (aF ..)),ih2 qs (λx hx=>p1 x (aC _ hx)) (λx hx=>p2 x (aC _ hx))⟩
    | _=>trivial
   | _=>cases p2
  | _=>cases q<;>first | (simp [eqD];done) | (cases p1;done) | (cases p2;done)
theorem a4d(r:Rep K ι H v d)(p:pur n d=true):(∃ xs,d = .tup xs)\/(a2b v=true/\zj d=true):=by
 cases r<;>first | exact .inr ⟨rfl,rfl⟩ | exact .inl ⟨_,rfl⟩ | (cases n<;>cases p)
theorem a7x(r:Rep K ι H x d)(q:Rep K ι H y e)(f:zj d=true)(g:zj e=true):eqV x y=eqD d e:=by
 cases r<;>cases q<;>first | rfl | (simp [eqV,eqD];done) | (cases f;done) | (cases g;done)
open SeqAt in
theorem ame{s:Shared}(hok:HOk P w H s.heap):∀ (n:Nat) (A:Around) {x y:V} {u v:Value} {d e:D},Rep K ι H x d->Rep K ι H y e->RelV x u->RelV y v->pur n d=true->pur n e=true->A.units+n<cLine->EqAt A s u v (eqD d e):=by
 intro n
 induction n with
 | zero =>
  intro A x y u v d e r q rx ry p1 p2 hu
  rcases a4d r p1 with ⟨xs,rfl⟩ | ⟨f1,f2⟩
  ·cases p1
  ·rcases a4d q p2 with ⟨xs,rfl⟩ | ⟨g1,g2⟩
   ·cases p2
   ·rw [<-a7x r q f2 g2];exact afg rx ry f1 g1
 | succ n ih =>
  intro A x y u v d e r q rx ry p1 p2 hu
  rcases a4d r p1 with ⟨xs,rfl⟩ | ⟨f1,f2⟩
  ·cases r with
   | @tup a vs _ ha rs =>
    cases rx
    obtain ⟨_,its,r1,t1⟩:=(Rd.of ha).ok hok
    rcases a4d q p2 with ⟨ys,rfl⟩ | ⟨g1,g2⟩
    ·cases q with
     | @tup b us _ hb qs =>
      cases ry
      obtain ⟨_,its2,r2,t2⟩:=(Rd.of hb).ok hok
      by_cases hab:a=b
      ·subst hab;rw [ajm (n+1) (.tup ha rs) (.tup hb qs) p1 p2];exact EqAt.same _
      ·have l1:its.toArray.size=xs.length:=by rw [ay,<-r1.length,rs.len]
       have l2:its2.toArray.size=ys.length:=by rw [ay,<-r2.length,qs.len]
       have:=RcAt.tuples (A:=A) (s:=s) (e:=pairE xs ys) t1 t2 (by omega) (λj h1 h2=>by
        have j1:j<xs.length:=by omega
        have j2:j<ys.length:=by omega
        obtain ⟨v1,e1,q1⟩:=rs.get (ad j1);obtain ⟨v2,e2,q2⟩:=qs.get (ad j2);obtain ⟨u1,e3,q3⟩:=r1.get e1;obtain ⟨u2,e4,q4⟩:=r2.get e2;have f1:its.toArray[j]=u1:=by simpa using (ah.mp e3).2
        have f2:its2.toArray[j]=u2:=by simpa using (ah.mp e4).2
        have pe:pairE xs ys j=eqD xs[j] ys[j]:=by simp [pairE,ad j1,ad j2]
        rw [f1,f2,pe];simp only [pur,br] at p1 p2;exact ih A.in1 q1 q2 q3 q4 (p1 _ (aX j1)) (p2 _ (aX j2)) (by rw [gM];omega))
       rw [l1,l2,a2s] at this;exact EqAt.of_refs hab this
    ·have e0:eqD (.tup xs) e=false:=by cases e<;>first | rfl | (cases g2;done)
     rw [e0]
     cases y with
     | non=>cases ry;exact EqAt.tuple_none t1 (by omega)
     | bl b=>cases ry;exact EqAt.tuple_bool b t1 (by omega)
     | int b=>obtain ⟨t,rfl⟩:=ry;exact EqAt.tuple_int b t t1 (by omega)
     | str b=>obtain ⟨t,rfl⟩:=ry;exact EqAt.tuple_str b t t1 (by omega)
     | _=>cases g1
  ·rcases a4d q p2 with ⟨ys,rfl⟩ | ⟨g1,g2⟩
   ·cases q with
    | @tup b us _ hb qs =>
     cases ry
     obtain ⟨_,its2,r2,t2⟩:=(Rd.of hb).ok hok;have e0:eqD d (.tup ys)=false:=by cases d<;>first | rfl | (cases f2;done)
     rw [e0]
     cases x with
     | non=>cases rx;exact EqAt.none_tuple t2 (by omega)
     | bl b=>cases rx;exact EqAt.bool_tuple b t2 (by omega)
     | int b=>obtain ⟨t,rfl⟩:=rx;exact EqAt.int_tuple b t t2 (by omega)
     | str b=>obtain ⟨t,rfl⟩:=rx;exact EqAt.str_tuple b t t2 (by omega)
     | _=>cases f1
   ·rw [<-a7x r q f2 g2];exact afg rx ry f1 g1
open SeqAt in
theorem aru(ry:RelV y u)(rx:RelV x v)(fy:a2b y=true)(fx:a2b x=true):RcAt A s u v (eqV y x):=by
 cases y with
 | non =>
  cases ry
  cases x with
  | non=>cases rx;exact RcAt.none_none
  | bl b=>cases rx;exact RcAt.none_bool b
  | int b=>obtain ⟨t,rfl⟩:=rx;exact RcAt.none_int b t
  | str b=>obtain ⟨t,rfl⟩:=rx;exact RcAt.none_str b t
  | _=>cases fx
 | bl a =>
  cases ry
  cases x with
  | non=>cases rx;exact RcAt.bool_none a
  | bl b=>cases rx;exact RcAt.bool_bool a b
  | int b=>obtain ⟨t,rfl⟩:=rx;exact RcAt.bool_int a b t
  | str b=>obtain ⟨t,rfl⟩:=rx;exact RcAt.bool_str a b t
  | _=>cases fx
 | int a =>
  obtain ⟨t',rfl⟩:=ry
  cases x with
  | non=>cases rx;exact RcAt.int_none a t'
  | bl b=>cases rx;exact RcAt.int_bool a t' b
  | int b=>obtain ⟨t,rfl⟩:=rx;exact RcAt.int_int a t' b t
  | str b=>obtain ⟨t,rfl⟩:=rx;exact RcAt.int_str a t' b t
  | _=>cases fx
 | str a =>
  obtain ⟨t',rfl⟩:=ry
  cases x with
  | non=>cases rx;exact RcAt.str_none a t'
  | bl b=>cases rx;exact RcAt.str_bool a t' b
  | int b=>obtain ⟨t,rfl⟩:=rx;exact RcAt.str_int a t' b t
  | str b=>obtain ⟨t,rfl⟩:=rx;exact RcAt.str_str a t' b t
  | _=>cases fx
 | _=>cases fy
open SeqAt in
theorem ajn(ry:RelV y u)(rx:RelV x v)(fy:a2b y=true)(fx:a2b x=true):RcNeAt A s u v (!eqV y x):=by
 cases y with
 | non =>
  cases ry
  cases x with
  | non=>cases rx;exact RcNeAt.none_none
  | bl b=>cases rx;exact RcNeAt.none_bool b
  | int b=>obtain ⟨t,rfl⟩:=rx;exact RcNeAt.none_int b t
  | str b=>obtain ⟨t,rfl⟩:=rx;exact RcNeAt.none_str b t
  | _=>cases fx
 | bl a =>
  cases ry
  cases x with
  | non=>cases rx;exact RcNeAt.bool_none a
  | bl b=>cases rx;exact RcNeAt.bool_bool a b
  | int b=>obtain ⟨t,rfl⟩:=rx;exact RcNeAt.bool_int a b t
  | str b=>obtain ⟨t,rfl⟩:=rx;exact RcNeAt.bool_str a b t
  | _=>cases fx
 | int a =>
  obtain ⟨t',rfl⟩:=ry
  cases x with
  | non=>cases rx;exact RcNeAt.int_none a t'
  | bl b=>cases rx;exact RcNeAt.int_bool a t' b
  | int b=>obtain ⟨t,rfl⟩:=rx;exact RcNeAt.int_int a t' b t
  | str b=>obtain ⟨t,rfl⟩:=rx;exact RcNeAt.int_str a t' b t
  | _=>cases fx
 | str a =>
  obtain ⟨t',rfl⟩:=ry
  cases x with
  | non=>cases rx;exact RcNeAt.str_none a t'
  | bl b=>cases rx;exact RcNeAt.str_bool a t' b
  | int b=>obtain ⟨t,rfl⟩:=rx;exact RcNeAt.str_int a t' b t
  | str b=>obtain ⟨t,rfl⟩:=rx;exact RcNeAt.str_str a t' b t
  | _=>cases fx
 | _=>cases fy
open SeqAt in
theorem tops{s:Shared}{A:Around}(hok:HOk P w H s.heap)(r:Rep K ι H x d)(q:Rep K ι H y e)(rx:RelV x u)(ry:RelV y v)(p1:pur 60 d=true)(p2:pur 60 e=true)(hu:A.units+64<cLine) :
  RcAt A s u v (eqD d e)/\RcNeAt A s u v (!eqD d e):=by
 rcases a4d r p1 with ⟨xs,rfl⟩ | ⟨f1,f2⟩
 ·cases r with
  | @tup a vs _ ha rs =>
   cases rx
   obtain ⟨_,its,r1,t1⟩:=(Rd.of ha).ok hok
   rcases a4d q p2 with ⟨ys,rfl⟩ | ⟨g1,g2⟩
   ·cases q with
    | @tup b us _ hb qs =>
     cases ry
     obtain ⟨_,its2,r2,t2⟩:=(Rd.of hb).ok hok;have l1:its.toArray.size=xs.length:=by rw [ay,<-r1.length,rs.len]
     have l2:its2.toArray.size=ys.length:=by rw [ay,<-r2.length,qs.len]
     have step:∀ j (h1:j<its.toArray.size) (h2:j<its2.toArray.size),EqAt A.in1 s its.toArray[j] its2.toArray[j] (pairE xs ys j):=λj h1 h2=>by
      have j1:j<xs.length:=by omega
      have j2:j<ys.length:=by omega
      obtain ⟨v1,e1,q1⟩:=rs.get (ad j1);obtain ⟨v2,e2,q2⟩:=qs.get (ad j2);obtain ⟨u1,e3,q3⟩:=r1.get e1;obtain ⟨u2,e4,q4⟩:=r2.get e2;have f1:its.toArray[j]=u1:=by simpa using (ah.mp e3).2
      have f2:its2.toArray[j]=u2:=by simpa using (ah.mp e4).2
      have pe:pairE xs ys j=eqD xs[j] ys[j]:=by simp [pairE,ad j1,ad j2]
      rw [f1,f2,pe];simp only [pur,br] at p1 p2;exact ame hok 59 A.in1 q1 q2 q3 q4 (p1 _ (aX j1)) (p2 _ (aX j2)) (by rw [gM];omega)
     have c1:=RcAt.tuples (A:=A) (s:=s) (e:=pairE xs ys) t1 t2 (by omega) step
     have c2:=RcNeAt.tuples (A:=A) (s:=s) (e:=pairE xs ys) t1 t2 (by omega) step
     rw [l1,l2,a2s] at c1 c2;exact ⟨c1,c2⟩
   ·have e0:eqD (.tup xs) e=false:=by cases e<;>first | rfl | (cases g2;done)
    rw [e0]
    cases y with
    | non=>cases ry;exact ⟨RcAt.tuple_none t1 (by omega),RcNeAt.tuple_none t1 (by omega)⟩
    | bl b=>cases ry;exact ⟨RcAt.tuple_bool b t1 (by omega),RcNeAt.tuple_bool b t1 (by omega)⟩
    | int b=>obtain ⟨t,rfl⟩:=ry;exact ⟨RcAt.tuple_int b t t1 (by omega),RcNeAt.tuple_int b t t1 (by omega)⟩
    | str b=>obtain ⟨t,rfl⟩:=ry;exact ⟨RcAt.tuple_str b t t1 (by omega),RcNeAt.tuple_str b t t1 (by omega)⟩
    | _=>cases g1
 ·rcases a4d q p2 with ⟨ys,rfl⟩ | ⟨g1,g2⟩
  ·cases q with
   | @tup b us _ hb qs =>
    cases ry
    obtain ⟨_,its2,r2,t2⟩:=(Rd.of hb).ok hok;have e0:eqD d (.tup ys)=false:=by cases d<;>first | rfl | (cases f2;done)
    rw [e0]
    cases x with
    | non=>cases rx;exact ⟨RcAt.none_tuple t2 (by omega),RcNeAt.none_tuple t2 (by omega)⟩
    | bl b=>cases rx;exact ⟨RcAt.bool_tuple b t2 (by omega),RcNeAt.bool_tuple b t2 (by omega)⟩
    | int b=>obtain ⟨t,rfl⟩:=rx;exact ⟨RcAt.int_tuple b t t2 (by omega),RcNeAt.int_tuple b t t2 (by omega)⟩
    | str b=>obtain ⟨t,rfl⟩:=rx;exact ⟨RcAt.str_tuple b t t2 (by omega),RcNeAt.str_tuple b t t2 (by omega)⟩
    | _=>cases f1
  ·rw [<-a7x r q f2 g2];exact ⟨aru rx ry f1 g1,ajn rx ry f1 g1⟩
def awm(K:PySem.W.Frag):R2:=λx y H Q=>∃ ι d e,Rep K ι H x d/\Rep K ι H y e/\pur 60 d=true/\pur 60 e=true/\Q (.bl (eqD d e)) H
def awn(K:PySem.W.Frag):R2:=λx y H Q=>∃ ι d e,Rep K ι H x d/\Rep K ι H y e/\pur 60 d=true/\pur 60 e=true/\Q (.bl (!eqD d e)) H
theorem my{X:Cx}(hu:X.A.units+64<cLine):OpR X (compareOp .Eq) (awm X.K):=by
 intro pins s σ H x y v u Q I rx ry h
 obtain ⟨ι,d,e,r,q,p1,p2,hq⟩:=h;exact (tops (A:=X.A) I.hok r q rx ry p1 p2 hu).1 X.prog X.w X.xe _ ⟨.bl _,H,I,rfl,hq⟩
theorem amf{X:Cx}(hu:X.A.units+64<cLine):OpR X (compareOp .NotEq) (awn X.K):=by
 intro pins s σ H x y v u Q I rx ry h
 obtain ⟨ι,d,e,r,q,p1,p2,hq⟩:=h;exact (tops (A:=X.A) I.hok r q rx ry p1 p2 hu).2 X.prog X.w X.xe _ ⟨.bl _,H,I,rfl,hq⟩
def hEq(x y:D)(h:Hd):R D:=if pur 60 x=true/\pur 60 y=true then .ok (.bl (eqD x y)) h else .no
def hNe(x y:D)(h:Hd):R D:=if pur 60 x=true/\pur 60 y=true then .ok (.bl (!eqD x y)) h else .no
theorem jw:a2g K hEq (awm K):=by
 intro E ι H h x y dx dy Q rx ry hr o
 unfold hEq at o
 split at o
 ·rename_i hc;exact ⟨ι,dx,dy,rx,ry,hc.1,hc.2,ans o (.bl _) hr⟩
 ·exact o.elim
theorem ag7:a2g K hNe (awn K):=by
 intro E ι H h x y dx dy Q rx ry hr o
 unfold hNe at o
 split at o
 ·rename_i hc;exact ⟨ι,dx,dy,rx,ry,hc.1,hc.2,ans o (.bl _) hr⟩
 ·exact o.elim
end
section
variable{X:Cx}{E:XD}{K:PySem.W.Frag}
def ao4:SE:=λ_ h=>.ok (.ref h.length) (h++[.dK []])
def a0p:D->D->Hd->R D
 | .int i, .int j,h=>.ok (.int (i+j)) h
 | .str x, .str y,h=>if x.length+y.length<=LINE then .ok (.str (x++y)) h else .no
 | _,_,_=>.no
theorem a1e:a2g K a0p (λx y H Q=>rI0 (λi j=>.int (i+j)) x y H Q\/∃ i j,x = .str i/\y = .str j/\i.length+j.length<=sizeLine/\Q (.str (i++j)) H):=by
 intro E ι H h x y dx dy Q rx ry hr o
 cases rx with
 | int i =>
  cases ry with
  | int j=>exact .inl ⟨i,j,rfl,rfl,ans o (.int _) hr⟩
  | _=>exact o.elim
 | str i =>
  cases ry with
  | str j =>
   by_cases hc:i.length+j.length<=LINE
   ·simp only [a0p,aA hc] at o;exact .inr ⟨i,j,rfl,rfl,ll hc,ans o (.str _) hr⟩
   ·simp only [a0p,aL hc] at o;exact o.elim
  | _=>exact o.elim
 | _=>exact o.elim
theorem arv:bootBuiltins "max" = some (.builtin "max"):=by first | exact PySem.boot_max | exact PyProof.Rows.boot_max
theorem ao5:bootBuiltins "bool" = some (.type "bool"):=by first | exact PySem.boot_bool | exact PyProof.Rows.boot_bool
theorem amg:bootBuiltins "sum" = some (.builtin "sum"):=by first | exact PySem.boot_sum | exact PyProof.Rows.boot_sum
theorem zb(h1:MG X E e g)(h2:MGs X E es ks)(hs:(assignEach (e::es) X.env).map (·.2)=assign e X.env::(assignEach es X.env).map (·.2):=by rfl):MGs X E (e::es) (ug g ks) :=
 PGs.weak (a7d h1 h2 hs) λvs σ H Q q=>ajg q
end
end MI
namespace ZP
open PySem PySem.Spec PySem.Builtin PySem.Builtin.SmallTypes
section
variable{prog:Program}{w:World}{A:Around}{E:Value->Shared->Prop}{s:Shared}
theorem ao6{α:Type}{Q:α->Shared->Prop}(hh:A.handled=none)(q:∀ h' e,(∀ b o,s.heap.get? b=some o->h'.get? b=some o)->(∃ o,h'.get? e=some o/\o.cls = .type "StopIteration")->E (.ref e) { s with heap:=h' }) :
  wpAny (model prog w) A (stopIteration:Sem α) Q E s:=by
 have none_first:firstArgMember (.type "StopIteration") []=pure Value.none:=by first | rfl | (simp only [firstArgMember];rfl)
 rw [stopIteration]
 apply ae
 rw [newExc,newTuple]
 apply ae
 apply cf _ (by size_fits)
 rw [none_first,pure_bind]
 apply cf _ (by size_fits)
 apply wpAny_raiseNew_none hh
 exact q _ _ (λb o z=>ai _ (ai _ z)) ⟨_,aK _ rfl,rfl⟩
theorem ajo(hi:s.heap.IsTupleIter it t i)(ht:s.heap.IsTuple t items)(hx:items[i]? = some x)
  (q:∀ h',h'.IsTupleIter it t (i+1)->Heap.SameBut it s.heap h'->Q x { s with heap:=h' }):wpAny (model prog w) A (nextOf (.ref it)) Q E s:=by
 have ty:=hi.typeIs;obtain ⟨o,e1,e2,e3⟩:=id hi;obtain ⟨p,f1,f2,n,f3⟩:=ht;rw [nextOf]
 apply ae
 apply ci (name:=Str.ofString "__next__") ty cT
 apply bU cT ty fD _ (fv _)
 change wpAny (model prog w) A.in1 (field (.ref it) 0>>=_) _ _ _
 apply ae;apply eJ e1 e3 (x:=.ref t) rfl
 change wpAny (model prog w) A.in1 (field (.ref it) 1>>=_) _ _ _
 apply ae;apply eJ e1 e3 (x:=.int i 0) rfl
 change wpAny (model prog w) A.in1 (seqItems? (.ref t)>>=_) _ _ _
 apply ae;apply wpAny_seqItems f1 f3
 dsimp only;rw [cC,hx]
 apply ae
 obtain ⟨c,dd,dt,sl⟩:=o;simp only at e2 e3;subst e2 e3
 apply wpAny_setField e1 rfl (eY 1)
 apply aw
 exact ⟨x,rfl,aw (q _ ⟨_,cH _ e1 rfl,rfl,rfl⟩ (bM ..))⟩
theorem ao7{it t:Addr}{i:Nat}{items:Array Value}{Q:Value->Shared->Prop}(hh:A.handled=none)(hi:s.heap.IsTupleIter it t i)(ht:s.heap.IsTuple t items)(hx:items[i]? = none)
  (q:∀ h' e,Heap.ExtBut it s.heap h'->(∃ o,h'.get? e=some o/\o.cls = .type "StopIteration")->E (.ref e) { s with heap:=h' }):wpAny (model prog w) A (nextOf (.ref it)) Q E s:=by
 have ty:=hi.typeIs;obtain ⟨o,e1,e2,e3⟩:=id hi;obtain ⟨p,f1,f2,n,f3⟩:=ht;rw [nextOf]
 apply ae
 apply ci (name:=Str.ofString "__next__") ty cT
 apply bU cT ty fD _ (fv _)
 change wpAny (model prog w) A.in1 (field (.ref it) 0>>=_) _ _ _
 apply ae;apply eJ e1 e3 (x:=.ref t) rfl
 change wpAny (model prog w) A.in1 (field (.ref it) 1>>=_) _ _ _
 apply ae;apply eJ e1 e3 (x:=.int i 0) rfl
 change wpAny (model prog w) A.in1 (seqItems? (.ref t)>>=_) _ _ _
 apply ae;apply wpAny_seqItems f1 f3
 dsimp only;rw [cC,hx];dsimp only;obtain ⟨c,dd,dt,sl⟩:=o;simp only at e2 e3;subst e2 e3
 apply ae;apply eL
 apply ae;apply wpAny_setField e1 rfl (dG 1)
 apply ao6 (show A.in1.handled=none from hh)
 exact λh' e k z=>q h' e (λb o nb eb=>k b o ((bM ..).extBut b o nb eb)) z
theorem ag8{A:Around}(hh:A.handled=none)(it t:Addr)(ne:t≠it)(items:Array Value):Draws prog w A it [it,t] items.size (λi v=>items[i]? = some v) (λi h=>h.IsTupleIter it t i/\h.IsTuple t items) where
 live:=λ_ _ st=>let ⟨o,e,_⟩:=st.1; ⟨o,e⟩
 frame:=λ_ _ _ st k=>⟨let ⟨o,e,r⟩:=st.1; ⟨o,k it (by simp) o e,r⟩,let ⟨o,e,r⟩:=st.2; ⟨o,k t (by simp) o e,r⟩⟩
 item:=λi s Q E hi st q=>ajo st.1 st.2 (bN hi) λh' a b=>q _ h' s.toks (bN hi) ⟨a,st.2.extBut b.extBut ne⟩ b
 done:=λs Q E st q=>ao7 hh st.1 st.2 (by simp) q
end
end ZP
namespace ZP
open PySem PySem.Spec PySem.Builtin PySem.Builtin.SmallTypes L2
inductive Srk where
 | tup (a:Addr) | lst (a:Addr) | str (x:Str)
def Srk.v:Srk->V
 | .tup a=>.ref a
 | .lst a=>.ref a
 | .str x=>.str x
def its(H:Hp):Srk->Option (List V)
 | .tup a=>match H a with | some (.tup vs)=>some vs | _=>none
 | .lst a=>match H a with | some (.lst vs)=>some vs | some (.frz _ (.lst vs))=>some vs | _=>none
 | .str x=>some (a0h x)
def own(it:Addr)(t:Tok):Srk->Nat->Heap->Prop
 | .tup a,i,h=>h.IsTupleIter it a i
 | .lst a,i,h=>h.IsListIter it a i
 | .str x,i,h=>h.IsStrIter it (strIterType x) x t i
def iob(t:Tok):Srk->Obj
 | .tup a=>{ cls:=.type "tuple_iterator",data:=.fields #[.ref a, .int 0 0] }
 | .lst a=>{ cls:=.type "list_iterator",data:=.fields #[.ref a, .int 0 0] }
 | .str x=>{ cls:=.type (strIterType x),data:=.fields #[.str x t, .int 0 0] }
def val(t:Tok):Srk->Value
 | .tup a=>.ref a
 | .lst a=>.ref a
 | .str x=>.str x t
def cont(h:Heap):Srk->List Value->Prop
 | .tup a,us=>h.IsTuple a us.toArray
 | .lst a,us=>h.IsList a us.toArray
 | .str x,us=>True
theorem axv{h:Heap}(e:h.get? it=some (iob t k)):own it t k 0 h:=by
 cases k with
 | tup a=>exact ⟨_,e,rfl,rfl⟩
 | lst a=>exact ⟨_,e,rfl,rfl⟩
 | str x=>exact ⟨_,e,rfl,rfl⟩
theorem ag9(o:own it t k i h):∃ ob,h.get? it=some ob/\∀ v,ob.data≠.cell v:=by
 cases k with
 | tup a=>obtain ⟨ob,e,_,d⟩:=o;exact ⟨ob,e,λv z=>by rw [d] at z;cases z⟩
 | lst a=>obtain ⟨ob,e,_,d⟩:=o;exact ⟨ob,e,λv z=>by rw [d] at z;cases z⟩
 | str x=>obtain ⟨ob,e,_,d⟩:=o;exact ⟨ob,e,λv z=>by rw [d] at z;cases z⟩
theorem aca{h':Heap}(o:own it t k i h)(kk:∀ ob,h.get? it=some ob->h'.get? it=some ob):own it t k i h':=by
 cases k with
 | tup a=>obtain ⟨ob,e,r⟩:=o;exact ⟨ob,kk _ e,r⟩
 | lst a=>obtain ⟨ob,e,r⟩:=o;exact ⟨ob,kk _ e,r⟩
 | str x=>obtain ⟨ob,e,r⟩:=o;exact ⟨ob,kk _ e,r⟩
section
variable{P:Program}{w:World}{H:Hp}{s:Shared}
theorem aay(I:Inv X pins σ H s)(e:its H k=some xs):∃ us,cont s.heap k us/\((∀ x,k≠.str x)->Vals xs us):=by
 cases k with
 | tup a =>
  cases q:H a with
  | none=>simp [its,q] at e
  | some o =>
   cases o with
   | tup vs =>
    simp [its,q] at e;subst e
    obtain ⟨us,r,t,_⟩:=I.tuple (SqT.of q);exact ⟨us,t,λ_=>r⟩
   | _=>simp [its,q] at e
 | lst a =>
  cases q:H a with
  | none=>simp [its,q] at e
  | some o =>
   cases o with
   | lst vs =>
    simp [its,q] at e;subst e
    obtain ⟨us,r,t,_⟩:=I.list (SqL.of q);exact ⟨us,t.isList,λ_=>r⟩
   | frz ob u =>
    cases u with
    | lst vs =>
     simp [its,q] at e;subst e
     obtain ⟨us,r,t,_⟩:=I.list (.inl (.inr ⟨_,q⟩));exact ⟨us,t.isList,λ_=>r⟩
    | _=>simp [its,q] at e
   | _=>simp [its,q] at e
 | str x=>exact ⟨[],True.intro,λn=>absurd rfl (n x)⟩
theorem aga(I:Inv X pins σ H s)(e:its H k=some xs)(hn:H it=none) :
  ∃ (cs:List Addr) (P1:Nat->Value->Prop) (S1:Nat->Heap->Prop),(∀ A:Around,A.handled=none->Draws X.prog X.w A it (it::cs) xs.length P1 S1)/\(∀ i,own it t k i s.heap->S1 i s.heap)/\(∀ i h,S1 i h->own it t k i h)/\(∀ c∈cs,H c≠none) /\
   ∀ i v,P1 i v->∃ x,xs[i]? = some x/\RelV x v:=by
 cases k with
 | tup a =>
  obtain ⟨us,c,r⟩:=aay I e;have r:=r (by intro x z;cases z)
  have ha:H a≠none:=λz=>by simp [its,z] at e
  have l:us.toArray.size=xs.length:=by rw [ay,r.length]
  refine ⟨[a],λi v=>us.toArray[i]? = some v,λi h=>h.IsTupleIter it a i/\h.IsTuple a us.toArray,λA hA=>?_,λi o=>⟨o,c⟩,λi h z=>z.1,λc hc=>by rw [av.mp hc];exact ha,λi v z=>?_⟩
  ·have:=ag8 (prog:=X.prog) (w:=X.w) hA it a (λy=>ha (y ▸ hn)) us.toArray
   rw [l] at this;exact this
  ·have z':us[i]? = some v:=by simpa using z
   have hi:i<xs.length:=by rw [r.length];exact (ah.mp z').1
   obtain ⟨u,e1,e2⟩:=r.get (ad hi);rw [z'] at e1;cases e1
   exact ⟨_,ad hi,e2⟩
 | lst a =>
  obtain ⟨us,c,r⟩:=aay I e;have r:=r (by intro x z;cases z)
  have ha:H a≠none:=λz=>by simp [its,z] at e
  have l:us.toArray.size=xs.length:=by rw [ay,r.length]
  refine ⟨[a],λi v=>us.toArray[i]? = some v,λi h=>h.IsListIter it a i/\h.IsList a us.toArray,λA hA=>?_,λi o=>⟨o,c⟩,λi h z=>z.1,λc hc=>by rw [av.mp hc];exact ha,λi v z=>?_⟩
  ·have:=Draws.list (prog:=X.prog) (w:=X.w) hA it a (λy=>ha (y ▸ hn)) us.toArray
   rw [l] at this;exact this
  ·have z':us[i]? = some v:=by simpa using z
   have hi:i<xs.length:=by rw [r.length];exact (ah.mp z').1
   obtain ⟨u,e1,e2⟩:=r.get (ad hi);rw [z'] at e1;cases e1
   exact ⟨_,ad hi,e2⟩
 | str x =>
  cases e
  have l:(a0h x).length=x.cps.size:=by simp [a0h]
  refine ⟨[],λi v=>∃ c u,x.cps[i]? = some c/\v = .str ⟨#[c]⟩ u,λi h=>h.IsStrIter it (strIterType x) x t i,λA hA=>?_,λi o=>o,λi h z=>z,λc hc=>(by cases hc),λi v z=>?_⟩
  ·rw [l]
   cases ha:x.cps.all (· < 128)
   ·have:=Draws.strWide (prog:=X.prog) (w:=X.w) hA it x t
    simpa [strIterType,ha] using this
   ·have:=Draws.strAscii (prog:=X.prog) (w:=X.w) hA it x t
    simpa [strIterType,ha] using this
  ·obtain ⟨c,u,e1,rfl⟩:=z;exact ⟨.str ⟨#[c]⟩,by simp [a0h,e1],⟨_,rfl⟩⟩
end
theorem agb{X:Cx}{pins:List (Addr × Obj)}{σ:St}{H:Hp}{s:Shared}{h':Heap}{t':Nat}{ch:List Addr}(I:Inv X pins σ H s)(hf:∀ b∈ch,FpOk X pins H b)(k:∀ b o,b ∉ ch->s.heap.get? b=some o->h'.get? b=some o) :
  Inv X pins σ H { s with heap:=h',toks:=t' }:=by
 have nit:∀ b u,H b=some u->b ∉ ch:=λb u e z=>by rw [(hf b z).1] at e;cases e
 refine I.step (g':=s.gens) (d':=s.drawn) (ch:=ch) (λb hb=>?_) (λb o _ _ hc e _=>k b o hc e) (λb o _ _ hc e _=>⟨o.slots,k b o hc e⟩) (λ_ _ _ _ n=>n) (λb o hc e=>⟨o,k b o hc e⟩) (λ_ _ e=>e) (λ_ _ _ e=>e)
  (λb ps e=>⟨#[],by rw [e];simp⟩) (λm hm=>?_) (λb u e=>?_) I.bare
 ·obtain ⟨_,f1,_,f3,f4,f5⟩:=hf b hb;exact ⟨f3,f1,f4,f5⟩
 ·obtain ⟨o,es,ep,ho,r⟩:=hm;exact ⟨o,es,ep,k _ o (λz=>(hf _ z).2.1 rfl) ho,r⟩
 ·refine (I.hok b u e).stay (λc v hc q=>k c v ?_ q) (λ_ q=>q) λ_ _ q=>q
  rcases hc with z | z
  ·rw [z];exact nit b u e
  ·exact nit c _ z
theorem a7y{s:Shared}(c:cont s.heap k us)(q:Q (.ref s.heap.objs.size) { s with heap:=s.heap.push (iob t k) }) :
  wpAny (model prog w) A (pyIter (val t k)) Q E s:=by
 cases k with
 | tup a=>exact fK c q
 | lst a=>exact fY c q
 | str x=>exact wpAny_pyIter_strU q
section
variable{X:Cx}{elts:List Expr}{x1:Nat}{tpos:Pos}
theorem arw{k:Srk}(r:RelV k.v u):∃ t,u=val t k:=by
 cases k with
 | tup a=>cases r;exact ⟨0,rfl⟩
 | lst a=>cases r;exact ⟨0,rfl⟩
 | str x=>obtain ⟨t,rfl⟩:=r;exact ⟨t,rfl⟩
end
end ZP
namespace MI
open PySem PySem.Spec L2 ZP
def srcOf(d:D)(h:Hd):Option (List D × (Hd->Prop)):=match d with
 | .tup xs=>some (xs,λ_=>True)
 | .rol xs=>some (xs,λ_=>True)
 | .str x=>some (a0o x,λ_=>True)
 | .ref i=>(match h[i]? with | some (.lst xs)=>some (xs,λh=>h[i]? = some (.lst xs)) | _=>none)
 | _=>none
def avx(x y:D)(h:Hd):R Itm:=match srcOf x h,srcOf y h with
 | some (xs,c1),some (ys,c2)=>.ok ⟨(xs.zip ys).map λp=>.tup [p.1,p.2],λh=>c1 h/\c2 h⟩ h
 | _,_=>.no
def awo(f g:SE):SI:=λτ h=>(f τ h).bind λx h1=>(g τ h1).bind λy h2=>avx x y h2
theorem arx(r:Rep K ι H v d)(hr:HRep K ι H h)(e:srcOf d h=some (xs,ck)) :
  ∃ k:Srk,v=k.v/\ck h/\∀ ι' H' h',Gr ι H ι' H'->HRep K ι' H' h'->ck h'->∃ vs,its H' k=some vs/\Reps K ι' H' vs xs:=by
 cases r with
 | @tup a vs ys ha rs =>
  cases e
  exact ⟨.tup a,rfl,True.intro,λι' H' h' g _ _=>⟨vs,by simp [its,g.tup _ _ ha],rs.mono g⟩⟩
 | @rol a vs ys ha rs =>
  cases e
  refine ⟨.lst a,rfl,True.intro,λι' H' h' g _ _=>⟨vs,?_,rs.mono g⟩⟩;obtain ⟨o,q⟩:=ha.mono g;simp [its,q]
 | str x =>
  cases e
  exact ⟨.str x,rfl,True.intro,λι' H' h' g _ _=>⟨_,rfl,a6w x⟩⟩
 | @ref a i ha =>
  obtain ⟨ob,e1,e2⟩:=hr.at ha
  cases ob with
  | lst zs =>
   simp only [srcOf,e1] at e;cases e
   refine ⟨.lst a,rfl,e1,λι' H' h' g hr' c=>?_⟩;obtain ⟨us,q1,q2⟩:=hr'.obj i a _ (g.at ha) c;exact ⟨us,by simp [its,q1],q2⟩
  | dK _=>simp only [srcOf,e1] at e;cases e
  | dT _=>simp only [srcOf,e1] at e;cases e
 | _=>cases e
end MI
namespace MI
open PySem PySem.Spec L2
section
variable{P:Program}{w:World}{K:PySem.W.Frag}{mg:Str->Option Value}{base:Heap}
theorem agc:FnOk P w K mg base CX0 k f fd ps (n8 K ps.length λ_ _=>.no) :=
 ⟨λvs H Q E h=>h.1,λA outer s H args us vs Q E hr he hb hv hs=>by obtain ⟨_,ι,ds,h,_,_,o⟩:=hs;exact o.elim⟩
end
def FrzOf(L:List Addr)(H H2:Hp):Prop:=∀ a,(a ∉ L->H2 a=H a)/\(a∈L->∃ o u,H a=some u/\H2 a=some (.frz o u))
def ae2(H:Hp)(L:List Addr):Prop:=∀ a∈L,(∃ xs,H a=some (.lst xs))\/(∃ kvs,H a=some (.dK kvs))\/∃ kvs,H a=some (.dT kvs)
def still:HO->Prop
 | .lst _=>False | .dK _=>False | .dT _=>False
 | _=>True
theorem FrzOf.still(f:FrzOf L H H2)(ab:ae2 H L)(e:H a=some u)(st:MI.still u):H2 a=some u:=by
 rw [(f a).1 λz=>?_]
 ·exact e
 ·rcases ab a z with ⟨_,q⟩ | ⟨_,q⟩ | ⟨_,q⟩<;>(rw [e] at q;cases q;exact st)
theorem Inv.frz{X:Cx}{pins:List (Addr × Obj)}{σ:St}{H:Hp}{s:Shared}{L:List Addr}(I:Inv X pins σ H s)(ab:ae2 H L):∃ H2,FrzOf L H H2/\Inv X pins σ H2 s:=by
 have obj:∀ a∈L,∀ u,H a=some u->∃ o,s.heap.get? a=some o:=λa ha u e=>by
  rcases ab a ha with ⟨_,q⟩ | ⟨_,q⟩ | ⟨_,q⟩
  ·obtain ⟨_,_,_,_,z⟩:=I.hok a _ q;exact ⟨_,z⟩
  ·obtain ⟨_,_,_,_,z⟩:=I.hok a _ q;obtain ⟨o,_,_,z,_⟩:=z;exact ⟨o,z⟩
  ·obtain ⟨_,_,_,_,o,_,_,z,_⟩:=I.hok a _ q;exact ⟨o,z⟩
 let H2:Hp:=λa=>if a∈L then (match s.heap.get? a,H a with | some o,some u=>some (.frz o u) | _,w=>w) else H a
 have f:FrzOf L H H2:=λa=>⟨λh=>by simp [H2,h],λh=>by
  obtain ⟨u,e⟩:∃ u,H a=some u:=by
   rcases ab a h with ⟨_,q⟩ | ⟨_,q⟩ | ⟨_,q⟩<;>exact ⟨_,q⟩
  obtain ⟨o,eo⟩:=obj a h u e;exact ⟨o,u,e,by simp [H2,h,e,eo]⟩⟩
 refine ⟨H2,f,?_⟩;have mv:∀ a u,ObjOk X.prog X.w H s.heap a u->ObjOk X.prog X.w H2 s.heap a u:=λa u x=>x.stay (λb v _ q=>q) (λc q=>f.still ab q True.intro) λc xs q=>f.still ab q True.intro;have ok:HOk X.prog X.w H2 s.heap:=λa u e=>by
  by_cases hl:a∈L
  ·obtain ⟨u0,e0⟩:∃ u,H a=some u:=by
    rcases ab a hl with ⟨_,q⟩ | ⟨_,q⟩ | ⟨_,q⟩<;>exact ⟨_,q⟩
   obtain ⟨o,eo⟩:=obj a hl u0 e0;have e':H2 a=some (.frz o u0):=by simp [H2,hl,e0,eo]
   rw [e'] at e;cases e
   exact ⟨eo,mv a u0 (I.hok a u0 e0)⟩
  ·rw [(f a).1 hl] at e;exact mv a u (I.hok a u e)
 have fn:∀ b,H b=none->H2 b=none:=λb n=>by
  rw [(f b).1 λz=>?_]
  ·exact n
  ·rcases ab b z with ⟨_,q⟩ | ⟨_,q⟩ | ⟨_,q⟩<;>(rw [n] at q;cases q)
 have un:Un X.fs [] H H2 s.heap s.heap:=⟨λb o q _ _ _=>q,λb o q _ _ _=>⟨o.slots,q⟩,λb o _ n _=>fn b n,λb o q _=>⟨o,q⟩,λb xs q=>f.still ab q True.intro,λb o u q=>f.still ab q True.intro,λb ps q=>⟨#[],by rw [f.still ab q True.intro];simp⟩⟩
 exact I.un (t':=s.toks) un ok
theorem agd(h:PE X e t):PE X e (λσ H Q=>t σ H λv H1=>∃ L,ae2 H1 L/\∀ H2,FrzOf L H1 H2->Q v H2):=λpins s σ H Q I q =>
 thn (h pins s σ H _ I q) λu s' ⟨v,H1,I1,r,L,ab,k⟩=>let ⟨H2,f,I2⟩:=Inv.frz I1 ab; ⟨v,H2,I2,r,k H2 f⟩
def a1f{α β:Type}(f:α->Option β):List α->Option (List β)
 | []=>some []
 | x::xs=>match f x,a1f f xs with | some y,some ys=>some (y::ys) | _,_=>none
open Classical in
noncomputable def a6j(n:Nat)(h:Hd):Nat->D->Option D
 | 0,_=>none
 | k+1,d=>if clo n d then some d else match d with
  | .tup xs=>(a1f (a6j n h k) xs).map .tup
  | .rol xs=>(a1f (a6j n h k) xs).map .rol
  | .scr xs=>(a1f (a6j n h k) xs).map .scr
  | .rod ks xs=>(a1f (a6j n h k) xs).map (.rod ks)
  | .rdT ks xs=>(a1f (a6j n h k) xs).map (.rdT ks)
  | .ref i=>match h[i]? with
   | some (.lst xs)=>(a1f (a6j n h k) xs).map .rol
   | some (.dK kvs)=>(a1f (a6j n h k) (kvs.map (·.2))).map (.rod (kvs.map (·.1)))
   | some (.dT kvs)=>(a1f (a6j n h k) (kvs.map (·.2))).map (.rdT (kvs.map (·.1)))
   | none=>none
  | _=>none
open Classical in
noncomputable def arz(n:Nat)(h:Hd)(k:Nat)(o:O):Option O:=if u5 n o then some o else match o with
 | .lst xs=>(a1f (a6j n h k) xs).map .lst
 | .dK kvs=>(a1f (a6j n h k) (kvs.map (·.2))).map λys=>.dK ((kvs.map (·.1)).zip ys)
 | .dT kvs=>(a1f (a6j n h k) (kvs.map (·.2))).map λys=>.dT ((kvs.map (·.1)).zip ys)
abbrev FU:Nat:=20
noncomputable def a6x(n:Nat):R D->R D
 | .ok d h1=>match a6j n h1 FU d,a1f (arz n h1 FU) (h1.take n) with | some d',some g=>.ok d' g | _,_=>.no
 | _=>.no
open Classical in
noncomputable def apv(n:Nat):R D->R D
 | .ok (.ref i) h1=>(match h1[i]? with
   | some o=>if n<=i/\u5 n o/\∀ u∈h1.take n,u5 n u then .ok (.ref n) (h1.take n++[o]) else .no
   | none=>.no)
 | _=>.no
section
variable{K:PySem.W.Frag}{ι ι':List Addr}{H H' H2:Hp}{h1:Hd}{n:Nat}{L:List Addr}
theorem acb(f:FrzOf L H' H2)(ab:ae2 H' L)(κ:List Addr):Gw κ H' κ H2:=⟨⟨[],by simp⟩,λa vs e=>f.still ab e True.intro,λa o u e=>f.still ab e True.intro⟩
theorem oh(ih:∀ {v d d'},Rep K ι H v d->f d=some d'->Rep K κ H2 v d'):∀ {vs:List V} {ds ds':List D},Reps K ι H vs ds->a1f f ds=some ds'->Reps K κ H2 vs ds'
 | _,_,_, .nil,e=>by cases e;exact .nil
 | _,x::xs,_, .cons r rs,e=>by
  unfold a1f at e
  split at e
  ·rename_i y ys h1 h2;cases e
   exact .cons (ih r h1) (oh ih rs h2)
  ·cases e
theorem a7z(hr:HRep K ι' H' h1)(hL:∀ (i:Nat) a,ι'[i]? = some a->n<=i->a∈L)(f:FrzOf L H' H2)(ab:ae2 H' L):∀ (k:Nat) {v:V} {d d':D},Rep K ι' H' v d->a6j n h1 k d=some d'->Rep K (ι'.take n) H2 v d':=by
 intro k
 induction k with
 | zero=>intro v d d' r e;cases e
 | succ k ih =>
  intro v d d' r e
  unfold a6j at e
  split at e
  ·rename_i c;cases e
   exact (r.cut c).monoW (acb f ab _)
  ·rename_i c
   cases r with
   | tup h rs =>
    simp only [aO] at e;obtain ⟨ys,e1,rfl⟩:=e;exact .tup (f.still ab h True.intro) (oh (λr e=>ih r e) rs e1)
   | rol h rs =>
    simp only [aO] at e;obtain ⟨ys,e1,rfl⟩:=e;exact .rol (h.monoW (acb f ab ι')) (oh (λr e=>ih r e) rs e1)
   | scr h rs =>
    simp only [aO] at e;obtain ⟨ys,e1,rfl⟩:=e;exact .scr (h.monoW (acb f ab ι')) (oh (λr e=>ih r e) rs e1)
   | rod h ek rs =>
    simp only [aO] at e;obtain ⟨ys,e1,rfl⟩:=e;exact .rod (f.still ab h True.intro) ek (oh (λr e=>ih r e) rs e1)
   | rdT h ek rs =>
    simp only [aO] at e;obtain ⟨ys,e1,rfl⟩:=e;exact .rdT (f.still ab h True.intro) ek (oh (λr e=>ih r e) rs e1)
   | @ref a i ha =>
    have hi:n<=i:=by
     simp only [clo] at c;omega
    obtain ⟨o,u,e1,e2⟩:=(f a).2 (hL i a ha hi);obtain ⟨ob,h3,h4⟩:=hr.at ha;simp only [h3] at e
    cases ob with
    | lst xs =>
     simp only [aO] at e;obtain ⟨ys,e3,rfl⟩:=e;obtain ⟨vs,h5,h6⟩:=h4;rw [e1] at h5;cases h5
     exact .rol ⟨o,e2⟩ (oh (λr e=>ih r e) h6 e3)
    | dK kvs =>
     simp only [aO] at e;obtain ⟨ys,e3,rfl⟩:=e;obtain ⟨us,h5,h6,h7⟩:=h4;rw [e1] at h5;cases h5
     exact .rod e2 h6 (oh (λr e=>ih r e) h7 e3)
    | dT kvs =>
     simp only [aO] at e;obtain ⟨ys,e3,rfl⟩:=e;obtain ⟨us,h5,h6,h7⟩:=h4;rw [e1] at h5;cases h5
     exact .rdT e2 h6 (oh (λr e=>ih r e) h7 e3)
   | non=>simp only [clo,de] at c
   | exc _ _ _=>simp only [clo,de] at c
   | bl b=>simp only [clo,de] at c
   | int b=>simp only [clo,de] at c
   | str b=>simp only [clo,de] at c
   | ty b=>simp only [clo,de] at c
theorem acd{κ:Type}{H:Hp}{us:List (κ × V)}{ks:List κ}{ys:List D}(e:us.map (·.1)=ks)(r:Reps K ι H (us.map (·.2)) ys):KRep K ι H us (ks.zip ys):=by
 have l:ks.length=ys.length:=by rw [<-e,am,<-r.len,am]
 refine ⟨?_,?_⟩
 ·rw [List.map_fst_zip (by omega)];exact e
 ·rw [gN (by omega)];exact r
theorem ao8(hr:HRep K ι' H' h1)(hL:∀ (i:Nat) a,ι'[i]? = some a->n<=i->a∈L)(f:FrzOf L H' H2)(ab:ae2 H' L){k:Nat}(na:a ∉ L)(r:ORep K ι' H' a o)(e:arz n h1 k o=some o'):ORep K (ι'.take n) H2 a o':=by
 have same:H2 a=H' a:=(f a).1 na;unfold arz at e
 split at e
 ·rename_i c;cases e
  exact (r.cut c).monoW (acb f ab _) same
 ·cases o with
  | lst xs =>
   simp only [aO] at e;obtain ⟨ys,e1,rfl⟩:=e;obtain ⟨vs,h3,h4⟩:=r;exact ⟨vs,by rw [same];exact h3,oh (λr e=>a7z hr hL f ab k r e) h4 e1⟩
  | dK kvs =>
   simp only [aO] at e;obtain ⟨ys,e1,rfl⟩:=e;obtain ⟨us,h3,h4,h5⟩:=r;exact ⟨us,by rw [same];exact h3,acd h4 (oh (λr e=>a7z hr hL f ab k r e) h5 e1)⟩
  | dT kvs =>
   simp only [aO] at e;obtain ⟨ys,e1,rfl⟩:=e;obtain ⟨us,h3,h4,h5⟩:=r;exact ⟨us,by rw [same];exact h3,acd h4 (oh (λr e=>a7z hr hL f ab k r e) h5 e1)⟩
theorem a1g{α β:Type}{f:α->Option β}:∀ {xs:List α} {ys:List β},a1f f xs=some ys->xs.length=ys.length/\∀ (i:Nat) y,ys[i]? = some y->∃ x,xs[i]? = some x/\f x=some y
 | [],_,e=>by cases e;exact ⟨rfl,λi y e=>by simp at e⟩
 | x::xs,ys,e=>by
  unfold a1f at e
  split at e
  ·rename_i y ys h1 h2;cases e
   obtain ⟨l,g⟩:=a1g h2;refine ⟨by simp [l],λi z e=>?_⟩
   cases i with
   | zero=>simp at e;subst e;exact ⟨x,rfl,h1⟩
   | succ i=>simpa using g i z (by simpa using e)
  ·cases e
theorem age(hr:HRep K ι' H' h1)(M:List Addr)(hM:∀ a∈M,a∈ι'):ae2 H' M:=λa ha=>by
 obtain ⟨i,hi⟩:=bI (hM a ha);obtain ⟨o,_,q⟩:=hr.at hi
 cases o with
 | lst xs=>obtain ⟨vs,h,_⟩:=q;exact .inl ⟨_,h⟩
 | dK xs=>obtain ⟨vs,h,_⟩:=q;exact .inr (.inl ⟨_,h⟩)
 | dT xs=>obtain ⟨vs,h,_⟩:=q;exact .inr (.inr ⟨_,h⟩)
theorem a5l{α:Type}{l:List α}(nd:l.Nodup){i j:Nat}{a:α}(h1:l[i]? = some a)(h2:l[j]? = some a):i=j:=by
 obtain ⟨l1,e1⟩:=ah.mp h1;obtain ⟨l2,e2⟩:=ah.mp h2
 rcases Nat.lt_trichotomy i j with l | l | l
 ·exact absurd (e1.trans e2.symm) (bZ.mp nd i j l1 l2 l)
 ·exact l
 ·exact absurd (e2.trans e1.symm) (bZ.mp nd j i l2 l1 l)
theorem as3(g:Gr ι H ι' H')(f:FrzOf L H' H2)(ab:ae2 H' L)(hL:∀ a∈L,H a=none)(hm:∀ a∈m,H a=none):Gr ι H (ι++m) H2:=by
 refine ⟨⟨m,rfl,hm⟩,λa vs e=>f.still ab (g.tup a vs e) True.intro,λa o u e=>f.still ab (g.frz a o u e) True.intro,λa u e hn=>?_,λa u e=>?_⟩
 ·rw [(f a).1 λz=>by rw [hL a z] at e;cases e]
  exact g.oth a u e hn
 ·obtain ⟨u',e'⟩:=g.kp a u e;rw [(f a).1 λz=>by rw [hL a z] at e;cases e]
  exact ⟨u',e'⟩
theorem agf{d d':D}{v:V}{g':Hd}(g:Gr ι H ι' H')(rb:Rep K ι' H' v d)(hr:HRep K ι' H' h1)(e:a6x ι.length (.ok d h1) = .ok d' g') :
  ∃ L,ae2 H' L/\∀ H2,FrzOf L H' H2->Gr ι H ι H2/\Rep K ι H2 v d'/\HRep K ι H2 g':=by
 obtain ⟨m,rfl,hm⟩:=g.pre;have tk:(ι++m).take ι.length=ι:=by simp
 have ab:ae2 H' m:=age hr m λa ha=>aM _ ha;have hL:∀ (i:Nat) a,(ι++m)[i]? = some a->ι.length<=i->a∈m:=λi a e hi=>by
  rw [aB hi] at e;exact aT e
 refine ⟨m,ab,λH2 f=>?_⟩;unfold a6x at e;simp only at e
 split at e
 ·rename_i dd gg e1 e2;cases e
  refine ⟨by simpa using as3 g f ab hm (m:=[]) (by simp),by have:=a7z hr hL f ab FU rb e1;rwa [tk] at this,?_⟩
  obtain ⟨l,gt⟩:=a1g e2;have hl:=hr.len;have ln:ι.length<=h1.length:=by rw [<-hl];simp
  refine ⟨(bA.mp hr.nd).1,by rw [<-l,aV];omega,λi a o q1 q2=>?_⟩
  obtain ⟨x,hx,fx⟩:=gt i o q2;have hi:i<ι.length:=(ah.mp q1).1;rw [eF,aA hi] at hx;have q3:(ι++m)[i]? = some a:=by rw [aI hi];exact q1
  have na:a ∉ m:=λz=>(bA.mp hr.nd).2.2 a (aT q1) a z rfl;have:=ao8 hr hL f ab na (hr.obj i a x q3 hx) fx
  rwa [tk] at this
 ·cases e
theorem ajp(g:Gr ι H ι' H')(rb:Rep K ι' H' v d)(hr:HRep K ι' H' h1)(e:apv ι.length (.ok d h1) = .ok d' g') :
  ∃ b,H b=none/\Gr ι H (ι++[b]) H'/\Rep K (ι++[b]) H' v d'/\HRep K (ι++[b]) H' g':=by
 obtain ⟨m,rfl,hm⟩:=g.pre;have tk:(ι++m).take ι.length=ι:=by simp
 have up:∀ b,Gw ι H' (ι++[b]) H':=λb=>⟨⟨[b],rfl⟩,λ_ _ h=>h,λ_ _ _ h=>h⟩
 cases rb with
 | @ref b i hb =>
  unfold apv at e;simp only at e
  split at e
  ·rename_i ob ho
   split at e
   ·rename_i hc;obtain ⟨hi,c1,c2⟩:=hc;cases e
    have hb':=hb;rw [aB hi] at hb';have bm:b∈m:=aT hb';obtain ⟨nd1,nd2,nd3⟩:=bA.mp hr.nd;have hl:=hr.len;have ln:ι.length<=h1.length:=by rw [<-hl];simp
    have lt:(h1.take ι.length).length=ι.length:=by rw [aV];omega
    refine ⟨b,hm b bm,⟨⟨[b],rfl,by simpa using hm b bm⟩,g.tup,g.frz,g.oth,g.kp⟩, .ref (by simp),?_⟩
    refine ⟨bA.mpr ⟨nd1,by simp,λa ha c hc z=>nd3 a ha c (by rw [av.mp hc];exact bm) z⟩,by simp [lt],λj a o q1 q2=>?_⟩
    by_cases hj:j<ι.length
    ·rw [aI hj] at q1;rw [aI (by omega)] at q2
     have q2':=q2;rw [eF,aA hj] at q2';have:=(hr.obj j a o (by rw [aI hj];exact q1) q2').cut (c2 o (aT q2))
     rw [tk] at this;exact this.monoW (up b) rfl
    ·have hj2:j<(ι++[b]).length:=(ah.mp q1).1;have:j=ι.length:=by simp at hj2;omega
     subst this;rw [aB (ar _)] at q1;rw [aB (by omega),lt] at q2
     simp at q1 q2
     subst q1 q2;have:=(hr.obj i b ob hb ho).cut c1;rw [tk] at this;exact this.monoW (up b) rfl
   ·cases e
  ·cases e
 | _=>cases e
end
noncomputable def sZ(f:SE):SE:=λτ h=>a6x h.length (f τ h)
abbrev axw(Q:VK):VK:=λv H1=>∃ L,ae2 H1 L/\∀ H2,FrzOf L H1 H2->Q v H2
theorem avy(q:lift K E (yh K) (sZ fa) σ H Q):lift K E (yh K) fa σ H (axw Q):=by
 obtain ⟨ι,τ,h,S,Rh,o⟩:=q;refine ⟨ι,τ,h,S,Rh,?_⟩;unfold sZ at o;rw [<-Rh.len] at o
 cases hf:fa τ h with
 | ok d h1 =>
  rw [hf] at o
  intro ι' H' v g r hr
  cases hz:a6x ι.length (.ok d h1) with
  | ok d' g' =>
   rw [hz] at o;obtain ⟨L,ab,k⟩:=agf g r hr hz;refine ⟨L,ab,λH2 f=>?_⟩;obtain ⟨k1,k2,k3⟩:=k H2 f;exact o ι H2 v k1 k2 k3
  | ex c hx=>unfold a6x at hz;simp only at hz;split at hz<;>cases hz
  | no=>rw [hz] at o;exact o.elim
 | ex c h1=>rw [hf] at o;exact o.elim
 | no=>rw [hf] at o;exact o.elim
theorem a0m(ha:ME X E e fa):ME X E e (sZ fa):=PE.weak (agd ha) λσ H Q q=>avy q
def refOf:D->Option Nat
 | .ref i=>some i
 | _=>none
def a08(ds:List D):List Nat:=ds.filterMap refOf
def zm:Nat->List D->List D
 | _,[]=>[]
 | k,d::ds=>match d with
  | .ref _=>.ref k::zm (k+1) ds
  | d=>d::zm k ds
def u6:Hd->List Nat->List O->Hd
 | h,i::is,o::os=>u6 (h.set i o) is os
 | h,_,_=>h
def isRef(d:D):Prop:=∃ i,d = .ref i
open Classical in
noncomputable def ao9(m:Bool)(F:SF)(ds:List D)(h:Hd):R D:=match a1f (λi=>h[i]?) (a08 ds) with
 | none=>.no
 | some os=>if (a08 ds).Nodup/\(∀ d∈ds,clo 0 d\/isRef d)/\(∀ o∈os,u5 0 o) then
   (match (if m then apv os.length (F (zm 0 ds) os) else a6x os.length (F (zm 0 ds) os)) with
   | .ok d h1=>if ∀ o∈h1,u5 0 o then
     (if m then .ok (.ref h.length) (u6 h (a08 ds) h1++h1.drop os.length)
      else if clo 0 d then .ok d (u6 h (a08 ds) h1) else .no) else .no
   | _=>.no)
  else .no
noncomputable def kj(m:Bool)(n:Nat)(F:SF):SF:=λds h=>if ds.length=n then ao9 m F ds h else .no
section
variable{K:PySem.W.Frag}{ι ι':List Addr}{H H' H2:Hp}{h h1:Hd}{n:Nat}
theorem amh(κ:List Addr):Gw [] H κ H:=⟨⟨κ,rfl⟩,λ_ _ h=>h,λ_ _ _ h=>h⟩
theorem Rep.any(r:Rep K ι H v d)(c:MI.clo 0 d)(κ:List Addr):Rep K κ H v d:=by
 have:=r.cut c
 rw [fU] at this;exact this.monoW (amh κ)
theorem ORep.any(r:ORep K ι H a o)(c:u5 0 o)(κ:List Addr):ORep K κ H a o:=by
 have:=r.cut c
 rw [fU] at this;exact this.monoW (amh κ) rfl
theorem a9l{α:Type}(l:List α):∀ {is:List Nat},(∀ i∈is,i<l.length)->∃ ys,a1f (λi=>l[i]?) is=some ys
 | [],_=>⟨[],rfl⟩
 | i::is,hi=>by
  obtain ⟨ys,e⟩:=a9l l (is:=is) λj hj=>hi j (aC _ hj);have:=hi i aF;exact ⟨l[i]::ys,by unfold a1f;rw [e,ad this]⟩
theorem a3n:∀ {ds:List D} {vs:List V} {pre κ:List Addr},Reps K ι H vs ds->(∀ d∈ds,clo 0 d\/isRef d)->a1f (λi=>ι[i]?) (a08 ds)=some κ->Reps K (pre++κ) H vs (zm pre.length ds)
 | [],_,_,_, .nil,_,_=>.nil
 | d::ds,_,pre,κ, .cons r rs,hc,e=>by
  have hc':∀ d∈ds,clo 0 d\/isRef d:=λx hx=>hc x (aC _ hx)
  by_cases hd:isRef d
  ·obtain ⟨i,rfl⟩:=hd;have e':a1f (λi=>ι[i]?) (i::a08 ds)=some κ:=e;unfold a1f at e'
   split at e'
   ·rename_i a κ' h1 h2
    cases e'
    cases r with
    | ref ha =>
     rw [ha] at h1;cases h1
     have:=a3n (pre:=pre++[a]) rs hc' h2
     simp only [da,List.singleton_append,ap,ax] at this;refine .cons (.ref ?_) this;rw [aB (ar _)];simp
   ·cases e'
  ·have c:=(hc d aF).resolve_right hd;have e1:a08 (d::ds)=a08 ds:=by
    unfold a08
    cases d<;>first | rfl | exact absurd ⟨_,rfl⟩ hd
   have e2:zm pre.length (d::ds)=d::zm pre.length ds:=by
    cases d<;>first | rfl | exact absurd ⟨_,rfl⟩ hd
   rw [e1] at e;rw [e2];exact .cons (r.any c _) (a3n rs hc' e)
theorem zy:∀ {is:List Nat} {os:List O} {h:Hd},(u6 h is os).length=h.length
 | [],_,_=>by simp [u6]
 | _::_,[],_=>by simp [u6]
 | i::is,o::os,h=>by rw [u6,zy,cZ]
theorem a3o:∀ {is:List Nat} {os:List O} {h:Hd},i ∉ is->(u6 h is os)[i]? = h[i]?
 | [],_,_,_=>by simp [u6]
 | _::_,[],_,_=>by simp [u6]
 | j::is,o::os,h,n=>by
  rw [u6,a3o λz=>n (aC _ z),cK λz=>n (by rw [z];exact aF)]
theorem a9m:∀ {is:List Nat} {os:List O} {h:Hd} {j:Nat},is.Nodup->is[j]? = some i->os[j]? = some o->i<h.length->(u6 h is os)[i]? = some o
 | [],_,_,_,_,e,_,_=>by simp at e
 | _::_,[],_,_,_,_,e,_=>by simp at e
 | k::is,o'::os,h,j,nd,e1,e2,hl=>by
  cases j with
  | zero =>
   simp at e1 e2
   subst e1 e2;rw [u6,a3o (cO.mp nd).1,bC hl]
  | succ j =>
   rw [u6];exact a9m (j:=j) (cO.mp nd).2 (by simpa using e1) (by simpa using e2) (by simpa using hl)
theorem a9n{α:Type}{l:List α}(nl:l.Nodup){is:List Nat}{ys:List α}(e:a1f (λi=>l[i]?) is=some ys)(ni:is.Nodup):ys.Nodup:=by
 obtain ⟨le,g⟩:=a1g e;refine bZ.mpr λi j hi hj lt z=>?_;obtain ⟨x,h1,h2⟩:=g i _ (ad hi);obtain ⟨y,h3,h4⟩:=g j _ (ad hj);rw [<-z] at h4;have:=a5l nl h2 h4;subst this;have:=a5l ni h1 h3;omega
theorem ace{is:List Nat}{κ m:List Addr}{g:Hd}(hr:HRep K ι H h)(e1:a1f (λi=>ι[i]?) is=some κ)(nd:is.Nodup)(gr:Gr κ H (κ++m) H2)(hg:HRep K (κ++m) H2 g)(cg:∀ o∈g,u5 0 o)(hm:m.length<=1) :
  Gr ι H (ι++m) H2/\HRep K (ι++m) H2 (u6 h is g++g.drop κ.length):=by
 obtain ⟨l1,g1⟩:=a1g e1;have mn:∀ a∈m,H a=none:=by
  obtain ⟨m',e,hm'⟩:=gr.pre;rw [List.append_cancel_left e];exact hm'
 have sub:∀ a∈κ,a∈ι:=λa ha=>by
  obtain ⟨j,hj⟩:=bI ha;obtain ⟨i,_,q⟩:=g1 j a hj;exact aT q
 have some_of:∀ a∈ι,∃ u,H a=some u:=λa ha=>by
  obtain ⟨i,hi⟩:=bI ha;obtain ⟨o,_,q⟩:=hr.at hi;obtain ⟨u,q,_⟩:=q.some;exact ⟨u,q⟩
 have G:Gr ι H (ι++m) H2:=⟨⟨m,rfl,mn⟩,gr.tup,gr.frz,λa u e n=>gr.oth a u e λz=>n (sub a z),gr.kp⟩;have lg:=hg.len;rw [ap] at lg;refine ⟨G,?_,?_,λj a o q1 q2=>?_⟩
 ·refine bA.mpr ⟨hr.nd,(bA.mp hg.nd).2.1,λa ha b hb z=>?_⟩;obtain ⟨u,q⟩:=some_of a ha;rw [z,mn b hb] at q;cases q
 ·rw [ap,ap,zy,bq,hr.len];omega
 ·by_cases hj:j<ι.length
  ·rw [aI hj] at q1;rw [aI (by rw [zy,<-hr.len];exact hj)] at q2
   by_cases hp:j∈is
   ·obtain ⟨k,hk⟩:=bI hp;have hkl:k<κ.length:=by rw [<-l1];exact (ah.mp hk).1
    obtain ⟨i,h3,h4⟩:=g1 k _ (ad hkl);rw [hk] at h3;cases h3
    rw [q1] at h4;have hkg:k<g.length:=by omega
    have e5:=a9m (h:=h) nd hk (ad hkg) (by rw [<-hr.len];exact hj)
    rw [e5] at q2;cases q2
    have ea:(κ++m)[k]? = some a:=by rw [aI hkl,ad hkl];exact h4.symm
    exact (hg.obj k a _ ea (ad hkg)).any (cg _ (aX hkg)) _
   ·rw [a3o hp] at q2;have r:=hr.obj j a o q1 q2;obtain ⟨u,hu,_⟩:=r.some;have na:a ∉ κ:=λz=>by
     obtain ⟨k,hk⟩:=bI z;obtain ⟨i,h3,h4⟩:=g1 k a hk;have:=a5l hr.nd q1 h4;subst this;exact hp (aT h3)
    exact r.mono G (by rw [hu];exact gr.oth a u hu na)
  ·have q1':=q1;rw [aB (by omega)] at q1
   rw [aB (by rw [zy,<-hr.len];omega),zy,<-hr.len,List.getElem?_drop] at q2
   have ea:(κ++m)[κ.length+(j - ι.length)]? = some a:=by rw [aB (by omega)];simpa using q1
   exact (hg.obj _ a o ea q2).any (cg o (aT q2)) _
theorem agg{m:Bool}{F:SF}{vs:List V}{ds:List D}{Q:VK}(r:Reps K ι H vs ds)(hr:HRep K ι H h)(o:out K X0 (yh K) ι H (kj m n F ds h) Q)(E:XK) :
  n8 K n F vs H (λv H1=>∃ L,ae2 H1 L/\∀ H2,FrzOf L H1 H2->Q v H2) E:=by
 unfold kj at o
 split at o
 ·rename_i hl;refine ⟨by rw [r.len];exact hl,?_⟩
  unfold ao9 at o
  split at o
  ·exact o.elim
  ·rename_i os hos
   split at o
   ·rename_i hc;obtain ⟨nd,hd,hcl⟩:=hc;obtain ⟨l0,g0⟩:=a1g hos;obtain ⟨κ,e1⟩:=a9l ι (is:=a08 ds) λi hi=>by
     obtain ⟨j,hj⟩:=bI hi;have hjl:j<os.length:=by rw [<-l0];exact (ah.mp hj).1
     obtain ⟨x,h3,h4⟩:=g0 j _ (ad hjl);rw [hj] at h3;cases h3
     rw [hr.len];exact (ah.mp h4).1
    obtain ⟨l1,g1⟩:=a1g e1;have lk:κ.length=os.length:=by omega
    have R0:Reps K κ H vs (zm 0 ds):=by simpa using a3n (pre:=[]) r hd e1
    have H0:HRep K κ H os:=by
     refine ⟨a9n hr.nd e1 nd,lk,λj a ob q1 q2=>?_⟩;obtain ⟨i,h3,h4⟩:=g1 j a q1;obtain ⟨i',h5,h6⟩:=g0 j ob q2;rw [h3] at h5;cases h5
     exact (hr.obj i a ob h4 h6).any (hcl ob (aT q2)) _
    refine ⟨κ,zm 0 ds,os,R0,H0,?_⟩
    cases hF:F (zm 0 ds) os with
    | no=>rw [hF] at o;cases m<;>exact o.elim
    | ex c hx=>rw [hF] at o;cases m<;>exact o.elim
    | ok d h1 =>
     rw [hF] at o
     intro ι' H' v g rb hr1
     rw [<-lk] at o
     cases m with
     | false =>
      simp only [bY,dW] at o
      cases hz:a6x κ.length (.ok d h1) with
      | ok d' g' =>
       rw [hz] at o;simp only at o;obtain ⟨L,ab,k⟩:=agf g rb hr1 hz;refine ⟨L,ab,λH2 f=>?_⟩;obtain ⟨k1,k2,k3⟩:=k H2 f
       split at o
       ·rename_i cg
        split at o
        ·rename_i cd;have q:=ace (m:=[]) hr e1 nd (by simpa using k1) (by simpa using k3) cg (by simp)
         have lg:=k3.len;have dr:g'.drop κ.length=[]:=bO (by omega)
         rw [dr,bR,bR] at q;exact o ι H2 v q.1 (k2.any cd _) q.2
        ·exact o.elim
       ·exact o.elim
      | ex c hx=>rw [hz] at o;exact o.elim
      | no=>rw [hz] at o;exact o.elim
     | true =>
      simp only [dC] at o
      cases hz:apv κ.length (.ok d h1) with
      | ok d' g' =>
       rw [hz] at o;simp only at o;obtain ⟨b,hb,k1,k2,k3⟩:=ajp g rb hr1 hz;refine ⟨[],λa ha=>(by simp at ha),λH2 f=>?_⟩
       have e2:H2=H':=by funext a;exact (f a).1 (by simp)
       subst e2
       split at o
       ·rename_i cg;have q:=ace (m:=[b]) hr e1 nd k1 k3 cg (by simp)
        refine o (ι++[b]) H2 v q.1 ?_ q.2;have hd':d' = .ref κ.length:=by
         unfold apv at hz
         split at hz
         ·rename_i i h2 hh
          injection hh with z1 z2
          split at hz
          ·split at hz
           ·injection hz with z3 z4;exact z3.symm
           ·cases hz
          ·cases hz
         ·cases hz
        subst hd'
        cases k2 with
        | ref hk =>
         rw [aB (ar _)] at hk;simp at hk;subst hk;exact .ref (by rw [<-hr.len];simp)
       ·exact o.elim
      | ex c hx=>rw [hz] at o;exact o.elim
      | no=>rw [hz] at o;exact o.elim
   ·exact o.elim
 ·exact o.elim
end
theorem dg(m:Bool){X:Cx}(G:Dn X.prog X.w X.K X.mg X.base k x ps (n8 X.K n F) f fd)(hr:Room k X.A)(hg:Gl X x)(ha:MA X X0 (e::es) ka)
  (hdb:(x == ("__debug__" : Str))=false:=by decide) (he:starEach (e::es) X.env=(false,eval e X.env)::starEach es X.env:=by rfl) (hpl:(backTo pos (starEach es X.env)).any (·.1)=false:=by rfl):ME X X0 (.Call (.Name x p) (e::es) [] pos) (sA (kj m n F) ka):=by
 refine PE.weak (agd (anc G.ok hr hg G.m G.kp G.b .nil aqz ha hdb he hpl)) λσ H Q ⟨ι,τ,h,S,Rh,o⟩=>?_;refine ⟨ι,τ,h,S,Rh,ik o λds h1 ι1 H1 vs g1 r1 hr1 o1=>?_⟩;rw [bR];exact agg r1 hr1 o1 _
theorem agh(m:Bool){X:Cx}(G:Dn X.prog X.w X.K X.mg X.base k x ps (n8 X.K n F) f fd)(hr:Room k X.A)(hg:Gl X x)(hdb:(x == ("__debug__" : Str))=false:=by decide) :
  ME X X0 (.Call (.Name x p) [] [] pos) (sA (kj m n F) dq):=by
 refine PE.weak (agd (aj6 G.ok hr hg G.m G.kp G.b .nil aqz hdb)) λσ H Q ⟨ι,τ,h,S,Rh,o⟩=>?_;exact agg (vs:=[]) .nil Rh o E0
def avz:SS:=λ_ _=>.no
section
variable{X:Cx}{E:XD}
theorem as4:MSs X E st avz:=λ_ _ _ _ _ _ ⟨_,_,_,_,_,o⟩=>o.elim
end
theorem ami(h:PS X st t):PS X st (λD σ H=>t { D with nx:=λσ' H1=>∃ L,ae2 H1 L/\∀ H2,FrzOf L H1 H2->D.nx σ' H2 } σ H):=λpins s σ H D I q =>
 thn (h pins s σ H _ I q) λf s' k=>by
  cases f with
  | next =>
   obtain ⟨σ',H1,I1,L,ab,k⟩:=k;obtain ⟨H2,f,I2⟩:=Inv.frz I1 ab;exact ⟨σ',H2,I2,k H2 f⟩
  | brk=>exact k
  | cont=>exact k
  | ret u=>exact k
theorem amj(q:a7l K E (km i f) N σ H):lift K E (yh K) f σ H (λv H1=>N.nx (σ.set i (some v)) H1):=by
 obtain ⟨ι,τ,h,S,Rh,o⟩:=q;exact ⟨ι,τ,h,S,Rh,ux o λd h1 ι1 H1 v g1 r1 hr1 o1=>o1 ι1 H1 _ (.refl _ _) ((S.mono g1).set r1 i) hr1⟩
theorem aoa(ht:aiq K n g t)(q:lift K E (yh K) (n6 fi t fe ix) σ H Q):aja (lift K E (arb K) fi) (m9 n ix) g (lift K E (yh K) fe) σ H Q:=by
 obtain ⟨ι,τ,h,Sr,Rh,o⟩:=q;refine ⟨ι,τ,h,Sr,Rh,ik o λit h1 ι1 H1 J g1 r1 hr1 o1=>?_⟩
 by_cases hl:it.xs.length<=LINE
 ·rw [aA hl] at o1;exact ac0 r1 ht (a2o (Sr.mono g1) ix) hr1 hl o1
 ·rw [aL hl] at o1;exact o1.elim
theorem ajq(ht:aiq K n g t)(q:lift K E (yh K) (a1r fi t fc fe ix) σ H Q):a7k (lift K E (arb K) fi) (m9 n ix) g (lift K E am4 fc) (lift K E (yh K) fe) σ H Q:=by
 obtain ⟨ι,τ,h,Sr,Rh,o⟩:=q;refine ⟨ι,τ,h,Sr,Rh,ik o λit h1 ι1 H1 J g1 r1 hr1 o1=>?_⟩
 by_cases hl:it.xs.length<=LINE
 ·rw [aA hl] at o1;exact a9h r1 ht (a2o (Sr.mono g1) ix) hr1 hl o1
 ·rw [aL hl] at o1;exact o1.elim
section
variable{X:Cx}{E:XD}{elt tg iter cnd:Expr}{scope:Scope}{pos spos pos':Pos}{cl:List (Str × Addr)}{ts fr:List Str}{ix:List Nat}{fi:SI}{g:TG}{t:D->Option Sd}{fe:SE}{fc:ST}{i:Nat}{x:Str}
theorem a80(hN:X.N.Nodup)(hi':X.N[i]? = some x)(hx:Loc X.env.scope x)(hc:X.calm=true)(S:CSc X scope cl ts fr ix)(hi:MI X E tg iter fi)(hg:∀ C fp s H,PG (cxC X (ts++fr) scope cl C fp s H) tg g)(ht:aiq X.K ts.length g t)(he:∀ C fp s H,ME (cxC X (ts++fr) scope cl C fp s H) E elt fe)
  (hs:∀ x,foldedSetIterable iter X.env x=pure x:=by intro _;rfl) (hsw:swapsWith (.ListComp elt [⟨tg,iter,[],0⟩] scope pos) (some (.Name x pos')) spos.line X.env=pure true:=by rfl) (hf:X.fn x=true\/X.env.scope.names.lookup x=some .local:=by first | exact .inl rfl | exact .inr rfl | assumption) :
  MS X E (.Assign [.Name x pos'] (.ListComp elt [⟨tg,iter,[],0⟩] scope pos) spos) (km i (sZ (n6 fi t fe ix))) :=
 PS.weak (ami (ajc (te:=lift X.K E (yh X.K) fe) hN hi' hx hc S hi hg he hs hsw hf)) λN σ H q=>aoa ht (avy (amj q))
theorem ajr(hN:X.N.Nodup)(hi':X.N[i]? = some x)(hx:Loc X.env.scope x)(hc:X.calm=true)(S:CSc X scope cl ts fr ix)(hi:MI X E tg iter fi)(hg:∀ C fp s H,PG (cxC X (ts++fr) scope cl C fp s H) tg g)(ht:aiq X.K ts.length g t)(he:∀ C fp s H,ME (cxC X (ts++fr) scope cl C fp s H) E elt fe)
  (hq:∀ C fp s H,MT (cxC X (ts++fr) scope cl C fp s H) E cnd fc)
  (hs:∀ x,foldedSetIterable iter X.env x=pure x:=by intro _;rfl) (hsw:swapsWith (.ListComp elt [⟨tg,iter,[cnd],0⟩] scope pos) (some (.Name x pos')) spos.line X.env=pure true:=by rfl) (hf:X.fn x=true\/X.env.scope.names.lookup x=some .local:=by first | exact .inl rfl | exact .inr rfl | assumption) :
  MS X E (.Assign [.Name x pos'] (.ListComp elt [⟨tg,iter,[cnd],0⟩] scope pos) spos) (km i (sZ (a1r fi t fc fe ix))) :=
 PS.weak (ami (ady (te:=lift X.K E (yh X.K) fe) (tc:=lift X.K E am4 fc) hN hi' hx hc S hi hg he hq hs hsw hf)) λN σ H q=>ajq ht (avy (amj q))
end
theorem nj(Fu:Fun K x qual st f fd)(S:FnScope N ps (bj st))
  (hb:∀ (cdv:Value) (A:Around) (outer:List Env) (s:Shared) (H:Hp) (E:XK),Room k (A.deeper (PyProof.Rows.envOfC qual (bj st) s.heap.objs.size f cdv))->MSs (a1c CX0 P w K mg base N qual (bj st) f cdv A outer s H E).nox X0 (ji st) b) :
  FnOk P w K mg base CX0 (k+1) f fd ps (n8 K ps.length (qj b N.length)):=arj Fu S hb λds h _ _ _=>Rf.same rfl
end MI
namespace MI
open PySem PySem.Spec L2 HT
theorem ae3{s:Shared}(ht:PyProof.Rows.IsTup s.heap t items)(hs:s.heap.IsSliceOf sl vl vu .none)(pl:IsPart vl lo)(pu:IsPart vu hi)
  (hw:HT.sIx items.size 0 lo=0/\HT.sIx items.size items.size hi=items.size) (h:Q (.ref t) s):wpAny (model prog w) A (getItem (.ref t) (.ref sl)) Q E s:=by
 obtain ⟨os,f1,f2,f3⟩:=id hs;have ty:s.TypeIs (.ref sl) "slice":=⟨os,f1,f2⟩;have tt:s.TypeIs (.ref t) "tuple":=ht.typeIs;rw [getItem]
 try apply bP
 first | (apply ae;apply aw) | skip
 apply ae;apply wpAny_sequenceKey tt (by decide)
 apply ae
 apply ci (name:=Str.ofString "__getitem__") tt bJ
 apply bU bJ tt PyProof.Rows.entry_tuple_getitem _ (PyProof.Rows.args_tuple_getitem _ _)
 change wpAny (model prog w) A.in1 (Builtin.Tuple.tupleItemsOf (.ref t)>>=_) _ _ s
 apply ae;apply PyProof.Rows.tupleItemsOf_ ht
 apply ae;apply eQ ty
 rw [aA (by decide)]
 apply ae;apply HT.a0g hs pl pu
 rw [hw.1,hw.2];dsimp only;rw [aA (by simp)]
 apply ae
 rw [Builtin.Tuple.tupleIsExact]
 apply ae;apply eQ tt
 apply aw
 rw [aA (by decide)]
 apply ae;apply eL
 apply aw
 exact ⟨_,rfl,aw h⟩
def awp(K:PySem.W.Frag):V->Option Int->Option Int->Hp->VK->Prop:=λx lo hi H Q=>∃ a xs,x = .ref a/\SqT K H a xs/\whole xs.length lo hi/\Q (.ref a) H
theorem ajs:SlR X (awp X.K):=by
 intro pins s σ H x v vl vu lo hi sl Q I rx hs pl pu h
 obtain ⟨a,xs,rfl,hx,hw,q⟩:=h;cases rx
 obtain ⟨its,r,ht,hz⟩:=I.tuple hx;have hlen:its.toArray.size=xs.length:=by rw [ay];exact r.length.symm
 exact ⟨"tuple",_,bJ.lookup,ht.typeIs,ae3 ht hs pl pu (by rw [hlen];exact hw) ⟨.ref a,H,I,rfl,q⟩⟩
def aal(d:D)(lo hi:Option Int)(h:Hd):R D:=match d with
 | .tup xs=>if whole xs.length lo hi then .ok (.tup xs) h else .ok (.tup (a5b xs lo hi)) h
 | d=>gSl d lo hi h
def a2h(f:SE)(l u:SO):SE:=λτ h=>(f τ h).bind λd h1=>(l τ h1).bind λlo h2=>(u τ h2).bind λhi h3=>aal d lo hi h3
theorem aob(rx:Rep K ι H x d)(hr:HRep K ι H h)(o:out K E (yh K) ι H (aal d lo hi h) Q):(avp x lo hi H Q\/avl K x lo hi H Q\/avn K x lo hi H Q)\/awp K x lo hi H Q:=by
 cases rx with
 | @tup p vs xs hp r =>
  by_cases hc:whole xs.length lo hi
  ·simp only [aal,aA hc] at o;exact .inr ⟨p,vs,rfl,SqT.of hp,by rw [r.len];exact hc,ans o (.tup hp r) hr⟩
  ·simp only [aal,aL hc] at o;exact .inl (.inr (.inl ⟨p,vs,rfl,SqT.of hp,by rw [r.len];exact hc,a06 (a2q r lo hi) hr o⟩))
 | non=>exact o.elim
 | bl _=>exact o.elim
 | int _=>exact o.elim
 | ty _=>exact o.elim
 | str z=>exact .inl (ac6 (.str z) hr o)
 | rol a b=>exact .inl (ac6 (.rol a b) hr o)
 | scr a b=>exact .inl (ac6 (.scr a b) hr o)
 | rod a b c=>exact o.elim
 | rdT a b c=>exact o.elim
 | exc a b c=>exact o.elim
 | ref a=>exact .inl (ac6 (.ref a) hr o)
theorem ou(he:ME X E e fa)(hl:MO X E lo l)(hu:MO X E hi u):ME X E (.Subscript e (.Slice lo hi none p2) pos) (a2h fa l u):=by
 refine PE.weak (aj8 ((ar5.or (aqs.or ank)).or ajs) he hl hu) λσ H Q ⟨ι,τ,h,S,Rh,o⟩=>?_;refine ⟨ι,τ,h,S,Rh,ik o λd h1 ι1 H1 v g1 r1 hr1 o1=>?_⟩;refine ⟨ι1,τ,h1,S.mono g1,hr1,ik o1 λlo h2 ι2 H2 lv g2 r2 hr2 o2=>?_⟩;refine ⟨ι2,τ,h2,(S.mono g1).mono g2,hr2,ik o2 λhi h3 ι3 H3 hv g3 r3 hr3 o3=>?_⟩
 cases r2;cases r3
 exact aob ((r1.mono g2).mono g3) hr3 o3
end MI
namespace TPM
open PySem PySem.Spec PySem.W L2 HT MI
theorem wy:fillsNumberSlot (.type "tuple") "mul" = pure false :=
 fillsNumberSlot_seq (id := "tuple.__mul__") (r:=some (.builtin "tuple.__rmul__")) dZ.lookup (by decide +kernel) F.slot_tuple_rmul.lookup (by decide +kernel)
theorem agi(t:Addr)(items:Array Value)(n:Nat)(dd:Option Addr)(sl:Array (Option Value))(x:Int)(u:Tok)(h0:items.isEmpty=false)(h2:2<=x)(h3:x<2 ^ 63)(hz:items.size*x.toNat<=sizeLine) :
  Meets (Builtin.«tuple.__mul__» ⟨[.ref t, .int x u],[]⟩) (λ_ R s=>s.heap.get? t=some { cls:=.type "tuple",dict:=dd,data:=.seq items n,slots:=sl }/\R (.ok (.ret (.ref s.heap.objs.size))) { s with heap:=s.heap.push { cls:=.type "tuple",data:=.seq (List.foldl (λx1 x2=>x1++x2) #[] (List.replicate x.toNat items)) } }) :=
 .of_wp λprog w A R s h=>by
  obtain ⟨hp,g,d,tk,os⟩:=s;obtain ⟨hl,h⟩:=h;have c1:¬ (decide (x < -2 ^ 63) || decide (x≥2 ^ 63))=true:=by
   rw [Bool.or_eq_true,dN,dN];omega
  have c2:¬ (items.isEmpty || x == 1)=true:=by
   rw [h0,Bool.false_or];simp;omega
  have c3:¬ (decide (x<=0) || items.isEmpty)=true:=by
   rw [h0,Bool.or_false,dN];omega
  have ex:((items.size:Nat):Int)*x=((items.size*x.toNat:Nat):Int):=by
   rw [Int.natCast_mul,Int.toNat_of_nonneg (by omega)]
  have sl':(sizeLine:Nat)<=(2 ^ 63 - 1) / 8:=by decide
  have c4:¬ (items.size:Int)*x > (2 ^ 63 - 1) / 8:=by rw [ex];omega
  have c5:¬ Builtin.Tuple.tupleTooMany ((items.size:Int)*x)=true:=by
   rw [ex];simp only [Builtin.Tuple.tupleTooMany,dN];omega
  wp_walk
  rw [aL c1]
  wp_walk
  rw [aL c2]
  wp_walk
  rw [aL c3]
  wp_walk
  rw [aL c4]
  wp_walk
  rw [aL c5]
  wp_walk
  have fs:¬ (List.foldl (λx1 x2=>x1++x2) #[] (List.replicate x.toNat items)).size > sizeLine:=by
   have:=foldl_rep items.toList x.toNat []
   rw [cI,Array.toArray_toList] at this;rw [show (#[]:Array Value)=([]:List Value).toArray from rfl,this,ay,len_rep,aJ,eR]
   omega
  rw [aL fs]
  wp_walk
  exact ⟨_,rfl,h⟩
theorem a0q(a:Int)(t:Tok)(l:Addr)(items:Array Value)(n:Nat)(dd:Option Addr)(sl:Array (Option Value)) :
  Meets (Builtin.«int.__rmul__» ⟨[.int a t, .ref l],[]⟩) (λ_ R s=>s.heap.get? l=some { cls:=.type "tuple",dict:=dd,data:=.seq items n,slots:=sl }/\R (.ok (.ret Value.notImplemented)) s):=by
 refine .of_wp λprog w A R s h=>?_;obtain ⟨hp,g,d,tk,os⟩:=s;obtain ⟨hl,h⟩:=h
 wp_walk
 exact ⟨_,rfl,h⟩
theorem a5m:seqRepeat? (.type "tuple")=pure (some (.builtin "tuple.__mul__")):=by
 unfold seqRepeat?;rw [seqSlot_of (T := "tuple") (name := "__mul__") (id := "tuple.__mul__") dZ.lookup (by decide +kernel),seqSlot_of (T := "tuple") (name := "__rmul__") (id := "tuple.__rmul__") F.slot_tuple_rmul.lookup (by decide +kernel)]
 rfl
def ajt(K:PySem.W.Frag):R2:=λx y H Q=>∃ a k xs,x = .ref a/\y = .int k/\SqT K H a xs/\xs≠[]/\2<=k/\k<2 ^ 63/\xs.length*k.toNat<=sizeLine/\∀ p,H p=none->Q (.ref p) (upd H p (.tup (List.replicate k.toNat xs).flatten))
theorem aoc:OpR X (binaryOp .Mult) (ajt X.K):=by
 intro pins s σ H x y v u Q I rx ry h
 obtain ⟨a,k,xs,rfl,rfl,ha,hx,h1,h2,hz,q⟩:=h;cases rx
 obtain ⟨t,rfl⟩:=ry;obtain ⟨its,r1,p1,_⟩:=I.tuple ha;obtain ⟨⟨cls,dd,data,sl⟩,ho,hc,n,hd⟩:=id p1;simp only at hc hd;subst hc hd;have he:its.toArray.isEmpty=false:=by
  cases its with
  | nil=>exact (hx (r1.nil_iff.mp rfl)).elim
  | cons _ _=>rfl
 have hz2:its.toArray.size*k.toNat<=sizeLine:=by rw [ay,<-r1.length];exact hz
 have hnew:List.foldl (λx1 x2=>x1++x2) #[] (List.replicate k.toNat its.toArray)=(List.replicate k.toNat its).flatten.toArray:=by
  have:=foldl_rep its k.toNat []
  rw [cI] at this;exact this
 refine cE (T := "tuple") (U := "int") (by decide) ⟨_,ho,rfl⟩ (λs'=>dA s' k t) wy eD cm a5m dX.lookup
  (cv cm (dA s k t) dY (dM _ _) (a0q k t a its.toArray n dd sl)
   ⟨ho,rfl,⟨_,ho,rfl⟩,cv dZ ⟨_,ho,rfl⟩ gC (fN _ _) (agi a its.toArray n dd sl k t he h1 h2 hz2) ⟨ho,?_⟩⟩)
 rw [hnew];refine ⟨.ref s.heap.objs.size,_,I.laid (t':=s.toks) (o:=.tup (List.replicate k.toNat xs).flatten) (λb ob q=>ai _ q) (ar _) ?_,rfl,q _ (I.hok.fresh (ar _))⟩;exact ⟨by rw [len_rep,eR];exact hz,_,r1.rep k.toNat,PyProof.Rows.IsTup.new _ _⟩
end TPM
namespace MI
open PySem PySem.Spec L2 TPM
open Classical in
noncomputable def agj(x y:D)(h:Hd):R D:=match x,y with
 | .tup xs, .int k=>if (xs≠[]/\2<=k/\k<2 ^ 63)/\xs.length*k.toNat<=LINE then .ok (.tup (List.replicate k.toNat xs).flatten) h else .no
 | x,y=>ark x y h
theorem a81:a2g K agj (λx y H Q=>(rI CMul (λi j=>.int (i*j)) x y H Q\/aqx x y H Q)\/ajt K x y H Q):=by
 intro E ι H h x y dx dy Q rx ry hr o
 cases rx with
 | @tup a vs xs ha rs =>
  cases ry with
  | int k =>
   simp only [agj] at o
   split at o
   ·rename_i hc;refine .inr ⟨a,k,vs,rfl,rfl,SqT.of ha,λz=>?_,hc.1.2.1,hc.1.2.2,ll (by rw [rs.len];exact hc.2),a06 (rs.flat _) hr o⟩
    subst z;cases rs
    exact hc.1.1 rfl
   ·exact o.elim
  | _=>exact o.elim
 | int i=>exact .inl (afw _ _ _ _ _ _ _ _ _ (.int i) ry hr o)
 | ref e=>exact .inl (afw _ _ _ _ _ _ _ _ _ (.ref e) ry hr o)
 | _=>exact o.elim
end MI
namespace L2
open PySem PySem.Spec PyProof.Rows
theorem aju:awg X (auf X.K):=by
 intro pins s σ H o i ov iv Q I ro ri h
 obtain ⟨p,xs,k,z,rfl,rfl,hq,he,q⟩:=h;cases ro
 obtain ⟨t,rfl⟩:=ri;obtain ⟨its,r,pl,hz⟩:=I.list hq;obtain ⟨j,h1,h2,h3,h4,h5⟩:=a7g he;obtain ⟨w,ew,rw'⟩:=r.get h2;have len:=r.length;have l63:=a4a;have done:EP X pins σ Q w s:=⟨z,H,I,rw',q⟩
 by_cases neg:k<0
 ·have ej:(k+(its.toArray.size:Int)).toNat=j:=by
   rw [gY neg h4] at h1;rw [ay,<-len];exact bv h1
  exact wpAny_getItem_list_neg pl.isList neg (by rw [ay];omega) (by omega) (by rw [ej];simpa using ew) done
 ·have ej:k.toNat=j:=by
   rw [hJ (by omega) h5] at h1
   exact bv h1
  exact wpAny_getItem_list pl.isList (by omega) (by omega) (by rw [ej];simpa using ew) done
end L2
namespace MI
open PySem PySem.Spec L2
def air(x y:D)(h:Hd):R D:=match x,y with
 | .ref p, .int i=>(match h[p]? with | some (.lst xs)=>(match atI xs i with | some d=>.ok d h | none=>.no) | _=>.no)
 | _,_=>.no
theorem aod:a2g K air (auf K):=by
 intro E ι H h x y dx dy Q rx ry hr o
 cases rx with
 | @ref p i hp =>
  cases ry with
  | int k =>
   simp only [air] at o
   split at o
   ·rename_i xs hx;obtain ⟨vs,h3,h4⟩:=hr.lst hp hx
    split at o
    ·rename_i d he;obtain ⟨v,h1,h2⟩:=ac4 h4 he;exact ⟨p,vs,k,v,rfl,rfl,SqL.of h3,h1,ans o h2 hr⟩
    ·exact o.elim
   ·exact o.elim
  | _=>exact o.elim
 | _=>exact o.elim
def a0r(g:D->D->Hd->R D)(fo fi fe:SE):SS:=λτ h=>(fo τ h).fl λo h1=>(fi τ h1).fl λi h2=>(air o i h2).fl λx h3=>(fe τ h3).fl λy h4=>(g x y h4).fl λz h5=>match put o i z h5 with | some h6=>.nx τ h6 | none=>.no
section
variable{X:Cx}{E:XD}{e o i:Expr}{fa fb fc:SE}{pos:Pos}
theorem a82(ho:ME X E o fa)(hi:ME X E i fb)(he:ME X E e fc)(hp:OpR X (inplaceOp op) r)(hs:a2g X.K gg r)
  (ha:∀ ov iv new,augStore i ov iv new=(do holding [new,ov,iv] (setItem ov iv new);release [new,ov,iv] [];pure .next):=by intros;rfl):MS X E (.AugAssign (.Subscript o i tpos) op e pos) (a0r gg fa fb fc):=by
 refine PS.weak (an6 ho hi aju he hp set_list ha) λN σ H ⟨ι,τ,h,S,Rh,oo⟩=>?_;refine ⟨ι,τ,h,S,Rh,ux oo λd h1 ι1 H1 v g1 r1 hr1 o1=>?_⟩;refine ⟨ι1,τ,h1,S.mono g1,hr1,ux o1 λd2 h2 ι2 H2 u g2 r2 hr2 o2=>?_⟩;refine aod E ι2 H2 h2 v u d d2 _ (r1.mono g2) r2 hr2 (ux o2 λd3 h3 ι3 H3 w g3 r3 hr3 o3=>?_);have S3:=((S.mono g1).mono g2).mono g3;refine ⟨ι3,τ,h3,S3,hr3,ux o3 λd4 h4 ι4 H4 y g4 r4 hr4 o4=>?_⟩;refine hs E ι4 H4 h4 w y d3 d4 _ (r3.mono g4) r4 hr4 (ux o4 λd5 h5 ι5 H5 z g5 r5 hr5 o5=>?_)
 cases hq:put d d2 d5 h5 with
 | none=>rw [hq] at o5;exact o5.elim
 | some h6 =>
  rw [hq] at o5;exact afs ((((r1.mono g2).mono g3).mono g4).mono g5) (((r2.mono g3).mono g4).mono g5) r5 hr5 hq λH' g6 hr6=>o5 ι5 H' σ g6 (((S3.mono g4).mono g5).mono g6) hr6
end
end MI
namespace TPM
open PySem PySem.Spec PySem.W L2 HT MI
theorem ae4(t b:Addr)(items2:Array Value)(n n2:Nat)(dd dd2:Option Addr)(sl sl2:Array (Option Value)) :
  Meets (Builtin.«tuple.__add__» ⟨[.ref t, .ref b],[]⟩) (λ_ R s=>s.heap.get? t=some { cls:=.type "tuple",dict:=dd,data:=.seq #[] n,slots:=sl }/\s.heap.get? b=some { cls:=.type "tuple",dict:=dd2,data:=.seq items2 n2,slots:=sl2 }/\R (.ok (.ret (.ref b))) s):=by
 refine .of_wp λprog w A R s h=>?_;obtain ⟨hp,g,d,tk,os⟩:=s;obtain ⟨hl,hb,h⟩:=h
 wp_walk
 refine dH sub_tuple_self ?_
 wp_walk
 exact ⟨_,rfl,h⟩
def as5(K:PySem.W.Frag):R2:=λx y H Q=>∃ a b ys,x = .ref a/\y = .ref b/\SqT K H a []/\SqT K H b ys/\Q (.ref b) H
theorem aoe:OpR X (binaryOp .Add) (as5 X.K):=by
 intro pins s σ H x y v u Q I rx ry h
 obtain ⟨a,b,ys,rfl,rfl,ha,hb,q⟩:=h;cases rx
 cases ry
 obtain ⟨its,r1,p1,_⟩:=I.tuple ha;obtain ⟨its2,r2,p2,_⟩:=I.tuple hb;cases r1
 obtain ⟨⟨cls,dd,data,sl⟩,ho,hc,n,hd⟩:=id p1;obtain ⟨⟨cls2,dd2,data2,sl2⟩,ho2,hc2,n2,hd2⟩:=id p2;simp only at hc hd hc2 hd2;subst hc hd hc2 hd2;exact concat_meets ⟨_,ho,rfl⟩ ⟨_,ho2,rfl⟩ gJ seq_tuple_add F.slot_tuple_add F.entry_tuple_add (F.args_tuple_add_2 _ _) (ae4 a b its2.toArray n n2 dd dd2 sl sl2) ⟨ho,ho2,⟨.ref b,H,I,rfl,q⟩⟩
end TPM
namespace MI
open PySem PySem.Spec L2 TPM
end MI
namespace TPM
open PySem PySem.Spec PySem.W L2 HT MI PyProof.Rows
end TPM
namespace MI
open PySem PySem.Spec L2 TPM
end MI
namespace L2
open PySem PySem.Spec PyProof.Rows
section
variable{X:Cx}
theorem Inv.lstR(I:Inv X pins σ H s)(hH:Rd H l (.lst xs)):xs.length<=sizeLine/\∃ (its:List Value) (n:Nat),Vals xs its/\xs.length=its.length/\s.heap.get? l=some { cls:=.type "list",data:=.seq its.toArray n }:=by
 obtain ⟨z,its,n,r,e⟩:=hH.ok I.hok;exact ⟨z,its,n,r,r.length,e⟩
def as6:R2:=λx y H Q=>∃ l b xs zs,x = .ref l/\y = .ref b/\Rd H l (.lst xs)/\Rd H b (.lst zs)/\xs.length+zs.length<=sizeLine/\∀ p,H p=none->Q (.ref p) (upd H p (.lst (xs++zs)))
theorem aog:OpR X (binaryOp .Add) as6:=λpins s σ H x y v u Q I rx ry ⟨l,b,xs,zs,ex,ey,h1,h2,hz,q⟩=>by
 subst ex ey;cases rx
 cases ry
 obtain ⟨_,as,_,va,la,ea⟩:=I.lstR h1;obtain ⟨_,bs,_,vb,lb,eb⟩:=I.lstR h2;have app:as.toArray++bs.toArray=(as++bs).toArray:=by simp
 refine PySem.P.add_list ea eb ?_ (by simp;omega)
 rw [app];exact ⟨.ref _,_,I.lnew (t':=s.toks) (va.append vb) (by simpa using hz),rfl,q _ I.fresh⟩
def as7:V->List V->Hp->VK->Prop:=λx vs H Q=>∃ l b xs zs,x = .ref l/\vs=[.ref b]/\H l=some (.lst xs)/\Rd H b (.lst zs)/\xs.length+zs.length<=sizeLine/\Q .non (upd H l (.lst (xs++zs)))
theorem ae5:MtM X "list.extend" as7:=λpins s σ H x vs v us Q I rx rv ⟨l,b,xs,zs,ex,ev,h1,h2,hz,q⟩=>by
 subst ex ev;cases rx
 obtain ⟨u,rfl,ru⟩:=rv.one;cases ru
 obtain ⟨_,as,n,va,la,ea⟩:=I.lstM h1;obtain ⟨_,bs,m,vb,lb,eb⟩:=I.lstR h2;have few:as.toArray.size+bs.toArray.size<=sizeLine:=by simp;omega
 have long:¬ (!as.toArray.isEmpty && Builtin.List.listTooLong (as.toArray.size+bs.toArray.size))=true:=by rw [a2k few,eO];exact aP
 exact cv F.slot_list_extend ⟨_,ea,rfl⟩ F.entry_list_extend (F.args_list_extend_2 _ _) (AutoSeq1.list_extend_list_list_0 l as.toArray n b bs.toArray m long (by simp;omega) (by omega))
  ⟨ea,eb, .non,_,I.lset (its':=as++bs) h1 ea (by simp) (va.append vb) (by simpa using hz),rfl,q⟩
def as8:R2:=λx y H Q=>∃ l k xs,x = .ref l/\y = .int k/\Rd H l (.lst xs) /\ -(2 ^ 63)<=k/\k<2 ^ 63/\xs.length*k.toNat<=sizeLine/\∀ p,H p=none->Q (.ref p) (upd H p (.lst (List.replicate k.toNat xs).flatten))
theorem aoh(its:List Value)(k:Nat):List.foldl (λx1 x2=>x1++x2) #[] (List.replicate (if its.toArray.isEmpty=true then 0 else k) its.toArray)=(List.replicate k its).flatten.toArray:=by
 have g:∀ m:Nat,List.foldl (λx1 x2=>x1++x2) #[] (List.replicate m its.toArray)=(List.replicate m its).flatten.toArray:=λm=>by simpa using foldl_rep its m []
 cases its with
 | nil=>simp
 | cons a r=>rw [aL (by simp),g]
theorem aoi:OpR X (binaryOp .Mult) as8:=λpins s σ H x y v u Q I rx ry ⟨l,k,xs,ex,ey,h1,k1,k2,hz,q⟩=>by
 subst ex ey;cases rx
 obtain ⟨t,rfl⟩:=ry;obtain ⟨_,as,n,va,la,ea⟩:=I.lstR h1;have few:as.toArray.size*k.toNat<=sizeLine:=by rw [ay,<-la];exact hz
 have top:(sizeLine:Nat)<=(2 ^ 63 - 1) / 8:=by decide
 refine cE (T := "list") (U := "int") (by decide) ⟨_,ea,rfl⟩ (λs'=>dA s' k t) noFill_list_mul eD cm repeat_list dX.lookup
  (cv cm (dA s k t) dY (dM _ _) (int___rmul___int_list k t l as.toArray n)
   ⟨ea,rfl,⟨_,ea,rfl⟩,cv F.slot_list_mul ⟨_,ea,rfl⟩ F.entry_list_mul (F.args_list_mul_2 _ _)
    (eE l as.toArray n k t (by rw [fitsIndex_both k1 k2];exact aP) (by omega) (by rw [a2k few];exact aP)) ⟨ea,?_⟩⟩)
 rw [aoh];exact ⟨.ref _,_,I.lnew (t':=s.toks) (va.rep k.toNat) (by rw [len_rep,eR];exact hz),rfl,q _ I.fresh⟩
end
end L2
namespace MI
open PySem PySem.Spec L2 TPM
def wz(d:D)(h:Hd):Option (List D):=match d with
 | .rol xs=>some xs
 | .ref i=>(match h[i]? with | some (.lst xs)=>some xs | _=>none)
 | _=>none
section
variable{K:PySem.W.Frag}{ι:List Addr}{H:Hp}{h:Hd}
theorem a09(r:Rep K ι H x d)(hr:HRep K ι H h)(e:wz d h=some xs):∃ a vs,x = .ref a/\Rd H a (.lst vs)/\Reps K ι H vs xs:=by
 cases r with
 | @rol a vs ys hp rs=>cases e;exact ⟨a,vs,rfl, .inr hp,rs⟩
 | @ref a i hp =>
  obtain ⟨ob,e1,e2⟩:=hr.at hp;simp only [wz,e1] at e
  cases ob with
  | lst ys=>cases e;obtain ⟨vs,h3,h4⟩:=e2;exact ⟨a,vs,rfl, .inl h3,h4⟩
  | _=>cases e
 | _=>cases e
def jb:D->D->Hd->R D
 | .int i, .int j,h=>.ok (.int (i+j)) h
 | .str x, .str y,h=>if x.length+y.length<=LINE then .ok (.str (x++y)) h else .no
 | .tup [], .tup ys,h=>.ok (.tup ys) h
 | .tup (x::xs), .tup ys,h=>if (x::xs).length+ys.length<=LINE then .ok (.tup (x::xs++ys)) h else .no
 | x,y,h=>match wz x h,wz y h with
  | some xs,some ys=>if xs.length+ys.length<=LINE then .ok (.ref h.length) (h++[.lst (xs++ys)]) else .no
  | _,_=>.no
theorem agk(e1:wz x h=some xs)(e2:wz y h=some ys):jb x y h=if xs.length+ys.length<=LINE then .ok (.ref h.length) (h++[.lst (xs++ys)]) else .no:=by
 cases x<;>first | (cases e1;done) | (cases y<;>first | (cases e2;done) | (simp only [jb,e1,e2]))
theorem aoj(x y:D)(h:Hd):(∃ i j,x = .int i/\y = .int j)\/(∃ i j,x = .str i/\y = .str j)\/(∃ xs ys,x = .tup xs/\y = .tup ys)\/(∃ xs ys,wz x h=some xs/\wz y h=some ys)\/jb x y h = .no:=by
 cases e1:wz x h with
 | some xs =>
  cases e2:wz y h with
  | some ys=>exact .inr (.inr (.inr (.inl ⟨xs,ys,rfl,rfl⟩)))
  | none =>
   refine .inr (.inr (.inr (.inr ?_)))
   cases x<;>first | (cases e1;done) | (simp only [jb,e1,e2])
 | none =>
  cases x with
  | int i=>cases y<;>first | exact .inl ⟨_,_,rfl,rfl⟩ | exact .inr (.inr (.inr (.inr rfl)))
  | str i=>cases y<;>first | exact .inr (.inl ⟨_,_,rfl,rfl⟩) | exact .inr (.inr (.inr (.inr rfl)))
  | tup i=>cases y<;>first | exact .inr (.inr (.inl ⟨_,_,rfl,rfl⟩)) | (cases i<;>exact .inr (.inr (.inr (.inr rfl))))
  | _=>refine .inr (.inr (.inr (.inr ?_)));simp only [jb,e1]
theorem ajv:a2g K jb (λx y H Q=>(rI0 (λi j=>.int (i+j)) x y H Q\/(∃ i j,x = .str i/\y = .str j/\i.length+j.length<=sizeLine/\Q (.str (i++j)) H)\/aqt K x y H Q\/as6 x y H Q)\/as5 K x y H Q):=by
 intro E ι H h x y dx dy Q rx ry hr o
 rcases aoj dx dy h with ⟨i,j,rfl,rfl⟩ | ⟨i,j,rfl,rfl⟩ | ⟨xs,ys,rfl,rfl⟩ | ⟨xs,ys,e1,e2⟩ | e
 ·cases rx;cases ry
  exact .inl (.inl ⟨i,j,rfl,rfl,ans o (.int _) hr⟩)
 ·cases rx;cases ry
  simp only [jb] at o
  split at o
  ·rename_i hc;exact .inl (.inr (.inl ⟨i,j,rfl,rfl,ll hc,ans o (.str _) hr⟩))
  ·exact o.elim
 ·cases rx with
  | @tup a vs _ ha r1 =>
  cases ry with
  | @tup b us _ hb r2 =>
  cases xs with
  | nil=>cases r1;exact .inr ⟨a,b,us,rfl,rfl,SqT.of ha,SqT.of hb,ans o (.tup hb r2) hr⟩
  | cons z xs =>
   simp only [jb] at o
   split at o
   ·rename_i hc;refine .inl (.inr (.inr (.inl ⟨a,b,vs,us,rfl,rfl,SqT.of ha,SqT.of hb,λz=>(by subst z;cases r1),ll (by rw [r1.len,r2.len];exact hc),λz=>?_,λ_=>?_⟩)))
    ·subst z;cases r2
     rw [bR] at o;exact ans o (.tup ha r1) hr
    ·exact a06 (r1.app r2) hr o
   ·exact o.elim
 ·rw [agk e1 e2] at o;obtain ⟨a,vs,rfl,h1,h2⟩:=a09 rx hr e1;obtain ⟨b,us,rfl,h3,h4⟩:=a09 ry hr e2
  split at o
  ·rename_i hc;exact .inl (.inr (.inr (.inr ⟨a,b,vs,us,rfl,rfl,h1,h3,ll (by rw [h2.len,h4.len];exact hc),uf (h2.app h4) hr o⟩)))
  ·exact o.elim
 ·rw [e] at o;exact o.elim
theorem jj(ha:ME X E a fa)(hb:ME X E b fb):ME X E (.BinOp a .Add b pos) (s2 jb fa fb) :=
 aat (OpR.or (aqi.or (ado.or (ani.or aog))) aoe) ajv ha hb
open Classical in
noncomputable def xu:D->D->Hd->R D
 | .int i, .int j,h=>if CMul i j then .ok (.int (i*j)) h else .no
 | x, .int k,h=>match wz x h with
  | some xs=>if (-(2 ^ 63)<=k/\k<2 ^ 63)/\xs.length*k.toNat<=LINE then .ok (.ref h.length) (h++[.lst (List.replicate k.toNat xs).flatten]) else .no
  | none=>.no
 | _,_,_=>.no
theorem ajw:a2g K xu (λx y H Q=>rI CMul (λi j=>.int (i*j)) x y H Q\/as8 x y H Q):=by
 intro E ι H h x y dx dy Q rx ry hr o
 cases ry with
 | int k =>
  cases hx:wz dx h with
  | some xs =>
   obtain ⟨a,vs,rfl,h1,h2⟩:=a09 rx hr hx;have o':out K E (yh K) ι H (if (-(2 ^ 63)<=k/\k<2 ^ 63)/\xs.length*k.toNat<=LINE then .ok (.ref h.length) (h++[.lst (List.replicate k.toNat xs).flatten]) else .no) Q:=by
    cases dx<;>first | (cases hx;done) | (simp only [xu,hx] at o;exact o)
   split at o'
   ·rename_i hc;exact .inr ⟨a,k,vs,rfl,rfl,h1,hc.1.1,hc.1.2,ll (by rw [h2.len];exact hc.2),uf (h2.flat _) hr o'⟩
   ·exact o'.elim
  | none =>
   cases rx with
   | int i =>
    by_cases hc:CMul i k
    ·simp only [xu,aA hc] at o;exact .inl ⟨i,k,rfl,rfl,hc,ans o (.int _) hr⟩
    ·simp only [xu,aL hc] at o;exact o.elim
   | _=>simp only [xu,hx] at o;exact o.elim
 | _=>cases rx<;>exact o.elim
theorem a3p(ha:ME X E a fa)(hb:ME X E b fb):ME X E (.BinOp a .Mult b pos) (s2 xu fa fb):=aat (alx.or aoi) ajw ha hb
def ajx:D->List D->Hd->R D
 | .ref i,[.tup ys],h=>(match h[i]? with | some (.lst xs)=>if xs.length+ys.length<=LINE then .ok .non (h.set i (.lst (xs++ys))) else .no | _=>.no)
 | .ref i,[y],h=>(match h[i]?,wz y h with | some (.lst xs),some ys=>if xs.length+ys.length<=LINE then .ok .non (h.set i (.lst (xs++ys))) else .no | _,_=>.no)
 | _,_,_=>.no
theorem ajy:apu K ajx (λx vs H Q=>as7 x vs H Q\/abw K x vs H Q):=by
 intro E ι H h x dx xs ds Q rx r hr o
 unfold ajx at o
 split at o
 ·rename_i i ys
  cases rx with
  | @ref p _ hp =>
   cases r with
   | cons r1 rs =>
    cases rs
    cases r1 with
    | @tup b us zs hb rb =>
     split at o
     ·rename_i xs hx;obtain ⟨vs,h3,h4⟩:=hr.lst hp hx
      split at o
      ·rename_i hc;exact .inr ⟨p,b,vs,us,rfl,rfl,h3,SqT.of hb,ll (by rw [h4.len,rb.len];exact hc),a7n (h4.app rb) hr hp .non o⟩
      ·exact o.elim
     ·exact o.elim
 ·rename_i i y _
  cases rx with
  | @ref p _ hp =>
   cases r with
   | cons r1 rs =>
    cases rs
    split at o
    ·rename_i xs ys hx hy;obtain ⟨vs,h3,h4⟩:=hr.lst hp hx;obtain ⟨b,us,rfl,h5,h6⟩:=a09 r1 hr hy
     split at o
     ·rename_i hc;exact .inl ⟨p,b,vs,us,rfl,rfl,h3,h5,ll (by rw [h4.len,h6.len];exact hc),a7n (h4.app h6) hr hp .non o⟩
     ·exact o.elim
    ·exact o.elim
 ·exact o.elim
end
end MI
namespace MI
open PySem PySem.Spec L2
def a6y(d:D)(h:Hd):Option (List Int):=match d with
 | .ref i=>(match h[i]? with | some (.lst xs)=>a3m xs | _=>none)
 | .rol xs=>a3m xs
 | _=>none
theorem a9o(r:Rep K ι H v d)(hr:HRep K ι H h)(e:a6y d h=some ns):∃ p,v = .ref p/\SqL K H p (ns.map V.int):=by
 unfold a6y at e
 split at e
 ·cases r with
  | @ref p _ hp =>
   split at e
   ·rename_i xs hx;obtain ⟨vs,h3,h4⟩:=hr.lst hp hx;exact ⟨p,rfl,SqL.of (by rw [h3,a1d h4 e])⟩
   ·cases e
 ·cases r with
  | @rol p vs xs hp r=>exact ⟨p,rfl,by rw [<-a1d r e];exact hp.l⟩
 ·cases e
end MI
namespace L2
open PySem PySem.Spec PyProof.Rows
section
variable{X:Cx}
theorem a83:CallR X (.builtin "sorted") (λxs H Q=>∃ (p:Addr) (ns:List Int),xs=[.ref p]/\SqL X.K H p (ns.map V.int)/\ns.length<64/\∀ l,H l=none->Q (.ref l) (upd H l (.lst ((PySem.W.sortI ns).map V.int)))):=by
 intro pins s σ H xs us Q I r ⟨p,ns,e,hq,h64,q⟩
 subst e;obtain ⟨u,rfl,ru⟩:=vals1 r;cases ru
 obtain ⟨its,r',pl,hz⟩:=I.list hq;have hI:IntsAre its ns:=intsAre_of r';have hl:its.length=ns.length:=by have:=r'.length;simp at this;omega
 refine sorted_ints pl.isList hI (by omega) λout ns' a1 a2 a3=>?_
 obtain ⟨e,he⟩:=sortedAll_at s.heap its out;have e2:ns'=PySem.W.sortI ns:=PySem.W.eq_sortI a2 a3;subst e2;have ln:(PySem.W.sortI ns).length=ns.length:=(fO ns).length_eq;refine ⟨.ref (s.heap.objs.size+1),_,I.laid (t':=s.toks) (λ_ _=>sortedAll_old) (hV _) (show ObjOk X.prog X.w _ _ _ (.lst ((PySem.W.sortI ns).map V.int)) from ⟨by rw [am,ln];have:=dE;omega,out.toList,e,a2m a1,by simpa [seqObj] using he⟩),rfl,q _ (I.hok.fresh (hV _))⟩
end
end L2
namespace MI
open PySem PySem.Spec L2
def a3q:List D->Hd->R D
 | [d],h=>(match a6y d h with | some ns=>if ns.length<64 then .ok (.ref h.length) (h++[.lst ((PySem.W.sortI ns).map D.int)]) else .no | none=>.no)
 | _,_=>.no
theorem a6z:∀ ns:List Int,Reps K ι H (ns.map V.int) (ns.map D.int)
 | []=>.nil
 | n::ns=>.cons (.int n) (a6z ns)
theorem ae6:afn K a3q (λxs H Q=>∃ (p:Addr) (ns:List Int),xs=[.ref p]/\SqL K H p (ns.map V.int)/\ns.length<64/\∀ l,H l=none->Q (.ref l) (upd H l (.lst ((PySem.W.sortI ns).map V.int)))):=by
 intro E ι H h xs ds Q r hr o
 unfold a3q at o
 split at o
 ·cases r with
  | cons r rs =>
   cases rs
   split at o
   ·rename_i ns e
    split at o
    ·rename_i hl;obtain ⟨p,rfl,q⟩:=a9o r hr e;exact ⟨p,ns,rfl,q,hl,uf (a6z _) hr o⟩
    ·exact o.elim
   ·exact o.elim
 ·exact o.elim
end MI
namespace L2
open PySem PySem.Spec PyProof.Rows
def ixI(n:Int):List Int->Option Nat
 | []=>none
 | a::l=>if a=n then some 0 else (ixI n l).map (·+1)
end L2
namespace MI
open PySem PySem.Spec L2
def awq:D->Option Key
 | .int i=>some (.inl i)
 | .str x=>some (.inr x)
 | _=>none
def axy:D->Option (List Key)
 | .tup xs=>a1f awq xs
 | _=>none
def putD{κ:Type}[DecidableEq κ](kvs:List (κ × D))(k:κ)(d:D):List (κ × D):=if (kvs.any λkv=>decide (kv.1=k))=true then kvs.map λkv=>if kv.1=k then (kv.1,d) else kv else kvs++[(k,d)]
section
variable{K:PySem.W.Frag}{ι:List Addr}{H:Hp}{h:Hd}
variable{X:Cx}{E:XD}{a b e o i:Expr}{fa fb fc:SE}{pos:Pos}
def axz(o k v:D)(h:Hd):Option Hd:=match o with
 | .ref i=>(match h[i]? with
  | some (.dK kvs)=>(match awq k with | some kk=>if kvs.length<LINE then some (h.set i (.dK (putD kvs kk v))) else none | none=>none)
  | some (.dT kvs)=>(match axy k with | some kk=>if kvs.length<LINE then some (h.set i (.dT (putD kvs kk v))) else none | none=>none)
  | _=>none)
 | _=>none
def ajz(fe fo fi:SE):SS:=λτ h=>(fe τ h).fl λv h1=>(fo τ h1).fl λo h2=>(fi τ h2).fl λk h3=>match axz o k v h3 with | some h4=>.nx τ h4 | none=>.no
end
end MI
namespace ZP
open PySem PySem.Spec PySem.Builtin PySem.Builtin.SmallTypes L2
def a4e(it:Addr):Obj:={ cls:=.type "enumerate",data:=.fields #[.none, .bool false, .ref it,rawInt 0, .none, .none] }
theorem agl(t:Tok)(k:Srk)(us:List Value):Meets (Builtin.«enumerate.__new__» ⟨[.type "enumerate",val t k],[]⟩)
  (λ_ R s=>cont s.heap k us/\R (.ok (.ret (.ref (s.heap.objs.size+1)))) { s with heap:=(s.heap.push (iob t k)).push (a4e s.heap.objs.size) }) :=
 .of_wp λprog w A R s h=>by
  obtain ⟨hp,g,d,tk,os⟩:=s;obtain ⟨c,h⟩:=h;have sub:=sub_enumerate;have c':cont (Shared.heap ⟨hp,g,d,tk,os⟩) k us:=c;have fin:R (.ok (.ret (.ref (hp.push (iob t k)).objs.size))) { heap:=(hp.push (iob t k)).push (a4e hp.objs.size),gens:=g,drawn:=d,toks:=tk,os:=os }:=by simpa [dB] using h
  wp_walk
  refine wpAny_stack_any λst=>aw ?_
  split
  ·rename_i cl _ _ _ _ _
   cases (cl == Value.type "enumerate")
   ·wp_walk using a7y (t:=t) c'
    exact ⟨_,rfl,fin⟩
   ·wp_walk using a7y (t:=t) c'
    exact ⟨_,rfl,fin⟩
  ·wp_walk using a7y (t:=t) c'
   exact ⟨_,rfl,fin⟩
def ItE(k:Srk):It where
 go:=λi H=>∃ xs x,its H k=some xs/\xs[i]? = some x
 yld:=λi H v H'=>∃ xs x p,its H k=some xs/\xs[i]? = some x/\H p=none/\v = .ref p/\H'=upd H p (.tup [.int i,x])
 stop:=λi H=>∃ xs,its H k=some xs/\i=xs.length
def tnE(e it:Addr)(t:Tok)(k:Srk)(i:Nat)(h:Heap):Prop:=(∃ old,IsEnum h e it i old)/\own it t k i h
theorem agm(ne:e≠it):Turn P w K (.Tuple elts x1 pos) (ItE k) [e,it] e (tnE e it t k) where
 mem:=by simp
 obj:=λi h st b hb=>by
  obtain ⟨⟨old,h1⟩,h4⟩:=st;simp only [aD,aN,cn] at hb
  rcases hb with rfl | rfl
  ·exact ⟨_,h1,λv z=>(by cases z)⟩
  ·exact ag9 h4
 keep:=λi h h' st kk=>by
  obtain ⟨⟨old,h1⟩,h4⟩:=st;exact ⟨⟨old,kk e (by simp) _ h1⟩,aca h4 λob q=>kk it (by simp) ob q⟩
 item:=by
  intro X hP hw hK hc i pins s σ H E I hf st hg
  subst hP hw hK;obtain ⟨xs,x,e1,g1⟩:=hg;obtain ⟨⟨old,h1⟩,h4⟩:=st;have n:∀ c∈[e,it],H c=none:=λc hc=>(hf c hc).1;obtain ⟨cs,P1,S1,D1,a1,b1,c1,d1⟩:=aga I (t:=t) e1 (n it (by simp))
  have hd:=I.ok.hd hc;have ef:e ∉ it::cs:=by
   intro z
   rcases aD.mp z with z | z
   ·exact ne z
   ·exact c1 e z (n e (by simp))
  refine wpAny_pyNext_enum_itemD (D1 X.A.in1 hd) h1 (a1 i h4) (ah.mp g1).1 ne ef λu h' tk pu eo s1' pr sz kp=>?_;obtain ⟨x',q1,r1⟩:=d1 i u pu;rw [g1] at q1;cases q1
  refine ⟨_,rfl,wpAny_letOwnedTupleGo_enum eo λh2' z2' sb=>?_⟩;have hp:H s.heap.objs.size=none:=I.hok.fresh (ar _);have lt:∀ c∈[e,it],c<s.heap.objs.size:=λc hc=>by
   simp only [aD,aN,cn] at hc
   rcases hc with rfl | rfl
   ·exact aE h1
   ·obtain ⟨_,q,_⟩:=ag9 h4;exact aE q
  have nT:∀ c∈[e,it],c≠s.heap.objs.size:=λc hc=>aR (lt c hc);have all:∀ c o,c ∉ [e,it]->s.heap.get? c=some o->h2'.get? c=some o:=λc o nc q=>by
   simp only [aD,aN,cn,not_or] at nc;exact (sb.2 c nc.1).trans (kp c o nc.1 nc.2 q)
  have I0:Inv X pins σ (upd H s.heap.objs.size (.tup [.int i,x])) { s with heap:=s.heap.push { cls:=.type "tuple",data:=.seq #[.int i tk,u] } } :=
   I.laid (t':=s.toks) (o:=.tup [.int i,x]) (λb o q=>ai _ q) (ar _) ⟨by show 2<=sizeLine;decide,[.int i tk,u], .cons ⟨tk,rfl⟩ (.cons r1 .nil),⟨_,aK _ rfl,rfl,_,rfl⟩⟩
  have I1:Inv X pins σ (upd H s.heap.objs.size (.tup [.int i,x])) { s with heap:=h2',toks:=tk+1 }:=by
   refine agb (s:={ s with heap:=s.heap.push { cls:=.type "tuple",data:=.seq #[.int i tk,u] } }) (ch:=[e,it]) I0 (λb hb=>?_) λc o nc q=>?_
   ·obtain ⟨f0,f1⟩:=hf b hb;exact ⟨by rw [jo (nT b hb)];exact f0,f1⟩
   ·rcases Heap.get?_push_cases q with ⟨rfl,rfl⟩ | q
    ·exact (sb.2 _ (nT e (by simp)).symm).trans pr
    ·exact all c o nc q
  refine ⟨.ref s.heap.objs.size,_,I1,rfl,⟨xs,x,_,e1,g1,hp,rfl,rfl⟩,⟨⟨u,by simpa using z2'⟩,aca (b1 _ _ s1') λob q=>(sb.2 _ ne.symm).trans q⟩,λb hb=>?_⟩
  rw [jo (nT b hb)];exact n b hb
 done:=by
  intro X hP hw hK hc i pins s σ H E I hf st hg
  subst hP hw hK;obtain ⟨xs,e1,rfl⟩:=hg;obtain ⟨⟨old,h1⟩,h4⟩:=st;have n:∀ c∈[e,it],H c=none:=λc hc=>(hf c hc).1;obtain ⟨cs,P1,S1,D1,a1,b1,c1,d1⟩:=aga I (t:=t) e1 (n it (by simp))
  have hd:=I.ok.hd hc;refine wpAny_pyNext_enum_endD (D1 X.A.in1 hd) h1 (a1 _ h4) λh' ex=>⟨rfl,agb (t':=s.toks) I hf λc o nc q=>?_⟩;simp only [aD,aN,cn,not_or] at nc;exact ex c o nc.2 q
 self:=λ_ _ _ _ _ st h=>by
  obtain ⟨⟨old,h1⟩,_⟩:=st;exact wpAny_pyIter_enum h1 h
section
variable{X:Cx}{elts:List Expr}{x1:Nat}{tpos:Pos}
def aw0(ta:TA):TI:=λσ H R=>ta σ H λvs H1=>∃ k xs,vs=[Srk.v k]/\its H1 k=some xs/\R (ItE k) H1
theorem aok(hg:Gl X "enumerate")(hm:X.mg "enumerate" = none)(ha:PA X [e1] ta)
  (h1:starEach [e1] X.env=[(false,eval e1 X.env)]:=by rfl):PI X (.Tuple elts x1 tpos) (.Call (.Name "enumerate" p) [e1] [] pos) (aw0 ta):=by
 intro pins s σ H R I h
 refine dD (a6o I hg hm PyProof.Rows.boot_enumerate ?_ (by decide) (by decide))
 refine cN (thn (ha pos pins s σ H _ I h) λus s1 ⟨vs,H1,I1,r1,q1⟩=>?_) (by rw [h1];rfl) (by rfl)
 obtain ⟨k,xs,rfl,e1,q⟩:=q1;obtain ⟨v1,rfl,rv1⟩:=vals1 r1;obtain ⟨t,rfl⟩:=arw rv1;obtain ⟨us1,c1,_⟩:=aay I1 e1;refine callType_new F.called_enumerate (by decide) (F.typeCall_enumerate_1 _) (F.newCall_enumerate_1 _) (λobj=>F.args_object_init_2 obj _) F.entry_enumerate_new (agl t k us1) ⟨c1,?_⟩
 have at0:((s1.heap.push (iob t k)).push (a4e s1.heap.objs.size)).get? s1.heap.objs.size=some (iob t k):=ai _ (aK _ (by cases k<;>rfl))
 have at1:IsEnum ((s1.heap.push (iob t k)).push (a4e s1.heap.objs.size)) (s1.heap.objs.size+1) s1.heap.objs.size 0 .none:=by
  have:=aK (o:=a4e s1.heap.objs.size) (s1.heap.push (iob t k)) rfl
  rw [dB] at this;exact this
 have keepA:∀ b o,s1.heap.get? b=some o->((s1.heap.push (iob t k)).push (a4e s1.heap.objs.size)).get? b=some o:=λb o q=>ai _ (ai _ q);have I2:Inv X pins σ H1 { s1 with heap:=(s1.heap.push (iob t k)).push (a4e s1.heap.objs.size) }:=I1.kept (t':=s1.toks) keepA
 refine ⟨⟨_,at1,rfl⟩,?_⟩;refine wpAny_pyIter_enum (s:={ s1 with heap:=(s1.heap.push (iob t k)).push (a4e s1.heap.objs.size) }) at1 ?_
 refine ⟨s1.heap.objs.size+1,[s1.heap.objs.size+1,s1.heap.objs.size],tnE _ _ t k,ItE k,H1,rfl,I2,agm (by intro z;have z:(_:Nat)=_:=z;omega),⟨⟨.none,at1⟩,axv at0⟩,λb hb=>?_,q⟩
 have:s1.heap.objs.size<=b:=by
  simp only [aD,aN,cn] at hb
  rcases hb with rfl | rfl
  ·exact hV _
  ·exact ar _
 exact I1.fpOk this (I1.hok.fresh this)
end
end ZP
namespace MI
open PySem PySem.Spec L2 ZP
def ak0(x:D)(h:Hd):R Itm:=match srcOf x h with
 | some (xs,c)=>.ok ⟨((List.range xs.length).zip xs).map λp=>.tup [.int (p.1:Nat),p.2],c⟩ h
 | none=>.no
def aaz(f:SE):SI:=λτ h=>(f τ h).bind ak0
theorem aol(hg:Gl X "enumerate")(hm:X.mg "enumerate" = none)(ha:ME X E e1 f)
  (h1:starEach [e1] X.env=[(false,eval e1 X.env)]:=by rfl):MI X E (.Tuple elts x1 tpos) (.Call (.Name "enumerate" p) [e1] [] pos) (aaz f):=by
 intro pins s σ H Rr I ⟨ι,τ,h,S,Rh,o⟩
 refine aok hg hm (a05 ha a2i (by rw [h1];rfl)) h1 pins s σ H Rr I ?_
 refine ⟨ι,τ,h,S,Rh,ik o λd h1 ι1 H1 v g1 r1 hr1 o1=>?_⟩;unfold ak0 at o1
 split at o1
 ·rename_i xs c q1;obtain ⟨k,rfl,kc,kf⟩:=arx r1 hr1 q1;obtain ⟨vs,w1,w2⟩:=kf ι1 H1 h1 (.refl _ _) hr1 kc;refine ⟨k,vs,rfl,w1,o1 ι1 H1 _ (.refl _ _) ?_ hr1⟩
  intro ι3 H3 h3 g3 hr3 c3
  obtain ⟨us,a1,a2⟩:=kf ι3 H3 h3 g3 hr3 c3;refine ⟨λi d ed=>?_,us,a1,?_⟩
  ·simp only [aW,aO] at ed;obtain ⟨⟨j,y⟩,ez,rfl⟩:=ed;obtain ⟨ex,ey⟩:=fT.mp ez;have hj:j=i:=by
    obtain ⟨_,q⟩:=ah.mp ex;simpa using q.symm
   subst hj;obtain ⟨v2,b3,b4⟩:=a2.get ey;refine ⟨⟨us,v2,a1,b3⟩,λx H' yl=>?_⟩;obtain ⟨xs',x',p,c1,c3,c5,rfl,rfl⟩:=yl;rw [a1] at c1;cases c1
   rw [b3] at c3;cases c3
   exact ⟨yg c5 _, .tup mz (.cons (.int _) (.cons (b4.mono (yg c5 _)) .nil)),hr3.aside c5 _⟩
  ·rw [am,List.length_zip,aG,a2.len];omega
 ·exact o1.elim
end MI
namespace L2
open PySem PySem.Spec PyProof.Rows
section
variable{X:Cx}
def aom(lo:Int)(n:Nat):List V:=(List.range n).map λi=>V.int (lo+(i:Nat))
theorem ak1{lo:Int}{n:Nat}{acc:Array Value}(h:ItemsOf (λi v=>∃ t,v = .int (lo+i*1) t) acc n):Vals (aom lo n) acc.toList:=by
 obtain ⟨hs,ha⟩:=h;have key:∀ (k:Nat) (us:List Value) (a:Int),us.length=k->(∀ (j:Nat) (v:Value),us[j]? = some v->∃ t,v = .int (a+(j:Nat)) t)->Vals ((List.range k).map λi=>V.int (a+(i:Nat))) us:=by
  intro k
  induction k with
  | zero=>intro us a hl _;cases us with | nil=>exact .nil | cons _ _=>simp at hl
  | succ k ih =>
   intro us a hl hp
   cases us with
   | nil=>simp at hl
   | cons u us =>
    rw [cQ,aZ,cJ];refine .cons ?_ ?_
    ·obtain ⟨t,e⟩:=hp 0 u rfl;exact ⟨t,e⟩
    ·have:=ih us (a+1) (by simpa using hl) λj v e=>by
      obtain ⟨t,q⟩:=hp (j+1) v (by simpa using e)
      exact ⟨t,by rw [q];congr 1;push_cast;omega⟩
     have fe:((λi:Nat=>V.int (a+(i:Nat))) ∘ Nat.succ)=λi:Nat=>V.int (a+1+(i:Nat)):=by funext i;simp;omega
     rw [fe];exact this
 refine key n _ lo (by simp [hs]) λj v e=>?_
 obtain ⟨t,q⟩:=ha j v (by simpa using e)
 exact ⟨t,by rw [q,Int.mul_one]⟩
def Bd(lo hi:Int):Prop := -(2 ^ 62)<=lo/\lo<2 ^ 62 /\ -(2 ^ 62)<=hi/\hi<2 ^ 62
theorem a84(hc:X.calm=true):CallR X (.type "list") (λxs H Q=>∃ p lo hi,xs=[.ref p]/\H p=some (.rng lo hi)/\Bd lo hi/\(hi - lo).toNat<=sizeLine/\∀ l,H l=none->Q (.ref l) (upd H l (.lst (aom lo (hi - lo).toNat)))):=by
 intro pins s σ H xs us Q I r ⟨p,lo,hi,e,hp,⟨b1,b2,b3,b4⟩,hl,q⟩
 subst e;obtain ⟨u,rfl,ru⟩:=vals1 r;cases ru
 obtain ⟨t,u,v,ho⟩:=I.hok p _ hp;refine call_list_range (n:=(hi - lo).toNat) (I.ok.hd hc) ho (small_one b1 b2 b3 b4) (by rw [rangeSize_one];split<;>omega) (by have:=dE;omega) λh' tk acc c kp e hi'=>?_
 exact ⟨.ref s.heap.objs.size,_,I.laid (t':=tk) kp (ar _) (show ObjOk X.prog X.w _ h' _ (.lst (aom lo (hi - lo).toNat)) from ⟨by simpa [aom] using hl,acc.toList,c,ak1 hi',by simpa using e⟩),rfl,q _ (I.hok.fresh (ar _))⟩
def aw1(ta:TA):TE:=λσ H Q=>ta σ H λvs H1=>∃ j,vs=[.int j]/\∀ p,H1 p=none->Q (.ref p) (upd H1 p (.rng 0 j))
theorem ak2{s:Shared}{lo hi:Int}{tk:Nat}(I:Inv X pins σ H s)(q:∀ p,H p=none->Q (.ref p) (upd H p (.rng lo hi))) :
  EP X pins σ Q (.ref s.heap.objs.size) { s with heap:=s.heap.push { cls:=.type "range",data:=.fields #[.int lo t, .int hi u, .int 1 v] },toks:=tk } :=
 ⟨.ref _,_,I.laid (t':=tk) (o:=.rng lo hi) (λb o e=>ai _ e) (ar _) ⟨t,u,v,aK _ rfl⟩,rfl,q _ (I.hok.fresh (ar _))⟩
theorem agn(hg:Gl X "range")(hm:X.mg "range" = none)(ha:PA X [a] ta)(hs:starEach [a] X.env=[(false,eval a X.env)]:=by rfl):PE X (.Call (.Name "range" p) [a] [] pos) (aw1 ta):=by
 intro pins s σ H Q I h
 refine Call_ (a6o I hg hm boot_range (cN (thn (ha pos pins s σ H _ I h) λus s1 ⟨vs,H1,I1,r1,j,ev,q⟩=>?_) hs rfl));subst ev;obtain ⟨u1,rfl,⟨t,rfl⟩⟩:=vals1 r1;exact call_range_1 (ak2 I1 q)
end
end L2
namespace MI
open PySem PySem.Spec L2
def a70:List D->Hd->R D
 | [.int j],h=>if B62 j/\j.toNat<=LINE then .ok (.ref h.length) (h++[.lst (rng 0 j.toNat)]) else .no
 | _,_=>.no
theorem ak3(lo:Int)(n:Nat):Reps K ι H (aom lo n) (rng lo n):=by
 unfold aom rng
 generalize List.range n=l
 induction l with
 | nil=>exact .nil
 | cons i l ih=>exact .cons (.int _) ih
section
variable{X:Cx}{E:XD}{a b:Expr}{ka:SA}{p p2 pos pos2:Pos}
theorem aon(hr:HRep K ι H h)(hq:H q=none)(c:(hi - lo).toNat<=LINE)(b:Bd lo hi)(o:out K E (yh K) ι H (.ok (.ref h.length) (h++[.lst (rng lo (hi - lo).toNat)])) Q) :
  ∃ p lo' hi',[V.ref q]=[V.ref p]/\(upd H q (.rng lo hi)) p=some (.rng lo' hi')/\Bd lo' hi'/\(hi' - lo').toNat<=sizeLine/\∀ l,(upd H q (.rng lo hi)) l=none->Q (.ref l) (upd (upd H q (.rng lo hi)) l (.lst (aom lo' (hi' - lo').toNat))) :=
 ⟨q,lo,hi,rfl,mz,b,ll c,uf (E:=E) (ak3 lo _) (hr.aside hq _) (vg o (yg hq _))⟩
theorem ak4(hc:X.calm=true)(hg:Gl X "list")(hm:X.mg "list" = none)(hg2:Gl X "range")(hm2:X.mg "range" = none)(ha:MA X E [a] ka)(hs:starEach [a] X.env=[(false,eval a X.env)]:=by rfl)
  (he:starEach [.Call (.Name "range" p2) [a] [] pos2] X.env=(false,eval (.Call (.Name "range" p2) [a] [] pos2) X.env)::starEach [] X.env:=by rfl) (hpl:(backTo pos (starEach [] X.env)).any (·.1)=false:=by rfl) :
  ME X E (.Call (.Name "list" p) [.Call (.Name "range" p2) [a] [] pos2] [] pos) (sA a70 ka):=by
 refine PE.weak (a0n (a84 hc) hg hm anm (a05 (agn hg2 hm2 ha hs) a2i he) (by decide) (by decide) he hpl) λσ H Q ⟨ι,τ,h,S,Rh,o⟩=>?_
 refine ⟨ι,τ,h,S,Rh,ik o λds h1 ι1 H1 vs g1 r1 hr1 o1=>?_⟩;unfold a70 at o1
 split at o1
 ·split at o1
  ·rename_i j hb
   cases r1 with
   | cons r rs =>
    cases r;cases rs
    exact ⟨j,rfl,λq hq=>aon hr1 hq (by rw [Int.sub_zero];exact hb.2) ⟨by decide,by decide,hb.1.1,hb.1.2⟩ (by rw [Int.sub_zero];exact o1)⟩
  ·exact o1.elim
 ·exact o1.elim
end
end MI
namespace L2
open PySem PySem.Spec PyProof.Rows
end L2
namespace MI
open PySem PySem.Spec L2
def ay0(lo:Int)(n:Nat):List D:=(List.range n).map λi=>D.int (lo - (i:Nat))
def as9(ds:List D)(h:Hd):R Itm:=match ds with
 | [.int i, .int j, .int k]=>if k = -1/\B62 i/\B62 j then .ok ⟨ay0 i (i - j).toNat,λ_=>True⟩ h else .no
 | _=>.no
theorem ago:bootBuiltins "sorted" = some (.builtin "sorted"):=by decide +kernel
theorem du{α β:Type}(a:α)(h:Hd)(k:α->Hd->R β):(R.ok a h).bind k=k a h:=rfl
theorem a0s{α:Type}(a:α)(h:Hd)(k:α->Hd->Fl):(R.ok a h).fl k=k a h:=rfl
def thn(r:Fl)(g:SS):Fl:=match r with | .nx τ h=>g τ h | r=>r
theorem vh(f g:SS)(τ:Sd)(h:Hd):jd f g τ h=thn (f τ h) g:=by unfold jd thn;cases f τ h<;>rfl
theorem a1s(τ:Sd)(h:Hd)(g:SS):thn (.nx τ h) g=g τ h:=rfl
theorem acf(d:D)(h:Hd)(g:SS):thn (.rt d h) g = .rt d h:=rfl
def toR(r:Fl):R D:=match r with | .rt d h1=>.ok d h1 | .nx _ h1=>.ok .non h1 | .ex c h1=>.ex c h1 | _=>.no
theorem jq(b:SS)(n:Nat)(ds:List D)(h:Hd):qj b n ds h=toR (b (a5j n ds) h):=by unfold qj toR;cases b (a5j n ds) h<;>rfl
theorem a9p(d:D)(h:Hd):toR (.rt d h) = .ok d h:=rfl
theorem acg(τ:Sd)(h:Hd):toR (.nx τ h) = .ok .non h:=rfl
theorem m7:∀ {xs:List D},clos n xs↔∀ x∈xs,clo n x
 | []=>by simp [clos]
 | x::xs=>by simp [clos,m7 (xs:=xs)]
theorem iy(i:Int):clo n (.int i):=by simp [clo]
theorem jc(i:Str):clo n (.str i):=by simp [clo]
theorem a9q(i:Bool):clo n (.bl i):=by simp [clo]
theorem a3r:clo n .non:=by simp [clo]
theorem j8:clos n []:=by simp [clos]
theorem gf(a:clo n x)(b:clos n xs):clos n (x::xs):=by simp only [clos];exact ⟨a,b⟩
theorem nu(h:clos n xs):clo n (.tup xs):=by simpa [clo] using h
theorem xf(h:clos n xs):clo n (.rol xs):=by simpa [clo] using h
theorem j4{α:Type}{n:Nat}{f:α->D}{l:List α}(h:∀ a∈l,clo n (f a)):clos n (l.map f):=by
 rw [m7]
 intro x hx
 obtain ⟨a,ha,rfl⟩:=bD.mp hx;exact h a ha
mutual
theorem ach(hm:n<=m):∀ {d:D},clo n d->clo m d
 | .non,_=>by simp [clo]
 | .bl _,_=>by simp [clo]
 | .int _,_=>by simp [clo]
 | .str _,_=>by simp [clo]
 | .ty _,_=>by simp [clo]
 | .tup xs,h=>by simp only [clo] at h ⊢;exact zp hm h
 | .rol xs,h=>by simp only [clo] at h ⊢;exact zp hm h
 | .scr xs,h=>by simp only [clo] at h ⊢;exact zp hm h
 | .rod _ xs,h=>by simp only [clo] at h ⊢;exact zp hm h
 | .rdT _ xs,h=>by simp only [clo] at h ⊢;exact zp hm h
 | .exc _,_=>by simp [clo]
 | .ref i,h=>by simp only [clo] at h ⊢;omega
theorem zp(hm:n<=m):∀ {xs:List D},clos n xs->clos m xs
 | [],_=>by simp [clos]
 | x::xs,h=>by simp only [clos] at h ⊢;exact ⟨ach hm h.1,zp hm h.2⟩
end
theorem a0t(hm:n<=m)(h:u5 n o):u5 m o:=by
 cases o with
 | lst xs=>exact zp hm h
 | dK kvs=>exact zp hm h
 | dT kvs=>exact zp hm h
theorem ab0{α:Type}{f:α->Option α}:∀ {xs:List α},(∀ x∈xs,f x=some x)->a1f f xs=some xs
 | [],_=>rfl
 | x::xs,h=>by
  unfold a1f;rw [h x aF,ab0 λy hy=>h y (aC _ hy)]
theorem aci(c:clo n d):a6j n h (k+1) d=some d:=by unfold a6j;rw [aA c]
theorem ak5(c:u5 n o):arz n h k o=some o:=by unfold arz;rw [aA c]
theorem ak6{n k i:Nat}{h:Hd}{xs:List D}(hi:n<=i)(e:h[i]? = some (.lst xs))(c:clos n xs):a6j n h (k+2) (.ref i)=some (.rol xs):=by
 unfold a6j;rw [aL (by simp only [clo];omega)]
 simp only [e];rw [ab0 λx hx=>aci (m7.mp c x hx)];rfl
theorem a5n{n:Nat}{d d':D}{h1:Hd}(e:a6j n h1 FU d=some d')(c:∀ o∈h1.take n,u5 n o):a6x n (.ok d h1) = .ok d' (h1.take n):=by
 unfold a6x;simp only [e];rw [ab0 λo ho=>ak5 (c o ho)]
theorem xx{h1:Hd}(e:clo n d)(c:∀ o∈h1.take n,u5 n o):a6x n (.ok d h1) = .ok d (h1.take n):=a5n (aci e) c
theorem a2t(hi:n<=i)(e:h1[i]? = some (.lst xs))(cx:clos n xs)(c:∀ o∈h1.take n,u5 n o):a6x n (.ok (.ref i) h1) = .ok (.rol xs) (h1.take n):=a5n (ak6 hi e cx) c
theorem a4k(e:f τ h = .ok (.ref h.length) (h++[.lst xs]))(cx:clos h.length xs)(c:∀ o∈h,u5 h.length o):sZ f τ h = .ok (.rol xs) h:=by
 unfold sZ;rw [e,a2t (ar _) (by simp) cx (by simpa using c)]
 simp
def Pu(F:SF)(n:Nat)(ds:List D)(d:D):Prop:=∀ h,kj false n F ds h = .ok d h
def Dr(F:SF)(n:Nat)(ds:List D)(o:O)(d:D)(o':O):Prop:=∀ p h,h[p]? = some o->kj false n F (.ref p::ds) h = .ok d (h.set p o')
theorem a2u:∀ {ds:List D},(∀ d∈ds,clo 0 d)->a08 ds=[]/\zm 0 ds=ds/\∀ k,zm k ds=ds
 | [],_=>⟨rfl,rfl,λ_=>rfl⟩
 | d::ds,h=>by
  obtain ⟨a,b,c⟩:=a2u (ds:=ds) λx hx=>h x (aC _ hx);have hd:=h d aF;have nr:refOf d=none:=by cases d<;>first | rfl | (simp only [clo] at hd;omega)
  refine ⟨?_,?_,λk=>?_⟩
  ·simpa [a08,nr] using a
  ·cases d<;>first | (simp only [clo] at hd;omega) | (simp only [zm,b])
  ·cases d<;>first | (simp only [clo] at hd;omega) | (simp only [zm,c])
theorem Pu.of{ds:List D}(hn:ds.length=n)(cd:∀ x∈ds,clo 0 x)(e:F ds []=r)(z:a6x 0 r = .ok d [])(c:clo 0 d):Pu F n ds d:=λh=>by
 obtain ⟨p1,p2,_⟩:=a2u cd;unfold kj;rw [aA hn];unfold ao9;rw [p1];simp only [a1f,c6,bY,dW];rw [aA ⟨dS,λx hx=>.inl (cd x hx),λo ho=>by simp at ho⟩,p2,e,z]
 simp [c,u6]
theorem Dr.of{ds:List D}(hn:ds.length+1=n)(cd:∀ x∈ds,clo 0 x)(co:u5 0 o)(e:F (.ref 0::ds) [o]=r)(z:a6x 1 r = .ok d [o'])(c:clo 0 d)(co':u5 0 o'):Dr F n ds o d o':=λp h hp=>by
 obtain ⟨p1,_,p3⟩:=a2u cd;have e1:a08 (.ref p::ds)=[p]:=by
  have:a08 (.ref p::ds)=p::a08 ds:=rfl
  rw [this,p1]
 have e2:zm 0 (.ref p::ds) = .ref 0::ds:=by
  have:zm 0 (.ref p::ds) = .ref 0::zm 1 ds:=rfl
  rw [this,p3]
 unfold kj;rw [aA (by simpa using hn)]
 unfold ao9;rw [e1];simp only [a1f,hp,ax,bY,dW];have all:∀ x∈(D.ref p::ds),clo 0 x\/isRef x:=λx hx=>by
  rcases aD.mp hx with rfl | hx
  ·exact .inr ⟨p,rfl⟩
  ·exact .inl (cd x hx)
 rw [aA ⟨by simp,all,λu hu=>by rw [av.mp hu];exact co⟩,e2,e,z]
 simp [c,co',u6]
theorem asa{ds:List D}(hn:ds.length=n)(cd:∀ x∈ds,clo 0 x)(e:F ds [] = .ok (.ref i) h1)(ho:h1[i]? = some o)(co:u5 0 o)(h:Hd):kj true n F ds h = .ok (.ref h.length) (h++[o]):=by
 obtain ⟨p1,p2,_⟩:=a2u cd;unfold kj;rw [aA hn];unfold ao9;rw [p1];simp only [a1f,c6,dC];rw [aA ⟨dS,λx hx=>.inl (cd x hx),λo ho=>by simp at ho⟩,p2,e]
 unfold apv;simp only [ho];rw [aA ⟨bE _,co,by simp⟩]
 simp [co,u6]
theorem ak7(g:SG)(b:SS)(τ:Sd)(h:Hd):forL (λ_=>True) g b [] τ h = .nx τ h:=by rw [forL,aA True.intro]
def trn(r:Fl)(k:Sd->Hd->Fl):Fl:=match r with | .nx τ h=>k τ h | .ct τ h=>k τ h | .bk τ h=>.nx τ h | r=>r
theorem agp(g:SG)(b:SS)(x:D)(xs:List D)(τ τ1:Sd)(h h1:Hd)(e:g x τ h = .nx τ1 h1):forL (λ_=>True) g b (x::xs) τ h=trn (b τ1 h1) (forL (λ_=>True) g b xs):=by
 rw [forL,aA True.intro,e];dsimp only;unfold trn
 cases b τ1 h1<;>rfl
theorem asb(τ:Sd)(h:Hd)(k:Sd->Hd->Fl):trn (.nx τ h) k=k τ h:=rfl
theorem asd(d:D)(h:Hd)(k:Sd->Hd->Fl):trn (.rt d h) k = .rt d h:=rfl
theorem a85{g:SG}{b:SS}{α:Type}(f:α->D)(I:List α->Sd->Hd->Prop)(Rt:D->Hd->Prop):∀ (xs pre:List α) (τ:Sd) (h:Hd),
  (∀ pre' x post τ h,pre++xs=pre'++x::post->I pre' τ h->∃ τ1 h1,g (f x) τ h = .nx τ1 h1/\((∃ τ2 h2,b τ1 h1 = .nx τ2 h2/\I (pre'++[x]) τ2 h2)\/∃ d h2,b τ1 h1 = .rt d h2/\Rt d h2))->I pre τ h->
  (∃ τ' h',forL (λ_=>True) g b (xs.map f) τ h = .nx τ' h'/\I (pre++xs) τ' h')\/∃ d h',forL (λ_=>True) g b (xs.map f) τ h = .rt d h'/\Rt d h'
 | [],pre,τ,h,_,i0=>.inl ⟨τ,h,ak7 ..,by simpa using i0⟩
 | x::xs,pre,τ,h,st,i0=>by
  obtain ⟨τ1,h1,e1,q⟩:=st pre x xs τ h rfl i0;rw [aZ,agp _ _ _ _ _ _ _ _ e1]
  rcases q with ⟨τ2,h2,e2,i2⟩ | ⟨d,h2,e2,r⟩
  ·rw [e2,asb];have:=a85 f I Rt xs (pre++[x]) τ2 h2 (λpre' y post τ h e=>st pre' y post τ h (by simpa using e)) i2
   simpa using this
  ·rw [e2,asd];exact .inr ⟨d,h2,rfl,r⟩
theorem um{g:SG}{b:SS}{α:Type}(f:α->D)(I:List α->Sd->Hd->Prop)(xs:List α)(τ:Sd)(h:Hd)
  (st:∀ pre x post τ h,xs=pre++x::post->I pre τ h->∃ τ1 h1,g (f x) τ h = .nx τ1 h1/\∃ τ2 h2,b τ1 h1 = .nx τ2 h2/\I (pre++[x]) τ2 h2) (i0:I [] τ h) :
  ∃ τ' h',forL (λ_=>True) g b (xs.map f) τ h = .nx τ' h'/\I xs τ' h':=by
 rcases a85 f I (λ_ _=>False) xs [] τ h (λpre' x post τ h e i=>let ⟨τ1,h1,a,b⟩:=st pre' x post τ h e i; ⟨τ1,h1,a, .inl b⟩) i0 with ⟨τ',h',a,b⟩ | ⟨_,_,_,z⟩
 ·exact ⟨τ',h',a,b⟩
 ·exact z.elim
theorem acj{f:D->Hd->R D}{α:Type}(g:α->D)(I:List α->List D->Hd->Prop):∀ (xs pre:List α) (ys:List D) (h:Hd),
  (∀ pre' x post ys h,pre++xs=pre'++x::post->I pre' ys h->∃ y h',f (g x) h = .ok y h'/\I (pre'++[x]) (ys++[y]) h')->I pre ys h->∃ zs h',mapR (λ_=>True) f (xs.map g) h = .ok zs h'/\I (pre++xs) (ys++zs) h'
 | [],pre,ys,h,_,i0=>⟨[],h,by rw [cL,mapR,aA True.intro],by simpa using i0⟩
 | x::xs,pre,ys,h,st,i0=>by
  obtain ⟨y,h1,e1,i1⟩:=st pre x xs ys h rfl i0;obtain ⟨zs,h',e2,i2⟩:=acj g I xs (pre++[x]) (ys++[y]) h1 (λpre' z post ys h e=>st pre' z post ys h (by simpa using e)) i1
  refine ⟨y::zs,h',?_,by simpa using i2⟩
  rw [aZ,mapR,aA True.intro,e1];show (mapR _ f (xs.map g) h1).bind _=_;rw [e2];rfl
theorem a9r{f:D->Hd->R D}{α:Type}(g F:α->D){h:Hd}:∀ {xs:List α},(∀ x∈xs,f (g x) h = .ok (F x) h)->mapR (λ_=>True) f (xs.map g) h = .ok (xs.map F) h
 | [],_=>by rw [cL,mapR,aA True.intro];rfl
 | x::xs,st=>by
  rw [aZ,mapR,aA True.intro,st x aF];show (mapR _ f (xs.map g) h).bind _=_;rw [a9r g F λy hy=>st y (aC _ hy)];rfl
theorem a9s{f:D->Hd->R (Option D)}{α:Type}(g:α->D)(F:α->Option D){h:Hd}:∀ {xs:List α},(∀ x∈xs,f (g x) h = .ok (F x) h)->aip (λ_=>True) f (xs.map g) h = .ok (xs.filterMap F) h
 | [],_=>by rw [cL,aip,aA True.intro];rfl
 | x::xs,st=>by
  rw [aZ,aip,aA True.intro,st x aF];show (aip _ f (xs.map g) h).bind _=_;rw [a9s g F λy hy=>st y (aC _ hy)];show R.ok ((F x).toList++xs.filterMap F) h=_
  cases e:F x<;>simp [cb,e]
theorem aoo(I:Nat->Sd->Hd->Prop)(N:Sd->Hd->Prop)(Rt:D->Hd->Prop)
  (st:∀ m τ h,I m τ h->(∃ h1,c τ h = .ok false h1/\N τ h1)\/∃ h1,c τ h = .ok true h1/\((∃ τ2 h2 m',f τ h1 = .nx τ2 h2/\m'<m/\I m' τ2 h2)\/∃ d h2,f τ h1 = .rt d h2/\Rt d h2)) :
  ∀ (m n:Nat) (τ:Sd) (h:Hd),m<n->I m τ h->(∃ τ' h',sWh c f n τ h = .nx τ' h'/\N τ' h')\/∃ d h',sWh c f n τ h = .rt d h'/\Rt d h':=by
 intro m
 induction m using Nat.strongRecOn with
 | ind m ih =>
  intro n τ h hn i0
  cases n with
  | zero=>omega
  | succ n =>
   rcases st m τ h i0 with ⟨h1,e1,q⟩ | ⟨h1,e1,q⟩
   ·exact .inl ⟨τ,h1,by rw [sWh,e1];rfl,q⟩
   ·rcases q with ⟨τ2,h2,m',e2,lt,i2⟩ | ⟨d,h2,e2,r⟩
    ·have e3:sWh c f (n+1) τ h=sWh c f n τ2 h2:=by
      rw [sWh,e1,a0s,aA rfl,e2]
     rw [e3];exact ih m' lt n τ2 h2 (by omega) i2
    ·refine .inr ⟨d,h2,?_,r⟩;rw [sWh,e1,a0s,aA rfl,e2]
structure KD (P:Program) (w:World) (K:PySem.W.Frag) (a:Addr) (kvs:List (Str × Str)):Prop where
 sys:(a == sysModules)=false
 ex:∃ (o:Obj) (vs:List (Key × Value)),K.lookup a=some o/\KV (kvs.map λp=>((.inr p.1:Key),V.str p.2)) vs/\∀ h:Heap,h.get? a=some o->h.DictOf (a4w P w) a vs
section
variable{X:Cx}{E:XD}{e:Expr}{fa:SE}{pos p:Pos}{a:Addr}{kvs:List (Str × Str)}{x:Str}
theorem KD.at(kd:KD X.prog X.w X.K a kvs)(I:Inv X pins σ H s):∃ vs,KV (kvs.map λp=>((.inr p.1:Key),V.str p.2)) vs/\s.heap.DictOf (a4w X.prog X.w) a vs:=by
 obtain ⟨o,vs,l,r,d⟩:=kd.ex;exact ⟨vs,r,d _ (I.bk _ _ (I.mod.kin _ _ l))⟩
end
mutual
def toPy:D->Option PyData
 | .non=>some .none
 | .bl b=>some (.bool b)
 | .int i=>some (.int i)
 | .str x=>some (.str x)
 | .tup xs=>(aop xs).map .tuple
 | .rol xs=>(aop xs).map .list
 | .rod [] []=>some (.dict [])
 | _=>none
def aop:List D->Option (List PyData)
 | []=>some []
 | x::xs=>match toPy x,aop xs with | some p,some ps=>some (p::ps) | _,_=>none
end
mutual
def noL:D->Bool
 | .rol _=>false
 | .tup xs=>aws xs
 | _=>true
def aws:List D->Bool
 | []=>true
 | x::xs=>noL x && aws xs
end
open Classical in
theorem a4f:CallR X (.builtin "isinstance") (λxs H Q=>∃ a o us T b,xs=[.ref a, .ty T]/\H a=some (.frz o (.dK us))/\PySem.W.kitOne X.K (.type "dict") (.type T)=some b/\Q (.bl b) H):=by
 intro pins s σ H xs us Q I r h
 obtain ⟨a,o,kv,T,b,rfl,ea,e,q⟩:=h;obtain ⟨u,w',rfl,rx,rt⟩:=vals2 r;cases rt
 obtain rfl:u=Value.ref a:=rx
 obtain ⟨_,_,_,vs,_,p⟩:=(show ObjOk X.prog X.w H s.heap a (.frz o (.dK kv)) from I.hok a _ ea)
 obtain ⟨o',es,ep,h1,h2,_⟩:=p;exact bQ fZ I.kIn ⟨o',h1,h2.1⟩ e (λz=>nomatch z) λtk=>⟨.bl b,H,I.tok tk,rfl,q⟩
def a9t:List D->Hd->R D
 | [.rod ks xs, .ty T],h=>(match ao2 "dict" T with | some b=>.ok (.bl b) h | none=>.no)
 | ds,h=>arp ds h
theorem ack:afn K a9t (λxs H Q=>(∃ x T t b,xs=[x, .ty T]/\TyOf K H x t/\PySem.W.kitOne K t (.type T)=some b/\Q (.bl b) H)\/∃ a o us T b,xs=[.ref a, .ty T]/\H a=some (.frz o (.dK us))/\PySem.W.kitOne K (.type "dict") (.type T)=some b/\Q (.bl b) H):=by
 intro E ι H h xs ds Q r hr o
 unfold a9t at o
 split at o
 ·split at o
  ·rename_i b hb
   cases r with
   | cons r1 rs =>
    cases rs with
    | cons r2 rs2 =>
     cases rs2
     cases r2
     cases r1 with
     | rod hp ek rr=>exact .inr ⟨_,_,_,_,b,rfl,hp,ag2 hb,ans o (.bl _) hr⟩
  ·exact o.elim
 ·exact .inl (ao3 E ι H h xs _ Q r hr o)
end MI
namespace TPM
open PySem PySem.Spec PySem.W L2 HT MI PyProof.Rows
end TPM
namespace MI
open PySem PySem.Spec L2 TPM
end MI
namespace SRC
open PySem PySem.Spec L2 MI
noncomputable def yo:SE :=
 (s2 jb (s2 xu (sC (.int 2)) (sA auk (aj (sV 0) dq))) (sA ao0 (aj (s2 gLt (sV 0) (sC (.int 0))) dq)))
noncomputable def zc:SS :=
 (jd (km 1 (sZ (n6 (sIt (sZ (a2h (sV 0) oN (oS (sC (.int 63)))))) t1 yo [])))
 (qg (sA vy (aj (sV 1) (aj (sC (.int 0)) (aj (sC (.int 0)) (aj (sC (.int 0)) (aj (s2 a3f (sA amd (aj (sV 1) dq)) (sC (.int 2147483647))) dq))))))))
noncomputable def a1h:SS :=
 (jd (a0r a0p (sV 0) (sC (.int 3)) (sC (.int 1)))
 (jd (sIf (a6u (sT (s2 hEq (s2 gIx (sV 0) (sC (.int 2))) (sC (.int 0)))) (sT (s2 gLt (s2 gIx (sV 0) (sC (.int 1))) (sA rm (aj (s2 gIx (sV 0) (sC (.int 0))) dq)))))
 (jd (km 2 (s2 gIx (s2 gIx (sV 0) (sC (.int 0))) (s2 gIx (sV 0) (sC (.int 1)))))
 (jd (a0r a0p (sV 0) (sC (.int 1)) (sC (.int 1)))
 (sIf (sT (s2 gGe (sV 2) (s2 a6v (sC (.int 10)) (sC (.int 18)))))
 (ae0 (sV 2) (sV 0) (sC (.int 2)))
 (ae0 (s2 a3f (s2 jb (s2 xu (s2 gIx (sV 0) (sC (.int 4))) (sC (.int 31))) (sV 2)) (sC (.int 2147483647))) (sV 0) (sC (.int 4))))))
 sNx)
 (jd (sIf (sT (s2 gGt (s2 gIx (sV 0) (sC (.int 2))) (sC (.int 0))))
 (jd (km 3 (s2 a3f (s2 gIx (sV 0) (sC (.int 2))) (sV 1)))
 (jd (a0r a6k (sV 0) (sC (.int 2)) (sV 1))
 (qg (sV 3))))
 sNx)
 (jd (km 3 (s2 a3f (s2 a6v (s2 jb (s2 jb (s2 gIx (sV 0) (sC (.int 4))) (sC (.int 1))) (s2 xu (s2 gIx (sV 0) (sC (.int 3))) (sC (.int 7919)))) (sC (.int 3))) (sC (.int 2147483647))))
 (qg (s2 a3f (s2 a6k (s2 a3f (s2 a6v (s2 jb (s2 xu (sV 3) (sC (.int 48271))) (s2 gIx (sV 0) (sC (.int 3)))) (sC (.int 2))) (sC (.int 2147483629))) (sC (.int 64))) (sV 1)))))))
noncomputable def yp:SS :=
 (jd (km 0 (sC (.str " !\"#$&'()*+,-./0123456789:;<=>?@ABCDEFGHIJKLMNOPQRSTUVWXYZ[\\]^_`")))
 (qg (s2 jb (sV 0) (sC (.str "abcdefghijklmnopqrstuvwxyz{|}~\n")))))
noncomputable def yq(ak:SF)(lu:SF):SS :=
 (jd (km 4 (sA (kj false 2 ak) (aj (sV 0) (aj (sA rm (aj (sV 1) dq)) dq))))
 (jd (aai 2 a0p (s2 gIx (sV 1) (sV 4)))
 (km 1 (s2 jb (a2h (sV 1) oN (oS (sV 4))) (a2h (sV 1) (oS (s2 jb (sV 4) (sC (.int 1)))) oN)))))
noncomputable def zf(ak:SF)(lu:SF):SS :=
 (jd (km 1 (sA (kj false 0 lu) dq))
 (jd (km 2 (sC (.str "")))
 (jd (a7q (sRg v6 (aj (s2 jb (sC (.int 1)) (sA (kj false 2 ak) (aj (sV 0) (aj (sC (.int 6)) dq)))) dq)) (kN 3) (yq ak lu))
 (qg (sV 2)))))
end SRC
namespace L2
open PySem PySem.Spec PyProof.Rows
end L2
namespace MI
open PySem PySem.Spec L2
end MI
namespace PN
open PySem PySem.Spec L2 MI
end PN
namespace L2
open PySem PySem.Spec PySem.W PyProof.Rows
end L2
namespace L2
open PySem PySem.Spec PySem.W PyProof.Rows Builtin Builtin.ObjectAttr Builtin.Getset_descriptor
section
variable{prog:Program}{w:World}{A:Around}{E:Value->Shared->Prop}{s:Shared}{K:Frag}{x D:Addr}{ox:Obj}{odo:Option Obj}
structure XKit (K:Frag) (D:Addr):Prop where
 ga:findIn K (.ref D) "__getattribute__" = some (some (.builtin "BaseException.__getattribute__"))
 gn:findIn K (.ref D) "__getattr__" = some none
 cl:(clsIn K D).isSome=true
 ca:findIn K (.ref D) "__class__" = some (some (.builtin "object.__class__"))
 sp:specialIn K (.builtin "object.__class__") "__get__" = some (some (.builtin "getset_descriptor.__get__"))
 tk:takesIn K (.builtin "object.__class__")=some true
 ob:mroIn K D (.type "object")=some true
 be:subIn K (.ref D) (.type "BaseException")=some true
 kc:kitCls K (.ref D) (.ref D)=some true
abbrev ExAt(x D:Addr)(h:Heap):Prop:=∃ o,h.get? x=some o/\o.cls = .ref D
theorem ExAt.ty(I:ExAt x D h):Looks M h (typeOf (.ref x)) (.ref D):=by
 obtain ⟨o,q,c⟩:=I;exact c ▸ (Looks.ld q).andThen .now
theorem XKit.at(Z:XKit K D):∃ c o cd sl,K.lookup D=some ⟨c,o, .cls cd,sl⟩:=by
 have:=Z.cl
 unfold clsIn at this
 split at this
 ·exact ⟨_,_,_,_, ‹_›⟩
 ·cases this
theorem XKit.no(Z:XKit K D){its:List Value}(X:K.In h)(q:h.get? tp=some ⟨.type "tuple",dd, .seq its.toArray n,sl⟩):(Value.ref D == .ref tp)=false :=
 cB.mpr λe=>by
  obtain ⟨_,_,_,_,lo⟩:=Z.at;rw [Value.ref.inj e] at lo;have:=X _ _ lo;rw [q] at this;cases this
end
end L2
namespace L2
open PySem PySem.Spec PySem.W PyProof.Rows
end L2
namespace MI
open PySem PySem.Spec L2
end MI
namespace EVX
open PySem PySem.Spec L2 MI
end EVX
namespace MI
open PySem PySem.Spec L2
end MI
namespace EVX
open PySem PySem.Spec L2 MI
end EVX
namespace ZP
open PySem PySem.Spec PySem.Builtin PySem.Builtin.SmallTypes L2
end ZP
namespace MI
open PySem PySem.Spec L2 ZP
end MI
namespace AT
open L2
theorem ak8{α:Type}(x0:α)(xs:List α):atI (x0::xs) 0=some x0:=v4 (j:=0) rfl
theorem ak9{α:Type}(x0 x1:α)(xs:List α):atI (x0::x1::xs) 1=some x1:=v4 (j:=1) rfl
theorem aka{α:Type}(x0 x1 x2:α)(xs:List α):atI (x0::x1::x2::xs) 2=some x2:=v4 (j:=2) rfl
theorem akb{α:Type}(x0 x1 x2 x3:α)(xs:List α):atI (x0::x1::x2::x3::xs) 3=some x3:=v4 (j:=3) rfl
theorem akc{α:Type}(x0 x1 x2 x3 x4:α)(xs:List α):atI (x0::x1::x2::x3::x4::xs) 4=some x4:=v4 (j:=4) rfl
theorem akd{α:Type}(x0 x1 x2 x3 x4 x5:α)(xs:List α):atI (x0::x1::x2::x3::x4::x5::xs) 5=some x5:=v4 (j:=5) rfl
theorem ake{α:Type}(x0 x1 x2 x3 x4 x5 x6:α)(xs:List α):atI (x0::x1::x2::x3::x4::x5::x6::xs) 6=some x6:=v4 (j:=6) rfl
theorem akf{α:Type}(x0 x1 x2 x3 x4 x5 x6 x7:α)(xs:List α):atI (x0::x1::x2::x3::x4::x5::x6::x7::xs) 7=some x7:=v4 (j:=7) rfl
theorem x10:ixN 1 0=some 0:=rfl
theorem x20:ixN 2 0=some 0:=rfl
theorem x21:ixN 2 1=some 1:=rfl
theorem x30:ixN 3 0=some 0:=rfl
theorem x31:ixN 3 1=some 1:=rfl
theorem x32:ixN 3 2=some 2:=rfl
theorem x40:ixN 4 0=some 0:=rfl
theorem x41:ixN 4 1=some 1:=rfl
theorem x42:ixN 4 2=some 2:=rfl
theorem x43:ixN 4 3=some 3:=rfl
theorem x50:ixN 5 0=some 0:=rfl
theorem x51:ixN 5 1=some 1:=rfl
theorem x52:ixN 5 2=some 2:=rfl
theorem x53:ixN 5 3=some 3:=rfl
theorem x54:ixN 5 4=some 4:=rfl
theorem x60:ixN 6 0=some 0:=rfl
theorem x61:ixN 6 1=some 1:=rfl
theorem x62:ixN 6 2=some 2:=rfl
theorem x63:ixN 6 3=some 3:=rfl
theorem x64:ixN 6 4=some 4:=rfl
theorem x65:ixN 6 5=some 5:=rfl
theorem x70:ixN 7 0=some 0:=rfl
theorem x71:ixN 7 1=some 1:=rfl
theorem x72:ixN 7 2=some 2:=rfl
theorem x73:ixN 7 3=some 3:=rfl
theorem x74:ixN 7 4=some 4:=rfl
theorem x75:ixN 7 5=some 5:=rfl
theorem x76:ixN 7 6=some 6:=rfl
def awt(x:Int):Int:=if x<0 then -x else x
theorem agq(x:Int)(h:MI.Hd):MI.auk [.int x] h = .ok (.int (awt x)) h:=rfl
theorem p18(h:MI.Hd):MI.a6v (.int 10) (.int 18) h = .ok (.int 1000000000000000000) h:=by rw [MI.a6v,aA (by decide)];rfl
theorem ase{i:Int}(c:0<=j/\j<=1000000/\i.natAbs<2 ^ 64):MI.a6v (.int i) (.int j) h = .ok (.int (i ^ j.toNat)) h:=by rw [MI.a6v,aA c]
end AT
namespace MI
open PySem PySem.Spec L2 SeqAt
def aw2(neg:Bool)(K:PySem.W.Frag):R2:=λx y H Q=>∃ (ι:List Addr) (p q:Addr) (vs us:List V) (xs ys:List D),x = .ref p/\y = .ref q/\Rd H p (.lst vs)/\Rd H q (.lst us)/\Reps K ι H vs xs/\Reps K ι H us ys/\xs.all (pur 59)=true/\ys.all (pur 59)=true/\Q (.bl (if neg then !aak xs ys else aak xs ys)) H
theorem acl(I:Inv X pins σ H s)(hu:X.A.units+64<cLine)(h1:Rd H p (.lst vs))(h2:Rd H q (.lst us))(rs:Reps X.K ι H vs xs)(qs:Reps X.K ι H us ys)(p1:xs.all (pur 59)=true)(p2:ys.all (pur 59)=true) :
  RcAt X.A s (.ref p) (.ref q) (aak xs ys)/\RcNeAt X.A s (.ref p) (.ref q) (!aak xs ys):=by
 obtain ⟨its,r1,pl1,z1⟩:=I.list (.inl h1);obtain ⟨its2,r2,pl2,z2⟩:=I.list (.inl h2);have l1:its.toArray.size=xs.length:=by rw [ay,<-r1.length,rs.len]
 have l2:its2.toArray.size=ys.length:=by rw [ay,<-r2.length,qs.len]
 by_cases hl:xs.length=ys.length
 ·have step:∀ j (h1:j<its.toArray.size) (h2:j<its2.toArray.size),EqAt X.A.in1 s its.toArray[j] its2.toArray[j] (pairE xs ys j):=λj h1 h2=>by
   have j1:j<xs.length:=by omega
   have j2:j<ys.length:=by omega
   obtain ⟨v1,e1,q1⟩:=rs.get (ad j1);obtain ⟨v2,e2,q2⟩:=qs.get (ad j2);obtain ⟨u1,e3,q3⟩:=r1.get e1;obtain ⟨u2,e4,q4⟩:=r2.get e2;have f1:its.toArray[j]=u1:=by simpa using (ah.mp e3).2
   have f2:its2.toArray[j]=u2:=by simpa using (ah.mp e4).2
   have pe:pairE xs ys j=eqD xs[j] ys[j]:=by simp [pairE,ad j1,ad j2]
   rw [f1,f2,pe];rw [br] at p1 p2;exact ame I.hok 59 X.A.in1 q1 q2 q3 q4 (p1 _ (aX j1)) (p2 _ (aX j2)) (by rw [gM];omega)
  have c1:=RcAt.lists (A:=X.A) (s:=s) (e:=pairE xs ys) pl1.isList pl2.isList (by omega) (by omega) step
  have c2:=RcNeAt.lists (A:=X.A) (s:=s) (e:=pairE xs ys) pl1.isList pl2.isList (by omega) (by omega) step
  have ea:=a2s xs ys;rw [hl,Nat.min_self,e8,Bool.and_true,<-hl] at ea;rw [l1,ea] at c1 c2;exact ⟨c1,c2⟩
 ·have ne:(its.toArray.size != its2.toArray.size)=true:=by rw [l1,l2];simpa using hl
  have ea:=a2s xs ys;rw [cB.mpr hl,eO] at ea;rw [<-ea];exact ⟨RcAt.lists_lengths pl1.isList pl2.isList ne (by omega),RcNeAt.lists_lengths pl1.isList pl2.isList ne (by omega)⟩
theorem asf{X:Cx}(hu:X.A.units+64<cLine):OpR X (compareOp .Eq) (aw2 false X.K):=by
 intro pins s σ H x y v u Q I rx ry h
 obtain ⟨ι,p,q,vs,us,xs,ys,rfl,rfl,h1,h2,r1,r2,p1,p2,hq⟩:=h
 cases rx;cases ry
 exact (acl I hu h1 h2 r1 r2 p1 p2).1 X.prog X.w X.xe _ ⟨.bl _,H,I,rfl,hq⟩
theorem ash{X:Cx}(hu:X.A.units+64<cLine):OpR X (compareOp .NotEq) (aw2 true X.K):=by
 intro pins s σ H x y v u Q I rx ry h
 obtain ⟨ι,p,q,vs,us,xs,ys,rfl,rfl,h1,h2,r1,r2,p1,p2,hq⟩:=h
 cases rx;cases ry
 exact (acl I hu h1 h2 r1 r2 p1 p2).2 X.prog X.w X.xe _ ⟨.bl _,H,I,rfl,hq⟩
def aeu(neg:Bool)(x y:D)(h:Hd):R D:=match wz x h,wz y h with
 | some xs,some ys=>if xs.all (pur 59)=true/\ys.all (pur 59)=true then .ok (.bl (if neg then !aak xs ys else aak xs ys)) h else .no
 | _,_=>.no
theorem agr(neg:Bool):a2g K (aeu neg) (aw2 neg K):=by
 intro E ι H h x y dx dy Q rx ry hr o
 unfold aeu at o
 split at o
 ·rename_i xs ys e1 e2
  split at o
  ·rename_i hc;obtain ⟨a,vs,rfl,h1,r1⟩:=a09 rx hr e1;obtain ⟨b,us,rfl,h2,r2⟩:=a09 ry hr e2;exact ⟨ι,a,b,vs,us,xs,ys,rfl,rfl,h1,h2,r1,r2,hc.1,hc.2,ans o (.bl _) hr⟩
  ·exact o.elim
 ·exact o.elim
end MI
namespace L2
open PySem PySem.Spec
end L2
namespace MI
open PySem PySem.Spec L2
end MI
namespace TPM
open PySem PySem.Spec PySem.W L2 HT MI
theorem ae7(t:Addr)(items:Array Value)(n:Nat)(dd:Option Addr)(sl:Array (Option Value))(u:Tok) :
  Meets (Builtin.«tuple.__mul__» ⟨[.ref t, .int 1 u],[]⟩) (λ_ R s=>s.heap.get? t=some { cls:=.type "tuple",dict:=dd,data:=.seq items n,slots:=sl }/\R (.ok (.ret (.ref t))) s) :=
 .of_wp λprog w A R s h=>by
  obtain ⟨hp,g,d,tk,os⟩:=s;obtain ⟨hl,h⟩:=h
  wp_walk
  exact ⟨_,rfl,h⟩
def aoq(K:PySem.W.Frag):R2:=λx y H Q=>∃ a xs,x = .ref a/\y = .int 1/\SqT K H a xs/\Q (.ref a) H
theorem aor:OpR X (binaryOp .Mult) (aoq X.K):=by
 intro pins s σ H x y v u Q I rx ry h
 obtain ⟨a,xs,rfl,rfl,ha,q⟩:=h;cases rx
 obtain ⟨t,rfl⟩:=ry;obtain ⟨its,r1,p1,_⟩:=I.tuple ha;obtain ⟨⟨cls,dd,data,sl⟩,ho,hc,n,hd⟩:=id p1;simp only at hc hd;subst hc hd;exact cE (T := "tuple") (U := "int") (by decide) ⟨_,ho,rfl⟩ (λs'=>dA s' 1 t) wy eD cm a5m dX.lookup
  (cv cm (dA s 1 t) dY (dM _ _) (a0q 1 t a its.toArray n dd sl)
   ⟨ho,rfl,⟨_,ho,rfl⟩,cv dZ ⟨_,ho,rfl⟩ gC (fN _ _) (ae7 a its.toArray n dd sl t) ⟨ho, .ref a,H,I,rfl,q⟩⟩)
end TPM
namespace MI
open PySem PySem.Spec L2 TPM
noncomputable def ae8(x y:D)(h:Hd):R D:=match x,y with
 | .tup xs, .int k=>if k=1 then .ok (.tup xs) h else agj (.tup xs) (.int k) h
 | x,y=>agj x y h
theorem a86:a2g K ae8 (λx y H Q=>((rI CMul (λi j=>.int (i*j)) x y H Q\/aqx x y H Q)\/ajt K x y H Q)\/aoq K x y H Q):=by
 intro E ι H h x y dx dy Q rx ry hr o
 cases rx with
 | @tup a vs xs ha rs =>
  cases ry with
  | int k =>
   simp only [ae8] at o
   split at o
   ·rename_i hc;subst hc;exact .inr ⟨a,vs,rfl,rfl,SqT.of ha,ans o (.tup ha rs) hr⟩
   ·exact .inl (a81 _ _ _ _ _ _ _ _ _ (.tup ha rs) (.int k) hr o)
  | _=>exact o.elim
 | int i=>exact .inl (a81 _ _ _ _ _ _ _ _ _ (.int i) ry hr o)
 | ref e=>exact .inl (a81 _ _ _ _ _ _ _ _ _ (.ref e) ry hr o)
 | _=>exact o.elim
theorem ay2(ne:xs≠[])(k1:1<=k)(k2:k<=1000)(xl:xs.length<=1000):ae8 (.tup xs) (.int (k:Nat)) h = .ok (.tup (List.replicate k xs).flatten) h:=by
 unfold ae8;dsimp only
 by_cases e:(k:Int)=1
 ·rw [aA e];have:k=1:=by omega
  subst this;simp
 ·rw [aL e];unfold agj;dsimp only;have hl:xs.length*(k:Int).toNat<=LINE:=by
   rw [cC];have:xs.length*k<=1000*1000:=Nat.mul_le_mul xl k2;show xs.length*k<=16777216;omega
  exact (aA ⟨⟨ne,by omega,by omega⟩,hl⟩).trans (by rw [cC])
end MI
namespace SHD
open PySem PySem.Spec L2 MI
end SHD
namespace SETA
open PySem PySem.SetTable
def aev(xs:Array Nat):Prop:=∀ i j (hi:i<xs.size) (hj:j<xs.size),i<j->xs[i]<xs[j]
theorem aos(xs:Array Nat)(ri:aev xs)(j:Nat):∀ (fuel lo hi:Nat),hi - lo<=fuel->lo<=hi->hi<=xs.size->(∀ i (h:i<xs.size),i<lo->xs[i]<j)->(∀ i (h:i<xs.size),hi<=i->j<=xs[i])->
  lo<=below.go xs j fuel lo hi/\below.go xs j fuel lo hi<=hi/\(∀ i (h:i<xs.size),i<below.go xs j fuel lo hi->xs[i]<j)/\∀ i (h:i<xs.size),below.go xs j fuel lo hi<=i->j<=xs[i]:=by
 intro fuel
 induction fuel with
 | zero =>
  intro lo hi h1 h2 h3 a b
  have:lo=hi:=by omega
  subst this;exact ⟨ar _,ar _,a,b⟩
 | succ fuel ih =>
  intro lo hi h1 h2 h3 a b
  unfold below.go
  split
  ·rename_i c;have hm:(lo+hi) / 2<xs.size:=by omega
   have e:xs.getD ((lo+hi) / 2) j=xs[(lo+hi) / 2]:=by simp [Array.getD,hm]
   dsimp only;rw [e]
   split
   ·rename_i q;have r:=ih ((lo+hi) / 2+1) hi (by omega) (by omega) h3 (λi h z=>by
     by_cases y:i=(lo+hi) / 2
     ·subst y;exact q
     ·exact Nat.lt_trans (ri i _ h hm (by omega)) q) b
    exact ⟨by omega,r.2.1,r.2.2⟩
   ·rename_i q;have r:=ih lo ((lo+hi) / 2) (by omega) (by omega) (by omega) a (λi h z=>by
     by_cases y:i=(lo+hi) / 2
     ·subst y;omega
     ·have:=ri _ i hm h (by omega);omega)
    exact ⟨r.1,by omega,r.2.2⟩
  ·have:lo=hi:=by omega
   subst this;exact ⟨ar _,ar _,a,b⟩
theorem a00(ri:aev xs)(j:Nat):below xs j<=xs.size/\(∀ i (h:i<xs.size),i<below xs j->xs[i]<j)/\∀ i (h:i<xs.size),below xs j<=i->j<=xs[i]:=by
 have:=aos xs ri j xs.size 0 xs.size (by omega) (by omega) (ar _) (λi _ z=>absurd z (fE i)) λi h z=>absurd h (by omega)
 exact ⟨this.2.1,this.2.2⟩
theorem below_at(ri:aev xs)(hk:k<xs.size):below xs xs[k]=k:=by
 obtain ⟨h1,h2,h3⟩:=a00 ri xs[k]
 apply c8
 intro z
 rcases fM z with c | c
 ·have:=h3 (below xs xs[k]) (by omega) (ar _)
  have:=ri (below xs xs[k]) k (by omega) hk c
  omega
 ·have:=h2 k hk c
  omega
theorem ae9(ri:aev xs)(hk:k<xs.size):below xs (xs[k]+1)=k+1:=by
 obtain ⟨h1,h2,h3⟩:=a00 ri (xs[k]+1)
 apply c8
 intro z
 rcases fM z with c | c
 ·have:=h3 k hk (by omega)
  omega
 ·have:=h2 (k+1) (by omega) c
  have:=ri k (k+1) hk (by omega) (by omega)
  omega
theorem aot(ri:aev xs):below xs 0=0:=by
 obtain ⟨h1,h2,h3⟩:=a00 ri 0
 apply c8
 intro z
 have:=h2 0 (by omega) (by omega)
 omega
structure Gd (t:SetTable):Prop where
 ri:aev t.place
 dm:t.dummies = #[]
theorem aea:aev #[]:=λi j hi=>absurd hi (by simp)
theorem akg(f m:Nat)(l:Bool):Gd (.fresh f m l):=⟨aea,rfl⟩
theorem aeb(n:Nat):aev (Array.range n):=λi j hi hj h=>by simpa using h
theorem a5o{l:List Nat}(h:l.Pairwise (· < ·)):aev l.toArray:=λi j hi hj c=>by
 have:=bZ.mp h i j (by simpa using hi) (by simpa using hj) c
 simpa using this
theorem a9u(h:aev xs):xs.toList.Pairwise (· < ·):=bZ.mpr λi j hi hj c=>by
 have:=h i j (by simpa using hi) (by simpa using hj) c
 simpa using this
theorem a71(t:SetTable)(n:Nat):Gd (t.standIn n):=⟨aeb n,rfl⟩
theorem a9v(g:Gd t)(n:Nat):Gd (t.orStandIn n):=by
 unfold SetTable.orStandIn
 split
 ·exact g
 ·exact a71 t n
theorem a5p(j:Nat):has #[] j=false:=by simp [has]
theorem aec(g:Gd t)(h:t.slot j = .empty):∀ k (hk:k<t.place.size),t.place[k]≠j:=λk hk e=>by
 subst e;unfold SetTable.slot at h;simp only [below_at g.ri hk] at h;rw [aA (by simp [hk])] at h
 cases h
theorem akh(g:Gd t):∀ (fuel:Nat) (p:Probe) (j:Nat) (d:Option Nat),p.dummy=none->SetTable.probe.go t ha h fuel p=some (.empty j d)->t.slot j = .empty/\d=none:=by
 intro fuel
 induction fuel with
 | zero=>intro p j d _ z;simp [SetTable.probe.go] at z
 | succ fuel ih =>
  intro p j d hp z
  unfold SetTable.probe.go at z
  cases e:t.slot p.j with
  | empty =>
   rw [e] at z;simp only [eM,Met.empty.injEq] at z;obtain ⟨rfl,rfl⟩:=z;exact ⟨e,hp⟩
  | dummy =>
   exfalso
   unfold SetTable.slot at e;rw [g.dm,a5p] at e;dsimp only at e
   split at e<;>simp at e
  | live i =>
   rw [e] at z;dsimp only at z
   split at z
   ·cases z
   ·refine ih _ j d ?_ z;unfold SetTable.advance
    split
    ·exact hp
    ·exact hp
theorem a5q(g:Gd t)(e:t.freeSlot h=some (j,b)):(∀ k (hk:k<t.place.size),t.place[k]≠j)/\b=false:=by
 unfold SetTable.freeSlot at e
 split at e
 ·rename_i j' d q;obtain ⟨h1,h2⟩:=akh g _ _ _ _ rfl q;subst h2;simp only [gK,Option.isSome_none,eM,Prod.mk.injEq] at e;obtain ⟨rfl,rfl⟩:=e;exact ⟨aec g h1,rfl⟩
 ·cases e
theorem ab1(ri:aev xs)(h:∀ k (hk:k<xs.size),xs[k]≠j):aev (SetTable.insertAt xs (below xs j) j):=by
 obtain ⟨h1,h2,h3⟩:=a00 ri j;have e:(SetTable.insertAt xs (below xs j) j)=(xs.toList.take (below xs j)++j::xs.toList.drop (below xs j)).toArray:=by
  exact Array.ext' ((SetTable.toList_insertAt _ _ _).trans (by simp))
 rw [e];refine a5o ?_;have rl:=a9u ri;rw [List.pairwise_append];refine ⟨rl.sublist (gu _ _),List.pairwise_cons.mpr ⟨λa ha=>?_,rl.sublist (List.drop_sublist _ _)⟩,λa ha b hb=>?_⟩
 ·obtain ⟨i,hi,rfl⟩:=dR.mp ha;rw [List.getElem_drop];rw [bq,aJ] at hi;have h4:=h3 (below xs j+i) (by omega) (by omega)
  have h5:=h (below xs j+i) (by omega)
  rw [fh];omega
 ·obtain ⟨i,hi,rfl⟩:=dR.mp ha;rw [List.getElem_take];rw [aV,aJ] at hi;have h4:=h2 i (by omega) (by omega)
  rw [fh]
  rcases aD.mp hb with rfl | hb
  ·exact h4
  ·obtain ⟨k,hk,rfl⟩:=dR.mp hb;rw [List.getElem_drop];rw [bq,aJ] at hk;have h6:=h3 (below xs j+k) (by omega) (by omega)
   rw [fh];omega
theorem amk(g:Gd t)(h:∀ k (hk:k<t.place.size),t.place[k]≠j):Gd (t.put j).1:=by
 refine ⟨ab1 g.ri h,?_⟩;show (if has t.dummies j=true then _ else t.dummies) = #[]
 rw [g.dm,a5p];rfl
theorem ags(g:Gd t)(es:Array (Int × Value))(h:Int)(x:Value):Gd (layNew t es h x).2.1/\(layNew t es h x).2.2.1=false:=by
 unfold layNew
 split
 ·rename_i slot wd e;obtain ⟨h1,h2⟩:=a5q g e;exact ⟨a9v (amk g h1) _,h2⟩
 ·exact ⟨a71 _ _,rfl⟩
theorem a87{mask f m:Nat}{t:SetTable}(e:SetTable.laid mask f m l p hs=some (t,o)):Gd t/\t.led=l:=by
 unfold SetTable.laid at e
 cases q:layClean mask hs with
 | none=>rw [q] at e;cases e
 | some owner =>
  rw [q] at e;simp only [Option.bind_eq_bind,gO,Option.pure_def,eM,Prod.mk.injEq] at e;obtain ⟨rfl,rfl⟩:=e;refine ⟨⟨a5o ?_,rfl⟩,rfl⟩;have:∀ l:List Nat,l.Pairwise (· < ·)->((l.filterMap λj=>(owner.getD j none).map (j, ·)).map (·.1)).Pairwise (· < ·):=λl hl=>by
   have sub:((l.filterMap λj=>(owner.getD j none).map (j, ·)).map (·.1)).Sublist l:=by
    clear hl
    induction l with
    | nil=>exact .slnil
    | cons a l ih =>
     cases q:owner.getD a none with
     | none =>
      rw [List.filterMap_cons_none (by rw [q];rfl)]
      exact .cons _ ih
     | some b =>
      rw [List.filterMap_cons_some (b:=(a,b)) (by rw [q];rfl),aZ]
      exact .cons₂ _ ih
   exact hl.sublist sub
  exact this _ List.pairwise_lt_range
theorem a88(t:SetTable)(n:Nat):(t.orStandIn n).led=t.led:=by
 unfold SetTable.orStandIn
 split<;>rfl
theorem aed(t:SetTable)(es:Array (Int × Value))(h:Int)(x:Value):(layNew t es h x).2.1.led=t.led:=by
 unfold layNew
 split
 ·exact a88 _ _
 ·rfl
theorem agt(t:SetTable)(es:Array (Int × Value))(n:Nat):(relayAll t es n).2.1.led=t.led:=by
 unfold relayAll
 split
 ·rename_i t' o e;dsimp only
  split
  ·exact (a87 e).2
  ·rfl
 ·rfl
end SETA
namespace SETH
def it:Nat->Nat->Nat
 | 0,x=>x
 | n+1,x=>it n (5*x+1)
theorem agu(m:Nat):∀ (n x:Nat),it (n+m) x=it m (it n x)
 | 0,x=>by rw [eS];rfl
 | n+1,x=>by rw [show n+1+m=(n+m)+1 by omega];exact agu m n _
theorem aml:∀ k:Nat,∃ c,∀ x,it (2 ^ k) x=(4*(2 ^ k*(2*c+1))+1)*x+2 ^ k*(2*c+1)
 | 0=>⟨0,λx=>by show 5*x+1=_;omega⟩
 | k+1=>by
  obtain ⟨c,h⟩:=aml k;refine ⟨2*c*(2 ^ k*(2*c+1))+c+2 ^ k*(2*c+1),λx=>?_⟩;have e:2 ^ (k+1)=2 ^ k+2 ^ k:=by rw [hG];omega
  rw [e,agu,h,h]
  generalize 2 ^ k=P
  grind
theorem full:∀ (k x y:Nat),∃ n,n<2 ^ k/\it n x % 2 ^ k=y % 2 ^ k
 | 0,x,y=>⟨0,by decide,by rw [Nat.pow_zero,Nat.mod_one,Nat.mod_one]⟩
 | k+1,x,y=>by
  obtain ⟨n,hn,e⟩:=full k x y;obtain ⟨c,h⟩:=aml k;have hp:0<2 ^ k:=Nat.pow_pos (by decide)
  rw [hG]
  by_cases q:it n x / 2 ^ k % 2=y / 2 ^ k % 2
  ·exact ⟨n,by omega,by rw [hW,hW,e,q]⟩
  ·refine ⟨n+2 ^ k,by omega,?_⟩
   rw [agu,h]
   generalize 2 ^ k=P at *
   generalize it n x=z at *
   have:(4*(P*(2*c+1))+1)*z+P*(2*c+1)=(z+P)+P*2*(2*(2*c+1)*z+c):=by grind
   rw [this,Nat.add_mul_mod_self_left,hW,hW,Nat.add_mod_right,e,Nat.add_div_right _ hp]
   congr 2
   omega
def im(M:Nat):Nat->Nat->Nat
 | 0,x=>x
 | n+1,x=>im M n ((x*5+1) % M)
theorem asi(M:Nat):∀ (n x:Nat),im M n x % M=it n x % M
 | 0,x=>rfl
 | n+1,x=>by
  show im M n _ % M=it n _ % M;rw [asi M n];have:∀ n a b,a % M=b % M->it n a % M=it n b % M:=by
   intro n
   induction n with
   | zero=>exact λa b h=>h
   | succ n ih=>exact λa b h=>ih _ _ (by rw [Nat.add_mod,Nat.mul_mod,h,<-Nat.mul_mod,<-Nat.add_mod])
  exact this n _ _ (by rw [Nat.mod_mod,eR])
theorem asj(hM:0<M):∀ (n x:Nat),x<M->im M n x<M
 | 0,x,h=>h
 | n+1,x,h=>asj hM n _ (eN _ hM)
theorem aou(hx:x<2 ^ k)(hy:y<2 ^ k):∃ n,n<2 ^ k/\im (2 ^ k) n x=y:=by
 obtain ⟨n,hn,e⟩:=full k x y;refine ⟨n,hn,?_⟩;rw [<-asi,gP hy,gP (asj (by omega) n x hx)] at e
 exact e
open PySem PySem.SetTable
def ls(mask:Nat):Nat->Nat × Nat->Nat × Nat
 | 0,x=>x
 | n+1,x=>ls mask n (leap mask x.1 x.2)
theorem amm(mask m:Nat):∀ (n:Nat) (x:Nat × Nat),ls mask (n+m) x=ls mask m (ls mask n x)
 | 0,x=>by rw [eS];rfl
 | n+1,x=>by rw [show n+1+m=(n+m)+1 by omega];exact amm mask m n _
theorem a72(mask:Nat):∀ (n:Nat) (x:Nat × Nat),(ls mask n x).2=x.2 / 32 ^ n
 | 0,x=>by rw [Nat.pow_zero,Nat.div_one];rfl
 | n+1,x=>by
  show (ls mask n _).2=_;rw [a72 mask n,hG,eR,<-Nat.div_div_eq_div_mul];rfl
theorem asl(mask:Nat):∀ (n:Nat) (x:Nat × Nat),x.1<=mask->(ls mask n x).1<=mask
 | 0,x,h=>h
 | n+1,x,h=>asl mask n _ (cM (eN _ (dG _)))
theorem asm(mask:Nat):∀ (n i:Nat),ls mask n (i,0)=(im (mask+1) n i,0)
 | 0,i=>rfl
 | n+1,i=>by
  show ls mask n (leap mask i 0)=(im (mask+1) n _,0);rw [<-asm mask n];rfl
theorem hit{mask k i p y:Nat}(hk:mask+1=2 ^ k)(hi:i<=mask)(hp:p<2 ^ 64)(hy:y<=mask):∃ m,m<mask+14/\(ls mask m (i,p)).1=y:=by
 have e:ls mask 13 (i,p)=((ls mask 13 (i,p)).1,0):=by
  refine Prod.ext rfl ?_;rw [a72];show p / 32 ^ 13=0;exact Nat.div_eq_of_lt (by omega)
 have h13:=asl mask 13 (i,p) hi;obtain ⟨n,hn,en⟩:=aou (k:=k) (x:=(ls mask 13 (i,p)).1) (y:=y) (by omega) (by omega)
 refine ⟨13+n,by omega,?_⟩
 rw [amm,e,asm];show im (mask+1) n _=y;rw [hk];exact en
end SETH
namespace SETH
open PySem PySem.SetTable SETA
theorem a5r(mask i:Nat):i<=runEnd mask i:=by unfold runEnd;split<;>omega
theorem a5s{mask i:Nat}(h:i<=mask):runEnd mask i<=mask:=by unfold runEnd;split<;>omega
theorem acn(mask i:Nat):runEnd mask i - i<=9:=by unfold runEnd;split<;>omega
theorem a9w{mask:Nat}{owner:Array (Option Nat)}:∀ (fuel i p m:Nat),m<fuel->i<=mask->owner.getD (ls mask m (i,p)).1 (some 0)=none->∃ j,layClean.free mask owner fuel i p=some j/\j<=mask/\owner.getD j (some 0)=none
 | 0,i,p,m,h,_,_=>absurd h (fE _)
 | fuel+1,i,p,m,h,hi,e=>by
  unfold layClean.free;have ge:=a5r mask i;have le:=a5s hi
  split
  ·rename_i k hk;refine ⟨_,rfl,?_,?_⟩
   ·have:=List.mem_of_find?_eq_some hk
    rw [bb] at this;omega
   ·have:=List.find?_some hk
    exact fV.mp this
  ·rename_i hk
   cases m with
   | zero =>
    have:=List.find?_eq_none.mp hk 0 (bb.mpr (by omega))
    exact absurd (fV.mpr e) this
   | succ m=>exact a9w fuel _ _ m (by omega) (cM (eN _ (dG _))) e
theorem a4g{t:SetTable}{p:Probe}(h:p.more > 0):t.advance p={ p with j:=p.j+1,more:=p.more - 1 }:=by unfold advance;rw [aA h]
theorem a4h{t:SetTable}{p:Probe}(h:p.more=0):t.advance p={ p with j:=(leap t.mask p.i p.perturb).1,more:=runEnd t.mask (leap t.mask p.i p.perturb).1 - (leap t.mask p.i p.perturb).1,i:=(leap t.mask p.i p.perturb).1,perturb:=(leap t.mask p.i p.perturb).2 }:=by unfold advance;rw [aL (by omega)]
theorem ab2{t:SetTable}:∀ (fuel m:Nat) (p:Probe),p.more+10*m+1<fuel->t.slot (ls t.mask (m+1) (p.i,p.perturb)).1 = .empty->∃ j d,probe.go t (λ_=>h+1) h fuel p=some (.empty j d)
 | 0,m,p,hf,_=>absurd hf (fE _)
 | fuel+1,m,p,hf,e=>by
  have ne:(h+1 == h)=false:=by simpa using (by omega:h+1≠h)
  have next:∀ d,∃ j d',probe.go t (λ_=>h+1) h fuel (t.advance { p with dummy:=d })=some (.empty j d'):=λd=>by
   by_cases hm:p.more > 0
   ·rw [a4g (by exact hm)]
    exact ab2 fuel m _ (by show p.more - 1+10*m+1<fuel;omega) e
   ·rw [a4h (by show p.more=0;omega)]
    cases m with
    | zero =>
     cases fuel with
     | zero=>omega
     | succ fuel =>
      have e:t.slot (leap t.mask p.i p.perturb).1 = .empty:=e;unfold probe.go;simp only [e];exact ⟨_,_,rfl⟩
    | succ m =>
     have:=acn t.mask (leap t.mask p.i p.perturb).1
     exact ab2 fuel m _ (by show runEnd t.mask (leap t.mask p.i p.perturb).1 - (leap t.mask p.i p.perturb).1+10*m+1<fuel;omega) e
  unfold probe.go
  split
  ·exact ⟨_,_,rfl⟩
  ·exact next _
  ·rw [ne];exact next p.dummy
theorem agv{t:SetTable}(hd:t.dummies = #[])(hy:∀ k (hk:k<t.place.size),t.place[k]≠y):t.slot y = .empty:=by
 unfold slot;dsimp only;rw [aL,hd,a5p]
 ·rfl
 ·intro c
  have c:t.place[below t.place y]? = some y:=by simpa using c
  obtain ⟨hk,e⟩:=fI.mp c;exact hy _ hk e
theorem a89{t:SetTable}(hk:t.mask+1=2 ^ k)(hd:t.dummies = #[])(hy:y<=t.mask)(fr:∀ k (hk:k<t.place.size),t.place[k]≠y)(h:Int):∃ r,t.freeSlot h=some r:=by
 have sl:=agv hd fr;have hi:bits h % (t.mask+1)<=t.mask:=cM (eN _ (dG _));have hb:bits h<2 ^ 64:=by unfold bits;omega
 obtain ⟨m,hm,e⟩:=hit hk hi hb hy;have r9:=acn t.mask (bits h % (t.mask+1));have:∃ j d,t.probe (λ_=>h+1) h (t.probeStart h)=some (.empty j d):=by
  unfold probe turns
  cases m with
  | zero =>
   have e:bits h % (t.mask+1)=y:=e;rw [show 10*(t.mask+15)=(10*(t.mask+15) - 1)+1 by omega]
   unfold probe.go probeStart;simp only [e,sl];exact ⟨_,_,rfl⟩
  | succ m=>exact ab2 _ m _ (by show runEnd t.mask (bits h % (t.mask+1)) - bits h % (t.mask+1)+10*m+1<_;omega) (by rw [<-e] at sl;exact sl)
 obtain ⟨j,d,x⟩:=this;unfold freeSlot;rw [x];exact ⟨_,rfl⟩
theorem agw:∀ l:List (Option Nat),(l.filterMap id).length<l.length->∃ i,∃ h:i<l.length,l[i]=none
 | [],h=>absurd h (bH _)
 | none::l,_=>⟨0,dG _,rfl⟩
 | some x::l,h=>by
  obtain ⟨i,hi,e⟩:=agw l (by simpa using h)
  exact ⟨i+1,Nat.succ_lt_succ hi,e⟩
theorem aco(k:Nat):∀ (l:List (Option Nat)) (i:Nat) (h:i<l.length),l[i]=none->((l.set i (some k)).filterMap id).Perm (k::l.filterMap id)
 | x::l,0,_,e=>by
  have e:x=none:=e;subst e;simp
 | x::l,i+1,h,e=>by
  have ih:=aco k l i (Nat.lt_of_succ_lt_succ h) e
  cases x with
  | none=>simpa using ih
  | some x =>
   simp only [List.set_cons_succ,cb,id];exact (ih.cons x).trans (List.Perm.swap ..)
structure Own (mask n:Nat) (o:Array (Option Nat)):Prop where
 size:o.size=mask+1
 all:(o.toList.filterMap id).Perm (List.range n)
theorem aw3(mask:Nat):Own mask 0 (Array.replicate (mask+1) none) where
 size:=by simp
 all:=by simp
theorem Own.free{mask n:Nat}{o:Array (Option Nat)}(w:Own mask n o)(hn:n<=mask):∃ y,y<=mask/\o.getD y (some 0)=none:=by
 have:=w.all.length_eq
 rw [aG] at this;obtain ⟨i,hi,e⟩:=agw o.toList (by rw [this,aJ,w.size];omega)
 have hs:i<o.size:=by simpa using hi
 refine ⟨i,by have:=w.size;omega,?_⟩
 simp only [Array.getD,hs,dif_pos];simpa using e
theorem Own.put{mask n j:Nat}{o:Array (Option Nat)}(w:Own mask n o)(hj:j<=mask)(e:o.getD j (some 0)=none):Own mask (n+1) (o.setIfInBounds j (some n)) where
 size:=by rw [Array.size_setIfInBounds];exact w.size
 all:=by
  have hs:j<o.size:=by have:=w.size;omega
  have e:o.toList[j]'(by simpa using hs)=none:=by
   simp only [Array.getD,hs,dif_pos] at e;simpa using e
  rw [Array.toList_setIfInBounds,List.range_succ];exact (aco n _ _ _ e).trans ((w.all.cons n).trans (List.perm_append_singleton n _).symm)
theorem acp{mask k:Nat}(hk:mask+1=2 ^ k)
  (hF:∀ o n h j,layClean.free mask o (turns mask) (bits h % (mask+1)) (bits h)=some j->F (some (o,n)) h=some (o.setIfInBounds j (some n),n+1)) :
  ∀ (hs:List Int) (o:Array (Option Nat)) (n:Nat),Own mask n o->n+hs.length<=mask+1->∃ o',hs.foldl F (some (o,n))=some (o',n+hs.length)/\Own mask (n+hs.length) o'
 | [],o,n,w,_=>⟨o,rfl,w⟩
 | h::hs,o,n,w,le=>by
  rw [aS] at le ⊢;obtain ⟨y,hy,e⟩:=w.free (by omega)
  have hi:bits h % (mask+1)<=mask:=cM (eN _ (dG _));obtain ⟨m,hm,em⟩:=hit hk hi (p:=bits h) (by unfold bits;omega) hy
  obtain ⟨j,ej,hj,fj⟩:=a9w (turns mask) (bits h % (mask+1)) (bits h) m (by unfold turns;omega) hi (by rw [em];exact e)
  obtain ⟨o',eo,wo⟩:=acp hk hF hs _ (n+1) (w.put hj fj) (by omega)
  refine ⟨o',?_,by rw [show n+(hs.length+1)=n+1+hs.length by omega];exact wo⟩
  rw [cP,hF o n h j ej,eo,show n+(hs.length+1)=n+1+hs.length by omega]
theorem aki{mask k:Nat}(hk:mask+1=2 ^ k)(hs:Array Int)(le:hs.size<=mask+1)
  (hF:∀ o n h j,layClean.free mask o (turns mask) (bits h % (mask+1)) (bits h)=some j->F (some (o,n)) h=some (o.setIfInBounds j (some n),n+1)) :
  ∃ o,(hs.toList.foldl F (some (Array.replicate (mask+1) none,0))).map (·.1)=some o/\Own mask hs.size o:=by
 obtain ⟨o,e,w⟩:=acp hk hF hs.toList _ 0 (aw3 mask) (by simpa using le)
 rw [e];exact ⟨o,rfl,by simpa using w⟩
theorem aee{mask k:Nat}(hk:mask+1=2 ^ k)(hs:Array Int)(le:hs.size<=mask+1):∃ o,layClean mask hs=some o/\Own mask hs.size o:=by
 unfold layClean;rw [<-Array.foldl_toList];refine aki hk hs le λo n h j ej=>?_;simp only [Option.bind_eq_bind,gO,ej];rfl
theorem akj{mask n:Nat}{o:Array (Option Nat)}(w:Own mask n o):((List.range (mask+1)).filterMap λj=>(o.getD j none).map (j, ·)).map (·.2)=o.toList.filterMap id:=by
 have e:o.toList=(List.range (mask+1)).map λj=>o.getD j none:=by
  refine List.ext_getElem (by simp [w.size]) λi h1 h2=>?_
  have hs:i<o.size:=by simpa using h1
  simp [Array.getD,hs]
 rw [e,eB,List.map_filterMap]
 congr 1
 funext j
 show _=o.getD j none
 cases o.getD j none<;>rfl
theorem a5t{mask k f m:Nat}(hk:mask+1=2 ^ k)(hs:Array Int)(le:hs.size<=mask+1):∃ t o,laid mask f m l p hs=some (t,o)/\t.mask=mask/\t.dummies = #[]/\t.plain=p/\t.place.size=hs.size/\(∀ i (h:i<t.place.size),t.place[i]<=mask)/\o.toList.Perm (List.range hs.size):=by
 obtain ⟨o,e,w⟩:=aee hk hs le;unfold laid;rw [e];have ls:=akj w;have len:((List.range (mask+1)).filterMap λj=>(o.getD j none).map (j, ·)).length=hs.size:=by
  have:=w.all.length_eq
  rw [<-ls,am,aG] at this;exact this
 refine ⟨_,_,rfl,rfl,rfl,rfl,by simpa using len,λi hi=>?_,?_⟩
 ·have hm:=gD hi;simp only [List.mem_toArray,bD,fL,bb] at hm;obtain ⟨⟨a,b⟩,⟨j,hj,x⟩,y⟩:=hm
  cases g:o.getD j none with
  | none=>rw [g] at x;cases x
  | some z =>
   rw [g] at x;cases x
   exact cM (y ▸ hj)
 ·show List.Perm (List.map _ _) _;exact (ls ▸ w.all)
theorem acq(n:Nat):∀ (fuel a:Nat),n<2 ^ (a+fuel)->∃ b,a<=b/\sizeAbove.go n fuel (2 ^ a)=2 ^ b/\n<2 ^ b
 | 0,a,h=>⟨a,ar _,rfl,h⟩
 | fuel+1,a,h=>by
  unfold sizeAbove.go
  split
  ·obtain ⟨b,h1,h2,h3⟩:=acq n fuel (a+1) (by rw [show a+1+fuel=a+(fuel+1) by omega];exact h)
   exact ⟨b,by omega,h2,h3⟩
  ·exact ⟨a,ar _,rfl,by omega⟩
theorem above(h:n<2 ^ 67):∃ b,3<=b/\sizeAbove n=2 ^ b/\n<2 ^ b:=acq n 64 3 h
theorem gap:∀ (l:List Nat) (a:Nat),l.Pairwise (· < ·)->(∀ x∈l,a<=x)->∃ y,a<=y/\y<=a+l.length/\y ∉ l
 | [],a,_,_=>⟨a,ar _,ar _,aN⟩
 | x::l,a,p,g=>by
  obtain ⟨p1,p2⟩:=List.pairwise_cons.mp p;have gx:=g x (aF ..);rw [aS]
  by_cases e:x=a
  ·obtain ⟨y,h1,h2,h3⟩:=gap l (a+1) p2 λz hz=>by have:=p1 z hz;omega
   exact ⟨y,by omega,by omega,λc=>(aD.mp c).elim (λc=>by omega) h3⟩
  ·exact ⟨a,ar _,by omega,λc=>(aD.mp c).elim (λc=>e c.symm) λc=>by have:=p1 a c;omega⟩
structure Gs (t:SetTable):Prop where
 gd:Gd t
 pow:∃ k,t.mask+1=2 ^ k
 big:7<=t.mask
 le:∀ i (h:i<t.place.size),t.place[i]<=t.mask
 plain:t.plain=true
theorem akk(f m:Nat)(l:Bool):Gs (.fresh f m l):=⟨akg f m l,⟨3,rfl⟩,ar _,λi h=>absurd h (fE _),rfl⟩
theorem a0u(g:Gd t):t.fill=t.place.size:=by unfold fill;rw [g.dm];rfl
theorem a73{t:SetTable}{p:Probe}(h:p.j+p.more<=t.mask):(t.advance p).j+(t.advance p).more<=t.mask:=by
 by_cases hm:p.more > 0
 ·rw [a4g hm];show p.j+1+(p.more - 1)<=_;omega
 ·rw [a4h (by omega)]
  have h1:(leap t.mask p.i p.perturb).1<=t.mask:=cM (eN _ (dG _));have h2:=a5s h1;have h3:=a5r t.mask (leap t.mask p.i p.perturb).1;show (leap t.mask p.i p.perturb).1+(runEnd t.mask (leap t.mask p.i p.perturb).1 - (leap t.mask p.i p.perturb).1)<=_;omega
theorem aov{t:SetTable}:∀ (fuel:Nat) (p:Probe) (j:Nat) (d:Option Nat),p.j+p.more<=t.mask->probe.go t ha h fuel p=some (.empty j d)->j<=t.mask
 | 0,p,j,d,_,e=>by cases e
 | fuel+1,p,j,d,hp,e=>by
  unfold probe.go at e
  split at e
  ·cases e
   omega
  ·exact aov fuel _ j d (a73 (p:={ p with dummy:=some p.j }) hp) e
  ·split at e
   ·cases e
   ·exact aov fuel _ j d (a73 hp) e
theorem aow{t:SetTable}(e:t.freeSlot h=some (j,b))(hb:b=false):j<=t.mask:=by
 unfold freeSlot at e
 split at e
 ·rename_i j' d x;have:=aov _ _ j' d (by
   have h1:bits h % (t.mask+1)<=t.mask:=cM (eN _ (dG _));have h2:=a5s h1;have h3:=a5r t.mask (bits h % (t.mask+1));show bits h % (t.mask+1)+(runEnd t.mask (bits h % (t.mask+1)) - bits h % (t.mask+1))<=t.mask;omega) x
  cases d with
  | none=>cases e;exact this
  | some d=>cases e;cases hb
 ·cases e
theorem amn{xs:Array Nat}(h:z∈xs.extract a b):z∈xs:=by
 obtain ⟨i,hi,e⟩:=eT.mp h;rw [Array.getElem_extract] at e;exact e ▸ gD _
theorem a5u{α:Type}(xs:Array α)(p:Nat)(x:α)(hp:p<=xs.size):(insertAt xs p x).size=xs.size+1:=by
 simp [insertAt]
 omega
theorem agx(g:Gs t)(es:Array (Int × Value))(hs:t.place.size=es.size)(rest:t.fill*5<t.mask*3)(h:Int)(x:Value) :
  Gs (layNew t es h x).2.1/\(layNew t es h x).2.2.2=false/\(layNew t es h x).2.1.fits (layNew t es h x).1.size=true/\(layNew t es h x).2.1.mask=t.mask/\(layNew t es h x).2.1.place.size=es.size+1:=by
 have big:=g.big;have fl:=a0u g.gd;obtain ⟨k,hk⟩:=g.pow;obtain ⟨y,_,hy,ny⟩:=gap t.place.toList 0 (a9u g.gd.ri) λ_ _=>bE _;rw [aJ] at hy;obtain ⟨⟨j,b⟩,e⟩:=a89 hk g.gd.dm (y:=y) (by omega) (λi hi c=>ny (by rw [<-c];simp)) h
 obtain ⟨f1,f2⟩:=a5q g.gd e;have hj:=aow e f2;have bl:=(a00 g.gd.ri j).1;have sz1:(t.put j).1.place.size=es.size+1:=by
  show (insertAt t.place _ j).size=_;rw [a5u _ _ _ bl,hs]
 have sz2:(insertAt es (t.put j).2 (h,x)).size=es.size+1:=a5u _ _ _ (by show below t.place j<=_;omega)
 have gp:=amk g.gd f1;have ft:(t.put j).1.fits (insertAt es (t.put j).2 (h,x)).size=true:=by
  unfold fits;rw [a0u gp,sz1,sz2];have:es.size+1<=(t.put j).1.mask:=by show _<=t.mask;omega
  simp [this]
 have pl:∀ z∈(t.put j).1.place,z<=t.mask:=λz hz=>by
  have hz:z∈insertAt t.place (below t.place j) j:=hz;simp only [insertAt,Array.mem_append,Array.mem_push] at hz
  rcases hz with (hz | hz) | hz
  ·obtain ⟨i,hi,e⟩:=eT.mp (amn hz);exact e ▸ g.le i hi
  ·omega
  ·obtain ⟨i,hi,e⟩:=eT.mp (amn hz);exact e ▸ g.le i hi
 have gs:Gs (t.put j).1:=⟨gp,g.pow,g.big,λi hi=>pl _ (gD hi),g.plain⟩;have eq:layNew t es h x=(insertAt es (t.put j).2 (h,x),(t.put j).1,b,false):=by
  unfold layNew;rw [e];simp only [ft,orStandIn,dC,Bool.not_true]
 rw [eq];exact ⟨gs,rfl,ft,rfl,sz1⟩
theorem acr{es:Array (Int × Value)}:∀ l:List Nat,(∀ x∈l,x<es.size)->(l.filterMap (es[·]?)).length=l.length
 | [],_=>rfl
 | x::l,h=>by
  rw [cb,bN (h x (aF ..))];exact af (·+1) (acr l λz hz=>h z (aC _ hz))
theorem akl(g:Gs t)(es:Array (Int × Value))(hn:n<2 ^ 67)(big:es.size*2<=n)(pos:0<es.size) :
  Gs (relayAll t es n).2.1/\(relayAll t es n).2.2=false/\(relayAll t es n).2.1.fits (relayAll t es n).1.size=true/\(relayAll t es n).2.1.fill*5<(relayAll t es n).2.1.mask*3:=by
 obtain ⟨b,h3,eb,lb⟩:=above hn;have p8:2 ^ 3<=2 ^ b:=fk (by decide) h3
 have hk:sizeAbove n - 1+1=2 ^ b:=by omega
 obtain ⟨t',o,e,hm,hd,hp,hs,hl,ho⟩:=a5t (f:=t.finger) (m:=t.movedTo (sizeAbove n - 1)) (l:=t.led) (p:=t.plain) hk (es.map (·.1)) (by rw [dU];omega)
 rw [dU] at hs ho;have gd':=(a87 e).1;have cov:coversAll o es.size=true:=List.isPerm_iff.mpr ho;have sz:(o.filterMap (es[·]?)).size=es.size:=by
  rw [<-aJ,cR,acr _ λx hx=>bb.mp (ho.mem_iff.mp hx),ho.length_eq,aG]
 have fl:=a0u gd';have ft:t'.fits (o.filterMap (es[·]?)).size=true:=by
  unfold fits;rw [fl,sz,hs];have:es.size<=t'.mask:=by omega
  simp [this]
 have eq:relayAll t es n=(o.filterMap (es[·]?),t',false):=by
  unfold relayAll relaid;rw [e];simp only [cov,ft,hX,dC]
 rw [eq];exact ⟨⟨gd',⟨b,by rw [hm];exact hk⟩,by rw [hm];omega,λi hi=>by rw [hm];exact hl i hi,hp.trans g.plain⟩,rfl,ft,by show t'.fill*5<t'.mask*3;omega⟩
end SETH
namespace SETB
open PySem PySem.Spec PyProof.Rows SETA
def kOf:Int × Value->Int
 | (_, .int k _)=>k
 | _=>0
def AllI(l:List (Int × Value)):Prop:=∀ e∈l,∃ k t,e=(hashInt k,Value.int k t)
def Gr(t:SetTable):Prop:=SETH.Gs t/\t.fill*5<t.mask*3
def SetI(b:Bool)(a:Addr)(ks:List Int)(h:Heap):Prop :=
 ∃ o es ep t,h.get? a=some o/\o.ExactSet/\o.data = .set es ep t/\AllI es.toList/\(es.toList.map kOf).Perm ks/\es.size<scanBound/\t.fits es.size=true/\Gr t/\t.led=b
theorem SetI.keep{h':Heap}(x:SetI b a ks h)(k:∀ o,h.get? a=some o->h'.get? a=some o):SetI b a ks h':=by
 obtain ⟨o,es,ep,t,ho,r⟩:=x;exact ⟨o,es,ep,t,k o ho,r⟩
theorem SetI.len(x:SetI b a ks h):ks.length<scanBound:=by
 obtain ⟨o,es,ep,t,_,_,_,_,p,hb,_⟩:=x;have:=p.length_eq;rw [am,aJ] at this;omega
section
variable{prog:Program}{w:World}{E:Value->Shared->Prop}{A:Around}{s:Shared}
theorem AllI.el(h:AllI l):ElemsOf (intKind prog w) l:=λe he=>by
 obtain ⟨k,t,rfl⟩:=h e he;exact ⟨⟨k,by simp [intKind,Value.isInt],rfl⟩,rfl⟩
theorem awu(h:e=(hashInt j,Value.int j t)):(intKind prog w).is k e.2=decide (k=j):=by
 subst h
 by_cases q:k=j
 ·subst q;simp [intKind,Value.isInt]
 ·rw [aY q];show Value.isInt k (Value.int j t)=false;simp only [Value.isInt,cB,ne_eq]
  first | exact q | exact λz=>q z.symm
theorem acs(h:AllI l):l.findIdx? (λe=>(intKind prog w).is k e.2)=none↔k ∉ l.map kOf:=by
 rw [List.findIdx?_eq_none_iff]
 constructor
 ·intro n m
  obtain ⟨e,he,q⟩:=bD.mp m;have:=n e he;obtain ⟨j,t,rfl⟩:=h e he;rw [awu rfl] at this;have:¬ k=j:=of_decide_eq_false this;exact this q.symm
 ·intro n e he
  obtain ⟨j,t,rfl⟩:=h e he;rw [awu rfl];exact aY λz=>n (bD.mpr ⟨_,he,z.symm⟩)
theorem stored(prog:Program)(w:World){es':Array (Int × Value)}{t':SetTable}{h:Heap}(ho:h.get? a=some o)(hex:o.ExactSet)(hd:o.data = .set es ep t)(al:AllI es'.toList)(p:(es'.toList.map kOf).Perm ks)(sz:es'.size<scanBound)(f:t'.fits es'.size=true)(g:Gr t')(l:t'.led=b) :
  SetI b a ks (h.update a (Obj.putSet es' t')):=by
 have e:=SetOf_store (knd:=intKind prog w) (S':=λk=>es'.toList.any λe=>(intKind prog w).is k e.2) ho hex hd al.el (λk=>gQ) sz f;exact ⟨_,es',ep+1,t',e.1,hex,rfl,al,p,sz,f,g,l⟩
theorem held(prog:Program)(w:World){es':Array (Int × Value)}{t':SetTable}{h:Heap}(ho:h.get? a=some o)(hex:o.ExactSet)(hd:o.data = .set es ep t)(al:AllI es'.toList)(sz:es'.size<scanBound)(f:t'.fits es'.size=true) :
  ∃ o1 ep1,(h.update a (Obj.putSet es' t')).get? a=some o1/\o1.ExactSet/\o1.data = .set es' ep1 t':=by
 have e:=SetOf_store (knd:=intKind prog w) (S':=λk=>es'.toList.any λe=>(intKind prog w).is k e.2) ho hex hd al.el (λk=>gQ) sz f;exact ⟨_,ep+1,e.1,hex,rfl⟩
theorem size_of{t:SetTable}(hf:t.fits n=true):t.place.size=n:=by
 simp only [SetTable.fits,bV,i3] at hf;exact hf.1
theorem aox{b:Bool}{a:Addr}{o:Obj}{es es1:Array (Int × Value)}{ep:Nat}{t t2:SetTable}{ks:List Int}{wd:Bool}{g:Bool->Sem Unit}{R:Option Bool->Shared->Prop}{rl:Array (Int × Value) × SetTable × Bool}
  (hrl:rl=relayAll t2 es1 (SetTable.grown es1.size))
  (hg:∀ (c:Bool) (z:Shared) (R':Unit->Shared->Prop),R' () z->wpAny (model prog w) A (g c) R' E z)
  (ho:s.heap.get? a=some o) (hex:o.ExactSet) (hd:o.data = .set es ep t) (al:AllI es1.toList) (pm:(es1.toList.map kOf).Perm ks) (sz:es1.size<scanBound) (f:t2.fits es1.size=true) (gs:SETH.Gs t2) (ld:t2.led=b) (hwd:wd=false)
  (fin:∀ h',Heap.SameBut a s.heap h'->SetI b a ks h'->R (some true) { s with heap:=h' }) :
  wpAny (model prog w) A (storeSet a es1 t2>>=λ_=>if (!wd && t2.tooFull)=true then (g rl.2.2>>=λ_=>storeSet a rl.1 rl.2.1>>=λ_=>pure (some true)) else pure (some true)) R E s:=by
 have fl:=SETH.a0u gs.gd;have ps:=size_of f;have big:=gs.big;have sb:=bM s.heap a (Obj.putSet es1 t2);refine ae (dO ho hd ?_ (dP sz))
 split
 ·rename_i full;have full:t2.fill*5≥t2.mask*3:=by
   rw [hwd] at full;simpa [SetTable.tooFull] using full
  have lt:es1.size<4096:=sz;have p2:=relayAll_perm t2 es1 (SetTable.grown es1.size);obtain ⟨g2,_,f2,r2⟩:=SETH.akl gs es1 (n:=SetTable.grown es1.size) (by unfold SetTable.grown;split<;>omega) (by unfold SetTable.grown;split<;>omega) (by omega)
  have l2:=agt t2 es1 (SetTable.grown es1.size);rw [<-hrl] at p2 f2 g2 l2 r2
  clear hrl
  obtain ⟨es2,t3,gv⟩:=rl;have z2:es2.size<scanBound:=by
   have:=p2.length_eq
   simp only [aJ] at this;omega
  obtain ⟨o1,p1,ho1,hex1,hd1⟩:=held prog w ho hex hd al sz f;refine ae (hg _ _ _ (ae (dO ho1 hd1 (aw (fin _ (sb.trans (bM _ a _)) ?_)) (dP z2))));exact stored prog w ho1 hex1 hd1 (λe he=>al e (p2.mem_iff.mp he)) ((p2.map kOf).trans pm) z2 f2 ⟨g2,r2⟩ (l2.trans ld)
 ·rename_i full;have full:t2.fill*5<t2.mask*3:=by
   rw [hwd] at full;simpa [SetTable.tooFull] using full
  exact aw (fin _ sb (stored prog w ho hex hd al pm sz f ⟨gs,full⟩ ld))
theorem a3s{b:Bool}{a:Addr}{ks:List Int}{k:Int}{tk:Tok}{Q:Bool->Shared->Prop}(hS:SetI b a ks s.heap)(few:ks.length+1<scanBound)
  (q:∀ (h':Heap) (r:Bool),Heap.SameBut a s.heap h'->SetI b a (L2.stepK ks k) h'->Q r { s with heap:=h' }):wpAny (model prog w) A (setAddHashed a (.int k tk) (hashInt k)) Q E s:=by
 obtain ⟨o,es,ep,t,ho,hex,hd,al,pm,sz,ft,gd,ld⟩:=hS;have hk:(intKind prog w).is k (Value.int k tk)=true:=by simp [intKind,Value.isInt]
 have lk:es.size=ks.length:=by have:=pm.length_eq;rwa [am,aJ] at this
 unfold setAddHashed setAddHashedIn;refine bP (ae (bi ho hd ft ?_));dsimp only;rw [byScan_of (knd:=intKind prog w) rfl sz al.el,aA rfl];unfold setAddByScan;refine ae (ae (eL (ae (wpAny_setScan_of (knd:=intKind prog w) hk ho hd ft al.el ?_))))
 cases c:es.toList.findIdx? (λe=>(intKind prog w).is k e.2) with
 | some j =>
  have mem:k∈ks:=by
   apply c8
   intro n
   have:=(acs (prog:=prog) (w:=w) al (k:=k)).mpr λm=>n (pm.mem_iff.mp m)
   rw [this] at c;cases c
  refine aw (aw ?_);have:=q s.heap false (eK a s.heap) (by rw [show L2.stepK ks k=ks from aA mem];exact ⟨o,es,ep,t,ho,hex,hd,al,pm,sz,ft,gd,ld⟩)
  exact this
 | none =>
  have nm:k ∉ ks:=λm=>(acs (prog:=prog) (w:=w) al).mp c (pm.mem_iff.mpr m);have es1p:=layNew_perm t es (hashInt k) (.int k tk);have wd1:=(ags gd.1.gd es (hashInt k) (.int k tk)).2;obtain ⟨gs1,_,ft1,_,_⟩:=SETH.agx gd.1 es (size_of ft) gd.2 (hashInt k) (.int k tk);have ld1:=aed t es (hashInt k) (.int k tk)
  generalize layNew t es (hashInt k) (.int k tk)=L at es1p ft1 gs1 ld1 wd1 ⊢
  obtain ⟨es1,t1,wd,gave⟩:=L;dsimp only at es1p ft1 gs1 ld1 wd1 ⊢;rw [Array.toList_push] at es1p;have al1:AllI es1.toList:=λe he=>by
   rcases aQ.mp (es1p.mem_iff.mp he) with m | m
   ·exact al e m
   ·rw [av] at m;exact ⟨k,tk,m⟩
  have pm1:(es1.toList.map kOf).Perm (L2.stepK ks k):=by
   rw [show L2.stepK ks k=ks++[k] from aL nm]
   refine (es1p.map kOf).trans ?_;rw [bg];exact pm.append_right _
  have sz1:es1.size<scanBound:=by
   have:=es1p.length_eq
   rw [aJ,ap,aJ,ax] at this;omega
  have fin:∀ h':Heap,Heap.SameBut a s.heap h'->SetI b a (L2.stepK ks k) h'->wpAny (model prog w) A (pure true) Q E { s with heap:=h' }:=λh' sb x=>aw (q h' true sb x)
  have way:∀ (c:Bool) (z:Shared) (R:Unit->Shared->Prop),R () z->wpAny (model prog w) A (match c with | true=>rule "set.scan.the-table-gave-way" | false=>pure ()) R E z:=λc z R h=>by
   cases c
   ·exact aw h
   ·exact eL h
  refine ae (way gave _ _ ?_)
  split
  ·refine ae ?_;rw [hashByValue_scannable 8 (x:=.int k tk) rfl];refine aw ?_;exact aox rfl way ho hex hd al1 pm1 sz1 ft1 gs1 (ld1.trans ld) wd1 fin
  ·rename_i z;exact absurd gs1.plain z
end
section
variable{prog:Program}{w:World}{E:Value->Shared->Prop}{A:Around}{s:Shared}
theorem SetI.typeIs(x:SetI b a ks s.heap):s.TypeIs (.ref a) "set":=by
 obtain ⟨o,_,_,_,ho,hex,_⟩:=x;exact ⟨o,ho,hex.1⟩
theorem akm(hS:SetI b a ks s.heap)(few:ks.length+1<scanBound)
  (q:∀ h':Heap,Heap.SameBut a s.heap h'->SetI b a (L2.stepK ks k) h'->Q .none { s with heap:=h',toks:=s.toks+1 }):wpAny (model prog w) A (call (.builtin "set.add") [.ref a, .int k tk]) Q E s:=by
 refine bU F.slot_set_add hS.typeIs F.entry_set_add ?_ (F.args_set_add_2 _ _);show wpAny (model prog w) _ (Builtin.«set.add» ⟨[.ref a, .int k tk],[]⟩) _ _ s;have e:Builtin.«set.add» ⟨[.ref a, .int k tk],[]⟩=(setAdd a (.int k tk)>>=λ_=>ret .none):=by
  unfold Builtin.«set.add» Builtin.Frozenset.oneOther;rfl
 rw [e];unfold setAdd;refine ae (bP (ae ((intKind prog w).pyHash (k:=k) (by simp [intKind,Value.isInt]) ?_)))
 exact a3s (s:={ s with toks:=s.toks+1 }) hS few λh' r sb x=>aw ⟨_,rfl,q h' sb x⟩
def a0a(b:Bool):Obj:={ cls:=.type "set",dict:=none,data:=.set #[] 0 (.fresh 0 0 b) }
theorem ab3{h:Heap}(e:h.get? a=some (a0a b)):SetI b a [] h :=
 ⟨_, #[],0,_,e,⟨rfl,rfl,rfl⟩,rfl,λe he=>by simp at he,by simp,by decide,by simp [SetTable.fits,SetTable.fresh,SetTable.fill],⟨SETH.akk _ _ _,by show 0*5<7*3;decide⟩,rfl⟩
def byT(w:World):Bool:=w.params.followText "set-order"
theorem a8a(q:Q (.ref s.heap.objs.size) { s with heap:=s.heap.push (a0a (!byT w)) }):wpAny (model prog w) A (newSet (.type "set")) Q E s:=by
 unfold newSet setsByText;refine ae (ae (e9 (aw ?_)));exact cf q
end
end SETB
set_option maxHeartbeats 1000000
namespace SETB
open PySem PySem.Spec PyProof.Rows SETA PySem.Builtin
def itO(f:Value)(i:Nat)(a:Addr)(n ep:Nat):Obj:={ cls:=.type "set_iterator",data:=.fields #[f,rawInt i, .ref a,rawInt n,rawInt ep] }
theorem slot_next:Slot "set_iterator" "__next__" "set_iterator.__next__" :=
 .of (owner := "set_iterator") (n := "__next__") (by rw [typeLookup_type,builtinLookup_eq_fast];kernel_rfl) (by decide +kernel) (by decide +kernel) (by decide +kernel)
  (Or.inl (by decide +kernel)) (by rw [fW];kernel_rfl)
theorem entry_next:entryFor table "set_iterator.__next__" = some Builtin.«set_iterator.__next__»:=entryFor_of_fast (by kernel_rfl)
theorem args_next(a:Value):argsOk "set_iterator.__next__" ⟨[a],[]⟩:=by unfold argsOk;kernel_rfl
theorem aef:entryFor table "set.__iter__" = some Builtin.«frozenset.__iter__» :=
 entryFor_alias (id' := "frozenset.__iter__") (by kernel_rfl) rfl (by decide +kernel) (by kernel_rfl)
theorem agy(a:Value):argsOk "set.__iter__" ⟨[a],[]⟩:=by unfold argsOk;kernel_rfl
section
variable{prog:Program}{w:World}{E:Value->Shared->Prop}{A:Around}{s:Shared}
theorem a3t(q:Q (byT w) s):wpAny (model prog w) A setsByText Q E s:=by
 unfold setsByText;exact ae (e9 (aw q))
theorem a5v(ho:s.heap.get? a=some o)(hd:o.data = .set es ep t)(hf:t.fits es.size=true)(bt:byT w=false)(pl:t.plain=true\/es.size<=1)(ld:t.led=true)(hk:SetTable.below t.place slot=k)
  (hr:(∃ h x j,es[k]? = some (h,x)/\t.place[k]? = some j/\r=some (x,j+1))\/(es[k]? = none/\r=none)) (q:Q r s):wpAny (model prog w) A (setNext a slot i ep') Q E s:=by
 subst hk;unfold setNext
 apply ae
 apply bi ho hd hf
 apply ae
 apply a3t
 simp only [bt,bY,dW]
 split
 ·rename_i z;have z:(!t.plain && decide (es.size > 1))=true:=z
  rcases pl with p | p
  ·rw [p] at z;cases z
  ·rw [aY (by omega),eO] at z
   cases z
 have led:∀ R:Unit->Shared->Prop,R () s->wpAny (model prog w) A (if (!t.led && !es.isEmpty)=true then unsupported "set:maker-not-led" else pure ()) R E s:=λR r=>by
  rw [ld];exact aw r
 refine ae (led _ (aw ?_))
 rcases hr with ⟨h,x,j,e,f,rfl⟩ | ⟨e,rfl⟩
 ·rw [e,f];exact q
 ·rw [e];exact q
def Tells(w:World)(a:Addr)(slot i ep:Nat)(r:Option (Value × Nat))(s:Shared):Prop:=∀ (prog:Program) (A:Around) (E:Value->Shared->Prop) (Q:Option (Value × Nat)->Shared->Prop),Q r s->wpAny (model prog w) A (setNext a slot i ep) Q E s
theorem next_item{o:Obj}{es:Array (Int × Value)}{ep i slot nx:Nat}{t:SetTable}(hi:s.heap.get? it=some (itO (rawInt slot) i a es.size ep))(ho:s.heap.get? a=some o)(hd:o.data = .set es ep t)(hf:t.fits es.size=true)(hn:Tells w a slot i ep (some (x,nx)) s)
  (q:∀ h':Heap,h'.get? it=some (itO (rawInt nx) (i+1) a es.size ep)->Heap.SameBut it s.heap h'->Q (some x) { s with heap:=h' }):wpAny (model prog w) A (pyNext (.ref it)) Q E s:=by
 have hT:s.TypeIs (.ref it) "set_iterator":=⟨_,hi,rfl⟩;unfold pyNext;refine ae (wpAny_attempt (ci (name:=Str.ofString "__next__") hT slot_next (bU slot_next hT entry_next ?_ (args_next _))));unfold Builtin.«set_iterator.__next__»;have hn':∀ {A:Around} {E:Value->Shared->Prop} {Q:Option (Value × Nat)->Shared->Prop},Q _ s->wpAny (model prog w) A (setNext a (slot:Int).toNat (i:Int).toNat (ep:Int).toNat) Q E s:=λ{A E Q} r=>hn prog A E Q r
 wp_walk using hn',bi ho hd hf
 exact ⟨x,rfl,aw (q _ (cH _ (cH _ hi rfl) rfl) ((bM ..).trans (bM ..)))⟩
theorem agz{o:Obj}{es:Array (Int × Value)}{ep i slot:Nat}{t:SetTable}(hh:A.handled=none)(hi:s.heap.get? it=some (itO (rawInt slot) i a es.size ep))(ho:s.heap.get? a=some o)(hd:o.data = .set es ep t)(hf:t.fits es.size=true)(hn:Tells w a slot i ep none s)
  (q:∀ h':Heap,Heap.ExtBut it s.heap h'->Q none { s with heap:=h' }):wpAny (model prog w) A (pyNext (.ref it)) Q E s:=by
 have hT:s.TypeIs (.ref it) "set_iterator":=⟨_,hi,rfl⟩;unfold pyNext;refine ae (wpAny_attempt (ci (name:=Str.ofString "__next__") hT slot_next (bU slot_next hT entry_next ?_ (args_next _))));unfold Builtin.«set_iterator.__next__»;have hn':∀ {A:Around} {E:Value->Shared->Prop} {Q:Option (Value × Nat)->Shared->Prop},Q _ s->wpAny (model prog w) A (setNext a (slot:Int).toNat (i:Int).toNat (ep:Int).toNat) Q E s:=λ{A E Q} r=>hn prog A E Q r
 wp_walk using hn',bi ho hd hf
 unfold raiseNew
 apply ae
 apply wpAny_handled
 rw [show A.in1.handled=_ from hh]
 wp_walk
 show wpAny (model prog w) A (isSubtype (.type "StopIteration") (.type "StopIteration")) _ _ _;rw [isSubtype_stop];exact aw (aw (q _ λb o hb e=>ai _ (ai _ ((bM s.heap it _).extBut b o hb e))))
end
end SETB
set_option maxHeartbeats 1000000
namespace SETB
open PySem PySem.Spec PyProof.Rows SETA PySem.Builtin
def slotAt(t:SetTable)(i:Nat):Nat:=if i=0 then 0 else t.place.getD (i - 1) 0+1
theorem ah0(g:Gd t)(h:i<=t.place.size):SetTable.below t.place (slotAt t i)=i:=by
 unfold slotAt
 split
 ·rename_i z;subst z;exact aot g.ri
 ·have hk:i - 1<t.place.size:=by omega
  have e:t.place.getD (i - 1) 0=t.place[i - 1]:=by simp [Array.getD,hk]
  rw [e,ae9 g.ri hk];omega
section
variable{prog:Program}{w:World}{E:Value->Shared->Prop}{A:Around}{s:Shared}{a:Addr}{o:Obj}{es:Array (Int × Value)}{ep i:Nat}{t:SetTable}
theorem aeg(ho:s.heap.get? a=some o)(hd:o.data = .set es ep t)(hf:t.fits es.size=true)(bt:byT w=false)(pl:t.plain=true\/es.size<=1)(ld:t.led=true)(g:Gd t)(hi:i<es.size):Tells w a (slotAt t i) i ep (some (es[i].2,slotAt t (i+1))) s:=λprog A E Q q=>by
 have sz:=size_of hf;refine a5v ho hd hf bt pl ld (ah0 g (by omega)) (.inl ⟨_,_,_,bN hi,bN (by omega),rfl⟩) ?_
 have e:slotAt t (i+1)=t.place[i]'(by omega)+1:=by
  unfold slotAt;rw [aL (by omega)]
  simp [Array.getD,show i<t.place.size by omega]
 rw [e] at q;exact q
theorem aeh(ho:s.heap.get? a=some o)(hd:o.data = .set es ep t)(hf:t.fits es.size=true)(bt:byT w=false)(pl:t.plain=true\/es.size<=1)(ld:t.led=true)(g:Gd t):Tells w a (slotAt t es.size) es.size ep none s:=λprog A E Q q=>by
 have sz:=size_of hf;exact a5v ho hd hf bt pl ld (ah0 g (by omega)) (.inr ⟨Array.getElem?_eq_none (by omega),rfl⟩) q
theorem akn(ho:s.heap.get? a=some o)(hex:o.ExactSet)(hd:o.data = .set es ep t)(hf:t.fits es.size=true)(nd:byT w=true\/t.plain=true\/es.size<=1)
  (q:Q (.ref s.heap.objs.size) { s with heap:=s.heap.push (itO (rawInt 0) 0 a es.size ep) }):wpAny (model prog w) A (pyIter (.ref a)) Q E s:=by
 have ht:s.TypeIs (.ref a) "set":=⟨_,ho,hex.1⟩;refine wpAny_pyIter_slot ht F.slot_set_iter (bU F.slot_set_iter ht aef ?_ (agy _));have dr:∀ {A:Around} {E:Value->Shared->Prop} {Q:Bool->Shared->Prop},Q false s->wpAny (model prog w) A (setDrawn a) Q E s:=λ{A E Q} r=>by
  unfold setDrawn;refine ae (bi ho hd hf (ae (a3t (aw ?_))));have:(!byT w && (!t.plain && decide (es.size > 1)))=false:=by
   rcases nd with z | z | z
   ·rw [z];rfl
   ·rw [z];simp
   ·rw [aY (by omega)];simp
  rw [<-this] at r;exact r
 unfold Builtin.«frozenset.__iter__»
 wp_walk using dr,bi ho hd hf
 exact ⟨_,rfl, "set_iterator",_,⟨_,aK _ rfl,rfl⟩,slot_next.lookup,q⟩
end
end SETB
set_option maxHeartbeats 1000000
namespace SETB
open PySem PySem.Spec PyProof.Rows SETA PySem.Builtin
theorem a74{α:Type}:∀ (l:List α) (i:Nat) (h:i<l.length),(l[i]::l.eraseIdx i).Perm l
 | x::l,0,_=>.refl _
 | x::l,i+1,h=>(List.Perm.swap ..).trans ((a74 l i (Nat.lt_of_succ_lt_succ h)).cons x)
theorem ah1{α:Type}(nx:Nat->Nat):∀ (n k:Nat) (l:List α) (out:Array α),l.length=n->(pickOrder.go nx n k l out).toList.Perm (out.toList++l)
 | 0,k,l,out,e=>by
  cases l with
  | nil=>simp [pickOrder.go]
  | cons x l=>cases e
 | n+1,k,l,out,e=>by
  have hi:nx k % l.length<l.length:=eN _ (by omega)
  unfold pickOrder.go;rw [ad hi];refine (ah1 nx n (k+1) _ _ (by rw [List.length_eraseIdx_of_lt hi];omega)).trans ?_
  rw [Array.toList_push,da];exact (a74 l _ hi).append_left _
theorem ah2{α:Type}(nx:Nat->Nat)(xs:Array α):(pickOrder nx xs).toList.Perm xs.toList:=by
 have:=ah1 nx xs.size 0 xs.toList #[] (by simp)
 simpa [pickOrder] using this
def a75(w:World)(a:Addr)(ep:Nat)(es:Array (Int × Value)):Array (Int × Value):=if byT w then pickOrder (w.params.setOrder a ep) es else es
theorem a4p(w:World)(a:Addr)(ep:Nat)(es:Array (Int × Value)):(a75 w a ep es).toList.Perm es.toList:=by
 unfold a75
 split
 ·exact ah2 _ _
 ·exact .refl _
theorem a2v(w:World)(a:Addr)(ep:Nat)(es:Array (Int × Value)):(a75 w a ep es).size=es.size:=by
 have:=(a4p w a ep es).length_eq
 simpa using this
def a8b(w:World)(t:SetTable)(i:Nat):Nat:=if byT w then 0 else slotAt t i
section
variable{prog:Program}{w:World}{E:Value->Shared->Prop}{A:Around}{s:Shared}{a:Addr}{o:Obj}{es:Array (Int × Value)}{ep i:Nat}{t:SetTable}
theorem a5w(ho:s.heap.get? a=some o)(hd:o.data = .set es ep t)(hf:t.fits es.size=true)(bt:byT w=true)(q:Q (pickOrder (w.params.setOrder a ep) es) s):wpAny (model prog w) A (setWalk a) Q E s:=by
 unfold setWalk
 apply ae
 apply bi ho hd hf
 apply ae
 apply a3t
 simp only [bt,dC];exact ae (e9 (aw q))
theorem a9x(ho:s.heap.get? a=some o)(hd:o.data = .set es ep t)(hf:t.fits es.size=true)(bt:byT w=true)
  (q:Q (((pickOrder (w.params.setOrder a ep) es)[i]?).map λe=>(e.2,slot)) s):wpAny (model prog w) A (setNext a slot i ep) Q E s:=by
 unfold setNext
 apply ae
 apply bi ho hd hf
 apply ae
 apply a3t
 simp only [bt,dC,bne_self_eq_false,bY,dW]
 first
 | exact ae (a5w ho hd hf bt (aw q))
 | exact ae (aw (ae (a5w ho hd hf bt (aw q))))
theorem aoy(ho:s.heap.get? a=some o)(hd:o.data = .set es ep t)(hf:t.fits es.size=true)(nd:byT w=true\/t.plain=true\/es.size<=1)(ld:t.led = !byT w)(g:Gd t)(hi:i<(a75 w a ep es).size):Tells w a (a8b w t i) i ep (some ((a75 w a ep es)[i].2,a8b w t (i+1))) s:=by
 have sz:=a2v w a ep es
 cases bt:byT w with
 | true =>
  intro prog A E Q q
  refine a9x ho hd hf bt ?_;have e:pickOrder (w.params.setOrder a ep) es=a75 w a ep es:=by unfold a75;rw [bt];rfl
  rw [e,bN hi];unfold a8b at q ⊢;rw [bt] at q ⊢;exact q
 | false =>
  have e:a75 w a ep es=es:=by unfold a75;rw [bt];rfl
  rw [bt] at ld;have:=aeg (i:=i) ho hd hf bt (nd.resolve_left (by rw [bt];decide)) ld g (by omega)
  unfold a8b;rw [bt];simp only [e,bY,dW];exact this
theorem ah3(ho:s.heap.get? a=some o)(hd:o.data = .set es ep t)(hf:t.fits es.size=true)(nd:byT w=true\/t.plain=true\/es.size<=1)(ld:t.led = !byT w)(g:Gd t):Tells w a (a8b w t es.size) es.size ep none s:=by
 have sz:=a2v w a ep es
 cases bt:byT w with
 | true =>
  intro prog A E Q q
  refine a9x ho hd hf bt ?_;have e:pickOrder (w.params.setOrder a ep) es=a75 w a ep es:=by unfold a75;rw [bt];rfl
  rw [e,Array.getElem?_eq_none (by omega)]
  exact q
 | false =>
  rw [bt] at ld;have:=aeh ho hd hf bt (nd.resolve_left (by rw [bt];decide)) ld g
  unfold a8b;rw [bt];exact this
end
end SETB
set_option maxHeartbeats 1000000
namespace SETB
open PySem PySem.Spec PyProof.Rows SETA PySem.Builtin
theorem slot_self:Slot "set_iterator" "__iter__" "set_iterator.__iter__" :=
 .of (owner := "set_iterator") (n := "__iter__") (by rw [typeLookup_type,builtinLookup_eq_fast];kernel_rfl) (by decide +kernel) (by decide +kernel) (by decide +kernel)
  (Or.inl (by decide +kernel)) (by rw [fW];kernel_rfl)
theorem entry_self:entryFor table "set_iterator.__iter__" = some Builtin.«dict_keyiterator.__iter__»:=entryFor_alias (id' := "dict_keyiterator.__iter__") (by kernel_rfl) rfl (by decide +kernel) (by kernel_rfl)
theorem args_self(a:Value):argsOk "set_iterator.__iter__" ⟨[a],[]⟩:=by unfold argsOk;kernel_rfl
section
variable{prog:Program}{w:World}{A:Around}{a I:Addr}{o:Obj}{es:Array (Int × Value)}{ep:Nat}{t:SetTable}
theorem aoz{s:Shared}(ht:s.TypeIs (.ref I) "set_iterator")(q:Q (.ref I) s):wpAny (model prog w) A (pyIter (.ref I)) Q E s:=by
 refine wpAny_pyIter_slot ht slot_self (bU slot_self ht entry_self ?_ (args_self _));show wpAny (model prog w) _ (ret (.ref I)) _ _ s;exact aw ⟨_,rfl, "set_iterator",_,ht,slot_next.lookup,q⟩
theorem ah4(hh:A.handled=none)(ne:a≠I)(hd:o.data = .set es ep t)(hf:t.fits es.size=true)(nd:byT w=true\/t.plain=true\/es.size<=1)(ld:t.led = !byT w)(g:Gd t) :
  Walks prog w A I [I,a] [I] es.size (λi v=>((a75 w a ep es)[i]?).map (·.2)=some v) (λi h=>h.get? I=some (itO (rawInt (a8b w t i)) i a es.size ep)/\h.get? a=some o) where
 sub:=λb hb=>aD.mpr (.inl (av.mp hb))
 frame:=λ_ _ _ st hk=>⟨hk I (by simp) _ st.1,hk a (by simp) _ st.2⟩
 item:=λi s Q E hi st q=>by
  have hi':i<(a75 w a ep es).size:=by rw [a2v];exact hi
  refine next_item st.1 st.2 hd hf (aoy st.2 hd hf nd ld g hi') λh' e sb=>?_;exact q _ h' s.toks (by rw [bN hi'];rfl) ⟨e,sb.extBut a o ne st.2⟩ λb o hb e=>sb.extBut b o (λh=>hb (by simp [h])) e
 done:=λs Q E st q=>agz hh st.1 st.2 hd hf (ah3 st.2 hd hf nd ld g) λh' e=>q h' s.toks λb o hb x=>e b o (λh=>hb (by simp [h])) x
 self:=λi s Q E st q=>aoz ⟨_,st.1,rfl⟩ q
end
theorem ah5{A:Around}{s:Shared}(hh:A.handled=none)(hS:SetI (!byT w) a ks s.heap)
  (q:∀ (es:Array (Int × Value)) (St:Nat->Heap->Prop),AllI es.toList->(es.toList.map kOf).Perm ks->∀ h':Heap,(∀ b o,s.heap.get? b=some o->h'.get? b=some o)->h'.objs.size=s.heap.objs.size+1->St 0 h'->
   Walks prog w A s.heap.objs.size [s.heap.objs.size,a] [s.heap.objs.size] es.size (λi v=>(es[i]?).map (·.2)=some v) St->Q (.ref s.heap.objs.size) { s with heap:=h' }):wpAny (model prog w) A (pyIter (.ref a)) Q E s:=by
 obtain ⟨o,es,ep,t,ho,hex,hd,al,pm,sz,ft,gr,ld⟩:=hS;have nd:byT w=true\/t.plain=true\/es.size<=1:=.inr (.inl gr.1.plain);refine akn ho hex hd ft nd ?_;have ne:a≠s.heap.objs.size:=λc=>by
  rw [c] at ho;simp [Heap.get?] at ho
 have W:=ah4 (prog:=prog) (I:=s.heap.objs.size) hh ne hd ft nd ld gr.1.gd;have pp:=a4p w a ep es;rw [<-a2v w a ep es] at W;refine q (a75 w a ep es) _ (λe he=>al e (pp.mem_iff.mp he)) ((pp.map kOf).trans pm) _ (λb o e=>ai _ e) (by simp [Heap.push]) ⟨?_,ai _ ho⟩ W
 have s0:a8b w t 0=0:=by unfold a8b slotAt;simp
 rw [s0,a2v];exact aK _ rfl
end SETB
set_option maxHeartbeats 1000000
namespace SETB
open PySem PySem.Spec PyProof.Rows SETA PySem.Builtin
section
variable{prog:Program}{w:World}{A:Around}{s:Shared}{E:Value->Shared->Prop}{a:Addr}{ks:List Int}
theorem ako(ht:s.TypeIs (.ref a) "set")(q:Q false s):wpAny (model prog w) A (Builtin.List.listLengthHint (.ref a)) Q E s:=by
 unfold Builtin.List.listLengthHint;refine ae (wpAny_specialOf ht F.slot_set_len.lookup ?_);have sp:splitId "set.__len__" = some ("set", "__len__"):=by decide +kernel
 dsimp only;rw [sp];dsimp only
 apply ae
 apply gS (T := "set") (b:=true) ht (by rw [fW];kernel_rfl)
 rw [aL (by decide)]
 refine wpAny_ite_split (λ_=>?_) λn=>absurd (by decide +kernel) n
 apply ae
 apply eQ ht
 exact aw q
theorem ab4(hh:A.handled=none)(hS:SetI (!byT w) a ks s.heap)
  (q:∀ (vs:List Value) (js:List Int) (s':Shared),js.Perm ks->vs.length=js.length->(∀ (i:Nat) (v:Value),vs[i]? = some v->∃ k t,js[i]? = some k/\v=Value.int k t)->Moved [] (λx y=>y=x) s s'->s.heap.objs.size<=s'.heap.objs.size->Q vs s'):wpAny (model prog w) A (collect (.ref a)) Q E s:=by
 unfold collect
 apply ae
 apply wpAny_runValue
 apply dI F.entry_proto_collect
 rw [cW F.plain_proto_collect _];unfold Builtin.«proto.collect»
 wp_walk
 refine ⟨gI F.plain_list_iadd _,dI F.entry_list_iadd ?_⟩;rw [cW F.plain_list_iadd _];obtain ⟨o,ho,hT⟩:∃ o,s.heap.get? a=some o/\o.cls = .type "set":=by
  obtain ⟨o,es,ep,t,ho,hex,_⟩:=hS;exact ⟨o,ho,hex.1⟩
 have lt:=aE ho;have up:∀ b x,s.heap.get? b=some x->(s.heap.push { cls:=.type "list",data:=.seq #[] }).get? b=some x:=λb x e=>ai _ e;have sz0:(s.heap.push { cls:=.type "list",data:=.seq #[] }).objs.size=s.heap.objs.size+1:=by simp [Heap.push]
 have hL:(s.heap.push { cls:=.type "list",data:=.seq #[] }).get? s.heap.objs.size=some { cls:=.type "list",data:=.seq #[] }:=aK _ rfl;have hS0:=hS.keep λx e=>up a x e;have few:=hS.len
 generalize s.heap.push { cls:=.type "list",data:=.seq #[] }=h0 at up sz0 hL hS0 ⊢
 show wpAny (model prog w) A.in1 (Builtin.List.listExtendWith (.ref s.heap.objs.size) (.ref a) (.ref s.heap.objs.size)) _ _ _;unfold Builtin.List.listExtendWith
 apply ae
 have ht0:({ s with heap:=h0 }:Shared).TypeIs (.ref a) "set":=⟨o,up a o ho,hT⟩
 apply eQ ht0
 have far:s.heap.objs.size≠a:=gW lt;rw [aL (by simp [Builtin.List.listSameRef,far])]
 apply ae
 refine ah5 (s:={ s with heap:=h0 }) hh hS0 λes St al pm h1 ext sz1 st W=>?_
 apply ae
 apply bP
 have ht1:({ s with heap:=h1 }:Shared).TypeIs (.ref a) "set":=⟨o,ext a o (up a o ho),hT⟩
 apply ako ht1
 refine wpAny_ite_split (λ_=>?_) λn=>absurd (by decide +kernel) n
 apply ae
 apply eL
 apply ae
 have n1:es.size=ks.length:=by
  have:=pm.length_eq
  rwa [am,aJ] at this
 have hL1:=ext _ _ hL;show wpAny (model prog w) A.in1 (updateSeq s.heap.objs.size (·.push .none)>>=λ_=>updateSeq s.heap.objs.size (·.pop)) _ _ _;refine ae (hE hL1 rfl ?_);have hL2:=cH (Obj.mapSeq (·.push Value.none)) hL1 rfl;refine hE hL2 rfl ?_;have hL3:=cH (Obj.mapSeq (·.pop)) hL2 rfl;have oth:∀ b x,b≠s.heap.objs.size->h1.get? b=some x->((h1.update s.heap.objs.size (Obj.mapSeq (·.push Value.none))).update s.heap.objs.size (Obj.mapSeq (·.pop))).get? b=some x :=
  λb x hb e=>(cA _ _ (cX hb)).trans ((cA _ _ (cX hb)).trans e)
 have hf:s.heap.objs.size ∉ [h0.objs.size,a]:=λc=>by
  simp only [aD,aN,cn] at c
  rcases c with c | c
  ·exact aR (Nat.lt_of_lt_of_eq (eY _) sz0.symm) c
  ·exact far c
 refine aw ⟨gI F.plain_extend_loop _,codeAny_extend_loopS W.toS (by have:ks.length<4096:=few;rw [n1];unfold sizeLine;omega) _ hf _ es.size 0 _ _ _ rfl (bE _)
  (W.frame 0 h1 _ st λb hb x e=>oth b x (λc=>hf (c ▸ hb)) e) hL3 (ItemsOf.nil _) λs' acc c' hm hA hI=>?_⟩
 show wpAny (model prog w) A (load s.heap.objs.size>>=_) _ _ s'
 apply ae
 apply wpAny_load hA
 refine aw (q acc.toList (es.toList.map kOf) s' pm (by rw [aJ,hI.1,am,aJ]) (λi v e=>?_) ⟨λb x _ e=>?_,hm.gens,hm.drawn,hm.os,hm.toks⟩ (fJ (aE hA)))
 ·have this:(es[i]?).map (·.2)=some v:=hI.2 i v (by simpa using e)
  cases g:es[i]? with
  | none=>rw [g] at this;cases this
  | some y =>
   rw [g] at this;have m:y∈es.toList:=by
    obtain ⟨hi,z⟩:=fI.mp g;rw [<-z];simp
   obtain ⟨k,t,rfl⟩:=al y m;cases this
   exact ⟨k,t,by simp [g,kOf],rfl⟩
 ·have lb:=aE e;refine hm.heap b x (λc=>?_) (oth b x (aR lb) (ext b x (up b x e)));simp only [aD,aN,cn] at c
  rcases c with c | c
  ·exact aR lb c
  ·exact aR (Nat.lt_of_lt_of_eq (Nat.lt_succ_of_lt lb) sz0.symm) c
end
end SETB
set_option maxHeartbeats 1000000
namespace SETB
open PySem PySem.Spec PyProof.Rows SETA PySem.Builtin
section
variable{prog:Program}{w:World}{A:Around}{s:Shared}{E:Value->Shared->Prop}{a:Addr}{ks:List Int}
theorem ints_of{vs:List Value}{js:List Int}(len:vs.length=js.length)(h:∀ (i:Nat) (v:Value),vs[i]? = some v->∃ k t,js[i]? = some k/\v=Value.int k t):IntsAre vs js:=by
 have all:∀ v,v∈vs->∃ n t,v=Value.int n t:=λv hv=>by
  obtain ⟨i,hi,e⟩:=dR.mp hv;obtain ⟨k,t,_,z⟩:=h i v (by rw [ad hi,e])
  exact ⟨k,t,z⟩
 have e:vs.map numOf=js:=by
  refine List.ext_getElem (by rw [am,len]) λi h1 h2=>?_
  have hi:i<vs.length:=by omega
  obtain ⟨k,t,x,z⟩:=h i vs[i] (ad hi);rw [List.getElem_map,z];rw [ad h2] at x;cases x
  rfl
 have:=intsAre_map vs all
 rwa [e] at this
theorem aei(hh:A.handled=none)(hS:SetI (!byT w) a ks s.heap)(h64:ks.length<64)
  (q:∀ (l:Addr) (out:Array Value) (e:Nat) (s':Shared),s.heap.objs.size<=l->IntsAre out.toList (PySem.W.sortI ks)->s'.heap.get? l=some (seqObj "list" out e)->Moved [] (λx y=>y=x) s s'->Q (.ref l) s') :
  wpAny (model prog w) A (call (.builtin "sorted") [.ref a]) Q E s:=by
 refine Calls.call_function_entry kind_sorted plain_sorted entry_sorted (args_sorted1 _) ?_;unfold Builtin.«sorted»
 apply ae (m:=checkCount "sorted" 1 1 _)
 apply aw
 apply ae
 refine ab4 hh hS λvs js s1 pj len it mv up=>?_;have hI:=ints_of len it;have l64:vs.length<64:=by rw [len,pj.length_eq];exact h64
 apply ae
 refine wpAny_newList ?_ (hsz:=by rw [dE];omega)
 have hL:(s1.heap.push (seqObj "list" vs.toArray 0)).get? s1.heap.objs.size=some (seqObj "list" vs.toArray 0):=aK _ rfl
 apply ae
 apply bP
 refine bU slot_list_sort (s:={ s1 with heap:=s1.heap.push (seqObj "list" vs.toArray 0) }) ⟨_,hL,rfl⟩ entry_list_sort (list_sort_tree hL hI l64 λout ns a1 a2 a3=>⟨_,rfl,?_⟩) (args_list_sort _)
 have e2:ns=PySem.W.sortI ks:=PySem.W.eq_sortI (a2.trans pj) a3;subst e2;obtain ⟨e,he⟩:=sortedHeap_at (out:=out) hL;refine aw ⟨_,rfl,q _ out e _ ?_ a1 he ⟨λb x hb g=>?_,mv.gens,mv.drawn,mv.os,mv.toks⟩⟩
 ·exact up
 ·have g1:=mv.heap b x hb g;have lt:=aE g1;show (sortedHeap _ _ _ _).get? b=some x;rw [sortedHeap_old (aR lt) (by rw [size_push'];exact Nat.lt_succ_of_lt lt)]
  exact ai _ g1
end
end SETB
set_option maxHeartbeats 1000000
namespace L2
open PySem PySem.Spec PyProof.Rows SETB
def acu(w:World)(a:Addr)(ks:List Int):HO:=.ext λh=>SetI (!byT w) a ks h
section
variable{X:Cx}
theorem yr(hc:X.calm=true):CallR X (.builtin "sorted") (λxs H Q=>∃ (p:Addr) (ks:List Int),xs=[.ref p]/\H p=some (acu X.w p ks)/\ks.length<64/\∀ l,H l=none->Q (.ref l) (upd H l (.lst ((PySem.W.sortI ks).map V.int)))):=by
 intro pins s σ H xs us Q I r ⟨p,ks,e,hp,h64,q⟩
 subst e;obtain ⟨u,rfl,ru⟩:=vals1 r;cases ru
 obtain ⟨hS,_⟩:=I.hok p _ hp;refine aei (I.ok.hd hc) hS h64 λl out e s' hl a1 he mv=>?_;obtain ⟨h',g',d',t',o'⟩:=s';obtain ⟨mh,mg,md,mo,mt⟩:=mv;dsimp only at mh mg md mo mt he;subst mg md mo;have ln:(PySem.W.sortI ks).length=ks.length:=(fO ks).length_eq;refine ⟨.ref l,_,I.laid (t':=t') (λb u g=>mh b u (by simp) g) hl (show ObjOk X.prog X.w _ _ _ (.lst ((PySem.W.sortI ks).map V.int)) from ⟨by rw [am,ln];have:=dE;omega,out.toList,e,a2m a1,by simpa [seqObj] using he⟩),rfl,q _ (I.hok.fresh hl)⟩
theorem ab5(x:SetI (!byT w) a ks h):ObjOk P w H h a (acu w a ks):=by
 refine ⟨x,?_,λh1 h2 p k=>p.keep k⟩;obtain ⟨o,_,_,_,ho,_⟩:=x;exact ⟨o,ho⟩
end
end L2
set_option maxHeartbeats 1000000
namespace L2
open PySem PySem.Spec PyProof.Rows SETB
section
variable{prog:Program}{w:World}{A:Around}{R:Result->Shared->Prop}{s:Shared}{elt t0 i0 t1 i1:Expr}{scope:Scope}{pos:Pos}{it acc:Value}{env:Env}
theorem aej(J:Nat->Shared->Prop)
  (step:∀ m z,J m z->wpAny (model prog w) A (pyNext it) (λgot z1=>match got with
   | none=>R (.ok .next) z1
   | some v=>wpAny (model prog w) A (letOwnedTupleGo t1 it v) (λ_ z2=>wpAny (model prog w) A (assign t1 env v) (λ_ z3=>wpAny (model prog w) A (eval elt env) (λx z4 =>
     wpAny (model prog w) A (call (.builtin "set.add") [acc,x]) (λ_ z5=>∃ m',m'<m/\J m' z5) (λ_ _=>False) z4)
     (λ_ _=>False) z3) (λ_ _=>False) z2) (λ_ _=>False) z1) (λ_ _=>False) z)
  (m:Nat) (j0:J m s):codeAny (model prog w) A (.compLoop (.SetComp elt [⟨t0,i0,[],0⟩,⟨t1,i1,[],0⟩] scope pos) 1 it acc env) R s:=by
 refine gZ rfl J (λm z hj=>(hU ?_:wpAny _ _ ((compTurn (.SetComp elt [⟨t0,i0,[],0⟩,⟨t1,i1,[],0⟩] scope pos) 1 it acc env).onRaise _) _ _ z)) m j0;show wpAny (model prog w) _ (standAt i1.pos>>=λ_=>pyNext it>>=_) _ _ z
 apply ae
 apply cD
 apply ae
 refine ba (step m z hj) (λgot z1 h1=>?_) λ_ _ no=>no.elim
 match got,h1 with
 | none,h1=>exact aw h1
 | some v,h1 =>
  apply ae
  refine ba h1 (λ_ z2 h2=>?_) λ_ _ no=>no.elim
  apply ae
  refine ba h2 (λ_ z3 h3=>?_) λ_ _ no=>no.elim;show wpAny (model prog w) _ ((eval elt env>>=λx=>standAt elt.pos>>=λ_=>call (.builtin "set.add") [acc,x]>>=λ_=>pure ())>>=_) _ _ _
  apply ae
  apply ae
  refine ba h3 (λx z4 h4=>?_) λ_ _ no=>no.elim
  apply ae
  apply cD
  apply ae
  exact ba h4 (λ_ z5 h5=>aw (aw ⟨rfl,h5⟩)) λ_ _ no=>no.elim
theorem ab6(h0:codeAny (model prog w) A (.compLoop (.SetComp elt [⟨t0,i0,[],0⟩,⟨t1,i1,[],0⟩] scope pos) 1 it acc env) R s)
  (h:wpAny (model prog w) A (pyIter it) (λit' s'=>codeAny (model prog w) A (.compLoop (.SetComp elt [⟨t0,i0,[],0⟩,⟨t1,i1,[],0⟩] scope pos) 1 it' acc env) R s') (λ_ _=>False) s) :
  codeAny (model prog w) A (.compStart (.SetComp elt [⟨t0,i0,[],0⟩,⟨t1,i1,[],0⟩] scope pos) 1 it acc env) R s:=by
 apply fF
 show wpAny (model prog w) _ ((compStart (.SetComp elt [⟨t0,i0,[],0⟩,⟨t1,i1,[],0⟩] scope pos) 1 it acc env).onRaise _) _ _ s
 apply wpAny_onRaise
 unfold compStart;show wpAny (model prog w) _ (ask>>=_) _ _ s
 apply ae
 apply e9
 refine wpAny_ite ?_
 split
 ·first
  | exact aw ⟨rfl,h0⟩
  | exact ae (aw (aw ⟨rfl,h0⟩))
 ·apply ae
  apply eL
  show wpAny (model prog w) _ (standAt i1.pos>>=_) _ _ s
  apply ae
  apply cD
  apply ae
  exact ba h (λit' s' h'=>aw ⟨rfl,h'⟩) λ_ _ no=>no.elim
theorem ab7(J:Nat->Shared->Prop)
  (step:∀ m z,J m z->wpAny (model prog w) A (pyNext it) (λgot z1=>match got with
   | none=>R (.ok .next) z1
   | some v=>wpAny (model prog w) A (letOwnedTupleGo t0 it v) (λ_ z2=>wpAny (model prog w) A (assign t0 env v) (λ_ z3=>wpAny (model prog w) A (eval i1 env) (λx z4 =>
     wpAny (model prog w) A (foldedSetIterable i1 env x) (λy z5=>wpAny (model prog w) A (pyIter y) (λit1 z6 =>
      codeAny (model prog w) A (.compStart (.SetComp elt [⟨t0,i0,[],0⟩,⟨t1,i1,[],0⟩] scope pos) 1 it1 acc env) (λr z7=>∃ f,r = .ok f/\∃ m',m'<m/\J m' z7) z6) (λ_ _=>False) z5) (λ_ _=>False) z4)
     (λ_ _=>False) z3) (λ_ _=>False) z2) (λ_ _=>False) z1) (λ_ _=>False) z)
  (m:Nat) (j0:J m s):codeAny (model prog w) A (.compLoop (.SetComp elt [⟨t0,i0,[],0⟩,⟨t1,i1,[],0⟩] scope pos) 0 it acc env) R s:=by
 refine gZ rfl J (λm z hj=>(hU ?_:wpAny _ _ ((compTurn (.SetComp elt [⟨t0,i0,[],0⟩,⟨t1,i1,[],0⟩] scope pos) 0 it acc env).onRaise _) _ _ z)) m j0;show wpAny (model prog w) _ (standAt i0.pos>>=λ_=>pyNext it>>=_) _ _ z
 apply ae
 apply cD
 apply ae
 refine ba (step m z hj) (λgot z1 h1=>?_) λ_ _ no=>no.elim
 match got,h1 with
 | none,h1=>exact aw h1
 | some v,h1 =>
  apply ae
  refine ba h1 (λ_ z2 h2=>?_) λ_ _ no=>no.elim
  apply ae
  refine ba h2 (λ_ z3 h3=>?_) λ_ _ no=>no.elim;show wpAny (model prog w) _ (eval i1 env>>=_) _ _ _
  apply ae
  refine ba h3 (λx z4 h4=>?_) λ_ _ no=>no.elim
  apply ae
  apply cD
  show wpAny (model prog w) _ (foldedSetIterable i1 env x>>=_) _ _ _
  apply ae
  refine ba h4 (λy z5 h5=>?_) λ_ _ no=>no.elim;show wpAny (model prog w) _ (holding [y] (pyIter y)>>=_) _ _ _
  apply ae
  apply bP
  refine ba h5 (λit1 z6 h6=>?_) λ_ _ no=>no.elim
  apply ae
  refine wpAny_runOwn (eP h6 λr z7 h7=>?_);obtain ⟨f,rfl,h8⟩:=h7;exact aw ⟨rfl,h8⟩
end
theorem ah6:eval (.SetComp elt gens scope pos) env =
  comprehension (.SetComp elt gens scope pos) scope env (firstIterPos gens pos) (newSet (.type "set")) (firstAsync gens) (firstIter gens env):=rfl
section
variable{prog:Program}{w:World}{A:Around}{R:Result->Shared->Prop}{s:Shared}{elt t0 i0 t1 i1:Expr}{scope:Scope}{pos:Pos}{it acc:Value}{env:Env}
theorem a9y(h0:codeAny (model prog w) A (.compLoop (.SetComp elt [⟨t0,i0,[],0⟩,⟨t1,i1,[],0⟩] scope pos) 0 it acc env) R s)
  (h:wpAny (model prog w) A (pyIter it) (λit' s'=>codeAny (model prog w) A (.compLoop (.SetComp elt [⟨t0,i0,[],0⟩,⟨t1,i1,[],0⟩] scope pos) 0 it' acc env) R s') (λ_ _=>False) s) :
  codeAny (model prog w) A (.compStart (.SetComp elt [⟨t0,i0,[],0⟩,⟨t1,i1,[],0⟩] scope pos) 0 it acc env) R s:=by
 apply fF
 show wpAny (model prog w) _ ((compStart (.SetComp elt [⟨t0,i0,[],0⟩,⟨t1,i1,[],0⟩] scope pos) 0 it acc env).onRaise _) _ _ s
 apply wpAny_onRaise
 unfold compStart;show wpAny (model prog w) _ (ask>>=_) _ _ s
 apply ae
 apply e9
 refine wpAny_ite ?_
 split
 ·first
  | exact aw ⟨rfl,h0⟩
  | exact ae (aw (aw ⟨rfl,h0⟩))
 ·apply ae
  apply eL
  show wpAny (model prog w) _ (standAt i0.pos>>=_) _ _ s
  apply ae
  apply cD
  apply ae
  exact ba h (λit' s' h'=>aw ⟨rfl,h'⟩) λ_ _ no=>no.elim
end
section
variable{X:Cx}
theorem aek(I:Inv X pins σ H s)
  (hf:∀ b∈fp,FpOk X pins H b) (hC:s.heap.objs.size<=C) (hacc:s.heap.objs.size<=acc)
  (J:Inv (cxC X N scope cl C fp s H) [] σ' H' s') (hn:H' acc=none) (hob:ObjOk X.prog X.w (upd H' acc ho) h' acc ho) (sb:Heap.SameBut C s'.heap h') :
  Inv X pins σ (upd H' acc ho) { s' with heap:=h' }:=by
 have k:∀ b o,b≠C->s'.heap.get? b=some o->h'.get? b=some o:=λb o hb e=>sb.extBut b o hb e;have old:∀ b o,s.heap.get? b=some o->b≠C/\b≠acc:=λb o e=>⟨aR (aH (aE e) hC),aR (aH (aE e) hacc)⟩;have u0:Un (frs X.stack) fp H H' s.heap s'.heap:=J.base;have fC:H' C=none:=J.free;have u:Un (frs X.stack) fp H (upd H' acc ho) s.heap h':=by
  refine ⟨λb o e n' hb hx=>k b o (old b o e).1 (u0.keep b o e n' hb hx),λb o e n' hb hx=>?_,λb o e n' hx=>?_,λb o e hx=>?_,λb xs e=>?_,λb o v e=>?_,λb ps e=>?_⟩
  ·obtain ⟨sl,e1⟩:=u0.slot b o e n' hb hx;exact ⟨sl,k b _ (old b o e).1 e1⟩
  ·rw [jo (old b o e).2];exact u0.free b o e n' hx
  ·obtain ⟨o',e1⟩:=u0.there b o e hx;exact ⟨o',k b _ (old b o e).1 e1⟩
  ·rw [jo (j5 (u0.tups b xs e) hn)];exact u0.tups b xs e
  ·rw [jo (j5 (u0.frzs b o v e) hn)];exact u0.frzs b o v e
  ·obtain ⟨more,e1⟩:=u0.tbls b ps e;exact ⟨more,by rw [jo (j5 e1 hn)];exact e1⟩
 have hok:HOk X.prog X.w (upd H' acc ho) h':=λb o e=>by
  by_cases hb:b=acc
  ·subst hb;rw [mz] at e;cases e
   exact hob
  ·rw [jo hb] at e;refine (J.hok b o e).stay (λc v hc q=>k c v ?_ q) (λc q=>by rw [jo (j5 q hn)];exact q) λc xs q=>by rw [jo (j5 q hn)];exact q
   rcases hc with z | z
   ·rw [z];exact j5 e fC
   ·exact j5 z fC
 have J':=I.call (g':=s'.gens) (t':=s'.toks) (d':=s'.drawn) (ch:=fp) u hok J.bare λb hb=>⟨(hf b hb).2.2.2.1,(hf b hb).2.1,(hf b hb).2.2.2.2.1,(hf b hb).2.2.2.2.2⟩;have eo:s'.os=s.os:=J.os;obtain ⟨hp,g,d,t,o⟩:=s';have eo':o=s.os:=eo;subst eo';exact J'
theorem FpOk.on(f:FpOk Y pins H b)(hp:Y.pn=[])(hn:H' b=none)(ne:b ∉ L):FpOk Y (vq L h) H' b:=by
 obtain ⟨_,f1,f2,f3,f4,_⟩:=f;refine ⟨hn,f1,f2,f3,f4,λp hq z=>ne ?_⟩;rw [hp] at hq;have:=(a95 (show p∈vq L h from hq)).1
 rw [<-z];exact this
def awv(w:World)(wi1:TI)(s0:St)(g0 g1:TG)(te:TE)(Q:VK)(J0:It)(H1:Hp):Prop :=
 ∃ W:Nat->Nat->List Int->Hp->Prop,(∃ m,W 0 m [] H1)/\∀ i m ks H,W i m ks H->
  (J0.stop i H/\∀ p,H p=none->Q (.ref p) (upd H p (acu w p ks))) \/
  (J0.go i H/\∀ x H',J0.yld i H x H'->g0 x s0 H' λσ2 H2=>Ext s0 σ2/\wi1 σ2 H2 λJ1 H3=>∃ V:Nat->Nat->List Int->Hp->Prop,(∃ n,V 0 n ks H3)/\∀ j n ks H,V j n ks H->
   (J1.stop j H/\∃ m',m'<m/\W (i+1) m' ks H) \/
   (J1.go j H/\∀ y H',J1.yld j H y H'->g1 y σ2 H' λσ3 H4=>Ext σ2 σ3/\te σ3 H4 λz H5=>∃ k,z = .int k/\ks.length+1<scanBound/\∃ n',n'<n/\V (j+1) n' (stepK ks k) H5))
def aw4(w:World)(wi0 wi1:TI)(s0:St->St)(g0 g1:TG)(te:TE):TE:=λσ H Q=>wi0 σ H λJ0 H1=>awv w wi1 (s0 σ) g0 g1 te Q J0 H1
theorem ap0(hc:X.calm=true)(S:CSc X scope cl ts fr ix)(hi0:PI X t0 i0 wi0)
  (hg0:∀ C fp s H,PG (cxC X (ts++fr) scope cl C fp s H) t0 g0) (hi1:∀ C fp s H,PI (cxC X (ts++fr) scope cl C fp s H) t1 i1 wi1) (hg1:∀ C fp s H,PG (cxC X (ts++fr) scope cl C fp s H) t1 g1) (he:∀ C fp s H,PE (cxC X (ts++fr) scope cl C fp s H) elt te)
  (hs0:∀ x,foldedSetIterable i0 X.env x=pure x:=by intro _;rfl) (hs1:∀ env x,foldedSetIterable i1 env x=pure x:=by intro _ _;rfl) :
  PE X (.SetComp elt [⟨t0,i0,[],0⟩,⟨t1,i1,[],0⟩] scope pos) (aw4 X.w wi0 wi1 (m9 ts.length ix) g0 g1 te):=by
 intro pins s σ H Q I h
 rw [ah6];refine eh (use:=none) rfl hs0 S.clos S.kind S.names (thn (hi0 pins s σ H _ I h) λv s1 h1=>thn h1 λitv s2 h2=>?_);obtain ⟨it,fp,tn,J,H2,e,I2,T,st2,f2,W,⟨m0,w0⟩,turn⟩:=h2;subst e;have hob:∀ b∈fp,b<s2.heap.objs.size:=λb hb=>let ⟨o,e,_⟩:=T.obj _ _ st2 b hb;aE e;refine a8a (fg S.nocell (by intro y hy;simp at hy) (λh4 hns4 hsb4=>?_) S.kind)
 dsimp only at hns4 hsb4 ⊢
 generalize hH2:s2.heap.push (a0a (!byT X.w))=G at hns4 hsb4 ⊢
 have hCs:G.objs.size=s2.heap.objs.size+1:=by rw [<-hH2,dB]
 have hCle:s2.heap.objs.size<=G.objs.size:=by omega
 have hne:G.objs.size≠s2.heap.objs.size:=by omega
 have old:∀ b o,s2.heap.get? b=some o->h4.get? b=some o:=λb o e=>by
  have hlt:=aE e;exact hsb4.extBut b o (aR (aH hlt hCle)) (ai _ (hH2 ▸ ai _ e))
 have hacc:SetI (!byT X.w) s2.heap.objs.size [] h4 :=
  ab3 (hsb4.extBut _ _ (cX hne) (ai _ (hH2 ▸ aK _ rfl)))
 have K0:Inv (cxC X (ts++fr) scope cl G.objs.size fp s2 H2) [] (m9 ts.length ix σ) H2 { s2 with heap:=h4,toks:=s2.toks+([]:List (Str × Value)).length } :=
  aap S I2 f2 hob hCle old hns4 rfl rfl
 have st4:tn 0 h4:=T.keep _ _ _ st2 λb _ o e=>old b o e;have accF:s2.heap.objs.size ∉ fp:=λz=>bH _ (hob _ z)
 generalize hY:cxC X (ts++fr) scope cl G.objs.size fp s2 H2=Y at K0
 have Yc:Y.calm=true:=by rw [<-hY];exact hc
 have Yp:Y.prog=X.prog:=by rw [<-hY];rfl
 have Yw:Y.w=X.w:=by rw [<-hY];rfl
 have YK:Y.K=X.K:=by rw [<-hY];rfl
 have YA:Y.A=X.A:=by rw [<-hY];rfl
 have Yn:Y.pn=[]:=by rw [<-hY];rfl
 have Ye:Y.env=compEnvC scope cl G.objs.size X.env:=by rw [<-hY];rfl
 have Yx:Y.xe=λ_ _=>False:=by rw [<-hY];rfl
 have YG0:PG Y t0 g0:=by rw [<-hY];exact hg0 _ _ _ _
 have YG1:PG Y t1 g1:=by rw [<-hY];exact hg1 _ _ _ _
 have YI1:PI Y t1 i1 wi1:=by rw [<-hY];exact hi1 _ _ _ _
 have YE:PE Y elt te:=by rw [<-hY];exact he _ _ _ _
 have stat:∀ {H':Hp},(∀ b∈fp,H' b=none)->∀ b∈fp,FpOk Y [] H' b:=λhn b hb=>by
  rw [<-hY];exact ⟨hn b hb,λz=>by have h1:=hob b hb;have z':b=G.objs.size:=z;exact aR (aH h1 hCle) z',λz=>(a5d S I2 f2 hob hCle).exfs b hb z, .inl hb,λx c e=>(f2 b hb).2.2.2.2.1 x c (S.sub x c e),λp hp=>absurd (show p∈([]:List (Addr × Obj)) from hp) (by simp)⟩
 have statA:∀ {H':Hp},H' s2.heap.objs.size=none->FpOk Y [] H' s2.heap.objs.size:=λhn=>by
  rw [<-hY];exact ⟨hn,λz=>hne (show G.objs.size=s2.heap.objs.size from z.symm),λz=>by
   obtain ⟨_,o,ho,_⟩:=(a5d S I2 f2 hob hCle).funs.mem z;exact bH _ (aE ho), .inr (ar _),λx c e z=>by
   obtain ⟨v,o,ho,_⟩:=I2.cell x c (S.sub x c e);rw [z] at ho;exact bH _ (aE ho),λp hp=>absurd (show p∈([]:List (Addr × Obj)) from hp) (by simp)⟩
 generalize hacca:s2.heap.objs.size=ac at hacc accF statA hne hCle
 rw [<-Yw] at hacc;have loop:∀ s4:Shared,s4={ s2 with heap:=h4,toks:=s2.toks+([]:List (Str × Value)).length }->
   codeAny (model X.prog X.w) X.A (.compLoop (.SetComp elt [⟨t0,i0,[],0⟩,⟨t1,i1,[],0⟩] scope pos) 0 (.ref it) (.ref ac) (compEnvC scope cl G.objs.size X.env))
    (compPost (model X.prog X.w) X.A X.xe none (EP X pins σ Q) (.ref ac) G.objs.size) s4:=by
  rintro s4 rfl
  refine ab7 (λn s'=>∃ i σ' H' ks,Inv Y [] σ' H' s'/\Ext (m9 ts.length ix σ) σ'/\tn i s'.heap/\(∀ b∈fp,H' b=none)/\H' ac=none /\
   SetI (!byT Y.w) ac ks s'.heap/\W i n ks H') ?_ m0
   ⟨0,_,H2,[],K0,⟨rfl,λ_ _ z=>z⟩,st4,λb hb=>(f2 b hb).1,I2.hok.fresh (by omega),hacc,w0⟩
  rintro n s5 ⟨i,σ5,H5,ks,I5,x5,st5,fr5,fa5,ac5,w5⟩
  have I5':Inv Y [] (m9 ts.length ix σ) H5 s5:=I5.weak x5.1.symm x5.2;have hao:∃ o,s5.heap.get? ac=some o/\∀ v,o.data≠.cell v:=by
   obtain ⟨o,es,ep,t,ho,_,hd,_⟩:=ac5;exact ⟨o,ho,λv z=>by rw [hd] at z;cases z⟩
  have I5p:Inv Y (vq [ac] s5.heap) (m9 ts.length ix σ) H5 s5:=Inv.pinned (pins:=[]) (fp:=[ac]) I5' (λb hb=>by rw [av.mp hb];exact statA fa5) (λb hb=>by rw [av.mp hb];exact hao)
  have F5:∀ b∈fp,FpOk Y (vq [ac] s5.heap) H5 b:=λb hb=>(stat fr5 b hb).on Yn (fr5 b hb) (λz=>accF (by rw [av.mp z] at hb;exact hb))
  obtain ⟨ao,hao1,hao2⟩:=hao;have pa:(ac,ao)∈vq [ac] s5.heap:=ju (by simp) hao1
  rcases turn i n ks H5 w5 with ⟨stop,qn⟩ | ⟨go,step⟩
  ·rw [<-YA];refine thn (T.done Y Yp Yw YK Yc i _ s5 _ H5 _ I5p F5 st5 stop) λr s6 ⟨hr,I6⟩=>?_;subst hr;have e6:=(I6.pin (ac,ao) (aM _ pa)).1;have S6:SetI (!byT Y.w) ac ks s6.heap:=ac5.keep λo ho=>by rw [hao1] at ho;cases ho;exact e6
   have I6':Inv (cxC X (ts++fr) scope cl G.objs.size fp s2 H2) [] (m9 ts.length ix σ) H5 s6:=by rw [hY];exact I6.unpinned'
   obtain ⟨m6,hn6,_⟩:=I6'.loc;rw [YA];refine a7j (X:=X) ac G.objs.size s6 (upd H5 ac (acu X.w ac ks)) m6 hn6 (I2.fpOk (by omega) (by rw [jo hne];exact I6'.free)) (λh' sb=>?_) (qn _ fa5)
   exact aek I2 f2 (by omega) (by omega) I6' fa5 (ab5 ((by rw [<-Yw];exact S6:SetI (!byT X.w) ac ks s6.heap).keep λo ho=>sb.extBut _ _ (cX hne) ho)) sb
  ·rw [<-YA];refine thn (T.item Y Yp Yw YK Yc i _ s5 _ H5 _ I5p F5 st5 go) λr s6 ⟨u,hr,h6⟩=>?_;subst hr;refine thn h6 λ_ s7 ⟨x,H7,I7,r7,y7,st7,fr7⟩=>?_;have fa7:H7 ac=none:=(I7.pin (ac,ao) (aM _ pa)).2.1;have ac7:=(I7.pin (ac,ao) (aM _ pa)).1;have S7:SetI (!byT Y.w) ac ks s7.heap:=ac5.keep λo ho=>by rw [hao1] at ho;cases ho;exact ac7
   have obj7:∀ b∈ac::fp,∃ o,s7.heap.get? b=some o/\∀ v,o.data≠.cell v:=λb hb=>by
    rcases aD.mp hb with e | e
    ·subst e;exact ⟨_,ac7,hao2⟩
    ·exact T.obj _ _ st7 b e
   have I7':Inv Y (vq (ac::fp) s7.heap) (m9 ts.length ix σ) H7 s7:=by
    refine Inv.pinned (pins:=[]) (fp:=ac::fp) I7.unpinned' (λb hb=>?_) obj7
    rcases aD.mp hb with e | e
    ·subst e;exact statA fa7
    ·exact stat fr7 b e
   rw [<-Ye,<-Yp,<-Yw];refine ba (YG0 _ s7 _ H7 x u _ I7' r7 (step x H7 y7)) (λ_ s8 ⟨σ8,H8,I8,x8,q8⟩=>?_) (λ_ _ z=>by rw [Yx] at z;exact z)
   refine ba (YI1 _ s8 _ H8 _ I8 q8) (λv8 z4 h8=>dH (hs1 _ v8) (ba h8 (λitv z6 h9=>?_) (λ_ _ z=>by rw [Yx] at z;exact z))) (λ_ _ z=>by rw [Yx] at z;exact z)
   obtain ⟨it1,fp1,tn1,J1,H9,e1,I9,T1,st9,f9,V,⟨n0,v0⟩,turn1⟩:=h9;subst e1;have pin9:∀ b∈ac::fp,∀ o,s7.heap.get? b=some o->z6.heap.get? b=some o/\H9 b=none:=λb hb o e=>by
    obtain ⟨z1,z2,_⟩:=I9.pin (b,o) (aM _ (ju hb e));exact ⟨z1,z2⟩
   have apart:∀ b∈fp1,b ∉ ac::fp:=λb hb z=>by
    obtain ⟨o,e,_⟩:=obj7 b z;exact (f9 b hb).2.2.2.2.2 (b,o) (aM _ (ju z e)) rfl
   have stat1:∀ {H':Hp},(∀ b∈fp1,H' b=none)->∀ b∈fp1,FpOk Y [] H' b:=λhn b hb=>by
    obtain ⟨_,k1,k2,k3,k4,_⟩:=f9 b hb;refine ⟨hn b hb,k1,k2,k3,k4,λp hp=>?_⟩;rw [Yn] at hp;exact absurd (show p∈([]:List (Addr × Obj)) from hp) (by simp)
   have S9:SetI (!byT Y.w) ac ks z6.heap:=S7.keep λo ho=>(pin9 ac (by simp) o ho).1
   have inner:codeAny (model Y.prog Y.w) Y.A (.compLoop (.SetComp elt [⟨t0,i0,[],0⟩,⟨t1,i1,[],0⟩] scope pos) 1 (.ref it1) (.ref ac) Y.env)
     (λr z7=>∃ f,r = .ok f/\∃ m',m'<n/\∃ i σ' H' ks,Inv Y [] σ' H' z7/\Ext (m9 ts.length ix σ) σ'/\tn i z7.heap/\(∀ b∈fp,H' b=none)/\H' ac=none/\SetI (!byT Y.w) ac ks z7.heap/\W i m' ks H') z6:=by
    refine aej (λn s'=>∃ j σ' H' ks,Inv Y [] σ' H' s'/\Ext σ8 σ'/\tn1 j s'.heap/\(∀ b∈fp1,H' b=none)/\(∀ b∈fp,∀ o,s7.heap.get? b=some o->s'.heap.get? b=some o/\H' b=none)/\H' ac=none/\SetI (!byT Y.w) ac ks s'.heap/\V j n ks H') ?_ n0
     ⟨0,_,H9,ks,I9.unpinned',⟨rfl,λ_ _ z=>z⟩,st9,λb hb=>(f9 b hb).1,λb hb=>pin9 b (aC _ hb),(pin9 ac (by simp) _ ac7).2,S9,v0⟩
    rintro k a5 ⟨j,τ5,G5,ks5,Q5,y5,t5,e5,o5,c5,d5,v5⟩
    have Q5':Inv Y [] σ8 G5 a5:=Q5.weak y5.1.symm y5.2;have fp5:∀ b∈fp,G5 b=none:=λb hb=>by
     obtain ⟨o,e,_⟩:=T.obj _ _ st7 b hb;exact (o5 b hb o e).2
    have dob:∃ o,a5.heap.get? ac=some o/\∀ v,o.data≠.cell v:=by
     obtain ⟨o,es,ep,t,ho,_,hd,_⟩:=d5;exact ⟨o,ho,λv z=>by rw [hd] at z;cases z⟩
    have objs:∀ b∈ac::fp,∃ o,a5.heap.get? b=some o/\∀ v,o.data≠.cell v:=λb hb=>by
     rcases aD.mp hb with e | e
     ·subst e;exact dob
     ·obtain ⟨o,e',d⟩:=T.obj _ _ st7 b e;exact ⟨o,(o5 b e o e').1,d⟩
    have Q5p:Inv Y (vq (ac::fp) a5.heap) σ8 G5 a5:=by
     refine Inv.pinned (pins:=[]) (fp:=ac::fp) Q5' (λb hb=>?_) objs
     rcases aD.mp hb with e | e
     ·subst e;exact statA c5
     ·exact stat fp5 b e
    have FF:∀ b∈fp1,FpOk Y (vq (ac::fp) a5.heap) G5 b:=λb hb=>(f9 b hb).on Yn (e5 b hb) (apart b hb);obtain ⟨bo,hbo1,hbo2⟩:=dob;have keep6:∀ {G6:Hp} {τ:St} {a6:Shared} {P:List (Addr × Obj)},Inv Y (vq (ac::fp) a5.heap++P) τ G6 a6->(∀ b∈fp,∀ o,s7.heap.get? b=some o->a6.heap.get? b=some o/\G6 b=none)/\G6 ac=none/\SetI (!byT Y.w) ac ks5 a6.heap:=λ{G6 τ a6 P} I6=>by
     refine ⟨λb hb o e=>?_,?_,?_⟩
     ·obtain ⟨z1,z2,_⟩:=I6.pin (b,o) (aM _ (cr _ (ju (aC _ hb) (o5 b hb o e).1)));exact ⟨z1,z2⟩
     ·exact (I6.pin (ac,bo) (aM _ (cr _ (ju (by simp) hbo1)))).2.1
     ·exact d5.keep λo ho=>by
       rw [hbo1] at ho;cases ho
       exact (I6.pin (ac,bo) (aM _ (cr _ (ju (by simp) hbo1)))).1
    rcases turn1 j k ks5 G5 v5 with ⟨stop1,m',hm',w6⟩ | ⟨go1,step1⟩
    ·refine thn (T1.done Y rfl rfl rfl Yc j _ a5 _ G5 _ Q5p FF t5 stop1) λr a6 ⟨hr,Q6⟩=>?_;subst hr;obtain ⟨kk1,kk2,kk3⟩:=keep6 (P:=[]) (by rw [bR];exact Q6)
     refine ⟨_,rfl,m',hm',i+1,σ8,G5,ks5,Q6.unpinned',x8,?_,fp5,c5,kk3,w6⟩;exact T.keep _ _ _ st7 λb hb o e=>(kk1 b hb o e).1
    ·refine thn (T1.item Y rfl rfl rfl Yc j _ a5 _ G5 _ Q5p FF t5 go1) λr a6 ⟨u1,hr,h6'⟩=>?_;subst hr;refine thn h6' λ_ a7 ⟨y,G7,Q7,ry,yy,t7,e7⟩=>?_;obtain ⟨p1,p2,p3⟩:=keep6 (P:=[]) (by rw [bR];exact Q7)
     have Q7p:Inv Y (vq (ac::fp) a5.heap++vq fp1 a7.heap) σ8 G7 a7:=by
      refine Inv.pinned (fp:=fp1) Q7 (λb hb=>(f9 b hb).on Yn (e7 b hb) (apart b hb)) (T1.obj _ _ t7)
     refine ba (YG1 _ a7 _ G7 y u1 _ Q7p ry (step1 y G7 yy)) (λ_ a8 ⟨τ8,G8,Q8,z8,q8'⟩=>?_) (λ_ _ z=>by rw [Yx] at z;exact z)
     refine ba (YE _ a8 _ G8 _ Q8 q8') (λyv a9 ⟨z,G9,Q9,rz,kz,ez,few,n',hn',v9⟩=>?_) (λ_ _ z=>by rw [Yx] at z;exact z)
     subst ez;obtain ⟨tk,rfl⟩:=rz;obtain ⟨r1,r2,r3⟩:=keep6 Q9;refine akm r3 few λh' sb x'=>?_;have qo:∀ b o,b≠ac->a9.heap.get? b=some o->h'.get? b=some o:=λb o hb e=>sb.extBut b o hb e;obtain ⟨a0,a1,a2,a3,a4,a5'⟩:=statA (show G9 ac=none from r2)
     have nac:∀ b∈fp,b≠ac:=λb hb z=>accF (z ▸ hb);have nac1:∀ b∈fp1,b≠ac:=λb hb z=>apart b hb (by rw [z];simp)
     refine ⟨n',hn',j+1,τ8,G9,_,(Q9.unpinned').turned (t':=a9.toks+1) qo a0 a1 a3 a4 a5',z8,?_,?_,?_,r2,x',v9⟩
     ·exact T1.keep _ _ _ t7 λb hb o e=>qo b o (nac1 b hb) (Q9.pin (b,o) (aM _ (aM _ (ju hb e)))).1
     ·intro b hb
      obtain ⟨o,e,_⟩:=T1.obj _ _ t7 b hb;exact (Q9.pin (b,o) (aM _ (aM _ (ju hb e)))).2.1
     ·intro b hb o e
      obtain ⟨z1,z2⟩:=r1 b hb o e;exact ⟨qo b o (nac b hb) z1,z2⟩
   exact ab6 inner (T1.self _ 0 _ _ _ st9 inner)
 exact a9y (loop _ rfl) (T.self _ 0 _ _ _ st4 (loop _ rfl))
end
end L2
namespace MI
open PySem PySem.Spec L2 SETB
open Classical in
noncomputable def setIn(ck:Hd->Prop)(fe:SE)(x:D)(rd:Sd):List D->List Int->Hd->R (List Int)
 | [],ks,h=>if ck h then .ok ks h else .no
 | y::ys,ks,h=>if ck h then (fe (some x::some y::rd) h).bind λd h1=>(match d with
   | .int k=>if ks.length<63 then setIn ck fe x rd ys (stepK ks k) h1 else .no
   | _=>.no) else .no
open Classical in
noncomputable def a1t(ck:Hd->Prop)(fj:SI)(fe:SE)(rd:Sd):List D->List Int->Hd->R (List Int)
 | [],ks,h=>if ck h then .ok ks h else .no
 | x::xs,ks,h=>if ck h then (fj (some x::none::rd) h).bind λjt h1=>(setIn jt.ck fe x rd jt.xs ks h1).bind λks1 h2=>a1t ck fj fe rd xs ks1 h2 else .no
def ael(ks:List Int)(h:Hd):R D:=if ks.length<64 then .ok (.ref h.length) (h++[.lst ((PySem.W.sortI ks).map D.int)]) else .no
noncomputable def ah7(fi fj:SI)(fe:SE)(ix:List Nat):SE:=λτ h=>(fi τ h).bind λit h1=>(a1t it.ck fj fe (frs' ix τ) it.xs [] h1).bind ael
theorem yt:∀ {K:PySem.W.Frag} {ι:List Addr} {H:Hp} (ns:List Int),Reps K ι H (ns.map V.int) (ns.map D.int)
 | _,_,_,[]=>.nil
 | _,_,_,n::ns=>.cons (.int n) (yt ns)
def ay3(w:World):List V->Hp->VK->Prop:=λxs H Q=>∃ (p:Addr) (ks:List Int),xs=[.ref p]/\H p=some (acu w p ks)/\ks.length<64/\∀ l,H l=none->Q (.ref l) (upd H l (.lst ((PySem.W.sortI ks).map V.int)))
theorem asn{K:PySem.W.Frag}{E:XD}{w:World}{J:It}{jt:Itm}{fe:SE}{x:D}{vx:V}{r:St}{rd:Sd}{k1:List Int->Hd->R D}{ι0:List Addr}{H0:Hp}{h0:Hd}{Q:VK}{M:List Int->Hp->Prop}{ks0:List Int}
  (ir:am8 K ι0 H0 J jt) (rx:Rep K ι0 H0 vx x) (S:SRep K ι0 H0 r rd) (Rh:HRep K ι0 H0 h0) (o:out K E (yh K) ι0 H0 ((setIn jt.ck fe x rd jt.xs ks0 h0).bind k1) Q)
  (fin:∀ ks ι H h,Gr ι0 H0 ι H->HRep K ι H h->out K E (yh K) ι H (k1 ks h) Q->M ks H) :
  ∃ V:Nat->Nat->List Int->Hp->Prop,(∃ n,V 0 n ks0 H0)/\∀ j n ks H,V j n ks H->
   (J.stop j H/\M ks H) \/
   (J.go j H/\∀ y H',J.yld j H y H'->a3g 1 y (some vx::none::r) H' λσ3 H4=>L2.Ext (some vx::none::r) σ3/\lift K E (yh K) fe σ3 H4 λz H5=>∃ k,z = .int k/\ks.length+1<scanBound/\∃ n',n'<n/\V (j+1) n' (stepK ks k) H5):=by
 refine ⟨λj n ks H=>n=jt.xs.length - j/\j<=jt.xs.length/\∃ ι h,Gr ι0 H0 ι H/\HRep K ι H h/\out K E (yh K) ι H ((setIn jt.ck fe x rd (jt.xs.drop j) ks h).bind k1) Q,⟨_,rfl,bE _,ι0,h0, .refl _ _,Rh,o⟩,?_⟩
 rintro j n ks H ⟨rfl,hj,ι,h,g0,Rh,o⟩
 by_cases hlt:j<jt.xs.length
 ·rw [cG hlt,setIn] at o
  by_cases hc:jt.ck h
  ·rw [aA hc,R.bind_assoc] at o;obtain ⟨go,yl⟩:=(ir ι H h g0 Rh hc).1 j _ (ad hlt);refine .inr ⟨go,λy H' yy=>?_⟩;obtain ⟨g1,r1,hr1⟩:=yl y H' yy;have o':=vg o g1;refine ⟨⟨rfl,λi v e=>?_⟩,ι,some x::some jt.xs[j]::rd,h,ym (rx.mono (g0.trans g1)) (ym r1 (S.mono (g0.trans g1))),hr1,ik o' λd h1 ι1 H1 u g2 r2 hr2 o2=>?_⟩
   ·match i,e with
    | 0,e=>exact e
    | 1,e=>simp at e
    | i+2,e=>simpa using e
   ·cases d with
    | int k =>
     cases r2
     by_cases h6:ks.length<63
     ·simp only [aA h6] at o2;exact ⟨k,rfl,by have:scanBound=4096:=rfl;omega,jt.xs.length - (j+1),by omega,rfl,hlt,ι1,h1,(g0.trans g1).trans g2,hr2,o2⟩
     ·simp only [aL h6] at o2;exact o2.elim
    | _=>exact o2.elim
  ·rw [aL hc] at o;exact o.elim
 ·have e:j=jt.xs.length:=by omega
  subst e;rw [bO (ar _),setIn] at o
  by_cases hc:jt.ck h
  ·rw [aA hc] at o;exact .inl ⟨(ir ι H h g0 Rh hc).2,fin ks ι H h g0 Rh o⟩
  ·rw [aL hc] at o;exact o.elim
theorem ap1
  (ir:am8 K ι0 H0 J it) (S:SRep K ι0 H0 r rd) (Rh:HRep K ι0 H0 h0) (o:out K E (yh K) ι0 H0 ((a1t it.ck fj fe rd it.xs [] h0).bind ael) Q) :
  awv w (lift K E (arb K) fj) (List.replicate 2 none++r) (a3g 0) (a3g 1) (lift K E (yh K) fe) (λv H=>ay3 w [v] H Q) J H0:=by
 refine ⟨λi m ks H=>m=it.xs.length - i/\i<=it.xs.length/\∃ ι h,Gr ι0 H0 ι H/\HRep K ι H h/\out K E (yh K) ι H ((a1t it.ck fj fe rd (it.xs.drop i) ks h).bind ael) Q,⟨_,rfl,bE _,ι0,h0, .refl _ _,Rh,o⟩,?_⟩
 rintro i m ks H ⟨rfl,hi,ι,h,g0,Rh,o⟩
 by_cases hlt:i<it.xs.length
 ·rw [cG hlt,a1t] at o
  by_cases hc:it.ck h
  ·rw [aA hc,R.bind_assoc] at o;obtain ⟨go,yl⟩:=(ir ι H h g0 Rh hc).1 i _ (ad hlt);refine .inr ⟨go,λx H' y=>?_⟩;obtain ⟨g1,r1,hr1⟩:=yl x H' y;have o':=vg o g1;refine ⟨⟨rfl,λk v e=>?_⟩,ι,some it.xs[i]::none::rd,h,ym r1 ?_,hr1,ik o' λjt h1 ι1 H1 J1 g2 r2 hr2 o2=>?_⟩
   ·match k,e with
    | 0,e=>simp at e
    | 1,e=>simp at e
    | k+2,e=>simpa using e
   ·have S':=S.mono (g0.trans g1);refine ⟨by simp [S'.len],λk d e=>?_⟩
    cases k with
    | zero=>simp at e
    | succ k=>simpa using S'.val k d (by simpa using e)
   ·rw [R.bind_assoc] at o2;refine asn (w:=w) (k1:=λks1 h2=>(a1t it.ck fj fe rd (it.xs.drop (i+1)) ks1 h2).bind ael) r2 (r1.mono g2) (S.mono ((g0.trans g1).trans g2)) hr2 o2 λks' ι3 H3 h3 g3 hr3 o3=>?_;exact ⟨it.xs.length - (i+1),by omega,rfl,hlt,ι3,h3,((g0.trans g1).trans g2).trans g3,hr3,o3⟩
  ·rw [aL hc] at o;exact o.elim
 ·have e:i=it.xs.length:=by omega
  subst e;rw [bO (ar _),a1t] at o
  by_cases hc:it.ck h
  ·rw [aA hc] at o;refine .inl ⟨(ir ι H h g0 Rh hc).2,λp hp=>?_⟩;have o1:out K E (yh K) ι H (ael ks h) Q:=o;unfold ael at o1
   by_cases h6:ks.length<64
   ·rw [aA h6] at o1;exact ⟨p,ks,rfl,mz,h6,uf (E:=E) (yt _) (Rh.aside hp _) (vg o1 (yg hp _))⟩
   ·rw [aL h6] at o1;exact o1.elim
  ·rw [aL hc] at o;exact o.elim
theorem ah8{X:Cx}{E:XD}{elt t0 i0 t1 i1:Expr}{scope:Scope}{p pos spos:Pos}{cl:List (Str × Addr)}{a b:Str}{fr:List Str}{ix:List Nat}{fi fj:SI}{fe:SE}(hg:Gl X "sorted")(hm:X.mg "sorted" = none)(hc:X.calm=true)(S:CSc X scope cl [a,b] fr ix)(hi:MI X E t0 i0 fi)
  (hg0:∀ C fp s H,PG (cxC X ([a,b]++fr) scope cl C fp s H) t0 (a3g 0)) (hj:∀ C fp s H,MI (cxC X ([a,b]++fr) scope cl C fp s H) E t1 i1 fj) (hg1:∀ C fp s H,PG (cxC X ([a,b]++fr) scope cl C fp s H) t1 (a3g 1)) (he:∀ C fp s H,ME (cxC X ([a,b]++fr) scope cl C fp s H) E elt fe)
  (hs0:∀ x,foldedSetIterable i0 X.env x=pure x:=by intro _;rfl) (hs1:∀ env x,foldedSetIterable i1 env x=pure x:=by intro _ _;rfl) :
  ME X E (.Call (.Name "sorted" p) [.SetComp elt [⟨t0,i0,[],0⟩,⟨t1,i1,[],0⟩] scope spos] [] pos) (ah7 fi fj fe ix):=by
 refine PE.weak (a4m (yr hc) hg hm rfl (a05 (ap0 (te:=lift X.K E (yh X.K) fe) (wi1:=lift X.K E (arb X.K) fj) hc S hi hg0 hj hg1 he hs0 hs1) a2i)) λσ H Q ⟨ι,τ,h,Sr,Rh,o⟩=>?_;refine ⟨ι,τ,h,Sr,Rh,ik o λit h1 ι1 H1 J g1 r1 hr1 o1=>?_⟩;exact ap1 r1 (a2o (Sr.mono g1) ix) hr1 o1
end MI
set_option maxHeartbeats 1000000
namespace SETB
open PySem PySem.Spec PyProof.Rows SETA PySem.Builtin
section
variable{prog:Program}{w:World}{E:Value->Shared->Prop}{A:Around}{s:Shared}{a:Addr}{o:Obj}{es:Array (Int × Value)}{ep:Nat}{t:SetTable}
theorem acv(ho:s.heap.get? a=some o)(hd:o.data = .set es ep t)(hf:t.fits es.size=true)(pl:t.plain=true)(ld:t.led = !byT w)(q:Q (a75 w a ep es) s):wpAny (model prog w) A (setWalk a) Q E s:=by
 unfold a75 at q
 cases bt:byT w with
 | true =>
  rw [bt] at q;exact a5w ho hd hf bt q
 | false =>
  rw [bt] at q ld;unfold setWalk
  apply ae
  apply bi ho hd hf
  apply ae
  apply a3t
  simp only [bt,bY,dW];refine dH ?_ q;refine ag (aL (c:=(!t.plain && decide (es.size > 1))=true) (by rw [pl];simp)) ?_
  refine ag (af (λz:Sem Unit=>z>>=λ_=>pure es) (aL (c:=(!t.led && decide (es.size > 1))=true) (by rw [ld];simp))) ?_
  rfl
theorem ab8{Q:Array (Int × Value)->Shared->Prop}{os:List Addr}{f:Option Addr}(ho:s.heap.get? a=some o)(hd:o.data = .set es ep t)(hf:t.fits es.size=true)(pl:t.plain=true)(ld:t.led = !byT w)(q:Q (a75 w a ep es) s):wpAny (model prog w) A (setWalkUnseen a os f) Q E s:=by
 unfold setWalkUnseen;refine ae (bi ho hd hf (ae (a3t ?_)));dsimp only;have c:(byT w || t.led && t.plain || decide (es.size<=1))=true:=by rw [pl,ld];cases byT w<;>rfl
 rw [aA c]
 first | exact acv ho hd hf pl ld q | exact ae (acv ho hd hf pl ld (aw q))
def SetX(b:Bool)(a:Addr)(ks:List Int)(more:Nat)(h:Heap):Prop :=
 ∃ o es ep t,h.get? a=some o/\o.ExactSet/\o.data = .set es ep t/\AllI es.toList/\(es.toList.map kOf).Perm ks/\es.size<scanBound/\t.fits es.size=true/\Gr t/\t.led=b/\(t.fill+more)*5<t.mask*3
theorem akp(h:n<=16384):SetTable.sizeAbove n<=sizeLine:=by
 have:∀ (fuel size:Nat),size<=32768->SetTable.sizeAbove.go n fuel size<=32768:=λfuel=>by
  induction fuel with
  | zero=>intro size hs;exact hs
  | succ f ih =>
   intro size hs
   unfold SetTable.sizeAbove.go
   split
   ·exact ih _ (by omega)
   ·exact hs
 have h1:=this 64 8 (by decide)
 have h2:SetTable.sizeAbove n=SetTable.sizeAbove.go n 64 8:=rfl;rw [dE,h2];omega
theorem akq(hS:SetI b a ks s.heap)(hn:(ks.length+more)*2<=n)(pos:0<ks.length+more)(n1:n<=16384)
  (q:∀ h',Heap.SameBut a s.heap h'->SetX b a ks more h'->Q () { s with heap:=h' }):wpAny (model prog w) A (setRelay a n) Q E s:=by
 obtain ⟨o,es,ep,t,ho,hex,hd,al,pm,sz,ft,gd,ld⟩:=hS;have lk:es.size=ks.length:=by have:=pm.length_eq;rwa [am,aJ] at this
 obtain ⟨b',h3,eb,lb⟩:=SETH.above (n:=n) (by omega)
 have p8:2 ^ 3<=2 ^ b':=fk (by decide) h3
 have hk:SetTable.sizeAbove n - 1+1=2 ^ b':=by omega
 obtain ⟨t',od,e,hm,hdm,hp,hs,hl,hod⟩:=SETH.a5t (f:=t.finger) (m:=t.movedTo (SetTable.sizeAbove n - 1)) (l:=t.led) (p:=t.plain) hk (es.map (·.1)) (by rw [dU];omega)
 rw [dU] at hs hod;have ld':t'.led=t.led:=by
  have:=af (Option.map λz=>z.1.led) e
  unfold SetTable.laid at this
  cases hc:SetTable.layClean (SetTable.sizeAbove n - 1) (es.map (·.1)) with
  | none=>rw [hc] at this;cases this
  | some ow=>rw [hc] at this;exact (bv this).symm
 have gd':=(a87 e).1;have szo:(od.filterMap (es[·]?)).size=es.size:=by
  rw [<-aJ,cR,SETH.acr _ λx hx=>bb.mp (hod.mem_iff.mp hx),hod.length_eq,aG]
 have po:(od.filterMap (es[·]?)).toList.Perm es.toList:=by
  rw [cR];refine (hod.filterMap _).trans ?_;have:(List.range es.size).filterMap (es[·]?)=es.toList:=by
   have e2:∀ l:List (Int × Value),(List.range l.length).filterMap (l[·]?)=l:=λl=>by
    induction l with
    | nil=>rfl
    | cons x l ih =>
     rw [aS,cQ,cb];show x::List.filterMap _ (List.map Nat.succ (List.range l.length))=_;rw [eB];exact af (x::·) ih
   have:=e2 es.toList
   rw [aJ] at this;simpa using this
  rw [this]
 have fl:=SETH.a0u gd';have ft':t'.fits (od.filterMap (es[·]?)).size=true:=by
  unfold SetTable.fits;rw [fl,szo,hs];have:es.size<=t'.mask:=by omega
  simp [this]
 unfold setRelay;refine ae (bi ho hd ft ?_);dsimp only;rw [aL (Nat.not_lt.mpr (akp n1))];have rl:t.relaid (es.map (·.1)) n=some (t',od):=e;have sx:(od.filterMap (es[·]?)).size<scanBound:=by omega
 refine ae (dH (a:=(od.filterMap (es[·]?),t')) ?_ ?_)
 ·rw [rl];exact aL (c:=(od.filterMap (es[·]?)).size != es.size) (by rw [szo];simp)
 ·refine dO ho hd (q _ (bM s.heap a _) ?_) (dP sx);have gg:Gr t':=⟨⟨gd',⟨b',by rw [hm];exact hk⟩,by rw [hm];omega,λi hi=>by rw [hm];exact hl i hi,hp.trans gd.1.plain⟩,by omega⟩
  obtain ⟨o1,es1,ep1,t1,q1,q2,q3,q4,q5,q6,q7,q8,q9⟩:=stored prog w ho hex hd (λe he=>al e (po.mem_iff.mp he)) ((po.map kOf).trans pm) sx ft' gg (ld'.trans ld);obtain ⟨o2,ep2,w1,w2,w3⟩:=held prog w ho hex hd (λe he=>al e (po.mem_iff.mp he)) sx ft';rw [q1] at w1;cases w1
  rw [q3] at w3;cases w3
  exact ⟨o1,_,_,_,q1,q2,q3,q4,q5,q6,q7,q8,q9,by omega⟩
theorem ap2(hS:SetI b a ks s.heap)(pos:0<more)(few:ks.length+more<8000)
  (q:∀ h',Heap.SameBut a s.heap h'->SetX b a ks more h'->Q () { s with heap:=h' }):wpAny (model prog w) A (setRoomFor a more) Q E s:=by
 have hS':=hS;obtain ⟨o,es,ep,t,ho,hex,hd,al,pm,sz,ft,gd,ld⟩:=hS';have lk:es.size=ks.length:=by have:=pm.length_eq;rwa [am,aJ] at this
 unfold setRoomFor;refine ae (bi ho hd ft ?_);dsimp only;unfold SetTable.roomFor;have ps:=size_of ft
 by_cases h:(t.fill+more)*5≥t.mask*3
 ·rw [aA h];exact akq hS (by omega) (by omega) (by omega) q
 ·rw [aL h];exact aw (q _ (eK a s.heap) ⟨o,es,ep,t,ho,hex,hd,al,pm,sz,ft,gd,ld,by omega⟩)
end
end SETB
set_option maxHeartbeats 1000000
namespace SETB
open PySem PySem.Spec PyProof.Rows SETA PySem.Builtin
theorem ah9{ks:List Int}(p:ks.Perm ls)(x:Int):(L2.stepK ks x).Perm (L2.stepK ls x):=by
 unfold L2.stepK
 by_cases h:x∈ks
 ·rw [aA h,aA (p.mem_iff.mp h)];exact p
 ·rw [aL h,aL λz=>h (p.mem_iff.mpr z)];exact p.append_right _
theorem ap3{ks:List Int}(p:ks.Perm ls):∀ ms:List Int,(ms.foldl L2.stepK ks).Perm (ms.foldl L2.stepK ls):=λms=>by
 induction ms generalizing ks ls with
 | nil=>exact p
 | cons x ms ih=>exact ih (ah9 p x)
theorem acw{x y:Int}:y∈L2.stepK ks x↔y∈ks\/y=x:=by
 unfold L2.stepK
 split
 ·rename_i h;exact ⟨.inl,λz=>z.elim id λe=>e ▸ h⟩
 ·simp
theorem aha(ks:List Int)(x y:Int):(L2.stepK (L2.stepK ks x) y).Perm (L2.stepK (L2.stepK ks y) x):=by
 by_cases hx:x∈ks
 ·have e1:L2.stepK ks x=ks:=aA hx;have e2:L2.stepK (L2.stepK ks y) x=L2.stepK ks y:=aA (acw.mpr (.inl hx));rw [e1,e2]
 ·by_cases hy:y∈ks
  ·have e1:L2.stepK ks y=ks:=aA hy;have e2:L2.stepK (L2.stepK ks x) y=L2.stepK ks x:=aA (acw.mpr (.inl hy));rw [e1,e2]
  ·by_cases e:x=y
   ·subst e;exact .refl _
   ·have e1:L2.stepK ks x=ks++[x]:=aL hx;have e2:L2.stepK ks y=ks++[y]:=aL hy;have e3:L2.stepK (ks++[x]) y=ks++[x]++[y]:=aL (by simp [hy,cX e])
    have e4:L2.stepK (ks++[y]) x=ks++[y]++[x]:=aL (by simp [hx,e])
    rw [e1,e2,e3,e4,da,da];exact (List.Perm.swap y x []).append_left ks
theorem ahb{ms:List Int}(p:ms.Perm ls):∀ ks:List Int,(ms.foldl L2.stepK ks).Perm (ls.foldl L2.stepK ks):=by
 induction p with
 | nil=>exact λ_=>.refl _
 | cons x _ ih=>exact λks=>ih _
 | swap x y l=>exact λks=>ap3 (aha ks y x) l
 | trans _ _ a b=>exact λks=>(a ks).trans (b ks)
theorem ab9:∀ {ms ks:List Int},(ks++ms).Nodup->ms.foldl L2.stepK ks=ks++ms
 | [],ks,_=>by simp
 | m::ms,ks,h=>by
  have nm:m ∉ ks:=λz=>(bA.mp h).2.2 m z m (by simp) rfl
  rw [cP,show L2.stepK ks m=ks++[m] from aL nm,ab9 (by simpa using h)]
  simp
theorem SetI.perm(x:SetI b a ks h)(p:ks.Perm ls):SetI b a ls h:=by
 obtain ⟨o,es,ep,t,h1,h2,h3,h4,h5,h6⟩:=x;exact ⟨o,es,ep,t,h1,h2,h3,h4,h5.trans p,h6⟩
theorem SetX.i(x:SetX b a ks m h):SetI b a ks h:=by
 obtain ⟨o,es,ep,t,h1,h2,h3,h4,h5,h6,h7,h8,h9,_⟩:=x;exact ⟨o,es,ep,t,h1,h2,h3,h4,h5,h6,h7,h8,h9⟩
theorem akr(e:SetTable.laid mask f m l p hs=some (t',od)):t'.led=l:=by
 have:=af (Option.map λz=>z.1.led) e
 unfold SetTable.laid at this
 cases hc:SetTable.layClean mask hs with
 | none=>rw [hc] at this;cases this
 | some ow=>rw [hc] at this;exact (bv this).symm
theorem aem{es:Array (Int × Value)}{od:Array Nat}(hod:od.toList.Perm (List.range es.size)):(od.filterMap (es[·]?)).toList.Perm es.toList:=by
 rw [cR];refine (hod.filterMap _).trans ?_;have e2:∀ l:List (Int × Value),(List.range l.length).filterMap (l[·]?)=l:=λl=>by
  induction l with
  | nil=>rfl
  | cons x l ih =>
   rw [aS,cQ,cb];show x::List.filterMap _ (List.map Nat.succ (List.range l.length))=_;rw [eB];exact af (x::·) ih
 have:=e2 es.toList
 rw [aJ] at this;have:(List.range es.size).filterMap (es[·]?)=es.toList:=by simpa using this
 rw [this]
section
variable{prog:Program}{w:World}{E:Value->Shared->Prop}{A:Around}{s:Shared}{a c:Addr}
theorem acx(hb:b = !byT w)(hS:SetI b a ks s.heap)(hO:SetI b c ms s.heap)(ne:a≠c)(nd:ms.Nodup)(few:ks.length+ms.length+1<scanBound)
  (he:∀ (s':Shared) (Q':Unit->Shared->Prop),s'.heap.get? c=s.heap.get? c->Q' () s'->wpAny (model prog w) A each Q' E s')
  (q:∀ h',Heap.SameBut a s.heap h'->SetI b a (ms.foldl L2.stepK ks) h'->Q () { s with heap:=h' }):wpAny (model prog w) A (setMerge a c each) Q E s:=by
 have sb4:scanBound=4096:=rfl;have hO':=hO;obtain ⟨oc,ec,pc,tc,hoc,hexc,hdc,alc,pmc,szc,ftc,gdc,ldc⟩:=hO';have lc:ec.size=ms.length:=by have:=pmc.length_eq;rwa [am,aJ] at this
 unfold setMerge;rw [aL (by simpa using ne)]
 refine ae (bi hoc hdc ftc ?_);dsimp only
 by_cases em:ec.isEmpty=true
 ·rw [aA em];have:ms=[]:=by
   have:ec.size=0:=by simpa using em
   exact eG.mp (by omega)
  subst this;exact aw (q s.heap (eK a s.heap) hS)
 rw [aL em];have pos:0<ec.size:=by
  rcases Nat.eq_zero_or_pos ec.size with z | z
  ·exact absurd (by simpa using z) em
  ·exact z
 refine ae (ap2 hS pos (by omega) λh1 sb1 X1=>?_)
 have hoc1:h1.get? c=some oc:=sb1.extBut c oc (cX ne) hoc;have X1':=X1;obtain ⟨o1,e1,p1,t1,g1,g2,g3,g4,g5,g6,g7,g8,g9,g10⟩:=X1';have l1:e1.size=ks.length:=by have:=g5.length_eq;rwa [am,aJ] at this
 have fl1:=SETH.a0u g8.1.gd;have sz1:=size_of g7;have sz2:=size_of ftc;have flc:=SETH.a0u gdc.1.gd;refine ae (bi (s:={ s with heap:=h1 }) g1 g3 g7 ?_)
 dsimp only;unfold SetTable.road
 by_cases f0:t1.fill=0
 ·rw [aL (by simpa using f0)]
  have k0:ks=[]:=eG.mp (by omega)
  subst k0;have fm:ms.foldl L2.stepK []=ms:=ab9 (by simpa using nd)
  rw [fm] at q
  by_cases mm:(t1.mask == tc.mask && tc.dummies.isEmpty)=true
  ·rw [aA mm];dsimp only;have mk:t1.mask=tc.mask:=by have:=(bV _ _ ▸ mm).1;simpa using this
   refine dO (s:={ s with heap:=h1 }) g1 g3 (q _ (sb1.trans (bM _ a _)) (stored prog w g1 g2 g3 alc pmc szc ftc ⟨⟨⟨gdc.1.gd.ri,gdc.1.gd.dm⟩,gdc.1.pow,gdc.1.big,gdc.1.le,?_⟩,gdc.2⟩ ?_)) (dP szc)
   ·show (t1.plain && tc.plain)=true;rw [g8.1.plain,gdc.1.plain];rfl
   ·show (t1.led && tc.led)=b;rw [g9,ldc,hX]
  ·rw [aL mm];dsimp only;obtain ⟨k1,hk1⟩:=g8.1.pow;obtain ⟨t',od,e,hm,hdm,hp,hs,hl,hod⟩:=SETH.a5t (f:=t1.finger) (m:=t1.moves) (l:=t1.led && tc.led) (p:=t1.plain && tc.plain) hk1 (ec.map (·.1)) (by rw [dU];omega)
   rw [dU] at hs hod;have ld':=akr e;have gd':=(a87 e).1;have szo:(od.filterMap (ec[·]?)).size=ec.size:=by
    rw [<-aJ,cR,SETH.acr _ λx hx=>bb.mp (hod.mem_iff.mp hx),hod.length_eq,aG]
   have po:=aem (es:=ec) hod;have fl:=SETH.a0u gd';have ft':t'.fits (od.filterMap (ec[·]?)).size=true:=by
    unfold SetTable.fits;rw [fl,szo,hs];have:ec.size<=t'.mask:=by omega
    simp [this]
   have sx:(od.filterMap (ec[·]?)).size<scanBound:=by omega
   refine ae (dH (a:=(od.filterMap (ec[·]?),t')) ?_ ?_)
   ·rw [e];exact aL (c:=(od.filterMap (ec[·]?)).size != ec.size) (by rw [szo];simp)
   ·have gg:Gr t':=⟨⟨gd',⟨k1,by rw [hm];exact hk1⟩,by rw [hm];exact g8.1.big,λi hi=>by rw [hm];exact hl i hi,by rw [hp,g8.1.plain,gdc.1.plain];rfl⟩,by omega⟩
    exact dO (s:={ s with heap:=h1 }) g1 g3 (q _ (sb1.trans (bM _ a _)) (stored prog w g1 g2 g3 (λe he=>alc e (po.mem_iff.mp he)) ((po.map kOf).trans pmc) sx ft' gg (by rw [ld',g9,ldc,hX]))) (dP sx)
 ·rw [aA (by simpa using f0)]
  dsimp only;refine ae (ab8 (s:={ s with heap:=h1 }) hoc1 hdc ftc gdc.1.plain (ldc.trans hb) ?_)
  have al:AllI (a75 w c pc ec).toList:=λe he=>alc e ((a4p w c pc ec).mem_iff.mp he);have pw:((a75 w c pc ec).toList.map kOf).Perm ms:=((a4p w c pc ec).map kOf).trans pmc
  generalize a75 w c pc ec=os at al pw
  refine ae (wpAny_forIn_array' _ (λrest _ s'=>∃ (done:List (Int × Value)) (h':Heap),os.toList=done++rest/\s'={ s with heap:=h' }/\Heap.SameBut a s.heap h'/\SetI b a ((done.map kOf).foldl L2.stepK ks) h') _ ?_ ?_ os _ ⟨[],h1,rfl,rfl,sb1,X1.i⟩)
  ·rintro ⟨hh,x⟩ rest u s' ⟨done,h',eo,rfl,sb',S'⟩
   obtain ⟨k,tk,ek⟩:=al (hh,x) (by rw [eo];simp)
   cases ek
   have lm:=pw.length_eq;rw [eo,am,ap,aS] at lm;have ln:((done.map kOf).foldl L2.stepK ks).length<=ks.length+done.length:=by
    have:∀ (l:List Int) (ks:List Int),(l.foldl L2.stepK ks).length<=ks.length+l.length:=λl=>by
     induction l with
     | nil=>intro ks;simp
     | cons x l ih =>
      intro ks
      have h2:=ih (L2.stepK ks x);have h3:(L2.stepK ks x).length<=ks.length+1:=by
       unfold L2.stepK
       split
       ·omega
       ·simp
      rw [cP,aS];omega
    have:=this (done.map kOf) ks
    rwa [am] at this
   refine ae (bP (a3s (s:={ s with heap:=h' }) S' (by omega) λh2 r sb2 S2=>?_))
   have sbt:=sb'.trans sb2;have gc2:h2.get? c=some oc:=sbt.extBut c oc (cX ne) hoc;refine ae (he { s with heap:=h2 } _ (by rw [gc2,hoc]) ?_)
   refine ae (bi (s:={ s with heap:=h2 }) gc2 hdc ftc ?_)
   dsimp only;rw [aL (by simp)]
   refine aw ⟨done++[(hashInt k, .int k tk)],h2,by rw [eo];simp,rfl,sbt,?_⟩
   rw [bg,List.foldl_append];exact S2
  ·rintro u s' ⟨done,h',eo,rfl,sb',S'⟩
   rw [bR] at eo;rw [<-eo] at S';exact aw (q h' sb' (S'.perm (ahb pw ks)))
end
end SETB
set_option maxHeartbeats 1000000
namespace SETB
open PySem PySem.Spec PyProof.Rows SETA PySem.Builtin
theorem aks:entryFor table "set.__or__" = some Builtin.«frozenset.__or__» :=
 entryFor_alias (id' := "frozenset.__or__") (by kernel_rfl) rfl (by decide +kernel) (by kernel_rfl)
section
variable{prog:Program}{w:World}{E:Value->Shared->Prop}{A:Around}{s:Shared}{a c:Addr}
theorem aba(hS:SetI b a ks s.heap)(q:Q true s):wpAny (model prog w) A (Frozenset.isAnySet (.ref a)) Q E s:=by
 unfold Frozenset.isAnySet;refine ae (gS hS.typeIs sub_set_self ?_);exact aw q
theorem akt(hb:b = !byT w)(hS:SetI b a ks s.heap)(nd:ks.Nodup)(few:ks.length+1<scanBound)
  (q:∀ h',(∀ c o,s.heap.get? c=some o->h'.get? c=some o)->SetI b s.heap.objs.size ks h'->Q (.ref s.heap.objs.size) { s with heap:=h' }):wpAny (model prog w) A (Frozenset.copyOf a) Q E s:=by
 subst hb;unfold Frozenset.copyOf Frozenset.baseOf;refine ae (ae (gS hS.typeIs sub_set_self (aw ?_)));rw [aA rfl];refine ae (a8a ?_);refine ae (aw ?_);have at0:(s.heap.push (a0a (!byT w))).get? s.heap.objs.size=some (a0a (!byT w)):=aK _ rfl;have hS1:SetI (!byT w) a ks (s.heap.push (a0a (!byT w))):=hS.keep λo e=>ai _ e;have la:a<s.heap.objs.size:=by
  obtain ⟨o,_,_,_,ho,_⟩:=hS;exact aE ho
 refine ae (acx (s:={ s with heap:=s.heap.push (a0a (!byT w)) }) rfl (ab3 at0) hS1 (gW la) nd (by rw [c6,eS];exact few) (λs' Q' _ h=>aw h) λh' sb x=>aw (q h' (λc o e=>sb.extBut c o (aR (aE e)) (ai _ e)) ?_))
 rwa [ab9 (by simpa using nd),cI] at x
theorem ap4(hb:b = !byT w)(hS:SetI b a ks s.heap)(hO:SetI b c ms s.heap)(ne:a≠c)(nk:ks.Nodup)(nd:ms.Nodup)(few:ks.length+ms.length+1<scanBound)
  (q:∀ h',(∀ c o,s.heap.get? c=some o->h'.get? c=some o)->SetI b s.heap.objs.size (ms.foldl L2.stepK ks) h'->Q (.ref s.heap.objs.size) { s with heap:=h' }):wpAny (model prog w) A (binaryOp .BitOr (.ref a) (.ref c)) Q E s:=by
 refine wpAny_binaryOp_same (op:=.BitOr) (T := "set") hS.typeIs hO.typeIs F.fills_set_or F.slot_set_or (bU F.slot_set_or hS.typeIs aks ?_ (F.args_set_or_2 _ _));refine ae (dH (a:=(Value.ref a,Value.ref c)) rfl ?_);dsimp only;refine ae (ae (aba hS ?_));refine aba hO ?_;rw [aL (by decide)]
 refine ae (aw ?_);have lc:c<s.heap.objs.size:=by
  obtain ⟨o,_,_,_,ho,_⟩:=hO;exact aE ho
 refine ae (ae (akt hb hS nk (by omega) λh1 kp x1=>?_))
 have hO1:SetI b c ms h1:=hO.keep λo e=>kp c o e;rw [aA (by simpa using (cX ne))]
 refine ae (aw ?_);refine ae (bP ?_);unfold Frozenset.updateFrom;refine ae (aba (s:={ s with heap:=h1 }) hO1 ?_)
 rw [aA rfl];have hO1':=hO1;obtain ⟨oc,ec,pc,tc,hoc,hexc,hdc,alc,pmc,szc,ftc,gdc,ldc⟩:=hO1';refine ae (aw ?_);unfold Frozenset.merge;refine ae (wpAny_setEpoch_of (s:={ s with heap:=h1 }) hoc hdc ftc ?_)
 refine acx (s:={ s with heap:=h1 }) hb x1 hO1 (gW lc) nd (by omega) (λs' Q' e h=>?_) λh2 sb x2=>?_
 ·unfold Frozenset.unchanged;refine ae (wpAny_setEpoch_of (e.trans hoc) hdc ftc ?_);rw [aL (by simp)]
  exact aw h
 ·exact aw (aw ⟨_,rfl,(λz=>by cases z),q h2 (λd o e=>sb.extBut d o (aR (aE e)) (kp d o e)) x2⟩)
end
end SETB
namespace SETB
open PySem PySem.Spec PyProof.Rows SETA
section
variable{prog:Program}{w:World}{A:Around}{E:Value->Shared->Prop}{R:Result->Shared->Prop}{s:Shared}
theorem a5x{b:Bool}{I S:Addr}{fp wr:List Addr}{n:Nat}{P:Nat->Value->Prop}{St:Nat->Heap->Prop}(W:Walks prog w A.in1 I fp wr n P St)(apart:S ∉ fp)(val:Nat->Int)(key:∀ i v,P i v->∃ t,v = .int (val i) t)(few:n+1<scanBound) :
  ∀ (left i:Nat) (s:Shared) (ks:List Int),i+left=n->ks.length<=i->St i s.heap->SetI b S ks s.heap->
   (∀ h' tk,SetI b S (((List.range' i left).map val).foldl L2.stepK ks) h'->(∀ c o,c≠S->c ∉ wr->s.heap.get? c=some o->h'.get? c=some o)->R (.ok (.ret .none)) { s with heap:=h',toks:=tk })->
   codeAny (model prog w) A (.builtin "set.update.loop" ⟨[.ref S, .ref I],[]⟩) R s
 | 0,i,s,ks,hi,hl,st,x,fin=>dI F.entry_set_update_loop (by
   obtain rfl:i=n:=by omega
   simp only [cW eH];exact ae (W.done s _ _ st λh' tk k=>aw (fin h' tk (x.keep λo e=>k S o (λz=>apart (W.sub S z)) e) λc o _ hc e=>k c o hc e)))
 | left+1,i,s,ks,hi,hl,st,x,fin=>dI F.entry_set_update_loop (by
   simp only [cW eH];refine ae (W.item i s _ _ (by omega) st λv h1 t1 p st1 k1=>?_)
   obtain ⟨tk,rfl⟩:=key i v p;refine ae (bP ?_);unfold setAdd;refine bP (ae ((intKind prog w).pyHash (k:=val i) (by simp [intKind,Value.isInt]) ?_))
   refine a3s (s:={ s with heap:=h1,toks:=t1+1 }) (x.keep λo e=>k1 S o (λz=>apart (W.sub S z)) e) (by omega) λh2 r sb x2=>?_
   have sl:(L2.stepK ks (val i)).length<=i+1:=by
    unfold L2.stepK
    split
    ·omega
    ·rw [ap,ax];omega
   refine aw ⟨gI eH _,a5x W apart val key few left (i+1) _ _ (by omega) sl (W.frame _ _ _ st1 λc hc o e=>sb.extBut c o (λz=>apart (z ▸ hc)) e) x2 λh3 t3 x3 k3=>?_⟩
   exact fin h3 t3 (by rw [List.range'_succ,aZ,cP];exact x3) λc o cS cw e=>k3 c o cS cw (sb.extBut c o cS (k1 c o cw e)))
theorem ahc(a:Value)(h:Q₁ (.ref s.heap.objs.size) { s with heap:=s.heap.push (a0a (!byT w)) }) :
  codeAny (model prog w) A (.call (.builtin "set.__new__") ⟨[.type "set",a],[]⟩) (wants Q₁ E) s:=by
 apply fF
 apply ae
 refine dH (F.newCall_set_1 a) ?_;refine aw ⟨gI F.plain_set_new _,dI F.entry_set_new ?_⟩;simp only [cW F.plain_set_new];have self:=sub_set_self;unfold Builtin.«set.__new__» Builtin.Frozenset.newClass
 generalize en:newSet=mk
 wp_walk
 subst en
 first
  | exact a8a (aw h)
  | exact ae (a8a (aw h))
theorem ahd{l:Addr}{tn:String}{od:Option Addr}{dt:Data}{sl:Array (Option Value)}{ns:List Int}{b:Bool}{R:Result->Shared->Prop}(hh:A.handled=none)
  (hl:s.heap.get? l=some { cls:=.type tn,dict:=od,data:=dt,slots:=sl }) (no1:isSubtype (.type tn) (.type "set")=pure false) (no2:isSubtype (.type tn) (.type "frozenset")=pure false) (no3:(Value.type tn == Value.type "dict")=false) (few:ns.length+1<scanBound)
  (it:∀ (s1:Shared) (Q:Value->Shared->Prop) (E:Value->Shared->Prop),s1.heap.get? l=some { cls:=.type tn,dict:=od,data:=dt,slots:=sl }->
   (∀ (o:Obj) (St:Nat->Heap->Prop) (P:Nat->Value->Prop),(∀ A':Around,A'.handled=none->Walks prog w A' s1.heap.objs.size [s1.heap.objs.size,l] [s1.heap.objs.size] ns.length P St)->(∀ i v,P i v->∃ t,v = .int (ns.getD i 0) t)->St 0 (s1.heap.push o)->Q (.ref s1.heap.objs.size) { s1 with heap:=s1.heap.push o })->wpAny (model prog w) A.in1 (pyIter (.ref l)) Q E s1)
  (q:∀ h' tk,SetI b s.heap.objs.size (ns.foldl L2.stepK []) h'->(∀ c o,s.heap.get? c=some o->h'.get? c=some o)->R (.ok (.ret .none)) { s with heap:=h',toks:=tk }) :
  wpAny (model prog w) A.in1 (Builtin.«set.__init__» ⟨[.ref s.heap.objs.size, .ref l],[]⟩)
   (λfin s'=>match fin with | .done f=>R (.ok f) s' | .again c'=>c'.quiet=true/\codeAny (model prog w) A c' R s') (λe s'=>R (.error e) s') { s with heap:=s.heap.push (a0a b) }:=by
 have at0:(s.heap.push (a0a b)).get? s.heap.objs.size=some (a0a b):=aK _ rfl;have hl':(s.heap.push (a0a b)).get? l=some { cls:=.type tn,dict:=od,data:=dt,slots:=sl }:=ai _ hl;have ll:=aE hl;unfold Builtin.«set.__init__»;unfold noKeywords Builtin.Frozenset.updateFrom
 generalize ep:pyIter=walker
 unfold a0a at at0 hl' ⊢
 wp_walk
 subst ep;refine it _ _ _ hl' λo St P W key st=>ae (wpAny_runValue ?_);dsimp only at W st ⊢;have far:s.heap.objs.size ∉ [(s.heap.push (a0a b)).objs.size,l]:=λz=>by
  rcases aD.mp z with z | z
  ·rw [dB] at z;exact absurd z (aR (eY _))
  ·rw [av] at z;rw [<-z] at ll;exact bH _ ll
 have e0:(List.range' 0 ns.length).map (λi=>ns.getD i 0)=ns:=by
  refine gE λi=>?_
  by_cases hi:i<ns.length
  ·rw [aW,List.getElem?_range' hi,ad hi];simp [cU,hi]
  ·rw [eU (by simp;omega),eU (by omega)]
 refine a5x (b:=b) (W _ (by simp [hh])) far (λi=>ns.getD i 0) key few ns.length 0 { s with heap:=(s.heap.push (a0a b)).push o } [] (by omega) (by simp) st (ab3 (b:=b) (ai _ (show (s.heap.push (a0a b)).get? s.heap.objs.size=some (a0a b) from at0))) λh' tk held k=>?_
 rw [e0] at held;refine aw (aw ?_);refine q h' tk held λc o e=>k c o ?_ ?_ (ai _ (ai _ e))
 ·exact aR (aE e)
 ·intro z
  have z:=av.mp z;have:=aE e;rw [z,dB] at this;exact absurd this (Nat.not_lt.mpr (hV _))
theorem a2w{ns:List Int}
  (hl:s.heap.get? l=some { cls:=.type tn,dict:=od,data:=dt,slots:=sl }) (no1:isSubtype (.type tn) (.type "set")=pure false) (no2:isSubtype (.type tn) (.type "frozenset")=pure false) (no3:(Value.type tn == Value.type "dict")=false) (few:ns.length+1<scanBound)
  (it:∀ (A:Around) (s1:Shared) (Q:Value->Shared->Prop) (E:Value->Shared->Prop),s1.heap.get? l=some { cls:=.type tn,dict:=od,data:=dt,slots:=sl }->
   (∀ (o:Obj) (St:Nat->Heap->Prop) (P:Nat->Value->Prop),(∀ A':Around,A'.handled=none->Walks prog w A' s1.heap.objs.size [s1.heap.objs.size,l] [s1.heap.objs.size] ns.length P St)->(∀ i v,P i v->∃ t,v = .int (ns.getD i 0) t)->St 0 (s1.heap.push o)->Q (.ref s1.heap.objs.size) { s1 with heap:=s1.heap.push o })->wpAny (model prog w) A (pyIter (.ref l)) Q E s1)
  (hh:A.handled=none)
  (q:∀ h' tk,SetI (!byT w) s.heap.objs.size (ns.foldl L2.stepK []) h'->(∀ c o,s.heap.get? c=some o->h'.get? c=some o)->Q (.ref s.heap.objs.size) { s with heap:=h',toks:=tk }) :
  wpAny (model prog w) A (call (.type "set") [.ref l]) Q E s:=by
 obtain ⟨_,_,order⟩:=dJ.mro;have made:=dJ.made;have self:=dJ.sub;have nt:=dJ.notType;have cc:=dJ.canCreate;have tc:=F.typeCall_set_1 (.ref l);refine wpAny_call (fF (aw ⟨Code.quiet_builtin _ (by decide +kernel),dI F.entry_type_call ?_⟩))
 simp only [Around.under_plain (weight_type_call_type "set" [.ref l] []) rfl]
 repeat any_goals first | assumption | wp_step
 refine eP (ahc (.ref l) (E:=E) (Q₁:=λobj s1=>obj = .ref s.heap.objs.size/\s1={ s with heap:=s.heap.push (a0a (!byT w)) }) ⟨rfl,rfl⟩) λr s1 hr=>?_
 match r,hr with
 | .error _,hr=>exact hr
 | .ok (.ret _),⟨eo,es⟩ =>
  subst eo es;have ty:Shared.TypeIs { s with heap:=s.heap.push (a0a (!byT w)) } (.ref s.heap.objs.size) "set":=⟨_,aK _ rfl,rfl⟩
  have look:=dJ.init.lookup;have bound:=dJ.init.bind (.ref s.heap.objs.size)
  repeat any_goals first | assumption | wp_step
  refine eP (codeAny_call_builtin (R:=wants (λr s2=>r = .none/\Q (.ref s.heap.objs.size) s2) E) dJ.init.plain F.entry_set_init (check_set_init_1 ty (ahd hh hl no1 no2 no3 few (it _) λh' tk x1 k1=>⟨rfl,q h' tk x1 k1⟩))) λr2 s2 hr2=>?_
  match r2,hr2 with
  | .error _,hr2=>exact hr2
  | .ok (.ret _),⟨e2,q2⟩ =>
   subst e2
   repeat any_goals first | assumption | wp_step
  | .ok .next,hr2=>exact hr2.elim
  | .ok .brk,hr2=>exact hr2.elim
  | .ok .cont,hr2=>exact hr2.elim
 | .ok .next,hr=>exact hr.elim
 | .ok .brk,hr=>exact hr.elim
 | .ok .cont,hr=>exact hr.elim
end
end SETB
namespace L2
open PySem PySem.Spec PyProof.Rows SETB
theorem sub_tuple_set:isSubtype (.type "tuple") (.type "set")=pure false/\isSubtype (.type "tuple") (.type "frozenset")=pure false:=by
 constructor<;>(rw [fW];kernel_rfl)
section
variable{X:Cx}
theorem acy{its:List Value}{ns:List Int}(h:IntsAre its ns){i:Nat}(e:its.toArray[i]? = some v):∃ t,v = .int (ns.getD i 0) t:=by
 replace e:its[i]? = some v:=by simpa using e
 induction h generalizing i with
 | nil=>simp at e
 | cons n t _ ih =>
  cases i with
  | zero=>simp at e;subst e;exact ⟨_,rfl⟩
  | succ i=>simpa using ih (by simpa using e)
theorem a3u(hc:X.calm=true):CallR X (.type "set") (λxs H Q=>∃ (p:Addr) (ns:List Int),xs=[.ref p]/\(SqL X.K H p (ns.map V.int)\/SqT X.K H p (ns.map V.int))/\ns.length+1<scanBound/\∀ l,H l=none->Q (.ref l) (upd H l (acu X.w l (ns.foldl stepK [])))):=by
 intro pins s σ H xs us Q I r h
 obtain ⟨p,ns,rfl,hq,few,q⟩:=h;obtain ⟨u,rfl,rx⟩:=vals1 r;cases rx
 have fin:∀ (h':Heap) (tk:Nat),SetI (!byT X.w) s.heap.objs.size (ns.foldl stepK []) h'->(∀ c o,s.heap.get? c=some o->h'.get? c=some o)->EP X pins σ Q (.ref s.heap.objs.size) { s with heap:=h',toks:=tk }:=λh' tk hS kp =>
  ⟨.ref s.heap.objs.size,_,I.laid (t':=tk) (o:=acu X.w s.heap.objs.size (ns.foldl stepK [])) kp (ar _) (ab5 hS),rfl,q _ (I.hok.fresh (ar _))⟩
 rcases hq with hq | hq
 ·obtain ⟨its,r',pl,hz⟩:=I.list hq;have hI:IntsAre its ns:=intsAre_of r';have hl:its.length=ns.length:=by have:=r'.length;simp at this;omega
  obtain ⟨o,ho,hcl,n,hd⟩:=pl.isList;obtain ⟨oc,od,odt,osl⟩:=o;simp only at hcl hd;subst hcl hd;have hlt:=aE ho;refine a2w (ns:=ns) ho F.sub_list_set F.sub_list_frozenset (by decide) few (λA s1 Q E e1 k=>?_) (I.ok.hd hc) fin
  have hlt1:=aE e1;have il:s1.heap.IsList p its.toArray:=⟨_,e1,rfl,n,rfl⟩;refine fY il (k _ (λi h=>h.IsListIter s1.heap.objs.size p i/\h.IsList p its.toArray) (λi v=>its.toArray[i]? = some v) (λA' hA=>?_) (λi v e=>acy hI e) ⟨⟨_,aK _ rfl,rfl,rfl⟩,il.at λo e=>ai _ e⟩);have W:=Walks.list (prog:=X.prog) (w:=X.w) (A:=A') hA s1.heap.objs.size p (aR hlt1) its.toArray
  rwa [show its.toArray.size=ns.length by simpa using hl] at W
 ·obtain ⟨its,r',pl,hz⟩:=I.tuple hq;have hI:IntsAre its ns:=intsAre_of r';have hl:its.length=ns.length:=by have:=r'.length;simp at this;omega
  obtain ⟨o,ho,hcl,n,hd⟩:=pl;obtain ⟨oc,od,odt,osl⟩:=o;simp only at hcl hd;subst hcl hd;refine a2w (ns:=ns) ho sub_tuple_set.1 sub_tuple_set.2 (by decide) few (λA s1 Q E e1 k=>?_) (I.ok.hd hc) fin
  have hlt1:=aE e1;have il:s1.heap.IsTuple p its.toArray:=⟨_,e1,rfl,n,rfl⟩;refine fK il (k _ (λi h=>h.IsTupleIter s1.heap.objs.size p i/\h.IsTuple p its.toArray) (λi v=>its.toArray[i]? = some v) (λA' hA=>?_) (λi v e=>acy hI e) ⟨⟨_,aK _ rfl,rfl,rfl⟩,il.at λo e=>ai _ e⟩);have W:=Walks.tuple (prog:=X.prog) (w:=X.w) (A:=A') hA s1.heap.objs.size p (aR hlt1) its.toArray
  rwa [show its.toArray.size=ns.length by simpa using hl] at W
end
end L2
namespace MI
open PySem PySem.Spec L2 SETB
def a5y(d:D)(h:Hd):Option (List Int):=match d with
 | .tup xs=>a3m xs
 | d=>a6y d h
def a6m:D->Hd->R D:=λd h=>match a5y d h with
 | some ns=>if ns.length<=4000 then ael (ns.foldl stepK []) h else .no
 | none=>.no
theorem a8c(r:Rep K ι H v d)(hr:HRep K ι H h)(e:a5y d h=some ns):∃ p,v = .ref p/\(SqL K H p (ns.map V.int)\/SqT K H p (ns.map V.int)):=by
 cases d with
 | tup xs =>
  cases r with
  | tup hh rs =>
   have e:a3m xs=some ns:=e;exact ⟨_,rfl, .inr (by rw [<-a1d rs e];exact SqT.of hh)⟩
 | _ =>
  obtain ⟨p,e1,q⟩:=a9o r hr e;exact ⟨p,e1, .inl q⟩
theorem abb(hg:Gl X "sorted")(hm:X.mg "sorted" = none)(hg2:Gl X "set")(hm2:X.mg "set" = none)(hc:X.calm=true)(he:ME X E e f)
  (hs:starEach [e] X.env=[(false,eval e X.env)]:=by rfl) (hs2:starEach [Expr.Call (.Name "set" p2) [e] [] pos2] X.env=[(false,eval (.Call (.Name "set" p2) [e] [] pos2) X.env)]:=by rfl) :
  ME X E (.Call (.Name "sorted" p) [.Call (.Name "set" p2) [e] [] pos2] [] pos) (s1 a6m f):=by
 refine PE.weak (a4m (yr hc) hg hm rfl (a05 (a0n (a3u hc) hg2 hm2 rfl (a05 he a2i (by rw [hs];rfl)) (by decide) (by decide) (by rw [hs];rfl)) a2i (by rw [hs2];rfl)) (by decide) (by decide) (by rw [hs2];rfl)) λσ H Q ⟨ι,τ,h,S,Rh,o⟩=>?_
 refine ⟨ι,τ,h,S,Rh,ik o λd h1 ι1 H1 v g1 r1 hr1 o1=>?_⟩;unfold a6m at o1
 cases e1:a5y d h1 with
 | none=>rw [e1] at o1;exact o1.elim
 | some ns =>
  rw [e1] at o1;simp only at o1
  by_cases hl:ns.length<=4000
  ·rw [aA hl] at o1;obtain ⟨q,rfl,sq⟩:=a8c r1 hr1 e1;refine ⟨q,ns,rfl,sq,by have:scanBound=4096:=rfl;omega,λl hl'=>?_⟩
   unfold ael at o1
   by_cases h6:(ns.foldl stepK []).length<64
   ·rw [aA h6] at o1;exact ⟨l,_,rfl,mz,h6,uf (E:=E) (yt _) (hr1.aside hl' _) (vg o1 (yg hl' _))⟩
   ·rw [aL h6] at o1;exact o1.elim
  ·rw [aL hl] at o1;exact o1.elim
end MI
namespace L2
open PySem PySem.Spec PyProof.Rows SETB
theorem ap5{ks:List Int}(h:ks.Nodup):(stepK ks x).Nodup:=by
 unfold stepK
 split
 ·exact h
 ·rename_i n;exact bA.mpr ⟨h,by simp,λa ha b hb=>by rw [av.mp hb];exact λz=>n (z ▸ ha)⟩
theorem a8d:∀ {ms ks:List Int},ks.Nodup->(ms.foldl stepK ks).Nodup
 | [],_,h=>h
 | _::ms,_,h=>a8d (ms:=ms) (ap5 h)
theorem a5z:∀ (ms ks:List Int),(ms.foldl stepK ks).length<=ks.length+ms.length
 | [],ks=>by simp
 | x::ms,ks=>by
  have h2:=a5z ms (stepK ks x);have h3:(stepK ks x).length<=ks.length+1:=by
   unfold stepK
   split
   ·omega
   ·simp
  rw [cP,aS];omega
section
variable{X:Cx}
theorem aso:OpR X (binaryOp .BitOr) (λx y H Q=>∃ (p q:Addr) (ks ms:List Int),x = .ref p/\y = .ref q/\p≠q/\H p=some (acu X.w p ks)/\H q=some (acu X.w q ms)/\ks.Nodup/\ms.Nodup/\ks.length+ms.length+1<scanBound/\∀ l,H l=none->Q (.ref l) (upd H l (acu X.w l (ms.foldl stepK ks)))):=by
 intro pins s σ H x y v u Q I rx ry h
 obtain ⟨p,q,ks,ms,rfl,rfl,ne,hp,hq,nk,nm,few,k⟩:=h;cases rx
 cases ry
 obtain ⟨h1,_⟩:=I.hok p _ hp;obtain ⟨h2,_⟩:=I.hok q _ hq;refine ap4 rfl h1 h2 ne nk nm few λh' kp x=>?_;exact ⟨.ref s.heap.objs.size,_,I.laid (t':=s.toks) (o:=acu X.w s.heap.objs.size (ms.foldl stepK ks)) kp (ar _) (ab5 x),rfl,k _ (I.hok.fresh (ar _))⟩
end
end L2
namespace MI
open PySem PySem.Spec L2 SETB
noncomputable def sSU(f g:SE):SE:=λτ h=>(f τ h).bind λx h1=>match a5y x h1 with
 | some ns=>if ns.length<=2000 then (g τ h1).bind λy h2=>match a5y y h2 with
  | some ms=>if ms.length<=2000 then ael ((ms.foldl stepK []).foldl stepK (ns.foldl stepK [])) h2 else .no
  | none=>.no else .no
 | none=>.no
theorem ahe(hg:Gl X "sorted")(hm:X.mg "sorted" = none)(hg2:Gl X "set")(hm2:X.mg "set" = none)(hc:X.calm=true)(he1:ME X E e1 f)(he2:ME X E e2 g)
  (hs:starEach [e1] X.env=[(false,eval e1 X.env)]:=by rfl) (hs3:starEach [e2] X.env=[(false,eval e2 X.env)]:=by rfl)
  (hs2:starEach [Expr.BinOp (.Call (.Name "set" p2) [e1] [] pos2) .BitOr (.Call (.Name "set" p3) [e2] [] pos3) pos4] X.env=[(false,eval (.BinOp (.Call (.Name "set" p2) [e1] [] pos2) .BitOr (.Call (.Name "set" p3) [e2] [] pos3) pos4) X.env)]:=by rfl) :
  ME X E (.Call (.Name "sorted" p) [.BinOp (.Call (.Name "set" p2) [e1] [] pos2) .BitOr (.Call (.Name "set" p3) [e2] [] pos3) pos4] [] pos) (sSU f g):=by
 refine PE.weak (a4m (yr hc) hg hm rfl (a05 (aqh aso (a0n (a3u hc) hg2 hm2 rfl (a05 he1 a2i (by rw [hs];rfl)) (by decide) (by decide) (by rw [hs];rfl)) (a0n (a3u hc) hg2 hm2 rfl (a05 he2 a2i (by rw [hs3];rfl)) (by decide) (by decide) (by rw [hs3];rfl))) a2i (by rw [hs2];rfl)) (by decide) (by decide) (by rw [hs2];rfl)) λσ H Q ⟨ι,τ,h,S,Rh,o⟩=>?_
 refine ⟨ι,τ,h,S,Rh,ik o λd h1 ι1 H1 v g1 r1 hr1 o1=>?_⟩
 cases i1:a5y d h1 with
 | none=>rw [i1] at o1;exact o1.elim
 | some ns =>
  rw [i1] at o1;simp only at o1
  by_cases hl:ns.length<=2000
  ·rw [aA hl] at o1;obtain ⟨q,rfl,sq⟩:=a8c r1 hr1 i1;refine ⟨q,ns,rfl,sq,by have:scanBound=4096:=rfl;omega,λl hl'=>?_⟩
   have gn:Gr ι1 H1 ι1 (upd H1 l (acu X.w l (ns.foldl stepK []))):=yg hl' _;have nin:l ∉ ι1:=hr1.notin hl';refine ⟨ι1,τ,h1,S.mono (g1.trans gn),hr1.aside hl' _,ik (vg o1 gn) λd2 h2 ι2 H2 u g2 r2 hr2 o2=>?_⟩;have at1:H2 l=some (acu X.w l (ns.foldl stepK [])):=g2.oth l _ mz nin
   cases i2:a5y d2 h2 with
   | none=>rw [i2] at o2;exact o2.elim
   | some ms =>
    rw [i2] at o2;simp only at o2
    by_cases hl2:ms.length<=2000
    ·rw [aA hl2] at o2;obtain ⟨q2,rfl,sq2⟩:=a8c r2 hr2 i2;refine ⟨q2,ms,rfl,sq2,by have:scanBound=4096:=rfl;omega,λl2 hl2'=>?_⟩
     have ne:l≠l2:=λz=>by rw [z,hl2'] at at1;cases at1
     have f1:=a5z ns [];have f2:=a5z ms [];rw [c6,eS] at f1 f2;refine ⟨l,l2,ns.foldl stepK [],ms.foldl stepK [],rfl,rfl,ne,(by rw [jo ne];exact at1),mz,a8d dS,a8d dS,by have:scanBound=4096:=rfl;omega,λl3 hl3=>?_⟩
     unfold ael at o2
     by_cases h6:((ms.foldl stepK []).foldl stepK (ns.foldl stepK [])).length<64
     ·rw [aA h6] at o2;have gn2:=yg (ι:=ι2) hl2' (acu X.w l2 (ms.foldl stepK []));exact ⟨l3,_,rfl,mz,h6,uf (E:=E) (yt _) ((hr2.aside hl2' _).aside hl3 _) (vg o2 (gn2.trans (yg hl3 _)))⟩
     ·rw [aL h6] at o2;exact o2.elim
    ·rw [aL hl2] at o2;exact o2.elim
  ·rw [aL hl] at o1;exact o1.elim
end MI
namespace L2
open PySem PySem.Spec PyProof.Rows
end L2
namespace MI
open PySem PySem.Spec L2
end MI
namespace L2
open PySem PySem.Spec PyProof.Rows
end L2
namespace MI
open PySem PySem.Spec L2
def Bz(j:Int):Prop:=0<=j/\j<2 ^ 62
instance (j:Int):Decidable (Bz j):=by unfold Bz;exact inferInstance
end MI
namespace ENG
open PySem PySem.Spec L2 MI
noncomputable def a8e:SS :=
 (jd (sIf (sT (s2 hEq (s2 gIx (sV 0) (sC (.int 0))) (sC (.str "one"))))
 (qg (sA wk dq))
 sNx)
 (jd (sIf (sOr (sT (s2 hEq (s2 gIx (sV 0) (sC (.int 0))) (sC (.str "row")))) (sT (s2 hEq (s2 gIx (sV 0) (sC (.int 0))) (sC (.str "either")))))
 (qg (s2 gIx (sV 0) (sC (.int 1))))
 sNx)
 (qg (sA wk (aj (s2 gIx (sV 0) (sC (.int 1))) dq)))))
noncomputable def xg(ie:SF)(je:SF)(ph:SF):SE :=
 (sA (kj false 2 ie) (aj (sV 0) (aj (sV 1) dq)))
noncomputable def a0j(ie:SF)(je:SF)(ph:SF):SE :=
 (sV 0)
noncomputable def xj(ie:SF)(je:SF)(ph:SF):SE :=
 (sA xn (aj (sA (kj false 4 je) (aj (sV 1) (aj (sV 3) (aj (sV 2) (aj (sV 0) dq))))) dq))
noncomputable def yc(ie:SF)(je:SF)(ph:SF):SS :=
 (jd (km 2 (sZ (n6 (sIt (sA (kj false 1 ph) (aj (sV 0) dq))) t1 (xg ie je ph) [1])))
 (jd (km 3 (sZ (n6 (sIt (sV 2)) (tN 2) (a0j ie je ph) [])))
 (jd (km 4 (sZ (n6 (sRg v6 (aj (s2 jb (sA rm (aj (sV 1) dq)) (sC (.int 1))) dq)) t1 (xj ie je ph) [0,1,3])))
 (qg (sA wk (aj (sA xn (aj (sV 4) dq)) (aj (sV 2) dq)))))))
noncomputable def a0b(mj:SF)(mq:SF)(m5:SF):SS :=
 (jd (sIf (sT (s2 hEq (s2 gIx (sV 0) (sC (.int 0))) (sC (.str "one"))))
 (qg (afr (a6u (sT (s2 gLt (sV 3) (sA rm (aj (sV 2) dq)))) (sT (s2 (gIn false) (s2 gIx (sV 2) (sV 3)) (s2 gIx (sV 0) (sC (.int 1)))))) (sA vy (aj (s2 jb (sV 3) (sC (.int 1))) dq)) (sA vy dq)))
 sNx)
 (jd (sIf (sT (s2 hEq (s2 gIx (sV 0) (sC (.int 0))) (sC (.str "row"))))
 (qg (sA (kj false 2 mj) (aj (sV 1) (aj (sV 3) dq))))
 sNx)
 (jd (sIf (sT (s2 hEq (s2 gIx (sV 0) (sC (.int 0))) (sC (.str "either"))))
 (qg (ah7 (sIt (sV 1)) (sIt (s2 gIx (sV 0) (sV 2))) (sV 1) [3]))
 sNx)
 (jd (sIf (sT (s2 hEq (s2 gIx (sV 0) (sC (.int 0))) (sC (.str "many"))))
 (qg (sA (kj false 2 mq) (aj (s2 gIx (sV 1) (sC (.int 0))) (aj (sV 3) dq))))
 sNx)
 (qg (sA (kj false 4 m5) (aj (s2 gIx (sV 1) (sC (.int 0))) (aj (sV 3) (aj (s2 gIx (sV 0) (sC (.int 2))) (aj (s2 gIx (sV 0) (sC (.int 3))) dq))))))))))
noncomputable def a9z:SS :=
 (qg (ah7 (sIt (sV 1)) (sIt (s2 gIx (sV 2) (sV 0))) (sV 1) [0]))
noncomputable def a01(j9:SF):SS :=
 (km 2 (sA (kj false 2 j9) (aj (sV 3) (aj (sV 2) dq))))
noncomputable def vm(j9:SF):SS :=
 (jd (km 2 (sZ (sA vy (aj (sV 1) dq))))
 (jd (a7q (sIt (sV 0)) (kN 3) (a01 j9))
 (qg (sV 2))))
noncomputable def a02(j9:SF):ST :=
 (sT (s2 gGt (sA rm (aj (sV 3) dq)) (sA rm (aj (sV 2) dq))))
noncomputable def a03(j9:SF):SS :=
 (jd (km 2 (sV 3))
 (km 3 (sZ (sSU (sV 2) (sA (kj false 2 j9) (aj (sV 0) (aj (sV 2) dq)))))))
noncomputable def vo(j9:SF):SS :=
 (jd (km 2 (sZ (sA vy dq)))
 (jd (km 3 (sZ (sA vy (aj (sV 1) dq))))
 (jd (sWh (a02 j9) (a03 j9) 100000)
 (qg (sV 2)))))
noncomputable def uo(j9:SF):SS :=
 (jd (sIf (sT (s2 gGe (sV 6) (sV 2)))
 (a4j (sML ajx (sV 4) (aj (sV 5) dq)))
 sNx)
 (km 5 (sA (kj false 2 j9) (aj (sV 0) (aj (sV 5) dq)))))
noncomputable def uq(j9:SF):SS :=
 (jd (km 4 (sA vy dq))
 (jd (km 5 (sZ (sA vy (aj (sV 1) dq))))
 (jd (a7q (sRg v6 (aj (s2 jb (sV 3) (sC (.int 1))) dq)) (kN 6) (uo j9))
 (qg (s1 a6m (sV 4))))))
end ENG
namespace TPM
open PySem PySem.Spec PySem.W L2 HT MI
theorem aen(t:Addr)(items:Array Value)(n:Nat)(dd:Option Addr)(sl:Array (Option Value))(u:Tok)(h0:items.isEmpty=false) :
  Meets (Builtin.«tuple.__mul__» ⟨[.ref t, .int 0 u],[]⟩) (λ_ R s=>s.heap.get? t=some { cls:=.type "tuple",dict:=dd,data:=.seq items n,slots:=sl }/\R (.ok (.ret (.ref s.heap.objs.size))) { s with heap:=s.heap.push { cls:=.type "tuple",data:=.seq #[] } }) :=
 .of_wp λprog w A R s h=>by
  obtain ⟨hp,g,d,tk,os⟩:=s;obtain ⟨hl,h⟩:=h;have c2:¬ (items.isEmpty || (0:Int) == 1)=true:=by rw [h0];decide
  wp_walk
  exact ⟨_,rfl,h⟩
def asp(K:PySem.W.Frag):R2:=λx y H Q=>∃ a xs,x = .ref a/\y = .int 0/\SqT K H a xs/\xs≠[]/\∀ p,H p=none->Q (.ref p) (upd H p (.tup []))
theorem ap6:OpR X (binaryOp .Mult) (asp X.K):=by
 intro pins s σ H x y v u Q I rx ry h
 obtain ⟨a,xs,rfl,rfl,ha,hx,q⟩:=h;cases rx
 obtain ⟨t,rfl⟩:=ry;obtain ⟨its,r1,p1,_⟩:=I.tuple ha;obtain ⟨⟨cls,dd,data,sl⟩,ho,hc,n,hd⟩:=id p1;simp only at hc hd;subst hc hd;have he:its.toArray.isEmpty=false:=by
  cases its with
  | nil=>exact (hx (r1.nil_iff.mp rfl)).elim
  | cons _ _=>rfl
 refine cE (T := "tuple") (U := "int") (by decide) ⟨_,ho,rfl⟩ (λs'=>dA s' 0 t) wy eD cm a5m dX.lookup
  (cv cm (dA s 0 t) dY (dM _ _) (a0q 0 t a its.toArray n dd sl)
   ⟨ho,rfl,⟨_,ho,rfl⟩,cv dZ ⟨_,ho,rfl⟩ gC (fN _ _) (aen a its.toArray n dd sl t he) ⟨ho,?_⟩⟩)
 refine ⟨.ref s.heap.objs.size,_,I.laid (t':=s.toks) (o:=.tup []) (λb ob q=>ai _ q) (ar _) ?_,rfl,q _ (I.hok.fresh (ar _))⟩;exact ⟨by decide,[], .nil,PyProof.Rows.IsTup.new _ _⟩
end TPM
namespace MI
open PySem PySem.Spec L2 TPM
open Classical in
noncomputable def abd(x y:D)(h:Hd):R D:=match x,y with
 | .tup xs, .int k=>if k=0/\xs≠[] then .ok (.tup []) h else ae8 (.tup xs) (.int k) h
 | x,y=>ae8 x y h
theorem aku:a2g K abd (λx y H Q=>(((rI CMul (λi j=>.int (i*j)) x y H Q\/aqx x y H Q)\/ajt K x y H Q)\/aoq K x y H Q)\/asp K x y H Q):=by
 intro E ι H h x y dx dy Q rx ry hr o
 cases rx with
 | @tup a vs xs ha rs =>
  cases ry with
  | int k =>
   simp only [abd] at o
   split at o
   ·rename_i hc;obtain ⟨rfl,hx⟩:=hc;refine .inr ⟨a,vs,rfl,rfl,SqT.of ha,λz=>hx ?_,a06 .nil hr o⟩;subst z;cases rs;rfl
   ·exact .inl (a86 _ _ _ _ _ _ _ _ _ (.tup ha rs) (.int k) hr o)
  | _=>exact o.elim
 | int i=>exact .inl (a86 _ _ _ _ _ _ _ _ _ (.int i) ry hr o)
 | ref e=>exact .inl (a86 _ _ _ _ _ _ _ _ _ (.ref e) ry hr o)
 | _=>exact o.elim
theorem ahf(ha:ME X E a fa)(hb:ME X E b fb):ME X E (.BinOp a .Mult b pos) (s2 abd fa fb):=aat ((((alx.or aqy).or aoc).or aor).or ap6) aku ha hb
theorem aww(k2:k<=1000):abd (.tup [d]) (.int (k:Nat)) h = .ok (.tup (List.replicate k d)) h:=by
 unfold abd;dsimp only
 by_cases e:(k:Int)=0
 ·rw [aA ⟨e,by simp⟩]
  have:k=0:=by omega
  subst this;rfl
 ·rw [aL (λz=>e z.1),ay2 (by simp) (by omega) k2 (by simp)]
  congr 2
  clear e k2
  induction k with
  | zero=>rfl
  | succ k ih=>rw [ce,bK,ih];rfl
end MI
namespace L2
open PySem PySem.Spec PyProof.Rows
end L2
namespace MI
open PySem PySem.Spec L2
end MI
namespace L2
open PySem PySem.Spec PyProof.Rows
end L2
namespace MI
open PySem PySem.Spec L2
end MI
namespace L2
open PySem PySem.Spec PyProof.Rows
end L2
namespace MI
open PySem PySem.Spec L2
section
variable{prog:Program}{w:World}{A:Around}{E:Value->Shared->Prop}{s:Shared}
theorem asq:fillsNumberSlot (.type "list") "add" = pure false:=by first | exact F.fills_list_add | exact PyProof.Rows.fills_list_add | kernel_rfl
theorem akv:seqSlot? (.type "list") (dunderI "add")=pure (some (.builtin "list.__iadd__")):=by
 unfold seqSlot?;rw [gT.lookup];rfl
theorem ahg:fillsInplaceSlot (.type "list") "add" true=pure false:=by
 unfold fillsInplaceSlot;simp only [gT.lookup,pure_bind,dC];rfl
theorem aeo(ha:s.TypeIs (.ref l) "list")(hb:s.TypeIs (.ref b) "list")(hc:wpAny (model prog w) A (call (.builtin "list.__iadd__") [.ref l, .ref b]) Q E s):wpAny (model prog w) A (inplaceOp .Add (.ref l) (.ref b)) Q E s:=by
 unfold inplaceOp;refine bP ?_;have fill:fillsInplaceSlot (.type "list") Operator.Add.info.2 (Operator.Add == .Add)=pure false:=ahg;refine ae (eQ ha ?_);refine ae (dH fill ?_);rw [aL aP];refine ae (wpAny_binaryOp1_none (nm := "add") ha hb asq ?_);refine ae (dH akv ?_);exact ae (eL hc)
end
def amo:R2:=λx y H Q=>∃ l b xs zs,x = .ref l/\y = .ref b/\H l=some (.lst xs)/\Rd H b (.lst zs)/\xs.length+zs.length<=sizeLine/\Q (.ref l) (upd H l (.lst (xs++zs)))
theorem acz:OpR X (inplaceOp .Add) amo:=λpins s σ H x y v u Q I rx ry ⟨l,b,xs,zs,ex,ey,h1,h2,hz,q⟩=>by
 subst ex ey;cases rx
 cases ry
 obtain ⟨_,as,n,va,la,ea⟩:=I.lstM h1;obtain ⟨_,bs,m,vb,lb,eb⟩:=I.lstR h2;have few:as.toArray.size+bs.toArray.size<=sizeLine:=by simp;omega
 have long:¬ (!as.toArray.isEmpty && Builtin.List.listTooLong (as.toArray.size+bs.toArray.size))=true:=by rw [a2k few,eO];exact aP
 refine aeo ⟨_,ea,rfl⟩ ⟨_,eb,rfl⟩ ?_;exact cv gT ⟨_,ea,rfl⟩ F.entry_list_iadd (F.args_list_iadd_2 _ _) (AutoSeq1.list___iadd___list_list_0 l as.toArray n b bs.toArray m long (by simp;omega) (by omega))
  ⟨ea,eb, .ref l,_,I.lset (its':=as++bs) h1 ea (by simp) (va.append vb) (by simpa using hz),rfl,q⟩
def a76(x y:D)(h:Hd):R D:=match x with
 | .ref i=>(match h[i]?,wz y h with | some (.lst xs),some ys=>if xs.length+ys.length<=LINE then .ok (.ref i) (h.set i (.lst (xs++ys))) else .no | _,_=>.no)
 | _=>.no
theorem aa0:a2g K a76 amo:=by
 intro E ι H h x y dx dy Q rx ry hr o
 unfold a76 at o
 split at o
 ·rename_i i
  cases rx with
  | @ref p _ hp =>
   split at o
   ·rename_i xs ys hx hy
    split at o
    ·rename_i hc;obtain ⟨vs,h3,h4⟩:=hr.lst hp hx;obtain ⟨b,us,rfl,h5,h6⟩:=a09 ry hr hy;exact ⟨p,b,vs,us,rfl,rfl,h3,h5,ll (by rw [h4.len,h6.len];exact hc),a7n (h4.app h6) hr hp (.ref hp) o⟩
    ·exact o.elim
   ·exact o.elim
 ·exact o.elim
theorem ad0(e:h[i]? = some (.lst xs))(ey:wz y h=some ys)(z:xs.length+ys.length<=LINE):a76 (.ref i) y h = .ok (.ref i) (h.set i (.lst (xs++ys))):=by
 unfold a76;simp only [e,ey,z,dC]
end MI
namespace DRW
open PySem PySem.Spec L2 MI
noncomputable def a8f(ie:SF):SS :=
 (jd (ajh (sA (kj false 2 ie) (aj (sV 0) (aj (sV 1) dq))) (a9g 2 (ug (kN 2) (ug (kN 3) aaj))))
 (qg (s2 (gIn false) (sA rm (aj (sV 1) dq)) (s2 gIx (sV 2) (sC (.int 0))))))
noncomputable def a0c(ak:SF):SS :=
 (jd (km 6 (sA (kj false 2 ak) (aj (sV 0) (aj (sA rm (aj (sV 2) dq)) dq))))
 (jd (aai 3 a0p (s2 gIx (sV 2) (sV 6)))
 (km 2 (s2 jb (a2h (sV 2) oN (oS (sV 6))) (a2h (sV 2) (oS (s2 jb (sV 6) (sC (.int 1)))) oN)))))
noncomputable def a1i(ak:SF):SS :=
 (jd (km 2 (sV 1))
 (jd (km 3 (sC (.str "")))
 (jd (km 4 (sC (.int 1)))
 (jd (sIf (sT (s2 hEq (sA (kj false 2 ak) (aj (sV 0) (aj (sC (.int 2)) dq))) (sC (.int 0))))
 (km 4 (s2 jb (sC (.int 1)) (sA (kj false 2 ak) (aj (sV 0) (aj (sA rm (aj (sV 1) dq)) dq)))))
 sNx)
 (jd (a7q (sRg v6 (aj (sV 4) dq)) (kN 5) (a0c ak))
 (qg (sV 3)))))))
noncomputable def ur(di:SF):SE :=
 (sA (kj false 1 di) (aj (sV 0) dq))
noncomputable def vz(di:SF):SS :=
 (jd (sIf (sT (s2 hEq (s2 gIx (sV 0) (sC (.int 0))) (sC (.str "one"))))
 (qg (sC (.int 1)))
 sNx)
 (jd (sIf (sT (s2 (gIn false) (s2 gIx (sV 0) (sC (.int 0))) (sA wk (aj (sC (.str "row")) (aj (sC (.str "either")) dq)))))
 (qg (sA amd (aj (sZ (n6 (sIt (s2 gIx (sV 0) (sC (.int 1)))) t1 (ur di) [])) dq)))
 sNx)
 (jd (sIf (sT (s2 hEq (s2 gIx (sV 0) (sC (.int 0))) (sC (.str "many"))))
 (qg (sA (kj false 1 di) (aj (s2 gIx (sV 0) (sC (.int 1))) dq)))
 sNx)
 (qg (s2 xu (s2 gIx (sV 0) (sC (.int 3))) (sA (kj false 1 di) (aj (s2 gIx (sV 0) (sC (.int 1))) dq)))))))
noncomputable def vp(ak:SF)(lz:SF)(iu:SF)(di:SF):SS :=
 (sIf (sT (s2 gGt (s2 gIx (sV 4) (sC (.int 0))) (sC (.int 0))))
 (jd (km 10 (sA (kj false 5 iu) (aj (sV 0) (aj (sV 1) (aj (s2 a6i (sV 2) (sC (.int 1))) (aj (sV 3) (aj (sV 4) dq)))))))
 (jd (aai 3 a6i (sA (kj false 1 di) (aj (sV 10) dq)))
 (a4j (sML aet (sV 8) (aj (sV 10) dq)))))
 sNx)
noncomputable def yu(ak:SF)(lz:SF)(iu:SF)(di:SF):SS :=
 (jd (a0r a6i (sV 4) (sC (.int 0)) (sC (.int 1)))
 (jd (km 5 (sA (kj false 2 ak) (aj (sV 0) (aj (sC (.int 9)) dq))))
 (jd (sIf (sOr (sT (s2 hEq (sV 2) (sC (.int 1)))) (sOr (sT (s2 gLt (s2 gIx (sV 4) (sC (.int 0))) (sC (.int 1)))) (sT (s2 hEq (sV 5) (sC (.int 0))))))
 (jd (sIf (sOr (sT (s2 hEq (sV 3) (sC (.int 0)))) (sT (s2 hEq (sA (kj false 2 ak) (aj (sV 0) (aj (sC (.int 8)) dq))) (sC (.int 0)))))
 (qg (sA wk (aj (sC (.str "row")) (aj (sA wk dq) dq))))
 sNx)
 (qg (sA wk (aj (sC (.str "one")) (aj (sA (kj false 2 lz) (aj (sV 0) (aj (sV 1) dq))) dq)))))
 sNx)
 (jd (sIf (sT (s2 gLt (sV 5) (sC (.int 3))))
 (qg (sA wk (aj (sC (.str "many")) (aj (sA (kj false 5 iu) (aj (sV 0) (aj (sV 1) (aj (s2 a6i (sV 2) (sC (.int 1))) (aj (sV 3) (aj (sV 4) dq)))))) dq))))
 sNx)
 (jd (sIf (sT (s2 gLt (sV 5) (sC (.int 5))))
 (jd (km 6 (sA (kj false 2 ak) (aj (sV 0) (aj (sC (.int 5)) dq))))
 (jd (km 7 (sA (kj false 2 ak) (aj (sV 0) (aj (s2 jb (sV 6) (sC (.int 1))) dq))))
 (qg (sA wk (aj (sC (.str "times")) (aj (sA (kj false 5 iu) (aj (sV 0) (aj (sV 1) (aj (s2 a6i (sV 2) (sC (.int 1))) (aj (s2 a6k (sV 3) (sA a9k (aj (sC (.int 1)) (aj (sV 6) dq)))) (aj (sV 4) dq)))))) (aj (sV 7) (aj (sV 6) dq))))))))
 sNx)
 (jd (km 8 (sA vy dq))
 (jd (a7q (sRg v6 (aj (s2 gIx (sA wk (aj (sC (.int 1)) (aj (sC (.int 2)) (aj (sC (.int 2)) (aj (sC (.int 3)) (aj (sC (.int 3)) (aj (sC (.int 4)) (aj (sC (.int 5)) (aj (sC (.int 6)) dq))))))))) (sA (kj false 2 ak) (aj (sV 0) (aj (sC (.int 8)) dq)))) dq)) (kN 9) (vp ak lz iu di))
 (qg (sA wk (aj (s2 gIx (sA wk (aj (sC (.str "row")) (aj (sC (.str "either")) dq))) (s2 a6k (sV 5) (sC (.int 7)))) (aj (sA xn (aj (sV 8) dq)) dq)))))))))))
noncomputable def a2x(ak:SF):SE :=
 (s2 gIx (sV 2) (sA (kj false 2 ak) (aj (sV 1) (aj (sC (.int 26)) dq))))
noncomputable def a0d(ak:SF):ST :=
 (sT (s2 (gIn false) (sV 3) (sV 1)))
noncomputable def a2y(ak:SF):SS :=
 (jd (aai 6 a0p (sC (.int 1)))
 (jd (km 7 (s2 gIx (sV 2) (s2 a3f (s2 jb (sV 5) (sV 6)) (sC (.int 26)))))
 (km 3 (s2 jb (s2 jb (a2h (sV 3) oN (oS (sV 4))) (sV 7)) (a2h (sV 3) (oS (s2 jb (sV 4) (sC (.int 1)))) oN)))))
noncomputable def a1j(ak:SF):SS :=
 (jd (km 2 (sC (.str "abcdefghijklmnopqrstuvwxyz")))
 (jd (km 3 (sMS a6l (sC (.str "")) (aj (sZ (n6 (sRg v6 (aj (s2 jb (sC (.int 1)) (sA (kj false 2 ak) (aj (sV 0) (aj (sC (.int 8)) dq)))) dq)) t1 (a2x ak) [0,2])) dq)))
 (jd (sIf (a6u (sT (s2 (aeu true) (sV 1) (sZ (sA vy dq)))) (sT (s2 hEq (sA (kj false 2 ak) (aj (sV 0) (aj (sC (.int 2)) dq))) (sC (.int 0)))))
 (km 3 (s2 gIx (sV 1) (s1 aaw (sC (.int 1)))))
 sNx)
 (jd (km 4 (sA (kj false 2 ak) (aj (sV 0) (aj (sA rm (aj (sV 3) dq)) dq))))
 (jd (km 5 (sMS ac8 (sV 2) (aj (s2 gIx (sV 3) (sV 4)) dq)))
 (jd (km 6 (sC (.int 0)))
 (jd (sWh (a0d ak) (a2y ak) 100000)
 (qg (sV 3)))))))))
noncomputable def ye(ak:SF)(m8:SF)(iu:SF)(di:SF):SS :=
 (jd (km 6 (s2 jb (sC (.int 2)) (sA (kj false 2 ak) (aj (sV 0) (aj (sC (.int 4)) dq)))))
 (jd (km 7 (sA (kj false 5 iu) (aj (sV 0) (aj (sV 1) (aj (sV 6) (aj (sV 2) (aj (sA vy (aj (sC (.int 24)) dq)) dq)))))))
 (jd (km 8 (sA (kj false 2 m8) (aj (sV 0) (aj (sV 3) dq))))
 (jd (aai 2 a6i (sA (kj false 1 di) (aj (sV 7) dq)))
 (jd (a4j (sML aet (sV 3) (aj (sV 8) dq)))
 (a4j (sML aet (sV 4) (aj (sA wk (aj (sV 8) (aj (sV 7) dq))) dq))))))))
noncomputable def a1k(ak:SF)(m8:SF)(iu:SF)(di:SF):SS :=
 (jd (km 3 (sA vy dq))
 (jd (km 4 (sA vy dq))
 (jd (a7q (sRg v6 (aj (s2 gIx (sA wk (aj (sC (.int 0)) (aj (sC (.int 1)) (aj (sC (.int 1)) (aj (sC (.int 2)) (aj (sC (.int 2)) (aj (sC (.int 3)) (aj (sC (.int 4)) (aj (sC (.int 6)) dq))))))))) (sA (kj false 2 ak) (aj (sV 0) (aj (sC (.int 8)) dq)))) dq)) (kN 5) (ye ak m8 iu di))
 (qg (sA wk (aj (sV 1) (aj (sA xn (aj (sV 4) dq)) dq)))))))
noncomputable def zr(bz:SF)(bc:SF)(bw:SF)(bf:SF):SE :=
 (afr (a6u (sT (s2 gLt (sV 0) (sA rm (aj (sV 2) dq)))) (sT (s2 (gIn false) (s2 gIx (sV 2) (sV 0)) (s2 gIx (sV 1) (sC (.int 1)))))) (sZ (sA vy (aj (s2 jb (sV 0) (sC (.int 1))) dq))) (sZ (sA vy dq)))
noncomputable def a1u(bz:SF)(bc:SF)(bw:SF)(bf:SF):SE :=
 (sA (kj false 2 bz) (aj (sV 0) (aj (sV 1) dq)))
noncomputable def a1v(bz:SF)(bc:SF)(bw:SF)(bf:SF):SE :=
 (sA (kj false 2 bz) (aj (sV 0) (aj (sV 1) dq)))
noncomputable def a1w(bz:SF)(bc:SF)(bw:SF)(bf:SF):SE :=
 (sZ (sA vy dq))
noncomputable def zu(bz:SF)(bc:SF)(bw:SF)(bf:SF):SE :=
 (sZ (sA vy (aj (sV 0) dq)))
noncomputable def a1x(bz:SF)(bc:SF)(bw:SF)(bf:SF):SE :=
 (sZ (s1 a6m (sZ (s2 jb (s2 gIx (sV 1) (sV 0)) (s2 gIx (sV 2) (sV 0))))))
noncomputable def a1y(bz:SF)(bc:SF)(bw:SF)(bf:SF):SE :=
 (sA (kj false 2 bw) (aj (s2 gIx (sV 1) (sV 3)) (aj (s2 gIx (sV 2) (sV 0)) dq)))
noncomputable def qx(bz:SF)(bc:SF)(bw:SF)(bf:SF):SS :=
 (jd (sIf (sT (s2 gGe (sV 7) (sV 4)))
 (km 5 (sZ (n6 (sIt (sV 2)) t1 (a1x bz bc bw bf) [5,6])))
 sNx)
 (sIf (sT (s2 gLt (sV 7) (sA rm (aj (sV 3) dq))))
 (km 6 (sZ (n6 (sIt (sV 2)) t1 (a1y bz bc bw bf) [3,6,7])))
 sNx))
noncomputable def qi(bz:SF)(bc:SF)(bw:SF)(bf:SF):SS :=
 (jd (km 2 (sZ (sA a70 (aj (s2 jb (sA rm (aj (sV 1) dq)) (sC (.int 1))) dq))))
 (jd (sIf (sT (s2 hEq (s2 gIx (sV 0) (sC (.int 0))) (sC (.str "one"))))
 (qg (n6 (sIt (sV 2)) t1 (zr bz bc bw bf) [0,1]))
 sNx)
 (jd (sIf (sT (s2 hEq (s2 gIx (sV 0) (sC (.int 0))) (sC (.str "many"))))
 (qg (sA (kj false 1 bf) (aj (sA (kj false 2 bz) (aj (s2 gIx (sV 0) (sC (.int 1))) (aj (sV 1) dq))) dq)))
 sNx)
 (jd (sIf (sT (s2 hEq (s2 gIx (sV 0) (sC (.int 0))) (sC (.str "either"))))
 (qg (sA (kj false 2 bc) (aj (sZ (n6 (sIt (s2 gIx (sV 0) (sC (.int 1)))) t1 (a1u bz bc bw bf) [1])) (aj (sV 2) dq))))
 sNx)
 (jd (km 3 (sZ (sA vy dq)))
 (jd (km 4 (sC (.int 0)))
 (jd (sIf (sT (s2 hEq (s2 gIx (sV 0) (sC (.int 0))) (sC (.str "row"))))
 (jd (km 3 (sZ (n6 (sIt (s2 gIx (sV 0) (sC (.int 1)))) t1 (a1v bz bc bw bf) [1])))
 (km 4 (sA rm (aj (sV 3) dq))))
 (sIf (sT (s2 gGt (s2 gIx (sV 0) (sC (.int 3))) (sC (.int 0))))
 (jd (km 3 (sZ (s2 xu (sZ (sA vy (aj (sA (kj false 2 bz) (aj (s2 gIx (sV 0) (sC (.int 1))) (aj (sV 1) dq))) dq))) (s2 gIx (sV 0) (sC (.int 3))))))
 (km 4 (s2 gIx (sV 0) (sC (.int 2)))))
 sNx))
 (jd (km 5 (sZ (n6 (sIt (sV 2)) t1 (a1w bz bc bw bf) [])))
 (jd (km 6 (sZ (n6 (sIt (sV 2)) t1 (zu bz bc bw bf) [])))
 (jd (a7q (sRg v6 (aj (s2 jb (sA rm (aj (sV 3) dq)) (sC (.int 1))) dq)) (kN 7) (qx bz bc bw bf))
 (qg (sV 5))))))))))))
noncomputable def a1n:SE :=
 (sV 0)
noncomputable def a1o:ST :=
 (sT (s2 (gIn true) (sV 0) (sV 1)))
noncomputable def qp:ST :=
 (sT (s2 gLt (sV 4) (sA rm (aj (sV 3) dq))))
noncomputable def qt:SS :=
 (jd (aai 3 a76 (sZ (a1r (sIt (s2 gIx (sV 0) (s2 gIx (sV 3) (sV 4)))) t1 a1o a1n [3])))
 (aai 4 a0p (sC (.int 1))))
noncomputable def qu:SS :=
 (jd (km 3 (sA vy (aj (sV 2) dq)))
 (jd (km 4 (sC (.int 0)))
 (jd (sWh qp qt 100000)
 (a4j (sML aet (sV 1) (aj (sZ (sA a3q (aj (sV 3) dq))) dq))))))
noncomputable def qm:SS :=
 (jd (km 1 (sA vy dq))
 (jd (a7q (sRg v6 (aj (sA rm (aj (sV 0) dq)) dq)) (kN 2) qu)
 (qg (sV 1))))
noncomputable def a0v:SE :=
 (sZ (sA vy dq))
noncomputable def a0w:SE :=
 (sZ (s1 a6m (sZ (s2 jb (s2 gIx (sV 1) (sV 0)) (s2 gIx (sV 2) (sV 0))))))
noncomputable def wg:SS :=
 (km 2 (sZ (n6 (sIt (sV 1)) t1 a0w [2,3])))
noncomputable def qd:SS :=
 (jd (km 2 (sZ (n6 (sIt (sV 1)) t1 a0v [])))
 (jd (a7q (sIt (sV 0)) (kN 3) wg)
 (qg (sV 2))))
noncomputable def a2c:SE :=
 (sV 0)
noncomputable def a2d:ST :=
 (sT (s2 (gIn true) (sV 0) (sV 1)))
noncomputable def yw:SS :=
 (aai 2 a76 (sZ (a1r (sIt (s2 gIx (sV 0) (sV 3))) t1 a2d a2c [2])))
noncomputable def rn:SS :=
 (jd (km 2 (sA vy dq))
 (jd (a7q (sIt (sV 1)) (kN 3) yw)
 (qg (sV 2))))
noncomputable def a0e(ak:SF)(iz:SF):SE :=
 (sA (kj false 2 iz) (aj (sV 1) (aj (sV 0) dq)))
noncomputable def u9(ak:SF)(iz:SF):SS :=
 (jd (sIf (sT (s2 hEq (s2 gIx (sV 1) (sC (.int 0))) (sC (.str "one"))))
 (qg (s2 gIx (s2 gIx (sV 1) (sC (.int 1))) (sA (kj false 2 ak) (aj (sV 0) (aj (sA rm (aj (s2 gIx (sV 1) (sC (.int 1))) dq)) dq)))))
 sNx)
 (jd (km 2 (s2 gIx (sV 1) (sC (.int 1))))
 (jd (sIf (sT (s2 hEq (s2 gIx (sV 1) (sC (.int 0))) (sC (.str "many"))))
 (km 2 (s2 abd (sA wk (aj (s2 gIx (sV 1) (sC (.int 1))) dq)) (sA (kj false 2 ak) (aj (sV 0) (aj (sC (.int 3)) dq)))))
 sNx)
 (jd (sIf (sT (s2 hEq (s2 gIx (sV 1) (sC (.int 0))) (sC (.str "times"))))
 (km 2 (s2 abd (sA wk (aj (s2 gIx (sV 1) (sC (.int 1))) dq)) (s2 jb (s2 gIx (sV 1) (sC (.int 2))) (sA (kj false 2 ak) (aj (sV 0) (aj (s2 jb (s2 a6i (s2 gIx (sV 1) (sC (.int 3))) (s2 gIx (sV 1) (sC (.int 2)))) (sC (.int 1))) dq))))))
 sNx)
 (jd (sIf (sT (s2 hEq (s2 gIx (sV 1) (sC (.int 0))) (sC (.str "either"))))
 (km 2 (sA wk (aj (s2 gIx (s2 gIx (sV 1) (sC (.int 1))) (sA (kj false 2 ak) (aj (sV 0) (aj (sA rm (aj (s2 gIx (sV 1) (sC (.int 1))) dq)) dq)))) dq)))
 sNx)
 (qg (sMS a6l (sC (.str "")) (aj (sZ (n6 (sIt (sV 2)) t1 (a0e ak iz) [0])) dq))))))))
noncomputable def ut(ak:SF):SS :=
 (jd (km 3 (sA (kj false 2 ak) (aj (sV 0) (aj (s2 jb (sA rm (aj (sV 1) dq)) (sC (.int 1))) dq))))
 (jd (km 4 (s2 gIx (sV 2) (sA (kj false 2 ak) (aj (sV 0) (aj (sA rm (aj (sV 2) dq)) dq)))))
 (jd (km 5 (sA (kj false 2 ak) (aj (sV 0) (aj (sC (.int 4)) dq))))
 (jd (sIf (sT (s2 hEq (sV 5) (sC (.int 0))))
 (qg (sV 1))
 sNx)
 (jd (sIf (sT (s2 hEq (sV 5) (sC (.int 1))))
 (qg (s2 jb (a2h (sV 1) oN (oS (sV 3))) (a2h (sV 1) (oS (s2 jb (sV 3) (sC (.int 1)))) oN)))
 sNx)
 (qg (s2 jb (s2 jb (a2h (sV 1) oN (oS (sV 3))) (sV 4)) (a2h (sV 1) (oS (s2 a6i (s2 jb (sV 3) (sV 5)) (sC (.int 2)))) oN))))))))
end DRW
namespace K17
open PySem PySem.Spec L2 MI
noncomputable def o7(vf:SF):SS :=
 (sIf (afp (sA (kj false 2 vf) (aj (sV 6) (aj (sV 1) dq))))
 (qg (sV 4))
 sNx)
noncomputable def sr(vf:SF):SS :=
 (jd (ajh (sV 0) (a9g 2 (ug (kN 2) (ug (kN 3) aaj))))
 (jd (sIf (sT (s2 hEq (sV 1) (sC (.str ""))))
 (qg (s1 aaw (sC (.int 1))))
 sNx)
 (jd (a7q (aaz (sV 3)) (a9g 2 (ug (kN 4) (ug (a9g 2 (ug (kN 5) (ug (kN 6) aaj))) aaj))) (o7 vf))
 (qg (s1 aaw (sC (.int 1)))))))
noncomputable def a2z(bz:SF):SE :=
 (sV 0)
noncomputable def yf(bz:SF):ST :=
 (sT (s2 (gIn false) (sA rm (aj (sV 2) dq)) (s2 gIx (sA (kj false 2 bz) (aj (s2 gIx (s2 gIx (s2 gIx (sV 1) (sC (.int 1))) (sV 0)) (sC (.int 1))) (aj (sV 2) dq))) (sC (.int 0)))))
noncomputable def a1l(bz:SF):SS :=
 (jd (km 2 (sZ (a1r (sRg v6 (aj (sA rm (aj (s2 gIx (sV 0) (sC (.int 1))) dq)) dq)) t1 (yf bz) (a2z bz) [0,1])))
 (jd (sIf (sOr (sT (s2 hEq (sV 1) (sC (.str "")))) (sT (s2 (aeu false) (sV 2) (sZ (sA vy dq)))))
 (qg (s1 aaw (sC (.int 1))))
 sNx)
 (qg (s2 gIx (sV 2) (sC (.int 0))))))
noncomputable def ad1(lq:SF)(ak:SF)(jz:SF)(jk:SF)(jr:SF)(iz:SF)(gw:SF)(gm:SF):SE :=
 (s2 gIx (sV 2) (sA (kj false 2 ak) (aj (sV 1) (aj (sA rm (aj (sV 2) dq)) dq))))
noncomputable def a4q(lq:SF)(ak:SF)(jz:SF)(jk:SF)(jr:SF)(iz:SF)(gw:SF)(gm:SF):SS :=
 (jd (km 8 (sA (kj false 2 gm) (aj (sV 3) (aj (sV 7) dq))))
 (sIf (sOr (aio (afp (sA a9t (aj (sV 8) (aj (sC (.ty "int")) dq))))) (sOr (afp (sA a9t (aj (sV 8) (aj (sC (.ty "bool")) dq)))) (sT (s2 hNe (sV 8) (sA (kj false 2 jz) (aj (sV 3) (aj (sV 7) dq)))))))
 avz
 sNx))
noncomputable def akx(lq:SF)(ak:SF)(jz:SF)(jk:SF)(jr:SF)(iz:SF)(gw:SF)(gm:SF):SS :=
 (jd (km 1 (sA (kj true 1 jk) (aj (sV 0) dq)))
 (jd (km 2 (sA (kj false 1 jr) (aj (sV 1) dq)))
 (jd (km 3 (sA (kj false 3 lq) (aj (sV 1) (aj (sV 2) (aj (sC (.int 10)) dq)))))
 (jd (km 4 (sC (.str "")))
 (jd (sIf (sT (s2 hNe (s2 gIx (sV 3) (sC (.int 1))) (sA wk dq)))
 (km 4 (a2h (sA (kj false 2 iz) (aj (sV 1) (aj (s2 gIx (s2 gIx (s2 gIx (sV 3) (sC (.int 1))) (sA (kj false 2 ak) (aj (sV 1) (aj (sA rm (aj (s2 gIx (sV 3) (sC (.int 1))) dq)) dq)))) (sC (.int 1))) dq))) oN (oS (sC (.int 15)))))
 sNx)
 (jd (km 5 (sMS a6l (sC (.str "")) (aj (sZ (n6 (sRg v6 (aj (sA (kj false 2 ak) (aj (sV 1) (aj (sC (.int 17)) dq))) dq)) t1 (ad1 lq ak jz jk jr iz gw gm) [1,2])) dq)))
 (jd (km 6 (sA (kj false 3 gw) (aj (sV 1) (aj (sV 4) (aj (sV 2) dq)))))
 (jd (a7q (sIt (sA wk (aj (sV 4) (aj (sV 6) (aj (sV 5) (aj (sC (.str "")) (aj (sV 4) (aj (sV 5) dq)))))))) (kN 7) (a4q lq ak jz jk jr iz gw gm))
 (qg (sC (.bl true)))))))))))
def top(i:Nat):Stmt:=PySem.Challenge.pw_nearreach_k17_kinds_by_trying.main.body.getD i (.Pass ⟨0,0,0,0⟩)
structure Nm (mg:Str->Option Value):Prop where
 abs:mg "abs" = none
 bool:mg "bool" = none
 enumerate:mg "enumerate" = none
 int:mg "int" = none
 isinstance:mg "isinstance" = none
 len:mg "len" = none
 list:mg "list" = none
 max:mg "max" = none
 range:mg "range" = none
 set:mg "set" = none
 sorted:mg "sorted" = none
 sum:mg "sum" = none
 tuple:mg "tuple" = none
section
variable{P:Program}{w:World}{K:PySem.W.Frag}{mg:Str->Option Value}{base:Heap}{f:Addr}
theorem awx:FnScope ["shape"] ["shape"] (bj (top 1)):=⟨rfl,rfl,rfl,by decide +kernel,rfl,by decide +kernel,by decide +kernel⟩
theorem m_0{k:Nat}(cdv:Value)(A:Around)(outer:List Env)(s:Shared)(H:Hp)(E:XK)(hr:Room k (A.deeper (PyProof.Rows.envOfC "inner" (bj (top 1)) s.heap.objs.size f cdv))):MSs (a1c CX0 P w K mg base ["shape"] "inner" (bj (top 1)) f cdv A outer s H E).nox X0 (ji (top 1)) (ENG.a8e) :=
 have SC:=awx
 (aq (o9 (gq (my hr.u) jw (bx (c7 0) au (λ_ _=>rfl)) jx (jh _))
 (dh (jf (tu bh)))
 jg)
 (aq (o9 (PW.pt (aau (gq (my hr.u) jw (bx (c7 0) au (λ_ _=>rfl)) jx (jh _)) (a9f (gq (my hr.u) jw (bx (c7 0) au (λ_ _=>rfl)) jx (jh _)))))
 (dh (jf (bx (c7 0) au (λ_ _=>rfl))))
 jg)
 (dh (jf (tu (aa (bx (c7 0) au (λ_ _=>rfl)) bh))))))
theorem awy:FnScope ["shape", "word", "row", "under"] ["shape", "word"] (bj (top 3)):=⟨rfl,rfl,rfl,by decide +kernel,rfl,by decide +kernel,by decide +kernel⟩
theorem m_1{k:Nat}(M:Nm mg){a_2:Addr}{d_2:FuncData}{k_2:Nat}{F_2:SF}(D_2:Dn P w K mg base k_2 "ending_tree" ["shape", "word"] (n8 K 2 F_2) a_2 d_2)(h_2:k_2<=k)(cdv:Value)(A:Around)(outer:List Env)(s:Shared)(H:Hp)(E:XK)(hr:Room k (A.deeper (PyProof.Rows.envOfC "takes" (bj (top 3)) s.heap.objs.size f cdv))):MSs (a1c CX0 P w K mg base ["shape", "word", "row", "under"] "takes" (bj (top 3)) f cdv A outer s H E).nox X0 (ji (top 3)) (DRW.a8f F_2) :=
 have SC:=awy
 (aq (am7 (dg false D_2 (hr.mono h_2) rfl (aa (c7 0) (aa (c7 1) bh))) (aby rfl (zb (p7 (i:=2) SC.nd rfl (Or.inl rfl)) (zb (p7 (i:=3) SC.nd rfl (Or.inl rfl)) a7p))))
 (dh (jf (afo (a3k.or zx) a3l (qw (L2.CallR.or dz fu) lr rfl M.len o8 (aa (c7 1) bh)) (bx (c7 2) au (λ_ _=>rfl)) (by with_unfolding_all rfl)))))
theorem awz:FnScope ["shape", "word", "under", "rows", "row"] ["shape", "word"] (bj (top 4)):=⟨rfl,rfl,rfl,by decide +kernel,rfl,by decide +kernel,by decide +kernel⟩
theorem m_2{k:Nat}(M:Nm mg){a_2:Addr}{d_2:FuncData}{k_2:Nat}{F_2:SF}(D_2:Dn P w K mg base k_2 "ending_tree" ["shape", "word"] (n8 K 2 F_2) a_2 d_2)(h_2:k_2<=k){a_3:Addr}{d_3:FuncData}{k_3:Nat}{F_3:SF}(D_3:Dn P w K mg base k_3 "ends_from" ["shape", "rows", "word", "at"] (n8 K 4 F_3) a_3 d_3)(h_3:k_3<=k){a_0:Addr}{d_0:FuncData}{k_0:Nat}{F_0:SF}(D_0:Dn P w K mg base k_0 "inner" ["shape"] (n8 K 1 F_0) a_0 d_0)(h_0:k_0<=k)(cdv:Value)(A:Around)(outer:List Env)(s:Shared)(H:Hp)(E:XK)(hr:Room k (A.deeper (PyProof.Rows.envOfC "ending_tree" (bj (top 4)) s.heap.objs.size f cdv))):MSs (a1c CX0 P w K mg base ["shape", "word", "under", "rows", "row"] "ending_tree" (bj (top 4)) f cdv A outer s H E).nox X0 (ji (top 4)) (ENG.yc F_2 F_3 F_0) :=
 have SC:=awz
 (aq (a80 (i:=2) SC.nd rfl (Or.inl rfl) rfl (CSc.of (ts:=["part"]) (fr:=["word"]) (ix:=[1]) rfl rfl rfl rfl (by intro p hp;cases av.mp hp;rfl) rfl rfl rfl rfl) (qb (dg false D_0 (hr.mono h_0) rfl (aa (c7 0) bh))) (λ_ _ _ _=>(kh (i:=0) (show (["part", "word"]:List Str).Nodup by decide +kernel) rfl (Or.inl rfl) (.inr rfl))) uh (λ_ _ _ _=>(dg false D_2 (hr.mono h_2) rfl (aa (c7 0) (aa (c7 1) bh)))))
 (aq (gh (i:=3) SC.nd rfl (Or.inr rfl) (a0m (ul rfl (CSc.noFree (ts:=["row", "deeper"]) rfl (by decide +kernel) (by decide +kernel) (by decide +kernel)) (qb (c7 2)) (λ_ _ _ _=>alv rfl (a7d (kh (i:=0) (show (["row", "deeper"]:List Str).Nodup by decide +kernel) rfl (Or.inl rfl) (.inr rfl)) (a7d (kh (i:=1) (show (["row", "deeper"]:List Str).Nodup by decide +kernel) rfl (Or.inl rfl) (.inr rfl)) af0))) arh (λ_ _ _ _=>(c7 0)))))
 (aq (a80 (i:=4) SC.nd rfl (Or.inl rfl) rfl (CSc.of (ts:=["at"]) (fr:=["shape", "word", "rows"]) (ix:=[0,1,3]) rfl rfl rfl rfl (by intro p hp;simp only [aD,aN,cn] at hp;rcases hp with rfl | rfl | rfl<;>rfl) rfl rfl rfl rfl) (yj rfl M.range (aa (jj (qw (L2.CallR.or dz fu) lr rfl M.len o8 (aa (c7 1) bh)) au) bh)) (λ_ _ _ _=>(kh (i:=0) (show (["at", "shape", "word", "rows"]:List Str).Nodup by decide +kernel) rfl (Or.inl rfl) (.inr rfl))) uh (λ_ _ _ _=>(a5h (L2.CallR.or xr (za rfl)) a2r rfl M.tuple a4n (aa (dg false D_3 (hr.mono h_3) rfl (aa (c7 1) (aa (c7 3) (aa (c7 2) (aa (c7 0) bh))))) bh))))
 (dh (jf (tu (aa (a5h (L2.CallR.or xr (za rfl)) a2r rfl M.tuple a4n (aa (c7 4) bh)) (aa (c7 2) bh))))))))
theorem ax0:FnScope ["shape", "rows", "word", "at"] ["shape", "rows", "word", "at"] (bj (top 5)):=⟨rfl,rfl,rfl,by decide +kernel,rfl,by decide +kernel,by decide +kernel⟩
theorem m_3{k:Nat}(M:Nm mg){a_5:Addr}{d_5:FuncData}{k_5:Nat}{F_5:SF}(D_5:Dn P w K mg base k_5 "ends_in_turn" ["rows", "at"] (n8 K 2 F_5) a_5 d_5)(h_5:k_5<=k){a_6:Addr}{d_6:FuncData}{k_6:Nat}{F_6:SF}(D_6:Dn P w K mg base k_6 "ends_of_many" ["row", "at"] (n8 K 2 F_6) a_6 d_6)(h_6:k_6<=k){a_7:Addr}{d_7:FuncData}{k_7:Nat}{F_7:SF}(D_7:Dn P w K mg base k_7 "ends_of_times" ["row", "at", "low", "high"] (n8 K 4 F_7) a_7 d_7)(h_7:k_7<=k)(cdv:Value)(A:Around)(outer:List Env)(s:Shared)(H:Hp)(E:XK)(hr:Room k (A.deeper (PyProof.Rows.envOfC "ends_from" (bj (top 5)) s.heap.objs.size f cdv))):MSs (a1c CX0 P w K mg base ["shape", "rows", "word", "at"] "ends_from" (bj (top 5)) f cdv A outer s H E).nox X0 (ji (top 5)) (ENG.a0b F_5 F_6 F_7) :=
 have SC:=ax0
 (aq (o9 (gq (my hr.u) jw (bx (c7 0) au (λ_ _=>rfl)) jx (jh _))
 (dh (jf (am5 (PW.pt (abx (gq (a7e.or ud) a2p (c7 3) (qw (L2.CallR.or dz fu) lr rfl M.len o8 (aa (c7 2) bh)) (jh _)) (a7m (gq (a3k.or zx) a3l (bx (c7 2) (c7 3) (λ_ _=>rfl)) (bx (c7 0) au (λ_ _=>rfl)) (by with_unfolding_all rfl))))) (pq (aa (jj (c7 3) au) bh)) (pq bh))))
 jg)
 (aq (o9 (gq (my hr.u) jw (bx (c7 0) au (λ_ _=>rfl)) jx (jh _))
 (dh (jf (dg false D_5 (hr.mono h_5) rfl (aa (c7 1) (aa (c7 3) bh)))))
 jg)
 (aq (o9 (gq (my hr.u) jw (bx (c7 0) au (λ_ _=>rfl)) jx (jh _))
 (dh (jf (ah8 rfl M.sorted rfl (CSc.of (ts:=["row", "end"]) (fr:=["at"]) (ix:=[3]) rfl rfl rfl rfl (by intro p hp;cases av.mp hp;rfl) rfl rfl rfl rfl) (qb (c7 1)) (λ_ _ _ _=>kh (i:=0) (show (["row", "end", "at"]:List Str).Nodup by decide +kernel) rfl (Or.inl rfl) (.inr rfl)) (λ_ _ _ _=>(qb (bx (c7 0) (c7 2) (λ_ _=>rfl)))) (λ_ _ _ _=>kh (i:=1) (show (["row", "end", "at"]:List Str).Nodup by decide +kernel) rfl (Or.inl rfl) (.inr rfl)) (λ_ _ _ _=>(c7 1)))))
 jg)
 (aq (o9 (gq (my hr.u) jw (bx (c7 0) au (λ_ _=>rfl)) jx (jh _))
 (dh (jf (dg false D_6 (hr.mono h_6) rfl (aa (bx (c7 1) au (λ_ _=>rfl)) (aa (c7 3) bh)))))
 jg)
 (dh (jf (dg false D_7 (hr.mono h_7) rfl (aa (bx (c7 1) au (λ_ _=>rfl)) (aa (c7 3) (aa (bx (c7 0) au (λ_ _=>rfl)) (aa (bx (c7 0) au (λ_ _=>rfl)) bh)))))))))))
theorem ax1:FnScope ["row", "places"] ["row", "places"] (bj (top 6)):=⟨rfl,rfl,rfl,by decide +kernel,rfl,by decide +kernel,by decide +kernel⟩
theorem m_4{k:Nat}(M:Nm mg)(cdv:Value)(A:Around)(outer:List Env)(s:Shared)(H:Hp)(E:XK)(hr:Room k (A.deeper (PyProof.Rows.envOfC "stepped" (bj (top 6)) s.heap.objs.size f cdv))):MSs (a1c CX0 P w K mg base ["row", "places"] "stepped" (bj (top 6)) f cdv A outer s H E).nox X0 (ji (top 6)) (ENG.a9z) :=
 have SC:=ax1
 (dh (jf (ah8 rfl M.sorted rfl (CSc.of (ts:=["at", "end"]) (fr:=["row"]) (ix:=[0]) rfl rfl rfl rfl (by intro p hp;cases av.mp hp;rfl) rfl rfl rfl rfl) (qb (c7 1)) (λ_ _ _ _=>kh (i:=0) (show (["at", "end", "row"]:List Str).Nodup by decide +kernel) rfl (Or.inl rfl) (.inr rfl)) (λ_ _ _ _=>(qb (bx (c7 2) (c7 0) (λ_ _=>rfl)))) (λ_ _ _ _=>kh (i:=1) (show (["at", "end", "row"]:List Str).Nodup by decide +kernel) rfl (Or.inl rfl) (.inr rfl)) (λ_ _ _ _=>(c7 1)))))
theorem ax2:FnScope ["rows", "at", "places", "row"] ["rows", "at"] (bj (top 7)):=⟨rfl,rfl,rfl,by decide +kernel,rfl,by decide +kernel,by decide +kernel⟩
theorem m_5{k:Nat}{a_4:Addr}{d_4:FuncData}{k_4:Nat}{F_4:SF}(D_4:Dn P w K mg base k_4 "stepped" ["row", "places"] (n8 K 2 F_4) a_4 d_4)(h_4:k_4<=k)(cdv:Value)(A:Around)(outer:List Env)(s:Shared)(H:Hp)(E:XK)(hr:Room k (A.deeper (PyProof.Rows.envOfC "ends_in_turn" (bj (top 7)) s.heap.objs.size f cdv))):MSs (a1c CX0 P w K mg base ["rows", "at", "places", "row"] "ends_in_turn" (bj (top 7)) f cdv A outer s H E).nox X0 (ji (top 7)) (ENG.vm F_4) :=
 have SC:=ax2
 (aq (gh (i:=2) SC.nd rfl (Or.inl rfl) (a0m (pq (aa (c7 1) bh))))
 (aq (a0i bF rfl (qb (c7 0)) (p7 (i:=3) SC.nd rfl (Or.inl rfl)) (dh (gh (i:=2) SC.nd rfl (Or.inl rfl) (dg false D_4 (hr.mono h_4) rfl (aa (c7 3) (aa (c7 2) bh))))))
 (dh (jf (c7 2)))))
theorem ax3:FnScope ["row", "at", "places", "more"] ["row", "at"] (bj (top 8)):=⟨rfl,rfl,rfl,by decide +kernel,rfl,by decide +kernel,by decide +kernel⟩
theorem m_6{k:Nat}(M:Nm mg){a_4:Addr}{d_4:FuncData}{k_4:Nat}{F_4:SF}(D_4:Dn P w K mg base k_4 "stepped" ["row", "places"] (n8 K 2 F_4) a_4 d_4)(h_4:k_4<=k)(cdv:Value)(A:Around)(outer:List Env)(s:Shared)(H:Hp)(E:XK)(hr:Room k (A.deeper (PyProof.Rows.envOfC "ends_of_many" (bj (top 8)) s.heap.objs.size f cdv))):MSs (a1c CX0 P w K mg base ["row", "at", "places", "more"] "ends_of_many" (bj (top 8)) f cdv A outer s H E).nox X0 (ji (top 8)) (ENG.vo F_4) :=
 have SC:=ax3
 (aq (gh (i:=2) SC.nd rfl (Or.inl rfl) (a0m (pq bh)))
 (aq (gh (i:=3) SC.nd rfl (Or.inl rfl) (a0m (pq (aa (c7 1) bh))))
 (aq (a7o 100000 bF (gq aj3 ac3 (qw (L2.CallR.or dz fu) lr rfl M.len o8 (aa (c7 3) bh)) (qw (L2.CallR.or dz fu) lr rfl M.len o8 (aa (c7 2) bh)) (jh _)) (aq (gh (i:=2) SC.nd rfl (Or.inl rfl) (c7 3))
 (dh (gh (i:=3) SC.nd rfl (Or.inl rfl) (a0m (ahe rfl M.sorted rfl M.set rfl (c7 2) (dg false D_4 (hr.mono h_4) rfl (aa (c7 0) (aa (c7 2) bh)))))))))
 (dh (jf (c7 2))))))
theorem ax4:FnScope ["row", "at", "low", "high", "found", "places", "count"] ["row", "at", "low", "high"] (bj (top 9)):=⟨rfl,rfl,rfl,by decide +kernel,rfl,by decide +kernel,by decide +kernel⟩
theorem m_7{k:Nat}(M:Nm mg){a_4:Addr}{d_4:FuncData}{k_4:Nat}{F_4:SF}(D_4:Dn P w K mg base k_4 "stepped" ["row", "places"] (n8 K 2 F_4) a_4 d_4)(h_4:k_4<=k)(cdv:Value)(A:Around)(outer:List Env)(s:Shared)(H:Hp)(E:XK)(hr:Room k (A.deeper (PyProof.Rows.envOfC "ends_of_times" (bj (top 9)) s.heap.objs.size f cdv))):MSs (a1c CX0 P w K mg base ["row", "at", "low", "high", "found", "places", "count"] "ends_of_times" (bj (top 9)) f cdv A outer s H E).nox X0 (ji (top 9)) (ENG.uq F_4) :=
 have SC:=ax4
 (aq (gh (i:=4) SC.nd rfl (Or.inl rfl) (pq bh))
 (aq (gh (i:=5) SC.nd rfl (Or.inl rfl) (a0m (pq (aa (c7 1) bh))))
 (aq (a0i bF rfl (yj rfl M.range (aa (jj (c7 3) au) bh)) (p7 (i:=6) SC.nd rfl (Or.inl rfl)) (aq (o9 (gq an8 afz (c7 6) (c7 2) (jh _))
 (dh (a5i (ag3 PySem.F.slot_list_extend PySem.F.type_list_extend (MtR.or ae5 adz) ajy (c7 4) (aa (c7 5) bh))))
 jg)
 (dh (gh (i:=5) SC.nd rfl (Or.inl rfl) (dg false D_4 (hr.mono h_4) rfl (aa (c7 0) (aa (c7 5) bh)))))))
 (dh (jf (abb rfl M.sorted rfl M.set rfl (c7 4)))))))
theorem ax5:FnScope ["book", "word", "tongue", "rules", "number", "name", "shape"] ["book", "word"] (bj (top 11)):=⟨rfl,rfl,rfl,by decide +kernel,rfl,by decide +kernel,by decide +kernel⟩
theorem m_8{k:Nat}(M:Nm mg){a_1:Addr}{d_1:FuncData}{k_1:Nat}{F_1:SF}(D_1:Dn P w K mg base k_1 "takes" ["shape", "word"] (n8 K 2 F_1) a_1 d_1)(h_1:k_1<=k)(cdv:Value)(A:Around)(outer:List Env)(s:Shared)(H:Hp)(E:XK)(hr:Room k (A.deeper (PyProof.Rows.envOfC "kind_by_trying" (bj (top 11)) s.heap.objs.size f cdv))):MSs (a1c CX0 P w K mg base ["book", "word", "tongue", "rules", "number", "name", "shape"] "kind_by_trying" (bj (top 11)) f cdv A outer s H E).nox X0 (ji (top 11)) (sr F_1) :=
 have SC:=ax5
 (aq (am7 (c7 0) (aby rfl (zb (p7 (i:=2) SC.nd rfl (Or.inl rfl)) (zb (p7 (i:=3) SC.nd rfl (Or.inl rfl)) a7p))))
 (aq (o9 (gq (my hr.u) jw (c7 1) jx (jh _))
 (dh (jf (ac2 au)))
 jg)
 (aq (a0i bF rfl (aol rfl M.enumerate (c7 3)) (aby rfl (zb (p7 (i:=4) SC.nd rfl (Or.inl rfl)) (zb (aby rfl (zb (p7 (i:=5) SC.nd rfl (Or.inl rfl)) (zb (p7 (i:=6) SC.nd rfl (Or.inl rfl)) a7p))) a7p))) (dh (o9 (afq (dg false D_1 (hr.mono h_1) rfl (aa (c7 6) (aa (c7 1) bh))))
 (dh (jf (c7 4)))
 jg)))
 (dh (jf (ac2 au))))))
theorem ax6:FnScope ["_law_script", "_law_cells"] ["_law_script"] (bj (top 13)):=⟨rfl,rfl,rfl,by decide +kernel,rfl,by decide +kernel,by decide +kernel⟩
theorem m_9{k:Nat}(M:Nm mg)(cdv:Value)(A:Around)(outer:List Env)(s:Shared)(H:Hp)(E:XK)(hr:Room k (A.deeper (PyProof.Rows.envOfC "_law_source" (bj (top 13)) s.heap.objs.size f cdv))):MSs (a1c CX0 P w K mg base ["_law_script", "_law_cells"] "_law_source" (bj (top 13)) f cdv A outer s H E).nox X0 (ji (top 13)) (SRC.zc) :=
 have SC:=ax6
 (aq (a80 (i:=1) SC.nd rfl (Or.inl rfl) rfl (CSc.noFree (ts:=["_law_cell"]) rfl (by decide +kernel) (by decide +kernel) (by decide +kernel)) (qb (a0m (ou (c7 0) wu (ww au)))) (λ_ _ _ _=>(kh (i:=0) (show (["_law_cell"]:List Str).Nodup by decide +kernel) rfl (Or.inl rfl) (.inr rfl))) uh (λ_ _ _ _=>(jj (a3p au (qw aj5 anz rfl M.abs ar7 (aa (c7 0) bh))) (a5h af7 ao1 rfl M.int am3 (aa (afo (a7e.or ud) a2p (c7 0) au (jh _)) bh)))))
 (dh (jf (pq (aa (c7 1) (aa au (aa au (aa au (aa (a5k (qw (a6s rfl) ag5 rfl M.sum amg (aa (c7 1) bh)) au) bh)))))))))
theorem asr:FnScope ["_law_left", "_law_many", "_law_cell", "_law_told"] ["_law_left", "_law_many"] (bj (top 14)):=⟨rfl,rfl,rfl,by decide +kernel,rfl,by decide +kernel,by decide +kernel⟩
theorem ay4{k:Nat}(M:Nm mg)(cdv:Value)(A:Around)(outer:List Env)(s:Shared)(H:Hp)(E:XK)(hr:Room k (A.deeper (PyProof.Rows.envOfC "_law_draw" (bj (top 14)) s.heap.objs.size f cdv))):MSs (a1c CX0 P w K mg base ["_law_left", "_law_many", "_law_cell", "_law_told"] "_law_draw" (bj (top 14)) f cdv A outer s H E).nox X0 (ji (top 14)) (SRC.a1h) :=
 have SC:=asr
 (aq (a82 (c7 0) au au (a3h.or uz) a1e)
 (aq (o9 (PW.pt (abx (gq (my hr.u) jw (bx (c7 0) au (λ_ _=>rfl)) au (jh _)) (a7m (gq (a7e.or ud) a2p (bx (c7 0) au (λ_ _=>rfl)) (qw (L2.CallR.or dz fu) lr rfl M.len o8 (aa (bx (c7 0) au (λ_ _=>rfl)) bh)) (jh _)))))
 (aq (gh (i:=2) SC.nd rfl (Or.inl rfl) (bx (bx (c7 0) au (λ_ _=>rfl)) (bx (c7 0) au (λ_ _=>rfl)) (λ_ _=>rfl)))
 (aq (a82 (c7 0) au au (a3h.or uz) a1e)
 (dh (o9 (gq an8 afz (c7 2) (afy au au) (jh _))
 (dh (am6 (c7 2) (c7 0) au))
 (dh (am6 (a5k (jj (a3p (bx (c7 0) au (λ_ _=>rfl)) au) (c7 2)) au) (c7 0) au))))))
 jg)
 (aq (o9 (gq aj3 ac3 (bx (c7 0) au (λ_ _=>rfl)) au (jh _))
 (aq (gh (i:=3) SC.nd rfl (Or.inl rfl) (a5k (bx (c7 0) au (λ_ _=>rfl)) (c7 1)))
 (aq (a82 (c7 0) au (c7 1) aj2 afv)
 (dh (jf (c7 3)))))
 jg)
 (aq (gh (i:=3) SC.nd rfl (Or.inl rfl) (a5k (afy (jj (jj (bx (c7 0) au (λ_ _=>rfl)) au) (a3p (bx (c7 0) au (λ_ _=>rfl)) au)) au) au))
 (dh (jf (a5k (afx (a5k (afy (jj (a3p (c7 3) au) (bx (c7 0) au (λ_ _=>rfl))) au) au) au) (c7 1))))))))
theorem ass:FnScope ["_law_some"] [] (bj (top 15)):=⟨rfl,rfl,rfl,by decide +kernel,rfl,by decide +kernel,by decide +kernel⟩
theorem ay5{k:Nat}(cdv:Value)(A:Around)(outer:List Env)(s:Shared)(H:Hp)(E:XK)(hr:Room k (A.deeper (PyProof.Rows.envOfC "_law_signs" (bj (top 15)) s.heap.objs.size f cdv))):MSs (a1c CX0 P w K mg base ["_law_some"] "_law_signs" (bj (top 15)) f cdv A outer s H E).nox X0 (ji (top 15)) (SRC.yp) :=
 have SC:=ass
 (aq (gh (i:=0) SC.nd rfl (Or.inl rfl) jx)
 (dh (jf (jj (c7 0) jx))))
theorem asu:FnScope ["_law_left", "_law_rest", "_law_told", "_law_k", "_law_at"] ["_law_left"] (bj (top 16)):=⟨rfl,rfl,rfl,by decide +kernel,rfl,by decide +kernel,by decide +kernel⟩
theorem ay6{k:Nat}(M:Nm mg){a_10:Addr}{d_10:FuncData}{k_10:Nat}{F_10:SF}(D_10:Dn P w K mg base k_10 "_law_draw" ["_law_left", "_law_many"] (n8 K 2 F_10) a_10 d_10)(h_10:k_10<=k){a_11:Addr}{d_11:FuncData}{k_11:Nat}{F_11:SF}(D_11:Dn P w K mg base k_11 "_law_signs" [] (n8 K 0 F_11) a_11 d_11)(h_11:k_11<=k)(cdv:Value)(A:Around)(outer:List Env)(s:Shared)(H:Hp)(E:XK)(hr:Room k (A.deeper (PyProof.Rows.envOfC "_law_tongue" (bj (top 16)) s.heap.objs.size f cdv))):MSs (a1c CX0 P w K mg base ["_law_left", "_law_rest", "_law_told", "_law_k", "_law_at"] "_law_tongue" (bj (top 16)) f cdv A outer s H E).nox X0 (ji (top 16)) (SRC.zf F_10 F_11) :=
 have SC:=asu
 (aq (gh (i:=1) SC.nd rfl (Or.inl rfl) (agh false D_11 (hr.mono h_11) rfl))
 (aq (gh (i:=2) SC.nd rfl (Or.inl rfl) jx)
 (aq (a0i bF rfl (yj rfl M.range (aa (jj au (dg false D_10 (hr.mono h_10) rfl (aa (c7 0) (aa au bh)))) bh)) (p7 (i:=3) SC.nd rfl (Or.inl rfl)) (aq (gh (i:=4) SC.nd rfl (Or.inl rfl) (dg false D_10 (hr.mono h_10) rfl (aa (c7 0) (aa (qw (L2.CallR.or dz fu) lr rfl M.len o8 (aa (c7 1) bh)) bh))))
 (aq (a4c (i:=2) SC.nd rfl (Or.inl rfl) (a3h.or uz) a1e (bx (c7 1) (c7 4) (λ_ _=>rfl)))
 (dh (gh (i:=1) SC.nd rfl (Or.inl rfl) (jj (ou (c7 1) wu (ww (c7 4))) (ou (c7 1) (ww (jj (c7 4) au)) wu)))))))
 (dh (jf (c7 2))))))
theorem asv:FnScope ["_law_left", "_law_tongue_here", "_law_rest", "_law_told", "_law_many", "_law_k", "_law_at"] ["_law_left", "_law_tongue_here"] (bj (top 17)):=⟨rfl,rfl,rfl,by decide +kernel,rfl,by decide +kernel,by decide +kernel⟩
theorem ay7{k:Nat}(M:Nm mg){a_10:Addr}{d_10:FuncData}{k_10:Nat}{F_10:SF}(D_10:Dn P w K mg base k_10 "_law_draw" ["_law_left", "_law_many"] (n8 K 2 F_10) a_10 d_10)(h_10:k_10<=k)(cdv:Value)(A:Around)(outer:List Env)(s:Shared)(H:Hp)(E:XK)(hr:Room k (A.deeper (PyProof.Rows.envOfC "_law_ones" (bj (top 17)) s.heap.objs.size f cdv))):MSs (a1c CX0 P w K mg base ["_law_left", "_law_tongue_here", "_law_rest", "_law_told", "_law_many", "_law_k", "_law_at"] "_law_ones" (bj (top 17)) f cdv A outer s H E).nox X0 (ji (top 17)) (DRW.a1i F_10) :=
 have SC:=asv
 (aq (gh (i:=2) SC.nd rfl (Or.inl rfl) (c7 1))
 (aq (gh (i:=3) SC.nd rfl (Or.inl rfl) jx)
 (aq (gh (i:=4) SC.nd rfl (Or.inl rfl) au)
 (aq (o9 (gq (my hr.u) jw (dg false D_10 (hr.mono h_10) rfl (aa (c7 0) (aa au bh))) au (jh _))
 (dh (gh (i:=4) SC.nd rfl (Or.inl rfl) (jj au (dg false D_10 (hr.mono h_10) rfl (aa (c7 0) (aa (qw (L2.CallR.or dz fu) lr rfl M.len o8 (aa (c7 1) bh)) bh))))))
 jg)
 (aq (a0i bF rfl (yj rfl M.range (aa (c7 4) bh)) (p7 (i:=5) SC.nd rfl (Or.inl rfl)) (aq (gh (i:=6) SC.nd rfl (Or.inl rfl) (dg false D_10 (hr.mono h_10) rfl (aa (c7 0) (aa (qw (L2.CallR.or dz fu) lr rfl M.len o8 (aa (c7 2) bh)) bh))))
 (aq (a4c (i:=3) SC.nd rfl (Or.inl rfl) (a3h.or uz) a1e (bx (c7 2) (c7 6) (λ_ _=>rfl)))
 (dh (gh (i:=2) SC.nd rfl (Or.inl rfl) (jj (ou (c7 2) wu (ww (c7 6))) (ou (c7 2) (ww (jj (c7 6) au)) wu)))))))
 (dh (jf (c7 3))))))))
theorem asw:FnScope ["_law_shape_here"] ["_law_shape_here"] (bj (top 18)):=⟨rfl,rfl,rfl,by decide +kernel,rfl,by decide +kernel,by decide +kernel⟩
theorem ay8{k:Nat}(M:Nm mg){a_14:Addr}{als:FuncData}{k_14:Nat}{F_14:SF}(D_14:Dn P w K mg base k_14 "_law_weight" ["_law_shape_here"] (n8 K 1 F_14) a_14 als)(h_14:k_14<=k)(cdv:Value)(A:Around)(outer:List Env)(s:Shared)(H:Hp)(E:XK)(hr:Room k (A.deeper (PyProof.Rows.envOfC "_law_weight" (bj (top 18)) s.heap.objs.size f cdv))):MSs (a1c CX0 P w K mg base ["_law_shape_here"] "_law_weight" (bj (top 18)) f cdv A outer s H E).nox X0 (ji (top 18)) (DRW.vz F_14) :=
 have SC:=asw
 (aq (o9 (gq (my hr.u) jw (bx (c7 0) au (λ_ _=>rfl)) jx (jh _))
 (dh (jf au))
 jg)
 (aq (o9 (gq (a3k.or zx) a3l (bx (c7 0) au (λ_ _=>rfl)) (tu (aa jx (aa jx bh))) (by with_unfolding_all rfl))
 (dh (jf (qw (a6s rfl) ag5 rfl M.sum amg (aa (a0m (ul rfl (CSc.noFree (ts:=["_law_part"]) rfl (by decide +kernel) (by decide +kernel) (by decide +kernel)) (qb (bx (c7 0) au (λ_ _=>rfl))) (λ_ _ _ _=>(kh (i:=0) (show (["_law_part"]:List Str).Nodup by decide +kernel) rfl (Or.inl rfl) (.inr rfl))) uh (λ_ _ _ _=>(dg false D_14 (hr.mono h_14) rfl (aa (c7 0) bh))))) bh))))
 jg)
 (aq (o9 (gq (my hr.u) jw (bx (c7 0) au (λ_ _=>rfl)) jx (jh _))
 (dh (jf (dg false D_14 (hr.mono h_14) rfl (aa (bx (c7 0) au (λ_ _=>rfl)) bh))))
 jg)
 (dh (jf (a3p (bx (c7 0) au (λ_ _=>rfl)) (dg false D_14 (hr.mono h_14) rfl (aa (bx (c7 0) au (λ_ _=>rfl)) bh))))))))
theorem asx:FnScope ["_law_left", "_law_tongue_here", "_law_deep", "_law_purse", "_law_room", "_law_sort", "_law_high", "_law_low", "_law_parts", "_law_k", "_law_part"] ["_law_left", "_law_tongue_here", "_law_deep", "_law_purse", "_law_room"] (bj (top 19)):=⟨rfl,rfl,rfl,by decide +kernel,rfl,by decide +kernel,by decide +kernel⟩
theorem ay9{k:Nat}(M:Nm mg){a_10:Addr}{d_10:FuncData}{k_10:Nat}{F_10:SF}(D_10:Dn P w K mg base k_10 "_law_draw" ["_law_left", "_law_many"] (n8 K 2 F_10) a_10 d_10)(h_10:k_10<=k){a_13:Addr}{d_13:FuncData}{k_13:Nat}{F_13:SF}(D_13:Dn P w K mg base k_13 "_law_ones" ["_law_left", "_law_tongue_here"] (n8 K 2 F_13) a_13 d_13)(h_13:k_13<=k){a_15:Addr}{au7:FuncData}{k_15:Nat}{F_15:SF}(D_15:Dn P w K mg base k_15 "_law_shape" ["_law_left", "_law_tongue_here", "_law_deep", "_law_purse", "_law_room"] (n8 K 5 F_15) a_15 au7)(h_15:k_15<=k){a_14:Addr}{als:FuncData}{k_14:Nat}{F_14:SF}(D_14:Dn P w K mg base k_14 "_law_weight" ["_law_shape_here"] (n8 K 1 F_14) a_14 als)(h_14:k_14<=k)(cdv:Value)(A:Around)(outer:List Env)(s:Shared)(H:Hp)(E:XK)(hr:Room k (A.deeper (PyProof.Rows.envOfC "_law_shape" (bj (top 19)) s.heap.objs.size f cdv))):MSs (a1c CX0 P w K mg base ["_law_left", "_law_tongue_here", "_law_deep", "_law_purse", "_law_room", "_law_sort", "_law_high", "_law_low", "_law_parts", "_law_k", "_law_part"] "_law_shape" (bj (top 19)) f cdv A outer s H E).nox X0 (ji (top 19)) (DRW.yu F_10 F_13 F_15 F_14) :=
 have SC:=asx
 (aq (a82 (c7 4) au au aam a7t)
 (aq (gh (i:=5) SC.nd rfl (Or.inl rfl) (dg false D_10 (hr.mono h_10) rfl (aa (c7 0) (aa au bh))))
 (aq (o9 (PW.pt (aau (gq (my hr.u) jw (c7 2) au (jh _)) (aau (gq (a7e.or ud) a2p (bx (c7 4) au (λ_ _=>rfl)) au (jh _)) (a9f (gq (my hr.u) jw (c7 5) au (jh _))))))
 (aq (o9 (PW.pt (aau (gq (my hr.u) jw (c7 3) au (jh _)) (a9f (gq (my hr.u) jw (dg false D_10 (hr.mono h_10) rfl (aa (c7 0) (aa au bh))) au (jh _)))))
 (dh (jf (tu (aa jx (aa (tu bh) bh)))))
 jg)
 (dh (jf (tu (aa jx (aa (dg false D_13 (hr.mono h_13) rfl (aa (c7 0) (aa (c7 1) bh))) bh))))))
 jg)
 (aq (o9 (gq (a7e.or ud) a2p (c7 5) au (jh _))
 (dh (jf (tu (aa jx (aa (dg false D_15 (hr.mono h_15) rfl (aa (c7 0) (aa (c7 1) (aa (a9i (c7 2) au) (aa (c7 3) (aa (c7 4) bh)))))) bh)))))
 jg)
 (aq (o9 (gq (a7e.or ud) a2p (c7 5) au (jh _))
 (aq (gh (i:=6) SC.nd rfl (Or.inl rfl) (dg false D_10 (hr.mono h_10) rfl (aa (c7 0) (aa au bh))))
 (aq (gh (i:=7) SC.nd rfl (Or.inl rfl) (dg false D_10 (hr.mono h_10) rfl (aa (c7 0) (aa (jj (c7 6) au) bh))))
 (dh (jf (tu (aa jx (aa (dg false D_15 (hr.mono h_15) rfl (aa (c7 0) (aa (c7 1) (aa (a9i (c7 2) au) (aa (afx (c7 3) (qw (af6 rfl) ajk rfl M.max arv (aa au (aa (c7 6) bh)))) (aa (c7 4) bh)))))) (aa (c7 7) (aa (c7 6) bh)))))))))
 jg)
 (aq (gh (i:=8) SC.nd rfl (Or.inl rfl) (pq bh))
 (aq (a0i bF rfl (yj rfl M.range (aa (bx (tu (aa au (aa au (aa au (aa au (aa au (aa au (aa au (aa au bh))))))))) (dg false D_10 (hr.mono h_10) rfl (aa (c7 0) (aa au bh))) (λ_ _=>rfl)) bh)) (p7 (i:=9) SC.nd rfl (Or.inl rfl)) (dh (o9 (gq aj3 ac3 (bx (c7 4) au (λ_ _=>rfl)) au (jh _))
 (aq (gh (i:=10) SC.nd rfl (Or.inl rfl) (dg false D_15 (hr.mono h_15) rfl (aa (c7 0) (aa (c7 1) (aa (a9i (c7 2) au) (aa (c7 3) (aa (c7 4) bh)))))))
 (aq (a4c (i:=3) SC.nd rfl (Or.inl rfl) aam a7t (dg false D_14 (hr.mono h_14) rfl (aa (c7 10) bh)))
 (dh (a5i (ag3 c9 dk a2l a7u (c7 8) (aa (c7 10) bh))))))
 jg)))
 (dh (jf (tu (aa (bx (tu (aa jx (aa jx bh))) (afx (c7 5) au) (λ_ _=>rfl)) (aa (a5h (L2.CallR.or xr (za rfl)) a2r rfl M.tuple a4n (aa (c7 8) bh)) bh))))))))))))
theorem asy:FnScope ["_law_left", "_law_names", "_law_letters", "_law_name_here", "_law_at", "_law_first", "_law_tried", "_law_letter"] ["_law_left", "_law_names"] (bj (top 20)):=⟨rfl,rfl,rfl,by decide +kernel,rfl,by decide +kernel,by decide +kernel⟩
theorem aya{k:Nat}(M:Nm mg){a_10:Addr}{d_10:FuncData}{k_10:Nat}{F_10:SF}(D_10:Dn P w K mg base k_10 "_law_draw" ["_law_left", "_law_many"] (n8 K 2 F_10) a_10 d_10)(h_10:k_10<=k)(cdv:Value)(A:Around)(outer:List Env)(s:Shared)(H:Hp)(E:XK)(hr:Room k (A.deeper (PyProof.Rows.envOfC "_law_name" (bj (top 20)) s.heap.objs.size f cdv))):MSs (a1c CX0 P w K mg base ["_law_left", "_law_names", "_law_letters", "_law_name_here", "_law_at", "_law_first", "_law_tried", "_law_letter"] "_law_name" (bj (top 20)) f cdv A outer s H E).nox X0 (ji (top 20)) (DRW.a1j F_10) :=
 have SC:=asy
 (aq (gh (i:=2) SC.nd rfl (Or.inr rfl) jx)
 (aq (gh (i:=3) SC.nd rfl (Or.inl rfl) (ajl eV eW aas a7w jx (aa (a0m (ul rfl (CSc.of (ts:=["_law_k"]) (fr:=["_law_left", "_law_letters"]) (ix:=[0,2]) rfl rfl rfl rfl (by intro p hp;simp only [aD,aN,cn] at hp;rcases hp with rfl | rfl<;>rfl) rfl rfl rfl rfl) (yj rfl M.range (aa (jj au (dg false D_10 (hr.mono h_10) rfl (aa (c7 0) (aa au bh)))) bh)) (λ_ _ _ _=>(kh (i:=0) (show (["_law_k", "_law_left", "_law_letters"]:List Str).Nodup by decide +kernel) rfl (Or.inl rfl) (.inr rfl))) uh (λ_ _ _ _=>(bx (c7 2) (dg false D_10 (hr.mono h_10) rfl (aa (c7 1) (aa au bh))) (λ_ _=>rfl))))) bh)))
 (aq (o9 (PW.pt (abx (gq (ash hr.u) (agr true) (c7 1) (a0m (pq bh)) (jh _)) (a7m (gq (my hr.u) jw (dg false D_10 (hr.mono h_10) rfl (aa (c7 0) (aa au bh))) au (jh _)))))
 (dh (gh (i:=3) SC.nd rfl (Or.inl rfl) (bx (c7 1) (ac2 au) (λ_ _=>rfl))))
 jg)
 (aq (gh (i:=4) SC.nd rfl (Or.inl rfl) (dg false D_10 (hr.mono h_10) rfl (aa (c7 0) (aa (qw (L2.CallR.or dz fu) lr rfl M.len o8 (aa (c7 3) bh)) bh))))
 (aq (gh (i:=5) SC.nd rfl (Or.inl rfl) (ajl PySem.F.slot_str_index PySem.F.type_str_index ajd ag4 (c7 2) (aa (bx (c7 3) (c7 4) (λ_ _=>rfl)) bh)))
 (aq (gh (i:=6) SC.nd rfl (Or.inl rfl) au)
 (aq (a7o 100000 bF (gq (a3k.or zx) a3l (c7 3) (c7 1) (by with_unfolding_all rfl)) (aq (a4c (i:=6) SC.nd rfl (Or.inl rfl) (a3h.or uz) a1e au)
 (aq (gh (i:=7) SC.nd rfl (Or.inl rfl) (bx (c7 2) (a5k (jj (c7 5) (c7 6)) au) (λ_ _=>rfl)))
 (dh (gh (i:=3) SC.nd rfl (Or.inl rfl) (jj (jj (ou (c7 3) wu (ww (c7 4))) (c7 7)) (ou (c7 3) (ww (jj (c7 4) au)) wu)))))))
 (dh (jf (c7 3))))))))))
theorem asz:FnScope ["_law_left", "_law_tongue_here", "_law_purse", "_law_names", "_law_rules", "_law_k", "_law_deep", "_law_shape_here", "_law_name_here"] ["_law_left", "_law_tongue_here", "_law_purse"] (bj (top 21)):=⟨rfl,rfl,rfl,by decide +kernel,rfl,by decide +kernel,by decide +kernel⟩
theorem ayb{k:Nat}(M:Nm mg){a_10:Addr}{d_10:FuncData}{k_10:Nat}{F_10:SF}(D_10:Dn P w K mg base k_10 "_law_draw" ["_law_left", "_law_many"] (n8 K 2 F_10) a_10 d_10)(h_10:k_10<=k){a_16:Addr}{d_16:FuncData}{k_16:Nat}{F_16:SF}(D_16:Dn P w K mg base k_16 "_law_name" ["_law_left", "_law_names"] (n8 K 2 F_16) a_16 d_16)(h_16:k_16<=k){a_15:Addr}{au7:FuncData}{k_15:Nat}{F_15:SF}(D_15:Dn P w K mg base k_15 "_law_shape" ["_law_left", "_law_tongue_here", "_law_deep", "_law_purse", "_law_room"] (n8 K 5 F_15) a_15 au7)(h_15:k_15<=k){a_14:Addr}{als:FuncData}{k_14:Nat}{F_14:SF}(D_14:Dn P w K mg base k_14 "_law_weight" ["_law_shape_here"] (n8 K 1 F_14) a_14 als)(h_14:k_14<=k)(cdv:Value)(A:Around)(outer:List Env)(s:Shared)(H:Hp)(E:XK)(hr:Room k (A.deeper (PyProof.Rows.envOfC "_law_book" (bj (top 21)) s.heap.objs.size f cdv))):MSs (a1c CX0 P w K mg base ["_law_left", "_law_tongue_here", "_law_purse", "_law_names", "_law_rules", "_law_k", "_law_deep", "_law_shape_here", "_law_name_here"] "_law_book" (bj (top 21)) f cdv A outer s H E).nox X0 (ji (top 21)) (DRW.a1k F_10 F_16 F_15 F_14) :=
 have SC:=asz
 (aq (gh (i:=3) SC.nd rfl (Or.inl rfl) (pq bh))
 (aq (gh (i:=4) SC.nd rfl (Or.inl rfl) (pq bh))
 (aq (a0i bF rfl (yj rfl M.range (aa (bx (tu (aa au (aa au (aa au (aa au (aa au (aa au (aa au (aa au bh))))))))) (dg false D_10 (hr.mono h_10) rfl (aa (c7 0) (aa au bh))) (λ_ _=>rfl)) bh)) (p7 (i:=5) SC.nd rfl (Or.inl rfl)) (aq (gh (i:=6) SC.nd rfl (Or.inl rfl) (jj au (dg false D_10 (hr.mono h_10) rfl (aa (c7 0) (aa au bh)))))
 (aq (gh (i:=7) SC.nd rfl (Or.inl rfl) (dg false D_15 (hr.mono h_15) rfl (aa (c7 0) (aa (c7 1) (aa (c7 6) (aa (c7 2) (aa (pq (aa au bh)) bh)))))))
 (aq (gh (i:=8) SC.nd rfl (Or.inl rfl) (dg false D_16 (hr.mono h_16) rfl (aa (c7 0) (aa (c7 3) bh))))
 (aq (a4c (i:=2) SC.nd rfl (Or.inl rfl) aam a7t (dg false D_14 (hr.mono h_14) rfl (aa (c7 7) bh)))
 (aq (a5i (ag3 c9 dk a2l a7u (c7 3) (aa (c7 8) bh)))
 (dh (a5i (ag3 c9 dk a2l a7u (c7 4) (aa (tu (aa (c7 8) (aa (c7 7) bh))) bh))))))))))
 (dh (jf (tu (aa (c7 1) (aa (a5h (L2.CallR.or xr (za rfl)) a2r rfl M.tuple a4n (aa (c7 4) bh)) bh))))))))
theorem at3:FnScope ["_law_shape_here", "_law_word_here", "_law_places", "_law_parts", "_law_low", "_law_told", "_law_here", "_law_count"] ["_law_shape_here", "_law_word_here"] (bj (top 22)):=⟨rfl,rfl,rfl,by decide +kernel,rfl,by decide +kernel,by decide +kernel⟩
theorem ayc{k:Nat}(M:Nm mg){a_18:Addr}{au8:FuncData}{k_18:Nat}{F_18:SF}(D_18:Dn P w K mg base k_18 "_law_reads" ["_law_shape_here", "_law_word_here"] (n8 K 2 F_18) a_18 au8)(h_18:k_18<=k){a_20:Addr}{d_20:FuncData}{k_20:Nat}{F_20:SF}(D_20:Dn P w K mg base k_20 "_law_reads_either" ["_law_parts", "_law_places"] (n8 K 2 F_20) a_20 d_20)(h_20:k_20<=k){a_21:Addr}{d_21:FuncData}{k_21:Nat}{F_21:SF}(D_21:Dn P w K mg base k_21 "_law_reads_from" ["_law_rows", "_law_here"] (n8 K 2 F_21) a_21 d_21)(h_21:k_21<=k){a_19:Addr}{d_19:FuncData}{k_19:Nat}{F_19:SF}(D_19:Dn P w K mg base k_19 "_law_reads_often" ["_law_rows"] (n8 K 1 F_19) a_19 d_19)(h_19:k_19<=k)(cdv:Value)(A:Around)(outer:List Env)(s:Shared)(H:Hp)(E:XK)(hr:Room k (A.deeper (PyProof.Rows.envOfC "_law_reads" (bj (top 22)) s.heap.objs.size f cdv))):MSs (a1c CX0 P w K mg base ["_law_shape_here", "_law_word_here", "_law_places", "_law_parts", "_law_low", "_law_told", "_law_here", "_law_count"] "_law_reads" (bj (top 22)) f cdv A outer s H E).nox X0 (ji (top 22)) (DRW.qi F_18 F_20 F_21 F_19) :=
 have SC:=at3
 (aq (gh (i:=2) SC.nd rfl (Or.inl rfl) (a0m (ak4 rfl rfl M.list rfl M.range (aa (jj (qw (L2.CallR.or dz fu) lr rfl M.len o8 (aa (c7 1) bh)) au) bh))))
 (aq (o9 (gq (my hr.u) jw (bx (c7 0) au (λ_ _=>rfl)) jx (jh _))
 (dh (jf (ul rfl (CSc.of (ts:=["_law_k"]) (fr:=["_law_shape_here", "_law_word_here"]) (ix:=[0,1]) rfl rfl rfl rfl (by intro p hp;simp only [aD,aN,cn] at hp;rcases hp with rfl | rfl<;>rfl) rfl rfl rfl rfl) (qb (c7 2)) (λ_ _ _ _=>(kh (i:=0) (show (["_law_k", "_law_shape_here", "_law_word_here"]:List Str).Nodup by decide +kernel) rfl (Or.inl rfl) (.inr rfl))) uh (λ_ _ _ _=>(am5 (PW.pt (abx (gq (a7e.or ud) a2p (c7 0) (qw (L2.CallR.or dz fu) lr rfl M.len o8 (aa (c7 2) bh)) (jh _)) (a7m (gq (a3k.or zx) a3l (bx (c7 2) (c7 0) (λ_ _=>rfl)) (bx (c7 1) au (λ_ _=>rfl)) (by with_unfolding_all rfl))))) (a0m (pq (aa (jj (c7 0) au) bh))) (a0m (pq bh)))))))
 jg)
 (aq (o9 (gq (my hr.u) jw (bx (c7 0) au (λ_ _=>rfl)) jx (jh _))
 (dh (jf (dg false D_19 (hr.mono h_19) rfl (aa (dg false D_18 (hr.mono h_18) rfl (aa (bx (c7 0) au (λ_ _=>rfl)) (aa (c7 1) bh))) bh))))
 jg)
 (aq (o9 (gq (my hr.u) jw (bx (c7 0) au (λ_ _=>rfl)) jx (jh _))
 (dh (jf (dg false D_20 (hr.mono h_20) rfl (aa (a0m (ul rfl (CSc.of (ts:=["_law_part"]) (fr:=["_law_word_here"]) (ix:=[1]) rfl rfl rfl rfl (by intro p hp;cases av.mp hp;rfl) rfl rfl rfl rfl) (qb (bx (c7 0) au (λ_ _=>rfl))) (λ_ _ _ _=>(kh (i:=0) (show (["_law_part", "_law_word_here"]:List Str).Nodup by decide +kernel) rfl (Or.inl rfl) (.inr rfl))) uh (λ_ _ _ _=>(dg false D_18 (hr.mono h_18) rfl (aa (c7 0) (aa (c7 1) bh)))))) (aa (c7 2) bh)))))
 jg)
 (aq (gh (i:=3) SC.nd rfl (Or.inr rfl) (a0m (pq bh)))
 (aq (gh (i:=4) SC.nd rfl (Or.inl rfl) au)
 (aq (o9 (gq (my hr.u) jw (bx (c7 0) au (λ_ _=>rfl)) jx (jh _))
 (aq (gh (i:=3) SC.nd rfl (Or.inr rfl) (a0m (ul rfl (CSc.of (ts:=["_law_part"]) (fr:=["_law_word_here"]) (ix:=[1]) rfl rfl rfl rfl (by intro p hp;cases av.mp hp;rfl) rfl rfl rfl rfl) (qb (bx (c7 0) au (λ_ _=>rfl))) (λ_ _ _ _=>(kh (i:=0) (show (["_law_part", "_law_word_here"]:List Str).Nodup by decide +kernel) rfl (Or.inl rfl) (.inr rfl))) uh (λ_ _ _ _=>(dg false D_18 (hr.mono h_18) rfl (aa (c7 0) (aa (c7 1) bh)))))))
 (dh (gh (i:=4) SC.nd rfl (Or.inl rfl) (qw (L2.CallR.or dz fu) lr rfl M.len o8 (aa (c7 3) bh)))))
 (dh (o9 (gq aj3 ac3 (bx (c7 0) au (λ_ _=>rfl)) au (jh _))
 (aq (gh (i:=3) SC.nd rfl (Or.inr rfl) (a0m (a3p (a0m (pq (aa (dg false D_18 (hr.mono h_18) rfl (aa (bx (c7 0) au (λ_ _=>rfl)) (aa (c7 1) bh))) bh))) (bx (c7 0) au (λ_ _=>rfl)))))
 (dh (gh (i:=4) SC.nd rfl (Or.inl rfl) (bx (c7 0) au (λ_ _=>rfl)))))
 jg)))
 (aq (gh (i:=5) SC.nd rfl (Or.inr rfl) (a0m (ul rfl (CSc.noFree (ts:=["_law_k"]) rfl (by decide +kernel) (by decide +kernel) (by decide +kernel)) (qb (c7 2)) (λ_ _ _ _=>(kh (i:=0) (show (["_law_k"]:List Str).Nodup by decide +kernel) rfl (Or.inl rfl) (.inr rfl))) uh (λ_ _ _ _=>(a0m (pq bh))))))
 (aq (gh (i:=6) SC.nd rfl (Or.inr rfl) (a0m (ul rfl (CSc.noFree (ts:=["_law_k"]) rfl (by decide +kernel) (by decide +kernel) (by decide +kernel)) (qb (c7 2)) (λ_ _ _ _=>(kh (i:=0) (show (["_law_k"]:List Str).Nodup by decide +kernel) rfl (Or.inl rfl) (.inr rfl))) uh (λ_ _ _ _=>(a0m (pq (aa (c7 0) bh)))))))
 (aq (a0i bF rfl (yj rfl M.range (aa (jj (qw (L2.CallR.or dz fu) lr rfl M.len o8 (aa (c7 3) bh)) au) bh)) (p7 (i:=7) SC.nd rfl (Or.inr rfl)) (aq (o9 (gq an8 afz (c7 7) (c7 4) (jh _))
 (dh (gh (i:=5) SC.nd rfl (Or.inr rfl) (a0m (ul rfl (CSc.of (ts:=["_law_k"]) (fr:=["_law_told", "_law_here"]) (ix:=[5,6]) rfl rfl rfl rfl (by intro p hp;simp only [aD,aN,cn] at hp;rcases hp with rfl | rfl<;>rfl) rfl rfl rfl rfl) (qb (c7 2)) (λ_ _ _ _=>(kh (i:=0) (show (["_law_k", "_law_told", "_law_here"]:List Str).Nodup by decide +kernel) rfl (Or.inl rfl) (.inr rfl))) uh (λ_ _ _ _=>(a0m (abb rfl M.sorted rfl M.set rfl (a0m (jj (bx (c7 1) (c7 0) (λ_ _=>rfl)) (bx (c7 2) (c7 0) (λ_ _=>rfl)))))))))))
 jg)
 (dh (o9 (gq (a7e.or ud) a2p (c7 7) (qw (L2.CallR.or dz fu) lr rfl M.len o8 (aa (c7 3) bh)) (jh _))
 (dh (gh (i:=6) SC.nd rfl (Or.inr rfl) (a0m (ul rfl (CSc.of (ts:=["_law_k"]) (fr:=["_law_parts", "_law_here", "_law_count"]) (ix:=[3,6,7]) rfl rfl rfl rfl (by intro p hp;simp only [aD,aN,cn] at hp;rcases hp with rfl | rfl | rfl<;>rfl) rfl rfl rfl rfl) (qb (c7 2)) (λ_ _ _ _=>(kh (i:=0) (show (["_law_k", "_law_parts", "_law_here", "_law_count"]:List Str).Nodup by decide +kernel) rfl (Or.inl rfl) (.inr rfl))) uh (λ_ _ _ _=>(dg false D_21 (hr.mono h_21) rfl (aa (bx (c7 1) (c7 3) (λ_ _=>rfl)) (aa (bx (c7 2) (c7 0) (λ_ _=>rfl)) bh))))))))
 jg))))
 (dh (jf (c7 5)))))))))))))
theorem at4:FnScope ["_law_rows", "_law_told", "_law_k", "_law_found", "_law_at"] ["_law_rows"] (bj (top 23)):=⟨rfl,rfl,rfl,by decide +kernel,rfl,by decide +kernel,by decide +kernel⟩
theorem ayd{k:Nat}(M:Nm mg)(cdv:Value)(A:Around)(outer:List Env)(s:Shared)(H:Hp)(E:XK)(hr:Room k (A.deeper (PyProof.Rows.envOfC "_law_reads_often" (bj (top 23)) s.heap.objs.size f cdv))):MSs (a1c CX0 P w K mg base ["_law_rows", "_law_told", "_law_k", "_law_found", "_law_at"] "_law_reads_often" (bj (top 23)) f cdv A outer s H E).nox X0 (ji (top 23)) (DRW.qm) :=
 have SC:=at4
 (aq (gh (i:=1) SC.nd rfl (Or.inl rfl) (pq bh))
 (aq (a0i bF rfl (yj rfl M.range (aa (qw (L2.CallR.or dz fu) lr rfl M.len o8 (aa (c7 0) bh)) bh)) (p7 (i:=2) SC.nd rfl (Or.inl rfl)) (aq (gh (i:=3) SC.nd rfl (Or.inr rfl) (pq (aa (c7 2) bh)))
 (aq (gh (i:=4) SC.nd rfl (Or.inl rfl) au)
 (aq (a7o 100000 bF (gq (a7e.or ud) a2p (c7 4) (qw (L2.CallR.or dz fu) lr rfl M.len o8 (aa (c7 3) bh)) (jh _)) (aq (a4c (i:=3) SC.nd rfl (Or.inr rfl) acz aa0 (a0m (ac1 rfl (CSc.of (ts:=["_law_end"]) (fr:=["_law_found"]) (ix:=[3]) rfl rfl rfl rfl (by intro p hp;cases av.mp hp;rfl) rfl rfl rfl rfl) (qb (bx (c7 0) (bx (c7 3) (c7 4) (λ_ _=>rfl)) (λ_ _=>rfl))) (λ_ _ _ _=>(kh (i:=0) (show (["_law_end", "_law_found"]:List Str).Nodup by decide +kernel) rfl (Or.inl rfl) (.inr rfl))) uh (λ_ _ _ _=>(c7 0)) (λ_ _ _ _=>(gq (a6r.or a4b) ag1 (c7 0) (c7 1) (by with_unfolding_all rfl))))))
 (dh (a4c (i:=4) SC.nd rfl (Or.inl rfl) (a3h.or uz) a1e au))))
 (dh (a5i (ag3 c9 dk a2l a7u (c7 1) (aa (a0m (qw a83 ae6 rfl M.sorted ago (aa (c7 3) bh))) bh))))))))
 (dh (jf (c7 1)))))
theorem at5:FnScope ["_law_parts", "_law_places", "_law_told", "_law_rows"] ["_law_parts", "_law_places"] (bj (top 24)):=⟨rfl,rfl,rfl,by decide +kernel,rfl,by decide +kernel,by decide +kernel⟩
theorem aye{k:Nat}(M:Nm mg)(cdv:Value)(A:Around)(outer:List Env)(s:Shared)(H:Hp)(E:XK)(hr:Room k (A.deeper (PyProof.Rows.envOfC "_law_reads_either" (bj (top 24)) s.heap.objs.size f cdv))):MSs (a1c CX0 P w K mg base ["_law_parts", "_law_places", "_law_told", "_law_rows"] "_law_reads_either" (bj (top 24)) f cdv A outer s H E).nox X0 (ji (top 24)) (DRW.qd) :=
 have SC:=at5
 (aq (gh (i:=2) SC.nd rfl (Or.inr rfl) (a0m (ul rfl (CSc.noFree (ts:=["_law_k"]) rfl (by decide +kernel) (by decide +kernel) (by decide +kernel)) (qb (c7 1)) (λ_ _ _ _=>(kh (i:=0) (show (["_law_k"]:List Str).Nodup by decide +kernel) rfl (Or.inl rfl) (.inr rfl))) uh (λ_ _ _ _=>(a0m (pq bh))))))
 (aq (a0i bF rfl (qb (c7 0)) (p7 (i:=3) SC.nd rfl (Or.inr rfl)) (dh (gh (i:=2) SC.nd rfl (Or.inr rfl) (a0m (ul rfl (CSc.of (ts:=["_law_k"]) (fr:=["_law_told", "_law_rows"]) (ix:=[2,3]) rfl rfl rfl rfl (by intro p hp;simp only [aD,aN,cn] at hp;rcases hp with rfl | rfl<;>rfl) rfl rfl rfl rfl) (qb (c7 1)) (λ_ _ _ _=>(kh (i:=0) (show (["_law_k", "_law_told", "_law_rows"]:List Str).Nodup by decide +kernel) rfl (Or.inl rfl) (.inr rfl))) uh (λ_ _ _ _=>(a0m (abb rfl M.sorted rfl M.set rfl (a0m (jj (bx (c7 1) (c7 0) (λ_ _=>rfl)) (bx (c7 2) (c7 0) (λ_ _=>rfl))))))))))))
 (dh (jf (c7 2)))))
theorem at6:FnScope ["_law_rows", "_law_here", "_law_told", "_law_k"] ["_law_rows", "_law_here"] (bj (top 25)):=⟨rfl,rfl,rfl,by decide +kernel,rfl,by decide +kernel,by decide +kernel⟩
theorem ayf{k:Nat}(cdv:Value)(A:Around)(outer:List Env)(s:Shared)(H:Hp)(E:XK)(hr:Room k (A.deeper (PyProof.Rows.envOfC "_law_reads_from" (bj (top 25)) s.heap.objs.size f cdv))):MSs (a1c CX0 P w K mg base ["_law_rows", "_law_here", "_law_told", "_law_k"] "_law_reads_from" (bj (top 25)) f cdv A outer s H E).nox X0 (ji (top 25)) (DRW.rn) :=
 have SC:=at6
 (aq (gh (i:=2) SC.nd rfl (Or.inr rfl) (pq bh))
 (aq (a0i bF rfl (qb (c7 1)) (p7 (i:=3) SC.nd rfl (Or.inl rfl)) (dh (a4c (i:=2) SC.nd rfl (Or.inr rfl) acz aa0 (a0m (ac1 rfl (CSc.of (ts:=["_law_end"]) (fr:=["_law_told"]) (ix:=[2]) rfl rfl rfl rfl (by intro p hp;cases av.mp hp;rfl) rfl rfl rfl rfl) (qb (bx (c7 0) (c7 3) (λ_ _=>rfl))) (λ_ _ _ _=>(kh (i:=0) (show (["_law_end", "_law_told"]:List Str).Nodup by decide +kernel) rfl (Or.inl rfl) (.inr rfl))) uh (λ_ _ _ _=>(c7 0)) (λ_ _ _ _=>(gq (a6r.or a4b) ag1 (c7 0) (c7 1) (by with_unfolding_all rfl))))))))
 (dh (jf (c7 2)))))
theorem at7:FnScope ["_law_left", "_law_shape_here", "_law_parts"] ["_law_left", "_law_shape_here"] (bj (top 26)):=⟨rfl,rfl,rfl,by decide +kernel,rfl,by decide +kernel,by decide +kernel⟩
theorem ayg{k:Nat}(M:Nm mg){a_10:Addr}{d_10:FuncData}{k_10:Nat}{F_10:SF}(D_10:Dn P w K mg base k_10 "_law_draw" ["_law_left", "_law_many"] (n8 K 2 F_10) a_10 d_10)(h_10:k_10<=k){a_22:Addr}{au9:FuncData}{k_22:Nat}{F_22:SF}(D_22:Dn P w K mg base k_22 "_law_word" ["_law_left", "_law_shape_here"] (n8 K 2 F_22) a_22 au9)(h_22:k_22<=k)(cdv:Value)(A:Around)(outer:List Env)(s:Shared)(H:Hp)(E:XK)(hr:Room k (A.deeper (PyProof.Rows.envOfC "_law_word" (bj (top 26)) s.heap.objs.size f cdv))):MSs (a1c CX0 P w K mg base ["_law_left", "_law_shape_here", "_law_parts"] "_law_word" (bj (top 26)) f cdv A outer s H E).nox X0 (ji (top 26)) (DRW.u9 F_10 F_22) :=
 have SC:=at7
 (aq (o9 (gq (my hr.u) jw (bx (c7 1) au (λ_ _=>rfl)) jx (jh _))
 (dh (jf (bx (bx (c7 1) au (λ_ _=>rfl)) (dg false D_10 (hr.mono h_10) rfl (aa (c7 0) (aa (qw (L2.CallR.or dz fu) lr rfl M.len o8 (aa (bx (c7 1) au (λ_ _=>rfl)) bh)) bh))) (λ_ _=>rfl))))
 jg)
 (aq (gh (i:=2) SC.nd rfl (Or.inl rfl) (bx (c7 1) au (λ_ _=>rfl)))
 (aq (o9 (gq (my hr.u) jw (bx (c7 1) au (λ_ _=>rfl)) jx (jh _))
 (dh (gh (i:=2) SC.nd rfl (Or.inl rfl) (ahf (tu (aa (bx (c7 1) au (λ_ _=>rfl)) bh)) (dg false D_10 (hr.mono h_10) rfl (aa (c7 0) (aa au bh))))))
 jg)
 (aq (o9 (gq (my hr.u) jw (bx (c7 1) au (λ_ _=>rfl)) jx (jh _))
 (dh (gh (i:=2) SC.nd rfl (Or.inl rfl) (ahf (tu (aa (bx (c7 1) au (λ_ _=>rfl)) bh)) (jj (bx (c7 1) au (λ_ _=>rfl)) (dg false D_10 (hr.mono h_10) rfl (aa (c7 0) (aa (jj (a9i (bx (c7 1) au (λ_ _=>rfl)) (bx (c7 1) au (λ_ _=>rfl))) au) bh)))))))
 jg)
 (aq (o9 (gq (my hr.u) jw (bx (c7 1) au (λ_ _=>rfl)) jx (jh _))
 (dh (gh (i:=2) SC.nd rfl (Or.inl rfl) (tu (aa (bx (bx (c7 1) au (λ_ _=>rfl)) (dg false D_10 (hr.mono h_10) rfl (aa (c7 0) (aa (qw (L2.CallR.or dz fu) lr rfl M.len o8 (aa (bx (c7 1) au (λ_ _=>rfl)) bh)) bh))) (λ_ _=>rfl)) bh))))
 jg)
 (dh (jf (ajl eV eW aas a7w jx (aa (a0m (ul rfl (CSc.of (ts:=["_law_part"]) (fr:=["_law_left"]) (ix:=[0]) rfl rfl rfl rfl (by intro p hp;cases av.mp hp;rfl) rfl rfl rfl rfl) (qb (c7 2)) (λ_ _ _ _=>(kh (i:=0) (show (["_law_part", "_law_left"]:List Str).Nodup by decide +kernel) rfl (Or.inl rfl) (.inr rfl))) uh (λ_ _ _ _=>(dg false D_22 (hr.mono h_22) rfl (aa (c7 1) (aa (c7 0) bh)))))) bh)))))))))
theorem at8:FnScope ["_law_left", "_law_word_here", "_law_tongue_here", "_law_at", "_law_sign", "_law_sort"] ["_law_left", "_law_word_here", "_law_tongue_here"] (bj (top 27)):=⟨rfl,rfl,rfl,by decide +kernel,rfl,by decide +kernel,by decide +kernel⟩
theorem ayh{k:Nat}(M:Nm mg){a_10:Addr}{d_10:FuncData}{k_10:Nat}{F_10:SF}(D_10:Dn P w K mg base k_10 "_law_draw" ["_law_left", "_law_many"] (n8 K 2 F_10) a_10 d_10)(h_10:k_10<=k)(cdv:Value)(A:Around)(outer:List Env)(s:Shared)(H:Hp)(E:XK)(hr:Room k (A.deeper (PyProof.Rows.envOfC "_law_word_bent" (bj (top 27)) s.heap.objs.size f cdv))):MSs (a1c CX0 P w K mg base ["_law_left", "_law_word_here", "_law_tongue_here", "_law_at", "_law_sign", "_law_sort"] "_law_word_bent" (bj (top 27)) f cdv A outer s H E).nox X0 (ji (top 27)) (DRW.ut F_10) :=
 have SC:=at8
 (aq (gh (i:=3) SC.nd rfl (Or.inl rfl) (dg false D_10 (hr.mono h_10) rfl (aa (c7 0) (aa (jj (qw (L2.CallR.or dz fu) lr rfl M.len o8 (aa (c7 1) bh)) au) bh))))
 (aq (gh (i:=4) SC.nd rfl (Or.inl rfl) (bx (c7 2) (dg false D_10 (hr.mono h_10) rfl (aa (c7 0) (aa (qw (L2.CallR.or dz fu) lr rfl M.len o8 (aa (c7 2) bh)) bh))) (λ_ _=>rfl)))
 (aq (gh (i:=5) SC.nd rfl (Or.inl rfl) (dg false D_10 (hr.mono h_10) rfl (aa (c7 0) (aa au bh))))
 (aq (o9 (gq (my hr.u) jw (c7 5) au (jh _))
 (dh (jf (c7 1)))
 jg)
 (aq (o9 (gq (my hr.u) jw (c7 5) au (jh _))
 (dh (jf (jj (ou (c7 1) wu (ww (c7 3))) (ou (c7 1) (ww (jj (c7 3) au)) wu))))
 jg)
 (dh (jf (jj (jj (ou (c7 1) wu (ww (c7 3))) (c7 4)) (ou (c7 1) (ww (a9i (jj (c7 3) (c7 5)) au)) wu)))))))))
theorem at9:FnScope ["_law_book_here", "_law_word_here", "_law_takers"] ["_law_book_here", "_law_word_here"] (bj (top 28)):=⟨rfl,rfl,rfl,by decide +kernel,rfl,by decide +kernel,by decide +kernel⟩
theorem ayi{k:Nat}(M:Nm mg){a_18:Addr}{au8:FuncData}{k_18:Nat}{F_18:SF}(D_18:Dn P w K mg base k_18 "_law_reads" ["_law_shape_here", "_law_word_here"] (n8 K 2 F_18) a_18 au8)(h_18:k_18<=k)(cdv:Value)(A:Around)(outer:List Env)(s:Shared)(H:Hp)(E:XK)(hr:Room k (A.deeper (PyProof.Rows.envOfC "_law_kind" (bj (top 28)) s.heap.objs.size f cdv))):MSs (a1c CX0 P w K mg base ["_law_book_here", "_law_word_here", "_law_takers"] "_law_kind" (bj (top 28)) f cdv A outer s H E).nox X0 (ji (top 28)) (a1l F_18) :=
 have SC:=at9
 (aq (ajr (i:=2) SC.nd rfl (Or.inl rfl) rfl (CSc.of (ts:=["_law_k"]) (fr:=["_law_book_here", "_law_word_here"]) (ix:=[0,1]) rfl rfl rfl rfl (by intro p hp;simp only [aD,aN,cn] at hp;rcases hp with rfl | rfl<;>rfl) rfl rfl rfl rfl) (yj rfl M.range (aa (qw (L2.CallR.or dz fu) lr rfl M.len o8 (aa (bx (c7 0) au (λ_ _=>rfl)) bh)) bh)) (λ_ _ _ _=>(kh (i:=0) (show (["_law_k", "_law_book_here", "_law_word_here"]:List Str).Nodup by decide +kernel) rfl (Or.inl rfl) (.inr rfl))) uh (λ_ _ _ _=>(c7 0)) (λ_ _ _ _=>(gq (a3k.or zx) a3l (qw (L2.CallR.or dz fu) lr rfl M.len o8 (aa (c7 2) bh)) (bx (dg false D_18 (hr.mono h_18) rfl (aa (bx (bx (bx (c7 1) au (λ_ _=>rfl)) (c7 0) (λ_ _=>rfl)) au (λ_ _=>rfl)) (aa (c7 2) bh))) au (λ_ _=>rfl)) (by with_unfolding_all rfl))))
 (aq (o9 (PW.pt (aau (gq (my hr.u) jw (c7 1) jx (jh _)) (a9f (gq (asf hr.u) (agr false) (c7 2) (a0m (pq bh)) (jh _)))))
 (dh (jf (ac2 au)))
 jg)
 (dh (jf (bx (c7 2) au (λ_ _=>rfl))))))
theorem ata:FnScope ["_law_script", "_law_left", "_law_tongue_here", "_law_book_here", "_law_word_here", "_law_drawn", "_law_bent", "_law_one", "_law_found"] ["_law_script"] (bj (top 29)):=⟨rfl,rfl,rfl,by decide +kernel,rfl,by decide +kernel,by decide +kernel⟩
theorem ayj{k:Nat}(M:Nm mg){a_17:Addr}{d_17:FuncData}{k_17:Nat}{F_17:SF}(D_17:Dn P w K mg base k_17 "_law_book" ["_law_left", "_law_tongue_here", "_law_purse"] (n8 K 3 F_17) a_17 d_17)(h_17:k_17<=k){a_10:Addr}{d_10:FuncData}{k_10:Nat}{F_10:SF}(D_10:Dn P w K mg base k_10 "_law_draw" ["_law_left", "_law_many"] (n8 K 2 F_10) a_10 d_10)(h_10:k_10<=k){a_24:Addr}{d_24:FuncData}{k_24:Nat}{F_24:SF}(D_24:Dn P w K mg base k_24 "_law_kind" ["_law_book_here", "_law_word_here"] (n8 K 2 F_24) a_24 d_24)(h_24:k_24<=k){a_9:Addr}{d_9:FuncData}{k_9:Nat}{F_9:SF}(D_9:Dn P w K mg base k_9 "_law_source" ["_law_script"] (n8 K 1 F_9) a_9 d_9)(h_9:k_9<=k){a_12:Addr}{d_12:FuncData}{k_12:Nat}{F_12:SF}(D_12:Dn P w K mg base k_12 "_law_tongue" ["_law_left"] (n8 K 1 F_12) a_12 d_12)(h_12:k_12<=k){a_22:Addr}{au9:FuncData}{k_22:Nat}{F_22:SF}(D_22:Dn P w K mg base k_22 "_law_word" ["_law_left", "_law_shape_here"] (n8 K 2 F_22) a_22 au9)(h_22:k_22<=k){a_23:Addr}{d_23:FuncData}{k_23:Nat}{F_23:SF}(D_23:Dn P w K mg base k_23 "_law_word_bent" ["_law_left", "_law_word_here", "_law_tongue_here"] (n8 K 3 F_23) a_23 d_23)(h_23:k_23<=k){a_8:Addr}{d_8:FuncData}{k_8:Nat}{F_8:SF}(D_8:Dn P w K mg base k_8 "kind_by_trying" ["book", "word"] (n8 K 2 F_8) a_8 d_8)(h_8:k_8<=k)(cdv:Value)(A:Around)(outer:List Env)(s:Shared)(H:Hp)(E:XK)(hr:Room k (A.deeper (PyProof.Rows.envOfC "law" (bj (top 29)) s.heap.objs.size f cdv))):MSs (a1c CX0 P w K mg base ["_law_script", "_law_left", "_law_tongue_here", "_law_book_here", "_law_word_here", "_law_drawn", "_law_bent", "_law_one", "_law_found"] "law" (bj (top 29)) f cdv A outer s H E).nox X0 (ji (top 29)) (akx F_17 F_10 F_24 F_9 F_12 F_22 F_23 F_8) :=
 have SC:=ata
 (aq (gh (i:=1) SC.nd rfl (Or.inr rfl) (dg true D_9 (hr.mono h_9) rfl (aa (c7 0) bh)))
 (aq (gh (i:=2) SC.nd rfl (Or.inr rfl) (dg false D_12 (hr.mono h_12) rfl (aa (c7 1) bh)))
 (aq (gh (i:=3) SC.nd rfl (Or.inl rfl) (dg false D_17 (hr.mono h_17) rfl (aa (c7 1) (aa (c7 2) (aa au bh)))))
 (aq (gh (i:=4) SC.nd rfl (Or.inl rfl) jx)
 (aq (o9 (gq (amf hr.u) ag7 (bx (c7 3) au (λ_ _=>rfl)) (tu bh) (jh _))
 (dh (gh (i:=4) SC.nd rfl (Or.inl rfl) (ou (dg false D_22 (hr.mono h_22) rfl (aa (c7 1) (aa (bx (bx (bx (c7 3) au (λ_ _=>rfl)) (dg false D_10 (hr.mono h_10) rfl (aa (c7 1) (aa (qw (L2.CallR.or dz fu) lr rfl M.len o8 (aa (bx (c7 3) au (λ_ _=>rfl)) bh)) bh))) (λ_ _=>rfl)) au (λ_ _=>rfl)) bh))) wu (ww au))))
 jg)
 (aq (gh (i:=5) SC.nd rfl (Or.inl rfl) (ajl eV eW aas a7w jx (aa (a0m (ul rfl (CSc.of (ts:=["_law_k"]) (fr:=["_law_left", "_law_tongue_here"]) (ix:=[1,2]) rfl rfl rfl rfl (by intro p hp;simp only [aD,aN,cn] at hp;rcases hp with rfl | rfl<;>rfl) rfl rfl rfl rfl) (yj rfl M.range (aa (dg false D_10 (hr.mono h_10) rfl (aa (c7 1) (aa au bh))) bh)) (λ_ _ _ _=>(kh (i:=0) (show (["_law_k", "_law_left", "_law_tongue_here"]:List Str).Nodup by decide +kernel) rfl (Or.inl rfl) (.inr rfl))) uh (λ_ _ _ _=>(bx (c7 2) (dg false D_10 (hr.mono h_10) rfl (aa (c7 1) (aa (qw (L2.CallR.or dz fu) lr rfl M.len o8 (aa (c7 2) bh)) bh))) (λ_ _=>rfl))))) bh)))
 (aq (gh (i:=6) SC.nd rfl (Or.inl rfl) (dg false D_23 (hr.mono h_23) rfl (aa (c7 1) (aa (c7 4) (aa (c7 2) bh)))))
 (aq (a0i bF rfl (qb (tu (aa (c7 4) (aa (c7 6) (aa (c7 5) (aa jx (aa (c7 4) (aa (c7 5) bh)))))))) (p7 (i:=7) SC.nd rfl (Or.inl rfl)) (aq (gh (i:=8) SC.nd rfl (Or.inl rfl) (dg false D_8 (hr.mono h_8) rfl (aa (c7 3) (aa (c7 7) bh))))
 (dh (o9 (PW.pt (aau (ar9 (afq (qw (L2.CallR.or a5c a4f) ack rfl M.isinstance a2n (aa (c7 8) (aa (ar8 rfl M.int am3) bh))))) (aau (afq (qw (L2.CallR.or a5c a4f) ack rfl M.isinstance a2n (aa (c7 8) (aa (ar8 rfl M.bool ao5) bh)))) (a9f (gq (amf hr.u) ag7 (c7 8) (dg false D_24 (hr.mono h_24) rfl (aa (c7 3) (aa (c7 7) bh))) (jh _))))))
 as4
 jg))))
 (dh (jf avt))))))))))
end
end K17
namespace HND
open PySem PySem.Spec L2 MI
noncomputable def yp:SS :=
 (jd (km 0 (sC (.str " !\"#$&'()*+,-./0123456789:;<=>?@ABCDEFGHIJKLMNOPQRSTUVWXYZ[\\]^_`")))
 (qg (s2 jb (sV 0) (sC (.str "abcdefghijklmnopqrstuvwxyz{|}~\n")))))
end HND
namespace MI
open PySem PySem.Spec L2
abbrev S(l:List Nat):Str:=⟨l.toArray⟩
theorem a8g(l:List Nat):(S l).cps.toList=l:=by simp
theorem aa1(l:List Nat):(S l).length=l.length:=by simp [Str.length]
theorem ap7(x:Str):S x.cps.toList=x:=by cases x;simp
theorem ap8(a b:List Nat):S a++S b=S (a++b):=by rw [<-ap7 (S a++S b),avr]
theorem aw5(h:S a=S b):a=b:=by
 have:=af (λx:Str=>x.cps.toList) h
 simpa using this
theorem atb(a b:List Nat):(S a == S b)=decide (a=b):=by
 by_cases h:a=b
 ·subst h;simp
 ·have:¬ S a=S b:=λz=>h (aw5 z)
  simp [h]
section
variable{h:Hd}{a b l:List Nat}{i:Nat}{c:Nat}
theorem ais(hl:l.length<=LINE)(e:l[i]? = some c):gIx (.str (S l)) (.int (i:Nat)) h = .ok (.str (S [c])) h:=by
 unfold gIx;simp only [aa1,aA hl,a8g,v4 e]
theorem a8h(hl:a.length+b.length<=LINE):jb (.str (S a)) (.str (S b)) h = .ok (.str (S (a++b))) h:=by
 unfold jb;simp only [aa1,aA hl,ap8]
theorem a3v(hl:l.length<=LINE):rm [.str (S l)] h = .ok (.int l.length) h:=by
 unfold rm;simp only [aa1,aA hl]
theorem atc(k:Nat)(hl:l.length<=LINE):aal (.str (S l)) none (some (k:Int)) h = .ok (.str (S (l.take k))) h:=by
 show gSl (.str (S l)) none (some (k:Int)) h=_;unfold gSl;simp only [aa1,aA hl,a8g,aaq]
theorem aa2(k:Nat)(hl:l.length<=LINE):aal (.str (S l)) (some (k:Int)) none h = .ok (.str (S (l.drop k))) h:=by
 show gSl (.str (S l)) (some (k:Int)) none h=_;unfold gSl;simp only [aa1,aA hl,a8g,a9d]
end
section
variable{h:Hd}{i j:Int}{xs ys:List D}
theorem a4y:gIx (.tup xs) (.int i) h=(match atI xs i with | some d=>.ok d h | none=>.no):=rfl
theorem aa3:gIx (.rol xs) (.int i) h=(match atI xs i with | some d=>.ok d h | none=>.no):=rfl
theorem aa4:gIx (.ref k) (.int i) h=(match a07 (.ref k) h with | some xs=>(match atI xs i with | some d=>.ok d h | none=>.no) | none=>.no):=rfl
theorem a8i:rm [.tup xs] h = .ok (.int xs.length) h:=rfl
theorem a3w:rm [.rol xs] h = .ok (.int xs.length) h:=rfl
theorem a65:rm [.ref k] h=(match a07 (.ref k) h with | some xs=>.ok (.int xs.length) h | none=>.no):=rfl
theorem a0k:jb (.int i) (.int j) h = .ok (.int (i+j)) h:=rfl
theorem a3x:a0p (.int i) (.int j) h = .ok (.int (i+j)) h:=rfl
open Classical in
theorem a3a:xu (.int i) (.int j) h=if CMul i j then .ok (.int (i*j)) h else .no:=by unfold xu;rfl
theorem a0x(b:Bool):tru (.bl b) h = .ok b h:=rfl
theorem a8j:tru (.int i) h = .ok (i != 0) h:=rfl
theorem a8k:tru (.rol xs) h = .ok (!xs.isEmpty) h:=rfl
theorem a8l:tru (.tup xs) h = .ok (!xs.isEmpty) h:=rfl
theorem a8m:tru .non h = .ok false h:=rfl
theorem aep:hEq (.int i) (.int j) h = .ok (.bl (i == j)) h:=rfl
theorem aeq:hNe (.int i) (.int j) h = .ok (.bl (!(i == j))) h:=rfl
theorem ap9(a b:Str):hEq (.str a) (.str b) h = .ok (.bl (a == b)) h:=rfl
theorem atd(a b:Str):hNe (.str a) (.str b) h = .ok (.bl (!(a == b))) h:=rfl
theorem aky(a b:Bool):hEq (.bl a) (.bl b) h = .ok (.bl (a == b)) h:=rfl
theorem akz(a b:Bool):hNe (.bl a) (.bl b) h = .ok (.bl (!(a == b))) h:=rfl
theorem ad2(x:D):gIs x .non h = .ok (.bl (a9j x)) h:=by cases x<;>rfl
theorem a3b(x:D):amb x .non h = .ok (.bl (!a9j x)) h:=by cases x<;>rfl
theorem al0(a b:Bool):gIs (.bl a) (.bl b) h = .ok (.bl (a == b)) h:=rfl
theorem a4r(a b:Bool):amb (.bl a) (.bl b) h = .ok (.bl (a != b)) h:=rfl
theorem aul:a9j (.int i)=false:=rfl
theorem aum(x:Str):a9j (.str x)=false:=rfl
theorem aun:a9j .non=true:=rfl
theorem auo:a9j (.tup xs)=false:=rfl
end
end MI
namespace HND
open PySem PySem.Spec L2 MI AT
def aup:Str := " !\"#$&'()*+,-./0123456789:;<=>?@ABCDEFGHIJKLMNOPQRSTUVWXYZ[\\]^_`"
def auq:Str := "abcdefghijklmnopqrstuvwxyz{|}~\n"
def sig:List Nat:=aup.cps.toList++auq.cps.toList
theorem apa:sig.length=95:=by decide +kernel
theorem ate:sig.Nodup:=by decide +kernel
noncomputable def lu:SF:=qj yp 1
theorem lits{h:Hd}:jb (.str aup) (.str auq) h = .ok (.str (S sig)) h:=by
 rw [<-ap7 aup,<-ap7 auq,a8h (by decide +kernel)]
 rfl
theorem a8n:Pu lu 0 [] (.str (S sig)):=by
 refine Pu.of rfl (by simp) (r:=.ok (.str (S sig)) []) ?_ (by rw [xx (jc _) (by simp)];rfl) (jc _)
 unfold lu;rw [jq];unfold yp;have e:=@lits [];unfold aup auq at e;show toR (jd (km 0 _) _ [none] [])=_;simp only [vh,km,sC,a0s,a1s,qg,s2,sV,List.set_cons_zero,gH,du,e,a9p]
structure Tongue (l:List Nat):Prop where
 lo:1<=l.length
 hi:l.length<=6
 nd:l.Nodup
 sub:∀ c∈l,c∈sig
theorem aa5(a r:List Nat)(i:Nat)(c:Nat)(e:r[i]? = some c):List.Perm (a++r) ((a++[c])++(r.take i++r.drop (i+1))):=by
 obtain ⟨hi,e⟩:=ah.mp e;have:r=r.take i++c::r.drop (i+1):=by rw [<-e];simp
 rw [da];refine List.Perm.append_left a ?_;rw [List.singleton_append]
 conv=>lhs;rw [this]
 exact List.perm_middle
end HND
namespace MI
open PySem PySem.Spec L2
theorem atf(n:Nat):rng 0 n=(List.range n).map λi:Nat=>D.int (i:Nat):=by
 unfold rng;exact ee λi _=>by rw [Int.zero_add]
theorem ahh(h:n<=LINE):B62 (n:Int):=by
 have:n<=16777216:=h
 unfold B62;omega
theorem aa6(h:Hd)(z:n<=LINE):v6 [.int (n:Nat)] h = .ok ⟨(List.range n).map λi:Nat=>D.int (i:Nat),λ_=>True⟩ h:=by
 unfold v6;simp only [ahh z,dC,cC,atf]
theorem aw6(e:f τ h = .ok d h):aj f dq τ h = .ok [d] h:=by unfold aj dq;rw [e];rfl
theorem a3y(e:f τ h = .ok (.int (n:Nat)) h)(z:n<=LINE):sRg v6 (aj f dq) τ h = .ok ⟨(List.range n).map λi:Nat=>D.int (i:Nat),λ_=>True⟩ h:=by
 unfold sRg;rw [aw6 e,du];exact aa6 h z
theorem cj(e:τ[i]? = some (some d)):sV i τ h = .ok d h:=by unfold sV;rw [e]
theorem qz{fi:SI}{t:D->Option Sd}{fe:SE}{ix:List Nat}{τ:Sd}{h:Hd}{α:Type}(g F:α->D)(xs:List α)(e:fi τ h = .ok ⟨xs.map g,λ_=>True⟩ h)(z:xs.length<=LINE)
  (st:∀ x∈xs,a7r t fe (frs' ix τ) (g x) h = .ok (F x) h):n6 fi t fe ix τ h = .ok (.ref h.length) (h++[.lst (xs.map F)]):=by
 unfold n6;rw [e,du];dsimp only;rw [aA (by rw [am];exact z),a9r g F st]
 rfl
theorem aa7{fi:SI}{t:D->Option Sd}{c:ST}{fe:SE}{ix:List Nat}{τ:Sd}{h:Hd}{α:Type}(g:α->D)(F:α->Option D)(xs:List α)(e:fi τ h = .ok ⟨xs.map g,λ_=>True⟩ h)(z:xs.length<=LINE)
  (st:∀ x∈xs,aav t c fe (frs' ix τ) (g x) h = .ok (F x) h):a1r fi t c fe ix τ h = .ok (.ref h.length) (h++[.lst (xs.filterMap F)]):=by
 unfold a1r;rw [e,du];dsimp only;rw [aA (by rw [am];exact z),a9s g F st]
 rfl
theorem xm(fe:SE)(r:Sd)(x:D)(h:Hd):a7r t1 fe r x h=fe (some x::r) h:=rfl
theorem ahi(c:ST)(fe:SE)(r:Sd)(x:D)(h:Hd):aav t1 c fe r x h=(c (some x::r) h).bind λb h1=>if b=true then (fe (some x::r) h1).bind λy h2=>.ok (some y) h2 else .ok none h1:=rfl
theorem al2(i:Nat)(ix:List Nat)(τ:Sd):frs' (i::ix) τ=(τ[i]?).join::frs' ix τ:=rfl
theorem apb(τ:Sd):frs' [] τ=[]:=rfl
section
variable{f k f1 f2 f3:SE}{c c1 c2:ST}{g p q:SS}{τ τ1:Sd}{h h1 h2 h3 h4:Hd}{a b d v:D}{i:Nat}{t u:Bool}
theorem iw(d:D)(τ:Sd)(h:Hd):sC d τ h = .ok d h:=rfl
theorem aur(e3:G [] h = .ok v h1):sA G dq τ h = .ok v h1:=e3
theorem uv(e1:f τ h = .ok a h1)(e3:G [a] h1 = .ok v h2):sA G (aj f dq) τ h = .ok v h2:=by
 have:aj f dq τ h = .ok [a] h1:=by unfold aj;rw [e1];rfl
 unfold sA;rw [this,du,e3]
theorem uw(e1:f τ h = .ok a h1)(e2:k τ h1 = .ok b h2)(e3:G [a,b] h2 = .ok v h3):sA G (aj f (aj k dq)) τ h = .ok v h3:=by
 have:aj f (aj k dq) τ h = .ok [a,b] h2:=by unfold aj;rw [e1,du,e2];rfl
 unfold sA;rw [this,du,e3]
theorem ax7(e0:f1 τ h = .ok d h1)(e1:f τ h1 = .ok a h2)(e2:k τ h2 = .ok b h3)(e3:G [d,a,b] h3 = .ok v h4):sA G (aj f1 (aj f (aj k dq))) τ h = .ok v h4:=by
 have:aj f1 (aj f (aj k dq)) τ h = .ok [d,a,b] h3:=by unfold aj;rw [e0,du,e1,du,e2];rfl
 unfold sA;rw [this,du,e3]
theorem jm(e:f τ h = .ok d h1):jd (km i f) g τ h=g (τ.set i (some d)) h1:=by
 rw [vh];unfold km;rw [e];rfl
theorem a93(e:f τ h = .ok d h1):km i f τ h = .nx (τ.set i (some d)) h1:=by
 unfold km;rw [e];rfl
theorem sy(e:p τ h = .nx τ1 h1):jd p g τ h=g τ1 h1:=by rw [vh,e];rfl
theorem uc(e:p τ h = .rt d h1):jd p g τ h = .rt d h1:=by rw [vh,e];rfl
theorem ifT(e:c τ h = .ok true h1):sIf c p q τ h=p τ h1:=by unfold sIf;rw [e];rfl
theorem ifF(e:c τ h = .ok false h1):sIf c p q τ h=q τ h1:=by unfold sIf;rw [e];rfl
theorem ifN(e:c τ h = .ok false h1):jd (sIf c p sNx) g τ h=g τ h1:=by rw [vh,ifF e];rfl
theorem tof(e:f τ h = .ok (.bl t) h1):sT f τ h = .ok t h1:=by unfold sT;rw [e];rfl
theorem abe(e:f τ h = .ok d h1)(e':tru d h1 = .ok t h2):afp f τ h = .ok t h2:=by unfold afp;rw [e,du,e']
theorem aew(e:c1 τ h = .ok true h1)(e':c2 τ h1 = .ok t h2):a6u c1 c2 τ h = .ok t h2:=by unfold a6u;rw [e,du,aA rfl,e']
theorem amq(e:c1 τ h = .ok false h1):a6u c1 c2 τ h = .ok false h1:=by unfold a6u;rw [e,du,aL (by simp)]
theorem orT(e:c1 τ h = .ok true h1):sOr c1 c2 τ h = .ok true h1:=by unfold sOr;rw [e,du,aA rfl]
theorem orF(e:c1 τ h = .ok false h1)(e':c2 τ h1 = .ok t h2):sOr c1 c2 τ h = .ok t h2:=by unfold sOr;rw [e,du,aL (by simp),e']
theorem atg(e:c τ h = .ok t h1):aio c τ h = .ok (!t) h1:=by unfold aio;rw [e];rfl
theorem ath(e:c τ h = .ok true h1):aio c τ h = .ok false h1:=atg e
theorem aus(e:c τ h = .ok false h1):aio c τ h = .ok true h1:=atg e
theorem jy(e:f τ h = .ok d h1):qg f τ h = .rt d h1:=by unfold qg;rw [e];rfl
theorem aa8(e1:f τ h = .ok d h1)(l:isL d h1=true)(e2:A τ h1 = .ok ds h2)(e3:G d ds h2 = .ok v h3):a4j (sML G f A) τ h = .nx τ h3:=by
 unfold a4j sML;rw [e1,du,aA l,e2,du,e3];rfl
theorem arg1(e:f τ h = .ok d h1):aj f dq τ h = .ok [d] h1:=by unfold aj dq;rw [e];rfl
theorem ig(e1:f τ h = .ok a h1)(e2:k τ h1 = .ok b h2)(e3:G a b h2 = .ok v h3):s2 G f k τ h = .ok v h3:=by
 unfold s2;rw [e1,du,e2,du,e3]
theorem ahj(e1:f τ h = .ok a h1)(e3:G a h1 = .ok v h2):s1 G f τ h = .ok v h2:=by
 unfold s1;rw [e1,du,e3]
theorem aa9(ht:τ[i]? = some (some a))(e:f τ h = .ok b h1)(e2:G a b h1 = .ok d h2):aai i G f τ h = .nx (τ.set i (some d)) h2:=by
 unfold aai;rw [ht];dsimp only;rw [e,a0s,e2];rfl
theorem ati(e:f τ h = .ok d h1)(e2:G d τ h1 = .nx τ1 h2):ajh f G τ h = .nx τ1 h2:=by
 unfold ajh;rw [e,a0s,e2]
theorem atj(e1:f1 τ h = .ok v h1)(e2:f2 τ h1 = .ok a h2)(e3:f3 τ h2 = .ok b h3)(e4:put a b v h3=some h4):ae0 f1 f2 f3 τ h = .nx τ h4:=by
 unfold ae0;rw [e1,a0s,e2,a0s,e3,a0s,e4]
theorem a4l{fi:SI}{G:SG}{b:SS}{xs:List D}{ck:Hd->Prop}(e:fi τ h = .ok ⟨xs,ck⟩ h1):jd (a7q fi G b) g τ h=thn (forL ck G b xs τ h1) g:=by
 rw [vh];unfold a7q;rw [e];rfl
theorem a66(e:f τ h = .ok d h1)(e2:anu d h1 = .ok ⟨xs,ck⟩ h1):sIt f τ h = .ok ⟨xs,ck⟩ h1:=by
 unfold sIt;rw [e,du,e2]
theorem ad3(e:h[i]? = some (.lst xs))(z:xs.length<LINE):aet (.ref i) [a] h = .ok .non (h.set i (.lst (xs++[a]))):=by
 unfold aet;simp only [e,aA z]
theorem a77(e:h[i]? = some (.lst xs))(hj:xs[j]? = some y):gIx (.ref i) (.int (j:Nat)) h = .ok y h:=by
 rw [aa4];unfold a07;simp only [e,v4 hj]
theorem amr(hj:xs[j]? = some y):gIx (.rol xs) (.int (j:Nat)) h = .ok y h:=by
 rw [aa3];simp only [v4 hj]
theorem ahk(hj:xs[j]? = some y):gIx (.tup xs) (.int (j:Nat)) h = .ok y h:=by
 rw [a4y];simp only [v4 hj]
theorem apc(e:h[i]? = some (.lst xs)):rm [.ref i] h = .ok (.int (xs.length:Nat)) h:=by
 rw [a65];unfold a07;simp only [e]
theorem ahl(e:h[i]? = some (.lst xs)):xn [.ref i] h = .ok (.tup xs) h:=by
 unfold xn a07;simp only [e]
theorem div_ii(c:0<y/\y<1073741824):a6k (.int x) (.int y) h = .ok (.int (x / y)) h:=by unfold a6k;exact aA c
theorem a67(c:0<y):a3f (.int x) (.int y) h = .ok (.int (x % y)) h:=by unfold a3f;exact aA c
theorem apw(c:y<x):gGt (.int x) (.int y) h = .ok (.bl true) h:=by unfold gGt;simp only [c,decide_true]
theorem apx(c:¬ y<x):gGt (.int x) (.int y) h = .ok (.bl false) h:=by unfold gGt;simp only [c,decide_false]
theorem ahm(c:x<y):gLt (.int x) (.int y) h = .ok (.bl true) h:=by unfold gLt;simp only [c,decide_true]
theorem al3(c:¬ x<y):gLt (.int x) (.int y) h = .ok (.bl false) h:=by unfold gLt;simp only [c,decide_false]
theorem aaa(c:x=y):hEq (.int x) (.int y) h = .ok (.bl true) h:=by rw [aep,c,e8]
theorem abf(c:¬ x=y):hEq (.int x) (.int y) h = .ok (.bl false) h:=by rw [aep,cB.mpr c]
theorem ahn(c:x=y):hNe (.int x) (.int y) h = .ok (.bl false) h:=by rw [aeq,c,e8];rfl
theorem al4(c:¬ x=y):hNe (.int x) (.int y) h = .ok (.bl true) h:=by rw [aeq,cB.mpr c];rfl
theorem a8o(x:Int):aaw (.int x) h = .ok (.int (-x)) h:=rfl
theorem a1z(x y:Int):MI.a6i (.int x) (.int y) h = .ok (.int (x - y)) h:=rfl
theorem dj(h:n<=1000000):n<=LINE:=by show n<=16777216;omega
theorem ad4(h:n<=1000000):n<LINE:=by show n<16777216;omega
theorem abg:MI.wk [a,b] h = .ok (.tup [a,b]) h:=by unfold MI.wk;rw [aA (dj (by simp))]
theorem aut:MI.wk [a,b,v] h = .ok (.tup [a,b,v]) h:=by unfold MI.wk;rw [aA (dj (by simp))]
end
end MI
namespace SRC
open PySem PySem.Spec L2 MI AT
structure Src (o:O) (N:Nat):Prop where
 ex:∃ (cells:List Int) (a l c s:Int),o = .lst [.rol (cells.map D.int), .int a, .int l, .int c, .int s]/\0<=a/\0<=l/\0<=s/\s<2147483647/\0<=c/\c<=N
theorem Src.clo(P:Src o N):u5 0 o:=by
 obtain ⟨cells,a,l,c,s,rfl,_⟩:=P.ex;exact gf (xf (j4 λx _=>iy x)) (gf (iy _) (gf (iy _) (gf (iy _) (gf (iy _) j8))))
theorem Src.up(P:Src o N)(h:N<=M):Src o M:=by
 obtain ⟨cells,a,l,c,s,e,h1,h2,h3,h4,h5,h6⟩:=P.ex;exact ⟨cells,a,l,c,s,e,h1,h2,h3,h4,h5,by omega⟩
noncomputable def ak:SF:=qj a1h 4
abbrev so(cells:List Int)(a l c s:Int):O:=.lst [.rol (cells.map D.int), .int a, .int l, .int c, .int s]
theorem ad5(e:h[i]? = some (.lst xs))(hj:xs[j]? = some y):air (.ref i) (.int (j:Nat)) h = .ok y h:=by
 unfold air;simp only [e,v4 hj]
theorem auu(e1:fo τ h = .ok o h)(e2:fi τ h = .ok i h)(e3:air o i h = .ok x h)(e4:fe τ h = .ok y h)(e5:G x y h = .ok z h)(e6:put o i z h=some h'):a0r G fo fi fe τ h = .nx τ h':=by
 unfold a0r;rw [e1,a0s,e2,a0s,e3,a0s,e4,a0s,e5,a0s,e6]
theorem ayl(c:y<=x):gGe (.int x) (.int y) h = .ok (.bl true) h:=by show R.ok (D.bl (decide (y<=x))) h=_;rw [cF c]
theorem aym(c:¬ y<=x):gGe (.int x) (.int y) h = .ok (.bl false) h:=by show R.ok (D.bl (decide (y<=x))) h=_;rw [aY c]
theorem aho(P:Src o N)(hN:N<=1000000000)(m0:0<m)(m1:m<1073741824):∃ r o',ak [.ref 0, .int m] [o] = .ok (.int r) [o']/\0<=r/\r<m/\Src o' (N+1):=by
 obtain ⟨cells,a,l,c,s,rfl,a0,l0,s0,s1,c0,c1⟩:=P.ex;unfold ak;rw [jq];show ∃ r o',toR (a1h [some (.ref 0),some (.int m),none,none] [so cells a l c s])=_/\_;unfold a1h;have last:∀ s':Int,0<=s'->s'<2147483647->∃ r q,0<=r/\r<m/\(s'+1+(c+1)*7919) ^ (3:Int).toNat % 2147483647=q/\(q*48271+(c+1)) ^ (2:Int).toNat % 2147483629 / 64 % m=r/\CMul (c+1) 7919/\CMul q 48271 /\
   (∀ h,a6v (.int (s'+1+(c+1)*7919)) (.int 3) h = .ok (.int ((s'+1+(c+1)*7919) ^ (3:Int).toNat)) h)/\∀ h,a6v (.int (q*48271+(c+1))) (.int 2) h = .ok (.int ((q*48271+(c+1)) ^ (2:Int).toNat)) h:=λs' h0 h1=>by
  have q0:0<=(s'+1+(c+1)*7919) ^ (3:Int).toNat % 2147483647:=dL _ (by decide)
  have q1:(s'+1+(c+1)*7919) ^ (3:Int).toNat % 2147483647<2147483647:=cV _ (by decide)
  refine ⟨_,_,dL _ (by omega),cV _ m0,rfl,rfl, .inr ⟨by decide,by decide⟩, .inr ⟨by decide,by decide⟩,λh=>ase ⟨by decide,by decide,by omega⟩,λh=>ase ⟨by decide,by decide,?_⟩⟩
  generalize (s'+1+(c+1)*7919) ^ (3:Int).toNat % 2147483647=q at q0 q1
  omega
 have x0:∀ {a l c s:Int},gIx (.ref 0) (.int 0) [so cells a l c s] = .ok (.rol (cells.map D.int)) [so cells a l c s]:=λ{a l c s}=>a77 (j:=0) rfl rfl;have x1:∀ {a l c s:Int},gIx (.ref 0) (.int 1) [so cells a l c s] = .ok (.int a) [so cells a l c s]:=λ{a l c s}=>a77 (j:=1) rfl rfl;have x2:∀ {a l c s:Int},gIx (.ref 0) (.int 2) [so cells a l c s] = .ok (.int l) [so cells a l c s]:=λ{a l c s}=>a77 (j:=2) rfl rfl;have x3:∀ {a l c s:Int},gIx (.ref 0) (.int 3) [so cells a l c s] = .ok (.int c) [so cells a l c s]:=λ{a l c s}=>a77 (j:=3) rfl rfl
 have x4:∀ {a l c s:Int},gIx (.ref 0) (.int 4) [so cells a l c s] = .ok (.int s) [so cells a l c s]:=λ{a l c s}=>a77 (j:=4) rfl rfl;have u3:∀ {a l c s:Int} {τ:Sd},τ[0]? = some (some (.ref 0))->a0r a0p (sV 0) (sC (.int 3)) (sC (.int 1)) τ [so cells a l c s] = .nx τ [so cells a l (c+1) s]:=λ{a l c s τ} h0=>auu (cj h0) (iw _ _ _) (ad5 (j:=3) rfl rfl) (iw _ _ _) a3x rfl;have u1:∀ {a l c s:Int} {τ:Sd},τ[0]? = some (some (.ref 0))->a0r a0p (sV 0) (sC (.int 1)) (sC (.int 1)) τ [so cells a l c s] = .nx τ [so cells (a+1) l c s]:=λ{a l c s τ} h0=>auu (cj h0) (iw _ _ _) (ad5 (j:=1) rfl rfl) (iw _ _ _) a3x rfl
 have p18:∀ {h:Hd},a6v (.int 10) (.int 18) h = .ok (.int 1000000000000000000) h:=λ{h}=>p18 h;have e1:∀ {a l c s:Int} {t2:Option D},0<l->toR (jd (sIf (sT (s2 gGt (s2 gIx (sV 0) (sC (.int 2))) (sC (.int 0)))) (jd (km 3 (s2 a3f (s2 gIx (sV 0) (sC (.int 2))) (sV 1))) (jd (a0r a6k (sV 0) (sC (.int 2)) (sV 1)) (qg (sV 3)))) sNx) (jd (km 3 (s2 a3f (s2 a6v (s2 jb (s2 jb (s2 gIx (sV 0) (sC (.int 4))) (sC (.int 1))) (s2 xu (s2 gIx (sV 0) (sC (.int 3))) (sC (.int 7919)))) (sC (.int 3))) (sC (.int 2147483647)))) (qg (s2 a3f (s2 a6k (s2 a3f (s2 a6v (s2 jb (s2 xu (sV 3) (sC (.int 48271))) (s2 gIx (sV 0) (sC (.int 3)))) (sC (.int 2))) (sC (.int 2147483629))) (sC (.int 64))) (sV 1)))) [some (.ref 0),some (.int m),t2,none] [so cells a l c s]) = .ok (.int (l % m)) [so cells a (l / m) c s]:=λ{a l c s t2} hl=>by
  refine af toR (uc (ag (ifT (tof (ig (ig (cj rfl) (iw _ _ _) x2) (iw _ _ _) (apw hl)))) ?_));refine ag (jm (ig (ig (cj rfl) (iw _ _ _) x2) (cj rfl) (a67 m0))) ?_;refine ag (sy (auu (cj rfl) (iw _ _ _) (ad5 (j:=2) rfl rfl) (cj rfl) (div_ii ⟨m0,m1⟩) rfl)) ?_;exact jy (cj rfl)
 have e2:∀ {a s':Int} {t2:Option D},0<=s'->s'<2147483647->∃ r,0<=r/\r<m/\toR (jd (sIf (sT (s2 gGt (s2 gIx (sV 0) (sC (.int 2))) (sC (.int 0)))) (jd (km 3 (s2 a3f (s2 gIx (sV 0) (sC (.int 2))) (sV 1))) (jd (a0r a6k (sV 0) (sC (.int 2)) (sV 1)) (qg (sV 3)))) sNx) (jd (km 3 (s2 a3f (s2 a6v (s2 jb (s2 jb (s2 gIx (sV 0) (sC (.int 4))) (sC (.int 1))) (s2 xu (s2 gIx (sV 0) (sC (.int 3))) (sC (.int 7919)))) (sC (.int 3))) (sC (.int 2147483647)))) (qg (s2 a3f (s2 a6k (s2 a3f (s2 a6v (s2 jb (s2 xu (sV 3) (sC (.int 48271))) (s2 gIx (sV 0) (sC (.int 3)))) (sC (.int 2))) (sC (.int 2147483629))) (sC (.int 64))) (sV 1)))) [some (.ref 0),some (.int m),t2,none] [so cells a 0 (c+1) s']) = .ok (.int r) [so cells a 0 (c+1) s']:=λ{a s' t2} h0 h1=>by
  obtain ⟨r,q,r0,r1,eq,er,d1,d2,d3,d4⟩:=last s' h0 h1;refine ⟨r,r0,r1,?_⟩;refine ag (af toR (ifN (tof (ig (ig (cj rfl) (iw _ _ _) x2) (iw _ _ _) (apx (by omega)))))) ?_
  refine ag (af toR (jm (ig (ig (ig (ig (ig (cj rfl) (iw _ _ _) x4) (iw _ _ _) a0k) (ig (ig (cj rfl) (iw _ _ _) x3) (iw _ _ _) (a3a.trans (aA d1))) a0k) (iw _ _ _) (d3 _)) (iw _ _ _) (a67 (by decide))))) ?_
  rw [eq];refine ag (af toR (jy (ig (ig (ig (ig (ig (ig (cj rfl) (iw _ _ _) (a3a.trans (aA d2))) (ig (cj rfl) (iw _ _ _) x3) a0k) (iw _ _ _) (d4 _)) (iw _ _ _) (a67 (by decide))) (iw _ _ _) (div_ii ⟨by decide,by decide⟩)) (cj rfl) (a67 m0)))) ?_
  rw [er];rfl
 by_cases hA:l=0/\a<(cells.length:Int)
 ·obtain ⟨rfl,ha⟩:=hA;obtain ⟨j,rfl⟩:=eI a0;have hj:j<cells.length:=by omega
  have gx:∀ {h:Hd},gIx (.rol (cells.map D.int)) (.int (j:Nat)) h = .ok (.int cells[j]) h:=λ{h}=>amr (by rw [aW,ad hj];rfl)
  have tt:∀ {c s:Int} {t2 t3:Option D},a6u (sT (s2 hEq (s2 gIx (sV 0) (sC (.int 2))) (sC (.int 0)))) (sT (s2 gLt (s2 gIx (sV 0) (sC (.int 1))) (sA rm (aj (s2 gIx (sV 0) (sC (.int 0))) dq)))) [some (.ref 0),some (.int m),t2,t3] [so cells (j:Nat) 0 c s] = .ok true [so cells (j:Nat) 0 c s]:=λ{c s t2 t3} =>
   aew (tof (ig (ig (cj rfl) (iw _ _ _) x2) (iw _ _ _) (aaa rfl))) (tof (ig (ig (cj rfl) (iw _ _ _) x1) (uv (ig (cj rfl) (iw _ _ _) x0) (a3w.trans (by rw [am]))) (ahm ha)))
  have s2':0<=(s*31+cells[j]) % 2147483647:=dL _ (by decide)
  have s3:(s*31+cells[j]) % 2147483647<2147483647:=cV _ (by decide)
  have go:∀ {o':O} {g:SS},sIf (sT (s2 gGe (sV 2) (s2 a6v (sC (.int 10)) (sC (.int 18))))) (ae0 (sV 2) (sV 0) (sC (.int 2))) (ae0 (s2 a3f (s2 jb (s2 xu (s2 gIx (sV 0) (sC (.int 4))) (sC (.int 31))) (sV 2)) (sC (.int 2147483647))) (sV 0) (sC (.int 4))) [some (.ref 0),some (.int m),some (.int cells[j]),none] [so cells ((j:Nat)+1) 0 (c+1) s] = .nx [some (.ref 0),some (.int m),some (.int cells[j]),none] [o']->
    toR (jd (a0r a0p (sV 0) (sC (.int 3)) (sC (.int 1))) (jd (sIf (a6u (sT (s2 hEq (s2 gIx (sV 0) (sC (.int 2))) (sC (.int 0)))) (sT (s2 gLt (s2 gIx (sV 0) (sC (.int 1))) (sA rm (aj (s2 gIx (sV 0) (sC (.int 0))) dq))))) (jd (km 2 (s2 gIx (s2 gIx (sV 0) (sC (.int 0))) (s2 gIx (sV 0) (sC (.int 1))))) (jd (a0r a0p (sV 0) (sC (.int 1)) (sC (.int 1))) (sIf (sT (s2 gGe (sV 2) (s2 a6v (sC (.int 10)) (sC (.int 18))))) (ae0 (sV 2) (sV 0) (sC (.int 2))) (ae0 (s2 a3f (s2 jb (s2 xu (s2 gIx (sV 0) (sC (.int 4))) (sC (.int 31))) (sV 2)) (sC (.int 2147483647))) (sV 0) (sC (.int 4)))))) sNx) g) [some (.ref 0),some (.int m),none,none] [so cells (j:Nat) 0 c s])=toR (g [some (.ref 0),some (.int m),some (.int cells[j]),none] [o']):=λ{o' g} e=>by
   refine ag (af toR (sy (u3 rfl))) ?_;refine af toR (sy (ag (ifT tt) ?_));refine ag (jm (ig (ig (cj rfl) (iw _ _ _) x0) (ig (cj rfl) (iw _ _ _) x1) gx)) ?_;exact ag (sy (u1 rfl)) e
  generalize cells[j]=x at *
  by_cases hB:(1000000000000000000:Int)<=x
  ·refine ⟨x % m,_,(go (o':=so cells ((j:Nat)+1) x (c+1) s) (ag (ifT (tof (ig (cj rfl) (ig (iw _ _ _) (iw _ _ _) p18) (ayl hB)))) (atj (cj rfl) (cj rfl) (iw _ _ _) rfl))).trans (e1 (by omega)),dL _ (by omega),cV _ m0,⟨cells,(j:Int)+1,x / m,c+1,s,rfl,by omega,Int.ediv_nonneg (by omega) (by omega),s0,s1,by omega,by omega⟩⟩
  ·obtain ⟨r,r0,r1,e⟩:=e2 (a:=(j:Nat)+1) (t2:=some (.int x)) s2' s3;exact ⟨r,_,(go (o':=so cells ((j:Nat)+1) 0 (c+1) ((s*31+x) % 2147483647)) (ag (ifF (tof (ig (cj rfl) (ig (iw _ _ _) (iw _ _ _) p18) (aym hB)))) (atj (ig (ig (ig (ig (cj rfl) (iw _ _ _) x4) (iw _ _ _) (a3a.trans (aA (.inr ⟨by decide,by decide⟩)))) (cj rfl) a0k) (iw _ _ _) (a67 (by decide))) (cj rfl) (iw _ _ _) rfl))).trans e,r0,r1,⟨cells,(j:Int)+1,0,c+1,_,rfl,by omega,by omega,s2',s3,by omega,by omega⟩⟩
 ·have tt:a6u (sT (s2 hEq (s2 gIx (sV 0) (sC (.int 2))) (sC (.int 0)))) (sT (s2 gLt (s2 gIx (sV 0) (sC (.int 1))) (sA rm (aj (s2 gIx (sV 0) (sC (.int 0))) dq)))) [some (.ref 0),some (.int m),none,none] [so cells a l (c+1) s] = .ok false [so cells a l (c+1) s]:=by
   by_cases hl:l=0
   ·exact aew (tof (ig (ig (cj rfl) (iw _ _ _) x2) (iw _ _ _) (aaa hl))) (tof (ig (ig (cj rfl) (iw _ _ _) x1) (uv (ig (cj rfl) (iw _ _ _) x0) (a3w.trans (by rw [am]))) (al3 λz=>hA ⟨hl,z⟩)))
   ·exact amq (tof (ig (ig (cj rfl) (iw _ _ _) x2) (iw _ _ _) (abf hl)))
  by_cases hC:0<l
  ·exact ⟨l % m,_,(af toR (sy (u3 rfl))).trans ((af toR (ifN tt)).trans (e1 hC)),dL _ (by omega),cV _ m0,⟨cells,a,l / m,c+1,s,rfl,a0,Int.ediv_nonneg (by omega) (by omega),s0,s1,by omega,by omega⟩⟩
  ·have:l=0:=by omega
   subst this;obtain ⟨r,r0,r1,e⟩:=e2 (a:=a) (t2:=none) s0 s1;exact ⟨r,_,(af toR (sy (u3 rfl))).trans ((af toR (ifN tt)).trans e),r0,r1,⟨cells,a,0,c+1,s,rfl,a0,by omega,s0,s1,by omega,by omega⟩⟩
theorem abh(P:Src o N)(hN:N<=1000000000)(m0:0<m)(m1:m<1073741824):∃ r o',Dr ak 2 [.int m] o (.int r) o'/\0<=r/\r<m/\Src o' (N+1):=by
 obtain ⟨r,o',e,r0,r1,P'⟩:=aho P hN m0 m1;refine ⟨r,o',Dr.of rfl (by simp [iy]) P.clo e (xx (iy _) ?_) (iy _) P'.clo,r0,r1,P'⟩
 intro u hu
 simp at hu
 subst hu;exact a0t (by omega) P'.clo
end SRC
namespace EVX
open PySem PySem.Spec L2 MI
section
variable{i:Nat}{cs:Str->Bool}{fb fs p g:SS}{τ τ1 τ2:Sd}{h h1 h2:Hd}{c:Str}{f:SE}{ka:SA}{ds:List D}{F:SF}{n:Nat}
theorem j7(e:f τ h = .ok d h1)(e2:ka τ h1 = .ok ds h2):aj f ka τ h = .ok (d::ds) h2:=by
 unfold aj;rw [e,du,e2];rfl
theorem ad6:MI.wk [a] h = .ok (.tup [a]) h:=by unfold MI.wk;rw [aA (dj (by simp))]
theorem aex:MI.wk [] h = .ok (.tup []) h:=by unfold MI.wk;rw [aA (dj (by simp))]
theorem a2a:sZ ao4 τ [] = .ok (.rod [] []) []:=by
 unfold sZ;show a6x 0 (.ok (.ref 0) [.dK []])=_;refine a5n (h1:=[.dK []]) ?_ (by simp)
 unfold FU a6j;rw [aL (by simp only [MI.clo];omega)]
 rfl
end
end EVX
namespace SRC
open PySem PySem.Spec L2 MI AT HND EVX
noncomputable def jk:SF:=qj zc 2
theorem ints_map:∀ l:List Int,a3m (l.map D.int)=some l
 | []=>rfl
 | a::l=>by rw [aZ];simp only [a3m,ints_map l,Option.map_some]
theorem ayn(e:k τ h = .ok ds h1)(eg:g ds h1 = .ok d h2):sA g k τ h = .ok d h2:=by
 unfold sA;rw [e,du,eg]
def cell(x:Int):Int:=2*awt x+(if decide (x<0)=true then 1 else 0)
theorem ahp(ns:List Int)(h:Hd):∃ o,Src o 0/\kj true 1 jk [.scr (ns.map D.int)] h = .ok (.ref h.length) (h++[o]):=by
 have cl:clos 0 ((ns.take 63).map D.int):=j4 λx _=>iy x;have z1:sZ (a2h (sV 0) oN (oS (sC (.int 63)))) [some (.scr (ns.map D.int)),none] [] = .ok (.rol ((ns.take 63).map D.int)) []:=by
  refine a4k (by
   show gSl (.scr (ns.map D.int)) none (some ((63:Nat):Int)) []=_;unfold gSl;simp only [aaq,List.map_take]) cl (by simp)
 have z2:sZ (n6 (sIt (sZ (a2h (sV 0) oN (oS (sC (.int 63)))))) t1 yo []) [some (.scr (ns.map D.int)),none] [] = .ok (.rol ((ns.take 63).map λx=>D.int (cell x))) []:=by
  refine a4k (qz D.int (λx=>D.int (cell x)) (ns.take 63) (a66 z1 rfl) (dj (by simp;omega)) λx _=>?_) (j4 λx _=>iy _) (by simp)
  rw [xm];unfold yo;exact ig (ig (iw _ _ _) (uv (cj rfl) (agq _ _)) (a3a.trans (aA (.inl ⟨by decide,by decide⟩)))) (uv (ig (cj rfl) (iw _ _ _) rfl) rfl) a0k
 have em:((ns.take 63).map λx=>D.int (cell x))=((ns.take 63).map cell).map D.int:=by rw [cJ];rfl
 rw [em] at z2
 generalize (ns.take 63).map cell=cs at z2
 have e:jk [.scr (ns.map D.int)] [] = .ok (.ref 0) [.lst [.rol (cs.map D.int), .int 0, .int 0, .int 0, .int (cs.sum % 2147483647)]]:=by
  unfold jk;rw [jq];show toR (zc [some (.scr (ns.map D.int)),none] [])=_;unfold zc;refine ag (af toR (jm z2)) ?_;have su:amd [.rol (cs.map D.int)] [] = .ok (.int cs.sum) []:=by unfold amd;simp only [ints_map]
  exact af toR (jy (ayn (j7 (cj rfl) (j7 (iw _ _ _) (j7 (iw _ _ _) (j7 (iw _ _ _) (j7 (ig (uv (cj rfl) su) (iw _ _ _) (a67 (by decide))) rfl))))) rfl))
 have P:Src (.lst [.rol (cs.map D.int), .int 0, .int 0, .int 0, .int (cs.sum % 2147483647)]) 0:=⟨cs,0,0,0,_,rfl,by decide,by decide,dL _ (by decide),cV _ (by decide),by decide,by decide⟩
 exact ⟨_,P,asa rfl (by simpa [MI.clo] using (j4 λx _=>iy x:clos 0 (ns.map D.int))) e rfl P.clo h⟩
noncomputable def lu:SF:=qj yp 1
theorem a8n:Pu lu 0 [] (.str (S sig)):=HND.a8n
noncomputable def jr:SF:=qj (zf ak lu) 5
theorem ams{a b:List Nat}(l:a.length+b.length<=LINE):a0p (.str (S a)) (.str (S b)) h = .ok (.str (S (a++b))) h:=by
 have:=a8h (h:=h) l
 simpa [a0p,jb,axt] using this
theorem al5(e:f τ h = .ok (.int i) h1):oS f τ h = .ok (some i) h1:=by unfold oS;rw [e];rfl
theorem al6(e:f τ h = .ok d h1)(e1:lo τ h1 = .ok a h2)(e2:hi τ h2 = .ok b h3)(e3:aal d a b h3 = .ok v h4):a2h f lo hi τ h = .ok v h4:=by
 unfold a2h;rw [e,du,e1,du,e2,du,e3]
theorem ahq(P:Src o N)(hN:N<=999999000):∃ l o',Tongue l/\Dr jr 1 [] o (.str (S l)) o'/\Src o' (N+7):=by
 obtain ⟨r0,o1,e1,r0a,r0b,P1⟩:=abh (m:=6) P (by omega) (by decide) (by decide)
 have lo:=um (g:=kN 3) (b:=yq ak lu) (λi:Nat=>D.int (0+(i:Nat)))
  (λpre τ h=>∃ (rest told:List Nat) (u:O) (t3 t4:Option D),τ=[some (.ref 0),some (.str (S rest)),some (.str (S told)),t3,t4]/\h=[u]/\Src u (N+1+pre.length)/\told.length=pre.length/\(told++rest).length=95/\(told++rest).Nodup/\∀ c∈told++rest,c∈sig)
  (List.range (1+r0).toNat) [some (.ref 0),some (.str (S sig)),some (.str (S [])),none,none] [o1] ?_
  ⟨sig,[],o1,none,none,rfl,rfl,P1,rfl,by simp [apa],by simpa using ate,by simp⟩
 ·obtain ⟨τ',h',e2,rest,told,u,t3,t4,rfl,rfl,P2,l1,l2,nd,sb⟩:=lo;rw [aG] at P2 l1;have T:Tongue told:=⟨by omega,by omega,(bA.mp nd).1,λc hc=>sb c (cr _ hc)⟩
  refine ⟨told,u,T,Dr.of rfl (by simp) P.clo (r:=.ok (.str (S told)) [u]) ?_ (xx (jc _) (by simpa using a0t (by omega) P2.clo)) (jc _) P2.clo,P2.up (by omega)⟩
  unfold jr;rw [jq];show toR (zf ak lu [some (.ref 0),none,none,none,none] [o])=_;unfold zf;have c2:kj false 2 ak [.ref 0, .int 6] [o] = .ok (.int r0) [o1]:=e1 0 [o] rfl;have bd:B62 (1+r0):=by unfold B62;omega
  refine ag (af toR (jm (aur (a8n _)))) ?_;refine ag (af toR (jm (iw _ _ _))) ?_;have it:sRg v6 (aj (s2 jb (sC (.int 1)) (sA (kj false 2 ak) (aj (sV 0) (aj (sC (.int 6)) dq)))) dq) [some (.ref 0),some (.str (S sig)),some (.str ""),none,none] [o] = .ok ⟨rng 0 (1+r0).toNat,λ_=>True⟩ [o1]:=by
   unfold sRg;rw [arg1 (ig (iw _ _ _) (uw (cj rfl) (iw _ _ _) c2) a0k),du];exact aA bd
  refine ag (af toR (a4l it)) ?_;refine ag (af (λz=>toR (MI.thn z _)) e2) ?_;exact af toR (jy (cj rfl))
 ·rintro pre i post τ h all ⟨rest,told,u,t3,t4,rfl,rfl,P2,l1,l2,nd,sb⟩
  have hlen:pre.length<(1+r0).toNat:=by
   have:=af List.length all
   simp at this;omega
  rw [ap] at l2;obtain ⟨r,u',e2,ra,rb,P3⟩:=abh (m:=(rest.length:Nat)) P2 (by omega) (by omega) (by omega)
  obtain ⟨j,rfl⟩:=eI ra;have hj:j<rest.length:=by omega
  have gx:rest[j]? = some rest[j]:=ad hj;have pp:=aa5 told rest j rest[j] gx;refine ⟨_,_,rfl,_,_,?_,rest.take j++rest.drop (j+1),told++[rest[j]],u',some (.int (0+(i:Nat))),some (.int (j:Nat)),rfl,rfl,by simpa [hZ] using P3,by simp [l1],?_,pp.nodup_iff.mp nd,λc hc=>sb c (pp.mem_iff.mpr hc)⟩
  ·unfold yq;have L:∀ n:Nat,n<=95->n<=LINE:=λn hn=>by show n<=16777216;omega
   have c2:=e2 0 [u] rfl;have x1:∀ h,gIx (.str (S rest)) (.int (j:Nat)) h = .ok (.str (S [rest[j]])) h:=λh=>ais (L _ (by omega)) gx
   have x2:∀ h,rm [.str (S rest)] h = .ok (.int rest.length) h:=λh=>a3v (L _ (by omega))
   have x3:∀ h,a0p (.str (S told)) (.str (S [rest[j]])) h = .ok (.str (S (told++[rest[j]]))) h:=λh=>ams (L _ (by simp;omega))
   have x4:∀ h,aal (.str (S rest)) none (some (j:Int)) h = .ok (.str (S (rest.take j))) h:=λh=>atc j (L _ (by omega))
   have x5:∀ h,aal (.str (S rest)) (some ((j:Int)+1)) none h = .ok (.str (S (rest.drop (j+1)))) h:=λh=>aa2 (j+1) (L _ (by omega))
   have x6:∀ h,jb (.str (S (rest.take j))) (.str (S (rest.drop (j+1)))) h = .ok (.str (S (rest.take j++rest.drop (j+1)))) h:=λh=>a8h (L _ (by simp;omega))
   have c2:kj false 2 ak [.ref 0, .int (rest.length:Nat)] [u] = .ok (.int (j:Nat)) [u']:=c2;refine ag (jm (uw (cj rfl) (uv (cj rfl) (x2 _)) c2)) ?_;refine ag (sy (aa9 rfl (ig (cj rfl) (cj rfl) (x1 _)) (x3 _))) ?_;exact a93 (ig (al6 (cj rfl) rfl (al5 (cj rfl)) (x4 _)) (al6 (cj rfl) (al5 (ig (cj rfl) (iw _ _ _) a0k)) rfl (x5 _)) (x6 _))
  ·rw [<-pp.length_eq];simpa using l2
end SRC
namespace PN
open PySem PySem.Spec L2 MI AT HND EVX
end PN
namespace HND
open PySem PySem.Spec L2 MI AT
abbrev cu(i:Nat):D:=.int (i:Nat)
structure Table where
 tg:List Nat
 go:List (List Nat)
 ks:List Int
end HND
namespace MI
open PySem PySem.Spec L2
end MI
namespace PAP
open PySem PySem.Spec L2 MI AT HND
theorem ahr(e:f τ h = .ok (.int i) h1):oS f τ h = .ok (some i) h1:=by unfold oS;rw [e];rfl
theorem ahs(e:f τ h = .ok d h1)(e1:lo τ h1 = .ok a h2)(e2:hi τ h2 = .ok b h3)(e3:aal d a b h3 = .ok v h4):a2h f lo hi τ h = .ok v h4:=by
 unfold a2h;rw [e,du,e1,du,e2,du,e3]
theorem aw7(xs:List D)(lo hi:Option Int)(h:Hd):aal (.tup xs) lo hi h = .ok (.tup (a5b xs lo hi)) h:=by
 unfold aal;dsimp only
 split
 ·rename_i w;obtain ⟨a,b⟩:=w
  congr 2
  unfold a5b;rw [a,b,fS,bG (by omega)]
 ·rfl
theorem auv(xs:List D)(k:Nat)(h:Hd):aal (.tup xs) none (some (k:Int)) h = .ok (.tup (xs.take k)) h:=by rw [aw7,aaq]
theorem ad7(xs:List D)(k:Nat)(h:Hd):aal (.tup xs) (some (k:Int)) none h = .ok (.tup (xs.drop k)) h:=by rw [aw7,a9d]
theorem al7{xs ys:List D}(z:xs.length+ys.length<=1000000):jb (.tup xs) (.tup ys) h = .ok (.tup (xs++ys)) h:=by
 cases xs with
 | nil=>rfl
 | cons x xs =>
  show (if (x::xs).length+ys.length<=LINE then R.ok (D.tup (x::xs++ys)) h else .no)=_
  rw [aA (dj z)]
theorem ad6:MI.wk [a] h = .ok (.tup [a]) h:=by unfold MI.wk;rw [aA (dj (by simp))]
theorem aex:MI.wk [] h = .ok (.tup []) h:=by unfold MI.wk;rw [aA (dj (by simp))]
theorem j7(e:f τ h = .ok d h1)(e2:k τ h1 = .ok ds h2):aj f k τ h = .ok (d::ds) h2:=by
 unfold aj;rw [e,du,e2,du]
theorem aof(e:k τ h = .ok ds h1)(e2:G ds h1 = .ok v h2):sA G k τ h = .ok v h2:=by
 unfold sA;rw [e,du,e2]
theorem a2a:sZ ao4 τ [] = .ok (.rod [] []) []:=by
 unfold sZ;show a6x 0 (.ok (.ref 0) [.dK []])=_;refine a5n (h1:=[.dK []]) ?_ (by simp)
 unfold FU a6j;rw [aL (by simp only [MI.clo];omega)]
 rfl
theorem aab{h h':Hd}(hl:h'.length=h.length)(e:f τ h = .ok (.ref h'.length) (h'++[.lst xs]))(cx:clos h.length xs)(c:∀ o∈h',u5 h.length o):sZ f τ h = .ok (.rol xs) h':=by
 unfold sZ;rw [e,a2t (by omega) (by simp) cx (by rw [<-hl];simpa [hl] using c)]
 rw [<-hl];simp
end PAP
namespace SRC
open PySem PySem.Spec L2 MI AT HND EVX
end SRC
namespace BF
section
variable(s:Nat)(step:Nat->Nat->Nat)(K:Nat->Bool)
def fl:Nat->Nat->Bool
 | 0,r=>K r
 | k+1,r=>(List.range s).any λc=>fl k (step r c)
variable{s step K}
end
theorem a8p:∀ (n:Nat) (l:List Nat),l.Nodup->(∀ x∈l,x<n)->l.length<=n
 | 0,l,_,h=>by
  cases l with
  | nil=>exact ar _
  | cons x l=>exact absurd (h x aF) (by omega)
 | n+1,l,nd,h=>by
  have:=a8p n (l.erase n) (nd.erase n) λx hx=>by
   have h1:=h x (List.mem_of_mem_erase hx);have h2:x≠n:=λz=>by subst z;exact (List.Nodup.not_mem_erase nd) hx
   omega
  have:=List.length_erase (a:=n) (l:=l)
  split at this<;>omega
end BF
namespace SRC
open PySem PySem.Spec L2 MI AT HND EVX
theorem a68{l:List Nat}:inD (cu x) (l.map cu)=decide (x∈l):=by
 unfold inD;rw [List.any_map]
 by_cases h:x∈l
 ·rw [cF h,gQ];exact ⟨x,h,by show ((x:Int) == (x:Int))=true;simp⟩
 ·rw [aY h,List.any_eq_false]
  intro y hy
  have:x≠y:=λe=>h (e ▸ hy)
  show ¬ ((y:Int) == (x:Int))=true;rw [i3];omega
theorem ad8{l:List Nat}(e:h[i]? = some (.lst (l.map cu))):gIn true (cu x) (.ref i) h = .ok (.bl (!decide (x∈l))) h:=by
 have fl:zj (cu x)=true/\(l.map cu).all zj=true:=⟨rfl,by
  rw [br]
  intro y hy
  obtain ⟨n,_,rfl⟩:=bD.mp hy
  rfl⟩
 unfold gIn a07;simp only [e,aA fl,dC,a68]
abbrev cst(l:List Nat):List Int:=l.map λx:Nat=>(x:Int)
theorem a2e(l:List Nat):l.map cu=(cst l).map D.int:=by unfold cst;rw [cJ];rfl
theorem aer{l:List Nat}(e:h[i]? = some (.lst (l.map cu))):a6y (.ref i) h=some (cst l):=by
 unfold a6y;simp only [e];rw [a2e,ints_map]
theorem a04(l:List Nat):∃ m:List Nat,PySem.W.sortI (cst l)=cst m/\m.Perm l/\m.Pairwise (·<=·):=by
 have p:=fO (cst l);have s:=PySem.W.sortI_rises (cst l);refine ⟨(PySem.W.sortI (cst l)).map Int.toNat,?_,?_,?_⟩
 ·unfold cst;rw [cJ];have:∀ x∈PySem.W.sortI (l.map λx:Nat=>(x:Int)),((λx:Nat=>(x:Int)) ∘ Int.toNat) x=x:=λx hx=>by
   have:=p.mem_iff.mp hx
   obtain ⟨y,_,rfl⟩:=bD.mp this;simp
  rw [ee this];simp
 ·have:=p.map Int.toNat
  have e:(cst l).map Int.toNat=l:=by
   unfold cst;rw [cJ];exact (ee λx _=>by simp).trans (List.map_id l)
  rwa [e] at this
 ·rw [List.pairwise_map];exact s.imp λh=>by omega
def pos(m:List Nat)(x:Nat):Nat:=(ixI (x:Int) (cst m)).getD 0
theorem aac{l:List Nat}(e:h[i]? = some (.lst (l.map cu)))(z:l.length<64)(em:PySem.W.sortI (cst l)=cst m):a3q [.ref i] h = .ok (.ref h.length) (h++[.lst (m.map cu)]):=by
 have q:=aer e;unfold a3q;simp only [q];rw [aA (by unfold cst;rw [am];exact z),em,<-a2e]
end SRC
namespace K21
open PySem PySem.Spec L2 MI
end K21
namespace K23
open PySem PySem.Spec L2 MI
end K23
namespace K22
open PySem PySem.Spec L2 MI
end K22
namespace K22
open PySem PySem.Spec L2 MI AT HND
section
variable(T:Table)
def knd(r:Nat):Bool:=decide ((T.ks[r]?).getD (-1) ≠ -1)
end
end K22
namespace K23
open PySem PySem.Spec L2 MI AT HND K22
end K23
namespace K21
open PySem PySem.Spec L2 MI AT HND K22 K23 EVX
end K21
namespace SRC
open PySem PySem.Spec L2 MI AT HND EVX K22 K23 K21
end SRC
namespace PN
open PySem PySem.Spec L2 MI AT HND EVX K22 K23 K21
end PN
namespace EVT
open PySem PySem.Spec L2 MI AT HND
section
variable{f g k f1 f2 f3:SE}{ka:SA}{c c1 c2:ST}{τ:Sd}{h h1 h2 h3:Hd}{a b d v:D}{i:Nat}{t u:Bool}{xs ys ds:List D}
theorem wj:dq τ h = .ok [] h:=rfl
theorem aht:oN τ h = .ok none h:=rfl
theorem PuE(p:Pu F n ds d):kj false n F ds h = .ok d h:=p h
theorem a8q(p:Dr F n ds o d o'):kj false n F (.ref 0::ds) (o::h) = .ok d (o'::h):=p 0 (o::h) rfl
theorem al8(hv:n<xs.length):gIx (.rol xs) (.int (n:Nat)) h = .ok (xs.getD n .non) h:=amr (by rw [cU,ad hv];rfl)
theorem al9(hv:n<xs.length):gIx (.tup xs) (.int (n:Nat)) h = .ok (xs.getD n .non) h:=ahk (by rw [cU,ad hv];rfl)
theorem a69:rm [.tup xs] h = .ok (cu xs.length) h:=rfl
theorem a3c:rm [.rol xs] h = .ok (cu xs.length) h:=rfl
theorem ax8(e:c τ h = .ok true h1)(e':f τ h1 = .ok d h2):afr c f g τ h = .ok d h2:=by unfold afr;rw [e,du,aA rfl,e']
theorem auw(e:c τ h = .ok false h1)(e':g τ h1 = .ok d h2):afr c f g τ h = .ok d h2:=by unfold afr;rw [e,du,aL (by simp),e']
theorem ait(e:f τ h=R.ok (D.ref h1.length) (h1++[.lst xs]))(hl:h1.length=h.length)(cx:clos 0 xs)(co:∀ o∈h1,u5 0 o):sZ f τ h = .ok (.rol xs) h1 :=
 PAP.aab hl e (zp (bE _) cx) λo ho=>a0t (bE _) (co o ho)
theorem uy(e:ka τ h = .ok ds h1)(hl:h1.length=h.length)(cd:clos 0 ds)(co:∀ o∈h1,u5 0 o)(z:ds.length<=1000000):sZ (sA MI.vy ka) τ h = .ok (.rol ds) h1:=by
 refine ait ?_ hl cd co;unfold sA;rw [e,du];unfold MI.vy;exact aA (dj z)
theorem a8r(e:f τ h = .ok (.tup xs) h1)(hl:h1.length=h.length)(cd:clos 0 xs)(co:∀ o∈h1,u5 0 o):sZ (sA art (aj f dq)) τ h = .ok (.rol xs) h1:=ait (uv e rfl) hl cd co
theorem a8s(e:f τ h = .ok (.str (S l)) h1)(hl:h1.length=h.length)(co:∀ o∈h1,u5 0 o)(z:l.length<=1000000):sZ (sA art (aj f dq)) τ h = .ok (.rol (l.map λc=>.str (S [c]))) h1:=by
 refine ait (uv e ?_) hl (j4 λ_ _=>jc _) co;show (if (S l).length<=LINE then R.ok (D.ref h1.length) (h1++[O.lst (a0o (S l))]) else R.no)=_
 rw [aA (dj (by rw [aa1];exact z))]
 unfold a0o;rw [a8g]
theorem aad(e1:f τ h = .ok (.rol xs) h1)(e2:g τ h1 = .ok (.rol ys) h2)(hl:h2.length=h.length)(c1:clos 0 xs)(c2:clos 0 ys)(co:∀ o∈h2,u5 0 o)(z:xs.length+ys.length<=1000000):sZ (s2 jb f g) τ h = .ok (.rol (xs++ys)) h2:=by
 refine ait (ig e1 e2 ?_) hl (m7.mpr λx hx=>(aQ.mp hx).elim (m7.mp c1 x) (m7.mp c2 x)) co;rw [agk (xs:=xs) (ys:=ys) rfl rfl,aA (dj z)]
theorem aae{k:Int}(e1:f τ h = .ok (.rol xs) h1)(e2:g τ h1 = .ok (.int k) h2)(hl:h2.length=h.length)(c1:clos 0 xs)(co:∀ o∈h2,u5 0 o)(z:xs.length*k.toNat<=1000000)(zn : -1000000<=k/\k<=1000000):sZ (s2 xu f g) τ h = .ok (.rol (List.replicate k.toNat xs).flatten) h2:=by
 refine ait (ig e1 e2 ?_) hl (m7.mpr λx hx=>?_) co
 ·have:xu (.rol xs) (.int k) h2=if (-(2 ^ 63)<=k/\k<2 ^ 63)/\xs.length*k.toNat<=LINE then .ok (.ref h2.length) (h2++[.lst (List.replicate k.toNat xs).flatten]) else .no:=rfl
  rw [this,aA ⟨by omega,dj z⟩]
 ·obtain ⟨l,hl,hx⟩:=gU.mp hx;rw [(List.mem_replicate.mp hl).2] at hx;exact m7.mp c1 x hx
theorem a2a(co:∀ o∈h,u5 0 o):sZ ao4 τ h = .ok (.rod [] []) h:=by
 unfold sZ;show a6x h.length (.ok (.ref h.length) (h++[.dK []]))=_;rw [a5n (d':=.rod [] []) ?_ ?_]
 ·simp
 ·unfold FU a6j;rw [aL (by simp only [MI.clo];omega)]
  simp [a1f]
 ·simp only [List.take_left'];exact λo ho=>a0t (bE _) (co o ho)
theorem a8t:(List.replicate n xs).flatten.length=n*xs.length:=by simp
theorem a0f(c1:clos i xs)(c2:clos i ys):clos i (xs++ys):=m7.mpr λx hx=>(aQ.mp hx).elim (m7.mp c1 x) (m7.mp c2 x)
theorem a0y(c:clos i xs):clos i (xs.take n):=m7.mpr λx hx=>m7.mp c x (dQ hx)
theorem a0z(c:clos i xs):clos i (xs.drop n):=m7.mpr λx hx=>m7.mp c x (List.mem_of_mem_drop hx)
theorem a4s(c:clos i xs):clos i (List.replicate n xs).flatten:=m7.mpr λx hx=>by
 obtain ⟨l,hl,hx⟩:=gU.mp hx;rw [(List.mem_replicate.mp hl).2] at hx;exact m7.mp c x hx
theorem a4t(c:clos i xs):clo i (xs.getD n .non):=by
 rw [cU]
 cases e:xs[n]? with
 | none=>exact a3r
 | some x=>exact m7.mp c x (aT e)
theorem a4u:clo i (.rod [] []):=by simp [clo,clos]
theorem a8u:∀ u∈([]:List O),u5 0 u:=λu hu=>by cases hu
theorem a1a(c:u5 0 o):∀ u∈[o],u5 0 u:=λu hu=>by rw [av] at hu;subst hu;exact c
end
def wth(ws:List D)(k:Nat)(d:D):List D:=ws.take k++[d]++ws.drop (k+1)
theorem a4v(c:clos i ws)(cd:clo i d):clos i (wth ws k d):=a0f (a0f (a0y c) (gf cd j8)) (a0z c)
theorem atk{α:Type}(l:List α):a5b l none (some (-1))=l.take (l.length - 1):=by
 unfold a5b;rw [HT.a7f,fS,Nat.sub_zero]
 congr 1
 unfold HT.sIx;simp;omega
theorem ala(ys:List D)(hh:Hd):aal (.tup ys) none (some (-1)) hh = .ok (.tup (ys.take (ys.length - 1))) hh:=by rw [PAP.aw7,atk]
end EVT
namespace K76
open PySem PySem.Spec L2 MI
end K76
namespace K76
open PySem PySem.Spec L2 MI AT HND
theorem atl:∀ ls:List (List Nat),Txt.join (S []) (ls.map S)=S ls.flatten:=by
 have e:∀ zs:List Str,Txt.join (S []) zs=Str.join (S []) zs:=PySem.StrLaws.glued_eq_join (S []);have st:∀ (x y:Str) (r:List Str),Str.join (S []) (x::y::r)=x++S []++Str.join (S []) (y::r):=λ_ _ _=>rfl
 intro ls
 rw [e]
 induction ls with
 | nil=>rfl
 | cons l ls ih =>
  cases ls with
  | nil=>rw [aZ,cL,bK,List.flatten_nil,bR];rfl
  | cons m ls =>
   rw [aZ,aZ,st,<-aZ,ih,ap8,ap8,bR,bK (l:=l)]
theorem amt:∀ ls:List (List Nat),aax (ls.map λl=>D.str (S l))=some (ls.map S)
 | []=>rfl
 | l::ls=>by
  show (aax (ls.map λl=>D.str (S l))).map _=_;rw [amt ls];rfl
theorem ayo(ls:List (List Nat)):((ls.map S).map (·.length)).sum=ls.flatten.length:=by
 induction ls with
 | nil=>rfl
 | cons l ls ih=>rw [aZ,aZ,List.sum_cons,ih,bK,ap,aa1]
theorem ahu{ls:List (List Nat)}(z:ls.flatten.length<=1000000):a6l (.str (S [])) [.rol (ls.map λl=>.str (S l))] h = .ok (.str (S ls.flatten)) h:=by
 unfold a6l;simp only [amt,ayo,aa1,c6,Nat.mul_zero,Nat.add_zero,atl];rw [aA (by omega)]
theorem auy(e1:f τ h = .ok (.str z) h1)(e2:k τ h1 = .ok ds h2)(e3:g (.str z) ds h2 = .ok v h3):sMS g f k τ h = .ok v h3:=by
 unfold sMS;rw [e1,du];dsimp only;rw [e2,du,e3]
end K76
namespace MI
open PySem PySem.Spec L2 SRC HND
theorem ahv{y:Nat}:(y:Int)∈cst l↔y∈l:=by
 unfold cst;rw [bD]
 constructor
 ·rintro ⟨x,hx,e⟩;have:x=y:=by omega
  subst this;exact hx
 ·intro h;exact ⟨y,h,rfl⟩
theorem aaf(l:List Nat)(y:Nat):stepK (cst l) (y:Int)=cst (stepK l y):=by
 unfold L2.stepK
 by_cases h:y∈l
 ·rw [aA h,aA (ahv.mpr h)]
 ·rw [aL h,aL λz=>h (ahv.mp z)];unfold cst;rw [bg];rfl
structure Fw (n:Nat) (l:List Nat):Prop where
 nd:l.Nodup
 lt:∀ x∈l,x<n
theorem Fw.nil:Fw n []:=⟨dS,by simp⟩
theorem Fw.len(h:Fw n l):l.length<=n:=BF.a8p n l h.nd h.lt
theorem Fw.step(M:Fw n l)(hx:x<n):Fw n (stepK l x):=by
 unfold L2.stepK
 by_cases h:x∈l
 ·rw [aA h];exact M
 rw [aL h];refine ⟨?_,λy hy=>?_⟩
 ·rw [bA];refine ⟨M.nd,by simp,λa ha b hb=>?_⟩
  rw [av] at hb;subst hb;exact λe=>h (e ▸ ha)
 ·rcases aQ.mp hy with z | z
  ·exact M.lt y z
  ·rw [av] at z;subst z;exact hx
theorem alb{x y:Nat}:y∈stepK l x↔y∈l\/y=x:=by
 unfold L2.stepK
 by_cases h:x∈l
 ·rw [aA h];exact ⟨.inl,λz=>z.elim id λe=>e ▸ h⟩
 ·rw [aL h,aQ,av]
theorem Fw.fold:∀ {r l:List Nat},Fw n l->(∀ x∈r,x<n)->Fw n (r.foldl stepK l)
 | [],_,h,_=>h
 | x::r,l,h,k=>Fw.fold (r:=r) (h.step (k x aF)) λy hy=>k y (aC _ hy)
theorem a1m:∀ {r l:List Nat},y∈r.foldl stepK l↔y∈l\/y∈r
 | [],l=>by simp
 | x::r,l=>by
  rw [cP,a1m (r:=r),alb,aD]
  constructor
  ·rintro ((h | h) | h)
   ·exact .inl h
   ·exact .inr (.inl h)
   ·exact .inr (.inr h)
  ·rintro (h | h | h)
   ·exact .inl (.inl h)
   ·exact .inl (.inr h)
   ·exact .inr h
theorem aag(hn:n<=60):∀ {r l:List Nat},Fw n l->(∀ y∈r,y<n)->setIn (λ_=>True) (sV 1) x rd (r.map cu) (cst l) h = .ok (cst (r.foldl stepK l)) h
 | [],l,_,_=>by rw [cL,setIn,aA True.intro];rfl
 | y::r,l,M,k=>by
  rw [aZ,setIn,aA True.intro];have e:sV 1 (some x::some (cu y)::rd) h = .ok (cu y) h:=cj rfl;rw [e,du];have hl:=M.len;show (if (cst l).length<63 then setIn (λ_=>True) (sV 1) x rd (r.map cu) (stepK (cst l) (y:Int)) h else .no)=_
  rw [aA (by unfold cst;rw [am];omega),aaf]
  exact aag hn (M.step (k y aF)) λz hz=>k z (aC _ hz)
theorem a78{n:Nat}(hn:n<=60){fj:SI}{rd:Sd}{h:Hd}{α:Type}(g:α->D)(row:α->List Nat):∀ {xs:List α} {l:List Nat},Fw n l->(∀ x∈xs,∀ y∈row x,y<n)->(∀ x∈xs,fj (some (g x)::none::rd) h = .ok ⟨(row x).map cu,λ_=>True⟩ h)->
  a1t (λ_=>True) fj (sV 1) rd (xs.map g) (cst l) h = .ok (cst (xs.foldl (λl x=>(row x).foldl stepK l) l)) h
 | [],l,_,_,_=>by rw [cL,a1t,aA True.intro];rfl
 | x::xs,l,M,k,e=>by
  rw [aZ,a1t,aA True.intro,e x aF,du];dsimp only;have kx:=k x aF;rw [aag hn M kx,du];exact a78 hn g row (M.fold kx) (λz hz=>k z (aC _ hz)) λz hz=>e z (aC _ hz)
theorem Fw.folds{n:Nat}{α:Type}(row:α->List Nat):∀ {xs:List α} {l:List Nat},Fw n l->(∀ x∈xs,∀ y∈row x,y<n)->Fw n (xs.foldl (λl x=>(row x).foldl stepK l) l)
 | [],_,h,_=>h
 | x::xs,l,h,k=>Fw.folds row (xs:=xs) (h.fold (k x aF)) λy hy=>k y (aC _ hy)
theorem aah{y:Nat}{α:Type}(row:α->List Nat):∀ {xs:List α} {l:List Nat},y∈xs.foldl (λl x=>(row x).foldl stepK l) l↔y∈l\/∃ x∈xs,y∈row x
 | [],l=>by simp
 | x::xs,l=>by
  rw [cP,aah row (xs:=xs),a1m]
  constructor
  ·rintro ((h | h) | ⟨z,hz,h⟩)
   ·exact .inl h
   ·exact .inr ⟨x,aF,h⟩
   ·exact .inr ⟨z,aC _ hz,h⟩
  ·rintro (h | ⟨z,hz,h⟩)
   ·exact .inl (.inl h)
   ·rcases aD.mp hz with rfl | hz
    ·exact .inl (.inr h)
    ·exact .inr ⟨z,hz,h⟩
theorem ad9{fi fj:SI}{ix:List Nat}{τ:Sd}{h:Hd}{α:Type}(g:α->D)(xs:List α)(row:α->List Nat){n:Nat}(hn:n<=60)(e:fi τ h = .ok ⟨xs.map g,λ_=>True⟩ h)
  (ej:∀ x∈xs,fj (some (g x)::none::frs' ix τ) h = .ok ⟨(row x).map cu,λ_=>True⟩ h) (lt:∀ x∈xs,∀ y∈row x,y<n) :
  ∃ ts:List Nat,Fw n ts/\ts.Pairwise (·<=·)/\(∀ y,y∈ts↔∃ x∈xs,y∈row x)/\ah7 fi fj (sV 1) ix τ h = .ok (.ref h.length) (h++[.lst (ts.map cu)]):=by
 obtain ⟨m,em,pm,sm⟩:=a04 (xs.foldl (λl x=>(row x).foldl stepK l) []);have F:=Fw.folds row (l:=[]) (n:=n) .nil lt;refine ⟨m,⟨pm.nodup_iff.mpr F.nd,λx hx=>F.lt x (pm.mem_iff.mp hx)⟩,sm,λy=>?_,?_⟩
 ·rw [pm.mem_iff,aah];simp
 ·unfold ah7;rw [e,du];dsimp only;have:=a78 hn (fj:=fj) (rd:=frs' ix τ) (h:=h) g row (xs:=xs) (l:=[]) .nil lt ej;rw [show cst []=([]:List Int) from rfl] at this
  rw [this,du];unfold ael;have fl:=F.len;rw [aA (by unfold cst;rw [am];omega),em,<-a2e]
end MI
namespace ENG
open PySem PySem.Spec L2 MI
abbrev Rl:=Nat->Nat->Prop
open Classical in
noncomputable def fl(n:Nat)(R:Rl)(a:Nat):List Nat:=(List.range (n+1)).filter λe=>decide (R a e)
theorem p6{n a e:Nat}{R:Rl}:e∈fl n R a↔e<=n/\R a e:=by
 unfold fl;simp only [eA,bb,dN];exact ⟨λ⟨h1,h2⟩=>⟨by omega,h2⟩,λ⟨h1,h2⟩=>⟨by omega,h2⟩⟩
theorem ald{n a:Nat}{R:Rl}:∀ e∈fl n R a,e<n+1:=λe h=>by have:=(p6.mp h).1;omega
theorem ale{n a:Nat}{R:Rl}:(fl n R a).Nodup:=fq _ List.nodup_range
theorem ahw{n a:Nat}{R:Rl}:(fl n R a).Pairwise (·<=·):=by
 refine fq _ ?_;exact (List.pairwise_lt_range (n:=n+1)).imp λh=>fJ h
theorem a4i{n a:Nat}{R:Rl}:(fl n R a).length<=n+1:=by
 have:=eX (λe=>@decide (R a e) (Classical.propDecidable _)) (List.range (n+1))
 rw [aG] at this;exact this
theorem a1p{n a:Nat}{R:Rl}{ts:List Nat}(nd:ts.Nodup)(st:ts.Pairwise (·<=·))(m:∀ e,e∈ts↔e<=n/\R a e):ts=fl n R a:=by
 have p:ts.Perm (fl n R a):=(List.perm_ext_iff_of_nodup nd ale).mpr λe=>by rw [m,p6]
 exact p.eq_of_pairwise (λx y _ _ h1 h2=>Nat.le_antisymm h1 h2) st ahw
theorem ahx{n a b:Nat}{R T:Rl}(h:∀ e,e<=n->(R a e↔T b e)):fl n R a=fl n T b:=a1p ale ahw λe=>by
 rw [p6]
 constructor
 ·rintro ⟨h1,h2⟩;exact ⟨h1,(h e h1).mp h2⟩
 ·rintro ⟨h1,h2⟩;exact ⟨h1,(h e h1).mpr h2⟩
noncomputable def rw_(n:Nat)(R:Rl):List (List Nat):=(List.range (n+1)).map (fl n R)
theorem aw8{n a:Nat}{R:Rl}(h:a<=n):(rw_ n R)[a]? = some (fl n R a):=by
 unfold rw_;rw [aW,fG (by omega)]
 rfl
def cmp(P R:Rl):Rl:=λa e=>∃ b,P a b/\R b e
def chn(Rs:List Rl):Rl:=Rs.foldl cmp (· = ·)
theorem a8v(Rs:List Rl)(R:Rl):chn (Rs++[R])=cmp (chn Rs) R:=by unfold chn;rw [List.foldl_append];rfl
def pw(R:Rl):Nat->Rl
 | 0=>(· = ·)
 | k+1=>cmp (pw R k) R
def star(R:Rl):Rl:=λa e=>∃ k,pw R k a e
def upto(R:Rl)(j:Nat):Rl:=λa e=>∃ k,k<=j/\pw R k a e
def btw(R:Rl)(lo hi:Nat):Rl:=λa e=>∃ k,lo<=k/\k<=hi/\pw R k a e
def Bd(n:Nat)(R:Rl):Prop:=∀ a e,R a e->a<=n->a<=e/\e<=n
theorem atm{n:Nat}:Bd n (· = ·):=λa e h ha=>by subst h;exact ⟨ar _,ha⟩
theorem amu{n:Nat}{P R:Rl}(p:Bd n P)(r:Bd n R):Bd n (cmp P R):=λa e ⟨b,h1,h2⟩ ha=>by
 obtain ⟨q1,q2⟩:=p a b h1 ha;obtain ⟨q3,q4⟩:=r b e h2 q2;exact ⟨by omega,q4⟩
theorem ahy{n:Nat}:∀ {Rs:List Rl} {P:Rl},Bd n P->(∀ R∈Rs,Bd n R)->Bd n (Rs.foldl cmp P)
 | [],_,p,_=>p
 | R::Rs,_,p,h=>ahy (Rs:=Rs) (amu p (h R aF)) λT hT=>h T (aC _ hT)
theorem ahz{n:Nat}{Rs:List Rl}(h:∀ R∈Rs,Bd n R):Bd n (chn Rs):=ahy atm h
theorem ai0{n:Nat}{R:Rl}(r:Bd n R):∀ k,Bd n (pw R k)
 | 0=>atm
 | k+1=>amu (ai0 r k) r
theorem apd{n:Nat}{R:Rl}(r:Bd n R):Bd n (star R):=λa e ⟨k,h⟩ ha=>ai0 r k a e h ha
theorem atn{n lo hi:Nat}{R:Rl}(r:Bd n R):Bd n (btw R lo hi):=λa e ⟨k,_,_,h⟩ ha=>ai0 r k a e h ha
theorem a6a{R:Rl}{j a e:Nat}:upto R (j+1) a e↔upto R j a e\/∃ b,upto R j a b/\R b e:=by
 constructor
 ·rintro ⟨k,hk,h⟩
  by_cases q:k<=j
  ·exact .inl ⟨k,q,h⟩
  ·have:k=j+1:=by omega
   subst this;obtain ⟨b,h1,h2⟩:=h;exact .inr ⟨b,⟨j,ar _,h1⟩,h2⟩
 ·rintro (⟨k,hk,h⟩ | ⟨b,⟨k,hk,h⟩,h2⟩)
  ·exact ⟨k,by omega,h⟩
  ·exact ⟨k+1,by omega,b,h,h2⟩
theorem alf{R:Rl}{j a:Nat}(c:∀ b e,upto R j a b->R b e->upto R j a e){e:Nat}:star R a e↔upto R j a e:=by
 constructor
 ·rintro ⟨k,h⟩
  induction k generalizing e with
  | zero=>exact ⟨0,bE _,h⟩
  | succ k ih =>
   obtain ⟨b,h1,h2⟩:=h;exact c b e (ih h1) h2
 ·rintro ⟨k,_,h⟩;exact ⟨k,h⟩
end ENG
namespace MI
open PySem PySem.Spec L2 SRC HND
theorem a1b:∀ (r l:List Nat),(cst r).foldl stepK (cst l)=cst (r.foldl stepK l)
 | [],l=>rfl
 | x::r,l=>by
  show (cst r).foldl stepK (stepK (cst l) (x:Int))=_;rw [aaf];exact a1b r _
theorem ada{l:List Nat}{d:D}{n:Nat}(hn:n<=60)(lt:∀ y∈l,y<n)(ll:l.length<=4000){h:Hd}(e:a5y d h=some (cst l)) :
  ∃ ts:List Nat,Fw n ts/\ts.Pairwise (·<=·)/\(∀ y,y∈ts↔y∈l)/\a6m d h = .ok (.ref h.length) (h++[.lst (ts.map cu)]):=by
 obtain ⟨m,em,pm,sm⟩:=a04 (l.foldl stepK []);have F:Fw n (l.foldl stepK []):=Fw.fold .nil lt;refine ⟨m,⟨pm.nodup_iff.mpr F.nd,λx hx=>F.lt x (pm.mem_iff.mp hx)⟩,sm,λy=>?_,?_⟩
 ·rw [pm.mem_iff,a1m];simp
 ·unfold a6m;rw [e];have fl:=F.len;have cl:(cst l).length<=4000:=by unfold cst;rw [am];exact ll
  simp only [aA cl];have:(cst l).foldl stepK []=cst (l.foldl stepK []):=a1b l [];rw [this];unfold ael;rw [aA (by unfold cst;rw [am];omega),em,<-a2e]
theorem a6b:∀ l:List Nat,a3m (l.map cu)=some (cst l)
 | []=>rfl
 | x::l=>by
  show (a3m (l.map cu)).map _=_;rw [a6b l];rfl
theorem a6c(l:List Nat)(h:Hd):a5y (.rol (l.map cu)) h=some (cst l):=a6b l
end MI
namespace SHD
open PySem PySem.Spec L2 MI AT HND EVX
open PAP hiding j7 ad6 aex a2a aab aof
local macro_rules | `(tactic| walk_at "c") => `(tactic| first | assumption | exact iy _ | (with_reducible exact EVT.a4u) | exact jc _ | exact a9q _ | exact a3r | exact j8 | ((with_reducible apply gf)<;>walk_at "c") | ((with_reducible apply nu);walk_at "c") | ((with_reducible apply xf);walk_at "c") | ((with_reducible apply EVT.a0f)<;>walk_at "c") | ((with_reducible apply EVT.a0y);walk_at "c") | ((with_reducible apply EVT.a0z);walk_at "c") | ((with_reducible apply EVT.a4s);walk_at "c") | ((with_reducible apply EVT.a4t);walk_at "c") | ((with_reducible apply EVT.a4v)<;>walk_at "c") | exact j4 fun _ _=>iy _ | exact j4 fun _ _=>jc _)
local macro_rules | `(tactic| walk_at "h") => `(tactic| first | assumption | exact EVT.a8u | exact EVT.a1a (by assumption))
local macro_rules | `(tactic| walk_at "z") => `(tactic| first | assumption | omega | (simp only [aS,c6,ap,aV,bq,am,ax,EVT.a8t,Int.reduceToNat]<;>omega))
local macro_rules | `(tactic| walk_at "l") => `(tactic| first
 | (with_reducible assumption)
 | (with_reducible exact aex) | (with_reducible exact ad6) | (with_reducible exact abg) | (with_reducible exact aut)
 | (with_reducible exact EVT.a69) | (with_reducible exact EVT.a3c)
 | ((with_reducible apply EVT.PuE);with_reducible assumption)
 | ((with_reducible apply EVT.a8q);with_reducible assumption)
 | (with_reducible exact EVT.ala _ _) | (with_reducible exact PAP.auv _ _ _) | (with_reducible exact PAP.ad7 _ _ _)
 | ((with_reducible apply PAP.al7);walk_at "z")
 | ((with_reducible apply EVT.al8);walk_at "z")
 | ((with_reducible apply EVT.al9);walk_at "z")
 | (with_reducible exact a1z _ _) | (with_reducible exact a8o _) | (with_reducible exact a0x _)
 | ((with_reducible apply ahm);walk_at "z") | ((with_reducible apply al3);walk_at "z")
 | ((with_reducible apply apw);walk_at "z") | ((with_reducible apply apx);walk_at "z")
 | ((with_reducible apply aaa);walk_at "z") | ((with_reducible apply abf);walk_at "z")
 | ((with_reducible apply al4);walk_at "z") | ((with_reducible apply ahn);walk_at "z")
 | exact rfl)
local macro_rules | `(tactic| walk_at "x") => `(tactic| first
 | (with_reducible assumption)
 | (with_reducible exact iw _ _ _)
 | ((with_reducible apply cj);exact rfl)
 | (with_reducible exact EVT.wj) | (with_reducible exact EVT.aht)
 | ((with_reducible apply EVT.uy);walk_at "x";exact rfl;walk_at "c";walk_at "h";walk_at "z")
 | ((with_reducible apply EVT.a8r);walk_at "x";exact rfl;walk_at "c";walk_at "h")
 | ((with_reducible apply EVT.a8s);walk_at "x";exact rfl;walk_at "h";walk_at "z")
 | ((with_reducible apply EVT.aad);walk_at "x";walk_at "x";exact rfl;walk_at "c";walk_at "c";walk_at "h";walk_at "z")
 | ((with_reducible apply EVT.aae);walk_at "x";walk_at "x";exact rfl;walk_at "c";walk_at "h";walk_at "z";walk_at "z")
 | ((with_reducible apply EVT.a2a);walk_at "h")
 | ((with_reducible apply ig);walk_at "x";walk_at "x";walk_at "l")
 | ((with_reducible apply ahj);walk_at "x";walk_at "l")
 | ((with_reducible apply PAP.aof);walk_at "x";walk_at "l")
 | ((with_reducible apply PAP.j7);walk_at "x";walk_at "x")
 | ((with_reducible apply ahs);walk_at "x";walk_at "x";walk_at "x";walk_at "l")
 | ((with_reducible apply ahr);walk_at "x")
 | ((with_reducible apply tof);walk_at "x")
 | ((with_reducible apply abe);walk_at "x";walk_at "l")
 | ((with_reducible apply ath);walk_at "x") | ((with_reducible apply aus);walk_at "x")
 | ((with_reducible apply aew);walk_at "x";walk_at "x") | ((with_reducible apply amq);walk_at "x")
 | ((with_reducible apply orT);walk_at "x") | ((with_reducible apply orF);walk_at "x";walk_at "x"))
def Dr2(F:SF)(n:Nat)(ds:List D)(o p:O)(d:D)(o' p':O):Prop:=∀ i j h,i≠j->h[i]? = some o->h[j]? = some p->kj false n F (.ref i::.ref j::ds) h = .ok d ((h.set i o').set j p')
theorem Dr2.of{F:SF}{n:Nat}{ds:List D}{o o' p p':O}{r:R D}{d:D}(hn:ds.length+2=n)(cd:∀ x∈ds,clo 0 x)(co:u5 0 o)(cp:u5 0 p)(e:F (.ref 0::.ref 1::ds) [o,p]=r)(z:a6x 2 r = .ok d [o',p'])(c:clo 0 d)(co':u5 0 o')(cp':u5 0 p'):Dr2 F n ds o p d o' p':=λi j h ne hi hj=>by
 obtain ⟨p1,_,p3⟩:=a2u cd;have e1:a08 (.ref i::.ref j::ds)=[i,j]:=by
  have:a08 (.ref i::.ref j::ds)=i::j::a08 ds:=rfl
  rw [this,p1]
 have e2:zm 0 (.ref i::.ref j::ds) = .ref 0::.ref 1::ds:=by
  have:zm 0 (.ref i::.ref j::ds) = .ref 0::.ref 1::zm 2 ds:=rfl
  rw [this,p3]
 unfold kj;rw [aA (by simpa using hn)]
 unfold ao9;rw [e1];simp only [a1f,hi,hj,aS,c6,bY,dW,eS,Nat.reduceAdd];have all:∀ x∈(D.ref i::.ref j::ds),clo 0 x\/isRef x:=λx hx=>by
  rcases aD.mp hx with rfl | hx
  ·exact .inr ⟨i,rfl⟩
  rcases aD.mp hx with rfl | hx
  ·exact .inr ⟨j,rfl⟩
  ·exact .inl (cd x hx)
 rw [aA ⟨by simp [ne],all,λu hu=>by simp only [aD,aN,cn] at hu;rcases hu with rfl | rfl;exact co;exact cp⟩,e2,e,z]
 simp [c,co',cp',u6]
theorem aw9{F:SF}{n:Nat}{ds:List D}{o o' p p':O}{d:D}{h:Hd}(q:Dr2 F n ds o p d o' p'):kj false n F (.ref 0::.ref 1::ds) (o::p::h) = .ok d (o'::p'::h):=q 0 1 (o::p::h) (by decide) rfl rfl
inductive Sh where
 | one (s:List Nat) | row (ps:List Sh) | eit (ps:List Sh) | many (p:Sh) | tim (p:Sh) (lo hi:Nat)
mutual
def sd:Sh->D
 | .one s=>.tup [.str "one", .str (S s)]
 | .row ps=>.tup [.str "row", .tup (sds ps)]
 | .eit ps=>.tup [.str "either", .tup (sds ps)]
 | .many p=>.tup [.str "many",sd p]
 | .tim p lo hi=>.tup [.str "times",sd p,cu lo,cu hi]
def sds:List Sh->List D
 | []=>[]
 | p::ps=>sd p::sds ps
end
theorem yx:∀ ps,sds ps=ps.map sd
 | []=>by rw [sds];rfl
 | p::ps=>by rw [sds,yx ps];rfl
def a1q(tg:List Nat):Nat->Sh->Prop
 | 0,_=>False
 | n+1,s=>match s with
  | .one s=>1<=s.length/\s.length<=6/\∀ c∈s,c∈tg
  | .row ps=>ps.length<=6/\∀ p∈ps,a1q tg n p
  | .eit ps=>1<=ps.length/\ps.length<=6/\∀ p∈ps,a1q tg n p
  | .many p=>a1q tg n p
  | .tim p lo hi=>lo<=hi/\hi<=4/\a1q tg n p
mutual
theorem zg:∀ p,MI.clo 0 (sd p)
 | .one s=>by rw [sd];exact nu (gf (jc _) (gf (jc _) j8))
 | .row ps=>by rw [sd];exact nu (gf (jc _) (gf (nu (abi ps)) j8))
 | .eit ps=>by rw [sd];exact nu (gf (jc _) (gf (nu (abi ps)) j8))
 | .many p=>by rw [sd];exact nu (gf (jc _) (gf (zg p) j8))
 | .tim p lo hi=>by rw [sd];exact nu (gf (jc _) (gf (zg p) (gf (iy _) (gf (iy _) j8))))
theorem abi:∀ ps,clos 0 (sds ps)
 | []=>by rw [sds];exact j8
 | p::ps=>by rw [sds];exact gf (zg p) (abi ps)
end
def bnd:Nat->Nat
 | 0=>200
 | d+1=>7*bnd d
theorem ai1:∀ d,200<=bnd d
 | 0=>by decide
 | d+1=>by have:=ai1 d;rw [bnd];omega
theorem amv:∀ {d e:Nat},d<=e->bnd d<=bnd e
 | d,0,h=>by cases Nat.le_zero.mp h;exact ar _
 | d,e+1,h=>by
  by_cases q:d=e+1
  ·rw [q];exact ar _
  ·have:=amv (d:=d) (e:=e) (by omega);rw [bnd];omega
theorem ai2{tg:List Nat}:∀ {n:Nat} {s:Sh},a1q tg n s->a1q tg (n+1) s
 | 0,_,h=>h.elim
 | n+1, .one s,h=>h
 | n+1, .row ps,h=>⟨h.1,λp hp=>ai2 (h.2 p hp)⟩
 | n+1, .eit ps,h=>⟨h.1,h.2.1,λp hp=>ai2 (h.2.2 p hp)⟩
 | n+1, .many p,h=>ai2 (n:=n) (s:=p) h
 | n+1, .tim p lo hi,h=>⟨h.1,h.2.1,ai2 h.2.2⟩
theorem a8w(x:Int):u5 0 (.lst [.int x]):=gf (iy _) j8
theorem ai3{o p:O}(c:u5 0 o)(c':u5 0 p):∀ u∈[o,p],u5 0 u:=λu hu=>by
 simp only [aD,aN,cn] at hu
 rcases hu with rfl | rfl
 ·exact c
 ·exact c'
theorem ax9{d:D}{o p:O}{h:Hd}(c:MI.clo 0 d)(co:u5 0 o)(cp:u5 0 p):a6x 2 (.ok d (o::p::h)) = .ok d [o,p]:=xx (ach (by omega) c) (by
 intro u hu
 simp only [List.take_succ_cons,fU] at hu;exact a0t (by omega) (ai3 co cp u hu))
theorem ayp{a b c d:D}{h:Hd}:MI.wk [a,b,c,d] h = .ok (.tup [a,b,c,d]) h:=by unfold MI.wk;rw [aA (dj (by simp))]
theorem a8x{xs:List D}{h:Hd}:xn [.rol xs] h = .ok (.tup xs) h:=rfl
theorem ixp{o:O}{v:D}{h:Hd}:gIx (.ref 1) (.int 0) (o::.lst [v]::h) = .ok v (o::.lst [v]::h):=rfl
theorem subn{n:Nat}{h:Hd}:MI.a6i (.int ((n+1:Nat):Int)) (.int 1) h = .ok (cu n) h:=by
 rw [a1z,show ((n+1:Nat):Int) - 1=(n:Int) by omega]
theorem abj{x y:Int}{h:Hd}:jb (.int x) (.int y) h = .ok (.int (x+y)) h:=rfl
local macro_rules | `(tactic| walk_at "l") => `(tactic| first | ((with_reducible apply aw9);with_reducible assumption) | (with_reducible exact ixp) | (with_reducible exact subn) | (with_reducible exact abj))
section
variable{a b c d:D}{xs:List D}{h:Hd}
theorem ix0:gIx (.tup (a::xs)) (.int 0) h = .ok a h:=ahk (j:=0) rfl
theorem ix1:gIx (.tup (a::b::xs)) (.int 1) h = .ok b h:=ahk (j:=1) rfl
theorem ix2:gIx (.tup (a::b::c::xs)) (.int 2) h = .ok c h:=ahk (j:=2) rfl
theorem ix3:gIx (.tup (a::b::c::d::xs)) (.int 3) h = .ok d h:=ahk (j:=3) rfl
theorem auz{x:Str}:hEq (.str x) (.str x) h = .ok (.bl true) h:=by rw [ap9,e8]
theorem av0{x y:Str}(e:(x == y)=false):hEq (.str x) (.str y) h = .ok (.bl false) h:=by rw [ap9,e]
theorem av1{x y:Str}(e:(x == y)=false):hNe (.str x) (.str y) h = .ok (.bl true) h:=by rw [atd,e];rfl
theorem av2{x:Str}:hNe (.str x) (.str x) h = .ok (.bl false) h:=by rw [atd,e8];rfl
end
local macro_rules | `(tactic| walk_at "l") => `(tactic| first | (with_reducible exact SHD.ix0) | (with_reducible exact SHD.ix1) | (with_reducible exact SHD.ix2) | (with_reducible exact SHD.ix3) | (with_reducible exact SHD.auz) | ((with_reducible apply SHD.av0);exact (by decide)) | (with_reducible exact SHD.av2) | ((with_reducible apply SHD.av1);exact (by decide)) | (with_reducible exact SHD.abj) | (with_reducible exact SHD.a8x))
inductive All2 {α β:Type} (Q:α->β->Prop):List α->List β->Prop
 | nil:All2 Q [] []
 | cons {x:α} {y:β} {xs:List α} {ys:List β} (h:Q x y) (t:All2 Q xs ys):All2 Q (x::xs) (y::ys)
theorem All2.snoc{α β:Type}{Q:α->β->Prop}{x:α}{y:β}(h:Q x y):∀ {xs:List α} {ys:List β},All2 Q xs ys->All2 Q (xs++[x]) (ys++[y])
 | _,_, .nil=>.cons h .nil
 | _,_, .cons q t=>.cons q (All2.snoc h t)
theorem All2.len{α β:Type}{Q:α->β->Prop}:∀ {xs:List α} {ys:List β},All2 Q xs ys->ys.length=xs.length
 | _,_, .nil=>rfl
 | _,_, .cons _ t=>by rw [aS,aS,t.len]
theorem All2.rt{α β:Type}{Q:α->β->Prop}:∀ {xs:List α} {ys:List β},All2 Q xs ys->∀ y∈ys,∃ x∈xs,Q x y
 | _,_, .nil,y,hy=>by cases hy
 | _,_, .cons q t,y,hy=>by
  rcases aD.mp hy with rfl | hy
  ·exact ⟨_,aF,q⟩
  ·obtain ⟨x,hx,q⟩:=t.rt y hy;exact ⟨x,aC _ hx,q⟩
theorem ayq{d:D}{o:O}(c:MI.clo 0 d)(co:u5 0 o):a6x 1 (.ok d [o]) = .ok d [o]:=xx (ach (by omega) c) (by
 intro u hu
 simp only [List.take_succ_cons,fU,av] at hu;subst hu;exact a0t (by omega) co)
theorem dr1{F:SF}{n:Nat}{ds:List D}{o o':O}{d:D}(hn:ds.length+1=n)(cd:∀ x∈ds,MI.clo 0 x)(co:u5 0 o)(e:F (.ref 0::ds) [o] = .ok d [o'])(c:MI.clo 0 d)(co':u5 0 o'):Dr F n ds o d o':=Dr.of hn cd co e (ayq c co') c co'
theorem pu1{F:SF}{n:Nat}{ds:List D}{d:D}(hn:ds.length=n)(ca:∀ x∈ds,MI.clo 0 x)(c:MI.clo 0 d)(e:F ds [] = .ok d []):Pu F n ds d:=Pu.of hn ca e (xx c (by simp)) c
theorem ape{x:D}(c:MI.clo 0 x):∀ y∈[x],MI.clo 0 y:=λy hy=>by rw [av.mp hy];exact c
theorem alg(c:Nat)(t:List Nat)(h:Hd):gIn false (.str (S [c])) (.str (S t)) h = .ok (.bl (decide (c∈t))) h:=by
 show (match (S [c]).cps.toList with | [c]=>R.ok (D.bl (if false=true then !decide (c∈(S t).cps.toList) else decide (c∈(S t).cps.toList))) h | _=>.no)=_
 rw [a8g,a8g];rfl
end SHD
namespace ENG
open PySem PySem.Spec L2 MI AT HND EVX SHD
open PAP hiding j7 ad6 aex a2a aab aof
open SRC (cst a2e)
local macro_rules | `(tactic| walk_at "c") => `(tactic| first | assumption | exact iy _ | (with_reducible exact EVT.a4u) | exact jc _ | exact a9q _ | exact a3r | exact j8 | ((with_reducible apply gf)<;>walk_at "c") | ((with_reducible apply nu);walk_at "c") | ((with_reducible apply xf);walk_at "c") | ((with_reducible apply EVT.a0f)<;>walk_at "c") | ((with_reducible apply EVT.a0y);walk_at "c") | ((with_reducible apply EVT.a0z);walk_at "c") | ((with_reducible apply EVT.a4s);walk_at "c") | ((with_reducible apply EVT.a4t);walk_at "c") | ((with_reducible apply EVT.a4v)<;>walk_at "c") | exact j4 fun _ _=>iy _ | exact j4 fun _ _=>jc _)
local macro_rules | `(tactic| walk_at "h") => `(tactic| first | assumption | exact EVT.a8u | exact EVT.a1a (by assumption))
local macro_rules | `(tactic| walk_at "z") => `(tactic| first | assumption | omega | (simp only [aS,c6,ap,aV,bq,am,ax,EVT.a8t,Int.reduceToNat]<;>omega))
local macro_rules | `(tactic| walk_at "l") => `(tactic| first
 | (with_reducible assumption)
 | (with_reducible exact aex) | (with_reducible exact ad6) | (with_reducible exact abg) | (with_reducible exact aut)
 | (with_reducible exact EVT.a69) | (with_reducible exact EVT.a3c)
 | ((with_reducible apply EVT.PuE);with_reducible assumption)
 | ((with_reducible apply EVT.a8q);with_reducible assumption)
 | (with_reducible exact EVT.ala _ _) | (with_reducible exact PAP.auv _ _ _) | (with_reducible exact PAP.ad7 _ _ _)
 | ((with_reducible apply PAP.al7);walk_at "z")
 | ((with_reducible apply EVT.al8);walk_at "z")
 | ((with_reducible apply EVT.al9);walk_at "z")
 | (with_reducible exact a1z _ _) | (with_reducible exact a8o _) | (with_reducible exact a0x _)
 | ((with_reducible apply ahm);walk_at "z") | ((with_reducible apply al3);walk_at "z")
 | ((with_reducible apply apw);walk_at "z") | ((with_reducible apply apx);walk_at "z")
 | ((with_reducible apply aaa);walk_at "z") | ((with_reducible apply abf);walk_at "z")
 | ((with_reducible apply al4);walk_at "z") | ((with_reducible apply ahn);walk_at "z")
 | exact rfl)
local macro_rules | `(tactic| walk_at "x") => `(tactic| first
 | (with_reducible assumption)
 | (with_reducible exact iw _ _ _)
 | ((with_reducible apply cj);exact rfl)
 | (with_reducible exact EVT.wj) | (with_reducible exact EVT.aht)
 | ((with_reducible apply EVT.uy);walk_at "x";exact rfl;walk_at "c";walk_at "h";walk_at "z")
 | ((with_reducible apply EVT.a8r);walk_at "x";exact rfl;walk_at "c";walk_at "h")
 | ((with_reducible apply EVT.a8s);walk_at "x";exact rfl;walk_at "h";walk_at "z")
 | ((with_reducible apply EVT.aad);walk_at "x";walk_at "x";exact rfl;walk_at "c";walk_at "c";walk_at "h";walk_at "z")
 | ((with_reducible apply EVT.aae);walk_at "x";walk_at "x";exact rfl;walk_at "c";walk_at "h";walk_at "z";walk_at "z")
 | ((with_reducible apply EVT.a2a);walk_at "h")
 | ((with_reducible apply ig);walk_at "x";walk_at "x";walk_at "l")
 | ((with_reducible apply ahj);walk_at "x";walk_at "l")
 | ((with_reducible apply PAP.aof);walk_at "x";walk_at "l")
 | ((with_reducible apply PAP.j7);walk_at "x";walk_at "x")
 | ((with_reducible apply ahs);walk_at "x";walk_at "x";walk_at "x";walk_at "l")
 | ((with_reducible apply ahr);walk_at "x")
 | ((with_reducible apply tof);walk_at "x")
 | ((with_reducible apply abe);walk_at "x";walk_at "l")
 | ((with_reducible apply ath);walk_at "x") | ((with_reducible apply aus);walk_at "x")
 | ((with_reducible apply aew);walk_at "x";walk_at "x") | ((with_reducible apply amq);walk_at "x")
 | ((with_reducible apply orT);walk_at "x") | ((with_reducible apply orF);walk_at "x";walk_at "x"))
local macro_rules | `(tactic| walk_at "l") => `(tactic| first | (with_reducible exact SHD.ix0) | (with_reducible exact SHD.ix1) | (with_reducible exact SHD.ix2) | (with_reducible exact SHD.ix3) | (with_reducible exact SHD.auz) | ((with_reducible apply SHD.av0);exact (by decide)) | (with_reducible exact SHD.av2) | ((with_reducible apply SHD.av1);exact (by decide)) | (with_reducible exact SHD.abj) | (with_reducible exact SHD.a8x))
abbrev lsD(l:List Nat):D:=.rol (l.map cu)
abbrev rwD(L:List (List Nat)):D:=.tup (L.map λl=>.tup (l.map cu))
theorem yz(l:List Nat):MI.clo 0 (lsD l):=xf (j4 λ_ _=>iy _)
theorem xq(l:List Nat):clos 0 (l.map cu):=j4 λ_ _=>iy _
theorem a6d(L:List (List Nat)):MI.clo 0 (rwD L):=nu (j4 λl _=>nu (xq l))
theorem puL{F:SF}{k:Nat}{ds:List D}{ts:List Nat}{h1:Hd}{i:Nat}(hk:ds.length=k)(ca:∀ x∈ds,MI.clo 0 x)(e:F ds [] = .ok (.ref i) h1)(hi:h1[i]? = some (.lst (ts.map cu))):Pu F k ds (lsD ts) :=
 Pu.of hk ca e (a2t (bE _) hi (xq ts) (by simp)) (yz ts)
theorem a0l{x y:D}(a:MI.clo 0 x)(b:MI.clo 0 y):∀ z∈[x,y],MI.clo 0 z:=λz hz=>by
 simp only [aD,aN,cn] at hz;rcases hz with rfl | rfl;exact a;exact b
theorem alh{x y w:D}(a:MI.clo 0 x)(b:MI.clo 0 y)(c:MI.clo 0 w):∀ z∈[x,y,w],MI.clo 0 z:=λz hz=>by
 rcases aD.mp hz with rfl | hz;exact a;exact a0l b c z hz
theorem ai4{x y w v:D}(a:MI.clo 0 x)(b:MI.clo 0 y)(c:MI.clo 0 w)(e:MI.clo 0 v):∀ z∈[x,y,w,v],MI.clo 0 z:=λz hz=>by
 rcases aD.mp hz with rfl | hz;exact a;exact alh b c e z hz
theorem geT{x y:Int}{h:Hd}(c:y<=x):gGe (.int x) (.int y) h = .ok (.bl true) h:=by
 show MI.R.ok (D.bl (decide (y<=x))) h=_;rw [cF c]
theorem geF{x y:Int}{h:Hd}(c:¬ y<=x):gGe (.int x) (.int y) h = .ok (.bl false) h:=by
 show MI.R.ok (D.bl (decide (y<=x))) h=_;rw [aY c]
section
variable{n a:Nat}{R P:Rl}
theorem apf(h:Hd)(ha:a<=n):gIx (rwD (rw_ n R)) (cu a) h = .ok (.tup ((fl n R a).map cu)) h:=ahk (by rw [aW,aw8 ha];rfl)
theorem ai5(ha:a<=n):fl n (· = ·) a=[a]:=(a1p (ts:=[a]) (by simp) (by simp) λe=>by
 rw [av];exact ⟨λh=>by subst h;exact ⟨ha,rfl⟩,λh=>h.2.symm⟩).symm
noncomputable def j9:SF:=qj a9z 2
theorem a3z(hn:n+1<=60)(bp:Bd n P)(ha:a<=n):Pu j9 2 [rwD (rw_ n R),lsD (fl n P a)] (lsD (fl n (cmp P R) a)):=by
 obtain ⟨ts,fw,st,mem,e⟩:=ad9 (fi:=sIt (sV 1)) (fj:=sIt (s2 gIx (sV 2) (sV 0))) (ix:=[0]) (τ:=[some (rwD (rw_ n R)),some (lsD (fl n P a))]) (h:=[]) cu (fl n P a) (fl n R) hn (a66 (cj rfl) rfl) (λx hx=>a66 (ig (cj rfl) (cj rfl) (apf _ (p6.mp hx).1)) rfl) (λx _ y hy=>ald y hy);have et:ts=fl n (cmp P R) a:=a1p fw.nd st λy=>by
  rw [mem]
  constructor
  ·rintro ⟨x,hx,hy⟩;exact ⟨(p6.mp hy).1,x,(p6.mp hx).2,(p6.mp hy).2⟩
  ·rintro ⟨hy,x,h1,h2⟩;exact ⟨x,p6.mpr ⟨(bp a x h1 ha).2,h1⟩,p6.mpr ⟨hy,h2⟩⟩
 rw [et] at e;refine puL rfl (a0l (a6d _) (yz _)) (h1:=[.lst ((fl n (cmp P R) a).map cu)]) (i:=0) ?_ rfl;unfold j9;rw [jq];exact af toR (jy e)
noncomputable def mj:SF:=qj (vm j9) 4
theorem apg(hn:n+1<=60)(ha:a<=n){Rs:List Rl}(bs:∀ R∈Rs,Bd n R):Pu mj 2 [.rol (Rs.map λR=>rwD (rw_ n R)),cu a] (lsD (fl n (chn Rs) a)):=by
 refine pu1 rfl (a0l (xf (j4 λR _=>a6d _)) (iy _)) (yz _) ?_;unfold mj;rw [jq];show toR (vm j9 [some (.rol (Rs.map λR=>rwD (rw_ n R))),some (cu a),none,none] [])=_;unfold vm;have c0:sZ (sA MI.vy (aj (sV 1) dq)) [some (.rol (Rs.map λR=>rwD (rw_ n R))),some (cu a),none,none] [] = .ok (lsD [a]) []:=EVT.uy (arg1 (cj rfl)) rfl (gf (iy _) j8) (by simp) (by simp)
 rw [<-ai5 ha] at c0;refine ag (af toR (jm c0)) ?_;refine ag (af toR (a4l (a66 (cj rfl) rfl))) ?_;obtain ⟨τ',h',e,t3,rfl,rfl⟩:=um (g:=kN 3) (b:=a01 j9) (λR:Rl=>rwD (rw_ n R)) (λpre τ h=>∃ t3:Option D,τ=[some (.rol (Rs.map λR=>rwD (rw_ n R))),some (cu a),some (lsD (fl n (chn pre) a)),t3]/\h=[]) Rs [some (.rol (Rs.map λR=>rwD (rw_ n R))),some (cu a),some (lsD (fl n (chn []) a)),none] []
  (by
   rintro pre R post τ h al ⟨t3,rfl,rfl⟩
   refine ⟨_,_,rfl,_,_,a93 (uw (cj rfl) (cj rfl) (a3z hn (ahz λT hT=>bs T (by rw [al];simp [hT])) ha _)),some (rwD (rw_ n R)),?_,rfl⟩
   rw [a8v]
   rfl) ⟨none,rfl,rfl⟩
 exact ag (af toR (af (λz=>MI.thn z _) e)) (af toR (jy (cj rfl)))
theorem ai6{p q:Nat->Bool}:∀ {l:List Nat},(∀ x∈l,p x=true->q x=true)->(l.filter p).length<=(l.filter q).length
 | [],_=>ar _
 | x::l,h=>by
  have ih:=ai6 (l:=l) λy hy=>h y (aC _ hy)
  by_cases hp:p x=true
  ·rw [bW hp,bW (h x aF hp)];exact Nat.succ_le_succ ih
  ·rw [dn hp]
   by_cases hq:q x=true
   ·rw [bW hq];exact Nat.le_succ_of_le ih
   ·rw [dn hq];exact ih
theorem abk{p q:Nat->Bool}:∀ {l:List Nat},(∀ x∈l,p x=true->q x=true)->(l.filter q).length<=(l.filter p).length->∀ x∈l,q x=true->p x=true
 | [],_,_,x,hx,_=>by cases hx
 | y::l,h,hl,x,hx,hq=>by
  have h':∀ x∈l,p x=true->q x=true:=λz hz=>h z (aC _ hz);have le:=ai6 h'
  by_cases hp:p y=true
  ·rw [bW hp,bW (h y aF hp)] at hl
   rcases aD.mp hx with rfl | hx
   ·exact hp
   ·exact abk h' (Nat.le_of_succ_le_succ hl) x hx hq
  ·rw [dn hp] at hl
   by_cases hy:q y=true
   ·rw [bW hy,aS] at hl;omega
   ·rw [dn hy] at hl
    rcases aD.mp hx with rfl | hx
    ·exact absurd hq hy
    ·exact abk h' hl x hx hq
theorem aph{T:Rl}(h:∀ e,R a e->T a e)(hl:(fl n T a).length<=(fl n R a).length){e:Nat}(he:e<=n)(ht:T a e):R a e:=by
 have:=abk (l:=List.range (n+1)) (p:=λe=>@decide (R a e) (Classical.propDecidable _)) (q:=λe=>@decide (T a e) (Classical.propDecidable _)) (λx _ hx=>by simpa using h x (by simpa using hx)) hl e (bb.mpr (by omega)) (by simpa using ht)
 simpa using this
theorem ai7{f g:SE}{τ:Sd}{l1 l2:List Nat}(hn:n+1<=60)(e1:f τ [] = .ok (lsD l1) [])(e2:g τ [] = .ok (lsD l2) [])(h1:∀ x∈l1,x<n+1)(h2:∀ x∈l2,x<n+1)(z1:l1.length<=2000)(z2:l2.length<=2000) :
  ∃ ts:List Nat,ts.Nodup/\ts.Pairwise (·<=·)/\(∀ y,y∈ts↔y∈l1\/y∈l2)/\sZ (sSU f g) τ [] = .ok (lsD ts) []:=by
 obtain ⟨m,em,pm,sm⟩:=SRC.a04 ((l2.foldl stepK []).foldl stepK (l1.foldl stepK []));have F:Fw (n+1) ((l2.foldl stepK []).foldl stepK (l1.foldl stepK [])):=Fw.fold (Fw.fold .nil h1) λx hx=>(Fw.fold .nil h2).lt x hx;have c1:a5y (lsD l1) []=some (cst l1):=a6c l1 [];have c2:a5y (lsD l2) []=some (cst l2):=a6c l2 [];have fl:=F.len;refine ⟨m,pm.nodup_iff.mpr F.nd,sm,λy=>?_,a4k ?_ (j4 λ_ _=>iy _) (by simp)⟩
 ·rw [pm.mem_iff,a1m,a1m,a1m];simp
 ·unfold sSU;rw [e1,du,c1];simp only;rw [aA (by unfold cst;rw [am];exact z1),e2,du,c2]
  simp only;rw [aA (by unfold cst;rw [am];exact z2)]
  have x1:(cst l1).foldl stepK []=cst (l1.foldl stepK []):=a1b l1 [];have x2:(cst l2).foldl stepK []=cst (l2.foldl stepK []):=a1b l2 [];rw [x1,x2,a1b];unfold ael;rw [aA (by unfold cst;rw [am];omega),em,<-a2e]
noncomputable def mq:SF:=qj (vo j9) 4
theorem api(hn:n+1<=60)(ha:a<=n)(r:Bd n R):Pu mq 2 [rwD (rw_ n R),cu a] (lsD (fl n (star R) a)):=by
 refine pu1 rfl (a0l (a6d _) (iy _)) (yz _) ?_;unfold mq;rw [jq];show toR (vo j9 [some (rwD (rw_ n R)),some (cu a),none,none] [])=_;unfold vo;have c1:sZ (sA MI.vy dq) [some (rwD (rw_ n R)),some (cu a),none,none] [] = .ok (lsD []) []:=EVT.uy EVT.wj rfl j8 (by simp) (by simp)
 refine ag (af toR (jm c1)) ?_;have c0:sZ (sA MI.vy (aj (sV 1) dq)) [some (rwD (rw_ n R)),some (cu a),some (lsD []),none] [] = .ok (lsD [a]) []:=EVT.uy (arg1 (cj rfl)) rfl (gf (iy _) j8) (by simp) (by simp)
 have u0:[a]=fl n (upto R 0) a:=a1p (by simp) (by simp) λe=>by
  rw [av]
  constructor
  ·intro h;subst h;exact ⟨ha,0,ar _,rfl⟩
  ·rintro ⟨_,k,hk,h⟩
   have:k=0:=by omega
   subst this;exact h.symm
 rw [u0] at c0;refine ag (af toR (jm c0)) ?_;have bu:∀ j,Bd n (upto R j):=λj a e ⟨k,_,h⟩ ha=>ai0 r k a e h ha;have lenl:∀ (l:List Nat) (h:Hd),rm [lsD l] h = .ok (cu l.length) h:=λl h=>by rw [EVT.a3c,am]
 have w:=aoo (c:=a02 j9) (f:=a03 j9)
  (λm τ h=>∃ (j:Nat) (pl:List Nat),m+pl.length=n+2/\(j=0/\pl=[]\/∃ i,j=i+1/\pl=fl n (upto R i) a)/\τ=[some (rwD (rw_ n R)),some (cu a),some (lsD pl),some (lsD (fl n (upto R j) a))]/\h=[])
  (λτ h=>h=[]/\∃ t,τ=[some (rwD (rw_ n R)),some (cu a),some (lsD (fl n (star R) a)),t]) (λ_ _=>False) ?_ (n+2) 100000 _ [] (by omega) ⟨0,[],by simp, .inl ⟨rfl,rfl⟩,rfl,rfl⟩
 ·rcases w with ⟨τ',h',e,rfl,t,rfl⟩ | ⟨_,_,_,z⟩
  ·exact ag (af toR (sy e)) (af toR (jy (cj rfl)))
  ·exact z.elim
 ·rintro m τ h ⟨j,pl,hm,hj,rfl,rfl⟩
  have fll:=a4i (n:=n) (a:=a) (R:=upto R j)
  by_cases gt:pl.length<(fl n (upto R j) a).length
  ·refine .inr ⟨[],tof (ig (uv (cj rfl) (lenl _ _)) (uv (cj rfl) (lenl _ _)) (apw (by omega))), .inl ?_⟩
   have st:=a3z (R:=R) hn (bu j) ha;obtain ⟨ts,nd,srt,mem,eu⟩:=ai7 (n:=n) (f:=sV 2) (g:=sA (kj false 2 j9) (aj (sV 0) (aj (sV 2) dq))) (τ:=[some (rwD (rw_ n R)),some (cu a),some (lsD (fl n (upto R j) a)),some (lsD (fl n (upto R j) a))]) hn (cj rfl) (uw (cj rfl) (cj rfl) (st _)) ald ald (by omega) (by have:=a4i (n:=n) (a:=a) (R:=cmp (upto R j) R);omega)
   have et:ts=fl n (upto R (j+1)) a:=a1p nd srt λy=>by
    rw [mem,p6,p6,a6a]
    constructor
    ·rintro (⟨h1,h2⟩ | ⟨h1,h2⟩)
     ·exact ⟨h1, .inl h2⟩
     ·exact ⟨h1, .inr h2⟩
    ·rintro ⟨h1,h2 | h2⟩
     ·exact .inl ⟨h1,h2⟩
     ·exact .inr ⟨h1,h2⟩
   rw [et] at eu;refine ⟨_,[],n+2 - (fl n (upto R j) a).length,ag (jm (cj rfl)) (a93 eu),by omega,j+1,fl n (upto R j) a,by omega, .inr ⟨j,rfl,rfl⟩,rfl,rfl⟩
  ·refine .inl ⟨[],tof (ig (uv (cj rfl) (lenl _ _)) (uv (cj rfl) (lenl _ _)) (apx (by omega))),rfl,?_⟩
   rcases hj with ⟨rfl,rfl⟩ | ⟨i,rfl,rfl⟩
   ·rw [<-u0] at gt;simp at gt
   ·have clos:∀ b e,upto R i a b->R b e->upto R i a e:=λb e h1 h2 =>
     aph (T:=upto R (i+1)) (λe h=>a6a.mpr (.inl h)) (by omega) ((r b e h2 ((bu i a b h1 ha).2)).2) (a6a.mpr (.inr ⟨b,h1,h2⟩))
    rw [ahx (T:=star R) (b:=a) λe _=>(alf clos).symm];exact ⟨_,rfl⟩
noncomputable def m5:SF:=qj (uq j9) 7
theorem ato{i:Nat}{h:Hd}{xs ys:List D}(e:h[i]? = some (.lst xs))(z:xs.length+ys.length<=1000000):ajx (.ref i) [.rol ys] h = .ok .non (h.set i (.lst (xs++ys))):=by
 show (match h[i]?,wz (.rol ys) h with | some (.lst xs),some ys=>if xs.length+ys.length<=LINE then R.ok D.non (h.set i (.lst (xs++ys))) else .no | _,_=>.no)=_
 rw [e];show (if xs.length+ys.length<=LINE then R.ok D.non (h.set i (.lst (xs++ys))) else .no)=_
 rw [aA (dj z)]
theorem ali(hn:n+1<=60)(ha:a<=n)(r:Bd n R){lo hi:Nat}(h4:hi<=4):Pu m5 4 [rwD (rw_ n R),cu a,cu lo,cu hi] (lsD (fl n (btw R lo hi) a)):=by
 have c1:∀ t4,sZ (sA MI.vy (aj (sV 1) dq)) [some (rwD (rw_ n R)),some (cu a),some (cu lo),some (cu hi),t4,none,none] [.lst []] = .ok (lsD [a]) [.lst []]:=λt4=>EVT.uy (arg1 (cj rfl)) rfl (gf (iy _) j8) (EVT.a1a (show u5 0 (.lst []) from j8 (n:=0))) (by simp)
 rw [<-ai5 ha] at c1;obtain ⟨τ',h',e,fd,t6,rfl,rfl,fm,fll⟩:=um (g:=kN 6) (b:=uo j9) cu (λpre τ h=>∃ (fd:List Nat) (t6:Option D),τ=[some (rwD (rw_ n R)),some (cu a),some (cu lo),some (cu hi),some (.ref 0),some (lsD (fl n (pw R pre.length) a)),t6]/\h=[.lst (fd.map cu)]/\(∀ e,e∈fd↔e<=n/\∃ k,lo<=k/\k<pre.length/\pw R k a e)/\fd.length<=pre.length*(n+1)) (List.range (hi+1)) [some (rwD (rw_ n R)),some (cu a),some (cu lo),some (cu hi),some (.ref 0),some (lsD (fl n (pw R 0) a)),none] [.lst []]
  (by
   rintro pre i post τ h al ⟨fd,t6,rfl,rfl,fm,fll⟩
   have hi':i=pre.length/\pre.length<=hi:=by
    have h1:(List.range (hi+1))[pre.length]? = some i:=by rw [al,aB (ar _),fP];rfl
    obtain ⟨h2,h3⟩:=ah.mp h1;rw [aG] at h2;rw [fQ] at h3;omega
   obtain ⟨rfl,hp⟩:=hi';have lp:=a4i (n:=n) (a:=a) (R:=pw R pre.length);have fll':fd.length<=4*(n+1):=bL fll (bX _ (by omega))
   have st:=a3z (R:=R) hn (ai0 r pre.length) ha;refine ⟨_,_,rfl,?_⟩;unfold uo
   by_cases hl:lo<=pre.length
   ·refine ⟨_,_,ag (sy (ag (ifT (tof (ig (cj rfl) (cj rfl) (geT (by omega))))) (aa8 (cj rfl) rfl (arg1 (cj rfl)) (ato (xs:=fd.map cu) rfl (by rw [am,am];omega))))) (a93 (uw (cj rfl) (cj rfl) (st _))),fd++fl n (pw R pre.length) a,some (cu pre.length),?_,?_,λe=>?_,?_⟩
    ·rw [ap,ax];rfl
    ·rw [bg];rfl
    ·rw [aQ,fm,p6,ap,ax]
     constructor
     ·rintro (⟨h1,k,h2,h3,h4⟩ | ⟨h1,h2⟩)
      ·exact ⟨h1,k,h2,by omega,h4⟩
      ·exact ⟨h1,pre.length,hl,by omega,h2⟩
     ·rintro ⟨h1,k,h2,h3,h4⟩
      by_cases q:k<pre.length
      ·exact .inl ⟨h1,k,h2,q,h4⟩
      ·have:k=pre.length:=by omega
       subst this;exact .inr ⟨h1,h4⟩
    ·rw [ap,ap,ax,dF];omega
   ·refine ⟨_,_,ag (ifN (tof (ig (cj rfl) (cj rfl) (geF (by omega))))) (a93 (uw (cj rfl) (cj rfl) (st _))),fd,some (cu pre.length),?_,rfl,λe=>?_,?_⟩
    ·rw [ap,ax];rfl
    ·rw [fm,ap,ax]
     constructor
     ·rintro ⟨h1,k,h2,h3,h4⟩;exact ⟨h1,k,h2,by omega,h4⟩
     ·rintro ⟨h1,k,h2,h3,h4⟩;exact ⟨h1,k,h2,by omega,h4⟩
    ·rw [ap,ax,dF];omega) ⟨[],none,rfl,rfl,λe=>by simp,by simp⟩
 rw [aG] at fm fll;have fll':fd.length<=5*(n+1):=bL fll (bX _ (by omega))
 obtain ⟨ts,fw,srt,mem,es⟩:=ada (l:=fd) (d:=.ref 0) (h:=[.lst (fd.map cu)]) hn (λy hy=>by have:=((fm y).mp hy).1;omega) (by omega) (a6b fd)
 have et:ts=fl n (btw R lo hi) a:=a1p fw.nd srt λy=>by
  rw [mem,fm]
  constructor
  ·rintro ⟨h1,k,h2,h3,h4⟩;exact ⟨h1,k,h2,by omega,h4⟩
  ·rintro ⟨h1,k,h2,h3,h4⟩;exact ⟨h1,k,h2,by omega,h4⟩
 rw [et] at es;refine puL rfl (ai4 (a6d _) (iy _) (iy _) (iy _)) (h1:=[.lst (fd.map cu), .lst ((fl n (btw R lo hi) a).map cu)]) (i:=1) ?_ rfl;unfold m5;rw [jq];show toR (uq j9 [some (rwD (rw_ n R)),some (cu a),some (cu lo),some (cu hi),none,none,none] [])=_;unfold uq;refine ag (af toR (jm (show sA MI.vy dq _ [] = .ok (.ref 0) [.lst []] from rfl))) ?_
 refine ag (af toR (jm (c1 _))) ?_;have rg:∀ t6 t5,sRg v6 (aj (s2 jb (sV 3) (sC (.int 1))) dq) [some (rwD (rw_ n R)),some (cu a),some (cu lo),some (cu hi),some (.ref 0),t5,t6] [.lst []] = .ok ⟨(List.range (hi+1)).map cu,λ_=>True⟩ [.lst []]:=λt6 t5=>a3y (n:=hi+1) (ig (cj rfl) (iw _ _ _) abj) (dj (by omega))
 refine ag (af toR (a4l (rg _ _))) ?_;exact ag (af toR (af (λz=>MI.thn z _) e)) (af toR (jy (ahj (cj rfl) es)))
end
def En(w:List Nat):Nat->Sh->Rl
 | 0,_=>λ_ _=>False
 | d+1,s=>match s with
  | .one sg=>λa e=>∃ c,w[a]? = some c/\c∈sg/\e=a+1
  | .row ps=>chn (ps.map (En w d))
  | .eit ps=>λa e=>∃ p∈ps,En w d p a e
  | .many p=>star (En w d p)
  | .tim p lo hi=>btw (En w d p) lo hi
theorem a6n(w:List Nat):∀ (d:Nat) (s:Sh),Bd w.length (En w d s)
 | 0,_=>λ_ _ h=>h.elim
 | d+1, .one sg=>λa e ⟨c,h1,_,h3⟩ ha=>by
  have:=(ah.mp h1).1
  omega
 | d+1, .row ps=>ahz λR hR=>by obtain ⟨p,_,rfl⟩:=bD.mp hR;exact a6n w d p
 | d+1, .eit ps=>λa e ⟨p,_,h⟩ ha=>a6n w d p a e h ha
 | d+1, .many p=>apd (a6n w d p)
 | d+1, .tim p lo hi=>atn (a6n w d p)
def kids:Sh->List Sh
 | .one _=>[]
 | .row ps=>ps
 | .eit ps=>ps
 | .many p=>[p]
 | .tim p _ _=>[p]
theorem apj{tg:List Nat}{d:Nat}{s:Sh}(k:a1q tg (d+1) s):(kids s).length<=6/\∀ p∈kids s,a1q tg d p:=by
 cases s with
 | one s=>exact ⟨by simp [kids],by simp [kids]⟩
 | row ps=>exact k
 | eit ps=>exact ⟨k.2.1,k.2.2⟩
 | many p=>exact ⟨by simp [kids],λq hq=>by rw [av.mp hq];exact k⟩
 | tim p lo hi=>exact ⟨by simp [kids],λq hq=>by rw [av.mp hq];exact k.2.2⟩
theorem apk(l:List Sh):clos 0 (l.map sd):=j4 λp _=>zg p
noncomputable def ph:SF:=qj a8e 1
theorem alj(s:Sh):Pu ph 1 [sd s] (.tup ((kids s).map sd)):=by
 refine pu1 rfl (ape (zg s)) (nu (apk _)) ?_;unfold ph;rw [jq];show toR (a8e [some (sd s)] [])=_;unfold a8e
 cases s with
 | one s=>rw [sd];exact af toR (uc (ag (ifT (by walk_at "x")) (jy (aur PAP.aex))))
 | row ps =>
  rw [sd,yx];exact ag (af toR (ifN (by walk_at "x"))) (af toR (uc (ag (ifT (orT (by walk_at "x"))) (jy (ig (cj rfl) (iw _ _ _) ix1)))))
 | eit ps =>
  rw [sd,yx];exact ag (af toR (ifN (by walk_at "x"))) (af toR (uc (ag (ifT (orF (by walk_at "x") (by walk_at "x"))) (jy (ig (cj rfl) (iw _ _ _) ix1)))))
 | many p =>
  rw [sd];exact ag (af toR (ifN (by walk_at "x"))) (ag (af toR (ifN (orF (by walk_at "x") (by walk_at "x")))) (af toR (jy (uv (ig (cj rfl) (iw _ _ _) ix1) PAP.ad6))))
 | tim p lo hi =>
  rw [sd];exact ag (af toR (ifN (by walk_at "x"))) (ag (af toR (ifN (orF (by walk_at "x") (by walk_at "x")))) (af toR (jy (uv (ig (cj rfl) (iw _ _ _) ix1) PAP.ad6))))
section
variable{w:List Nat}{tg:List Nat}
noncomputable abbrev rwE(w:List Nat)(d:Nat)(s:Sh):D:=rwD (rw_ w.length (En w d s))
noncomputable def je:SF:=qj (a0b mj mq m5) 4
theorem apl(hw:w.length+1<=60){d a:Nat}{s:Sh}(k:a1q tg (d+1) s)(ha:a<=w.length):Pu je 4 [sd s, .rol ((kids s).map (rwE w d)), .str (S w),cu a] (lsD (fl w.length (En w (d+1) s) a)):=by
 have cl:∀ x∈[sd s, .rol ((kids s).map (rwE w d)), .str (S w),cu a],MI.clo 0 x:=ai4 (zg s) (xf (j4 λ_ _=>a6d _)) (jc _) (iy _);have go:je [sd s, .rol ((kids s).map (rwE w d)), .str (S w),cu a] []=toR (a0b mj mq m5 [some (sd s),some (.rol ((kids s).map (rwE w d))),some (.str (S w)),some (cu a)] []):=by
  unfold je;rw [jq];rfl
 unfold a0b at go
 cases s with
 | one sg =>
  have lw:rm [.str (S w)] [] = .ok (cu w.length) []:=a3v (dj (by omega))
  rw [sd] at go cl ⊢
  by_cases h1:a<w.length
  ·have x1:gIx (.str (S w)) (cu a) [] = .ok (.str (S [w[a]])) []:=ais (dj (by omega)) (ad h1)
   by_cases h2:w[a]∈sg
   ·have et:[a+1]=fl w.length (En w (d+1) (.one sg)) a:=a1p (by simp) (by simp) λe=>by
     rw [av]
     constructor
     ·rintro rfl;exact ⟨by omega,w[a],ad h1,h2,rfl⟩
     ·rintro ⟨_,c,_,_,h⟩;exact h
    rw [<-et];refine puL rfl cl (h1:=[.lst ([a+1].map cu)]) (i:=0) (go.trans ?_) rfl;exact af toR (uc (ag (ifT (by walk_at "x")) (jy (EVT.ax8 (aew (tof (ig (cj rfl) (uv (cj rfl) lw) (ahm (by omega)))) (tof (ig (ig (cj rfl) (cj rfl) x1) (ig (cj rfl) (iw _ _ _) ix1) ((alg _ _ []).trans (by rw [cF h2]))))) (show sA MI.vy (aj (s2 jb (sV 3) (sC (.int 1))) dq) _ [] = .ok (.ref 0) [.lst ([a+1].map cu)] from PAP.aof (arg1 (ig (cj rfl) (iw _ _ _) abj)) rfl)))))
   ·have et:([]:List Nat)=fl w.length (En w (d+1) (.one sg)) a:=a1p (by simp) (by simp) λe=>by
     constructor
     ·intro h;cases h
     ·rintro ⟨_,c,hc,h,_⟩
      rw [ad h1] at hc;cases hc
      exact absurd h h2
    rw [<-et];refine puL rfl cl (h1:=[.lst (([]:List Nat).map cu)]) (i:=0) (go.trans ?_) rfl;exact af toR (uc (ag (ifT (by walk_at "x")) (jy (EVT.auw (aew (tof (ig (cj rfl) (uv (cj rfl) lw) (ahm (by omega)))) (tof (ig (ig (cj rfl) (cj rfl) x1) (ig (cj rfl) (iw _ _ _) ix1) ((alg _ _ []).trans (by rw [aY h2]))))) rfl))))
  ·have et:([]:List Nat)=fl w.length (En w (d+1) (.one sg)) a:=a1p (by simp) (by simp) λe=>by
    constructor
    ·intro h;cases h
    ·rintro ⟨_,c,hc,h,_⟩
     exact absurd (ah.mp hc).1 h1
   rw [<-et];refine puL rfl cl (h1:=[.lst (([]:List Nat).map cu)]) (i:=0) (go.trans ?_) rfl;exact af toR (uc (ag (ifT (by walk_at "x")) (jy (EVT.auw (amq (tof (ig (cj rfl) (uv (cj rfl) lw) (al3 (by omega))))) rfl))))
 | row ps =>
  have t:=apg (n:=w.length) (a:=a) hw ha (Rs:=ps.map (En w d)) λR hR=>by obtain ⟨p,_,rfl⟩:=bD.mp hR;exact a6n w d p
  rw [cJ] at t;rw [sd,yx] at go cl ⊢;refine pu1 rfl cl (yz _) (go.trans ?_);exact ag (af toR (ifN (by walk_at "x"))) (af toR (uc (ag (ifT (by walk_at "x")) (jy (uw (cj rfl) (cj rfl) (t _))))))
 | eit ps =>
  obtain ⟨ts,fw,st,mem,e⟩:=ad9 (fi:=sIt (sV 1)) (fj:=sIt (s2 gIx (sV 0) (sV 2))) (ix:=[3]) (τ:=[some (.tup [.str "either", .tup (ps.map sd)]),some (.rol (ps.map (rwE w d))),some (.str (S w)),some (cu a)]) (h:=[]) (rwE w d) ps (λp=>fl w.length (En w d p) a) hw (a66 (cj rfl) rfl) (λx hx=>a66 (ig (cj rfl) (cj rfl) (apf _ ha)) rfl) (λx _ y hy=>ald y hy);have et:ts=fl w.length (En w (d+1) (.eit ps)) a:=a1p fw.nd st λy=>by
   rw [mem]
   constructor
   ·rintro ⟨p,hp,h⟩;exact ⟨(p6.mp h).1,p,hp,(p6.mp h).2⟩
   ·rintro ⟨h1,p,hp,h⟩;exact ⟨p,hp,p6.mpr ⟨h1,h⟩⟩
  rw [et] at e;rw [sd,yx] at go cl ⊢;refine puL rfl cl (h1:=[.lst ((fl w.length (En w (d+1) (.eit ps)) a).map cu)]) (i:=0) (go.trans ?_) rfl;exact ag (af toR (ifN (by walk_at "x"))) (ag (af toR (ifN (by walk_at "x"))) (af toR (uc (ag (ifT (by walk_at "x")) (jy e)))))
 | many p =>
  have t:=api (n:=w.length) (a:=a) hw ha (a6n w d p);have x0:gIx (.rol ((kids (.many p)).map (rwE w d))) (.int 0) [] = .ok (rwE w d p) []:=amr (j:=0) rfl;rw [sd] at go cl ⊢;refine pu1 rfl cl (yz _) (go.trans ?_);exact ag (af toR (ifN (by walk_at "x"))) (ag (af toR (ifN (by walk_at "x"))) (ag (af toR (ifN (by walk_at "x"))) (af toR (uc (ag (ifT (by walk_at "x")) (jy (uw (ig (cj rfl) (iw _ _ _) x0) (cj rfl) (t _))))))))
 | tim p lo hi =>
  have t:=ali (n:=w.length) (a:=a) hw ha (a6n w d p) (lo:=lo) (hi:=hi) k.2.1;have x0:gIx (.rol ((kids (.tim p lo hi)).map (rwE w d))) (.int 0) [] = .ok (rwE w d p) []:=amr (j:=0) rfl;rw [sd] at go cl ⊢;refine pu1 rfl cl (yz _) (go.trans ?_);exact ag (af toR (ifN (by walk_at "x"))) (ag (af toR (ifN (by walk_at "x"))) (ag (af toR (ifN (by walk_at "x"))) (ag (af toR (ifN (by walk_at "x"))) (af toR (jy (PAP.aof (PAP.j7 (ig (cj rfl) (iw _ _ _) x0) (PAP.j7 (cj rfl) (PAP.j7 (ig (cj rfl) (iw _ _ _) ix2) (PAP.j7 (ig (cj rfl) (iw _ _ _) ix3) EVT.wj)))) (t _)))))))
noncomputable def tr(w:List Nat):Nat->Sh->D
 | 0,_=>.non
 | d+1,s=>.tup [rwE w (d+1) s, .rol ((kids s).map (tr w d))]
theorem ai8(w:List Nat):∀ (d:Nat) (s:Sh),MI.clo 0 (tr w d s)
 | 0,_=>a3r
 | d+1,s=>nu (gf (a6d _) (gf (xf (j4 λp _=>ai8 w d p)) j8))
noncomputable def ie:Nat->SF
 | 0=>λ_ _=>.no
 | n+1=>qj (yc (ie n) je ph) 5
theorem ai9(hw:w.length+1<=60):∀ (d n:Nat),d<=n->∀ s,a1q tg d s->Pu (ie n) 2 [sd s, .str (S w)] (tr w d s)
 | 0,_,_,_,k=>k.elim
 | d+1,0,h,_,_=>absurd h (by omega)
 | d+1,n+1,h,s,k=>by
  obtain ⟨kl,kk⟩:=apj k;refine pu1 rfl (a0l (zg s) (jc _)) (ai8 w _ s) ?_;rw [ie,jq];show toR (yc (ie n) je ph [some (sd s),some (.str (S w)),none,none,none] [])=_;unfold yc;have c1:sZ (n6 (sIt (sA (kj false 1 ph) (aj (sV 0) dq))) MI.t1 (xg (ie n) je ph) [1]) [some (sd s),some (.str (S w)),none,none,none] [] = .ok (.rol ((kids s).map (tr w d))) []:=by
   refine a4k (qz sd (tr w d) (kids s) (a66 (uv (cj rfl) (alj s _)) rfl) (dj (by omega)) λp hp=>?_) (j4 λp _=>ai8 w d p) (by simp)
   rw [xm];unfold xg;exact uw (cj rfl) (cj rfl) (ai9 hw d n (by omega) p (kk p hp) _)
  refine ag (af toR (jm c1)) ?_;have c2:sZ (n6 (sIt (sV 2)) (tN 2) (a0j (ie n) je ph) []) [some (sd s),some (.str (S w)),some (.rol ((kids s).map (tr w d))),none,none] [] = .ok (.rol ((kids s).map (rwE w d))) []:=by
   refine a4k (qz (tr w d) (rwE w d) (kids s) (a66 (cj rfl) rfl) (dj (by omega)) λp hp=>?_) (j4 λp _=>a6d _) (by simp)
   cases d with
   | zero=>exact (kk p hp).elim
   | succ d=>rfl
  refine ag (af toR (jm c2)) ?_;have lw:rm [.str (S w)] [] = .ok (cu w.length) []:=a3v (dj (by omega))
  have c3:sZ (n6 (sRg v6 (aj (s2 jb (sA rm (aj (sV 1) dq)) (sC (.int 1))) dq)) MI.t1 (xj (ie n) je ph) [0,1,3]) [some (sd s),some (.str (S w)),some (.rol ((kids s).map (tr w d))),some (.rol ((kids s).map (rwE w d))),none] [] = .ok (.rol ((List.range (w.length+1)).map λa=>.tup ((fl w.length (En w (d+1) s) a).map cu))) []:=by
   refine a4k (qz cu _ (List.range (w.length+1)) (a3y (n:=w.length+1) (ig (uv (cj rfl) lw) (iw _ _ _) abj) (dj (by omega))) (dj (by rw [aG];omega)) λa ha=>?_) (j4 λa _=>nu (xq _)) (by simp)
   rw [xm];unfold xj;exact uv (PAP.aof (PAP.j7 (cj rfl) (PAP.j7 (cj rfl) (PAP.j7 (cj rfl) (PAP.j7 (cj rfl) EVT.wj)))) (apl hw k (by have:=bb.mp ha;omega) _)) rfl
  refine ag (af toR (jm c3)) ?_;refine ag (af toR (jy (uw (uv (cj rfl) rfl) (cj rfl) abg))) ?_;rw [tr];unfold rwE rw_ rwD;rw [cJ];rfl
end
noncomputable abbrev rwL(n:Nat)(R:Rl):D:=.rol ((List.range (n+1)).map λa=>lsD (fl n R a))
theorem v7(n:Nat)(R:Rl):MI.clo 0 (rwL n R):=xf (j4 λ_ _=>yz _)
section
variable{n a:Nat}{R P:Rl}
theorem a79(h:Hd)(ha:a<=n):gIx (rwL n R) (cu a) h = .ok (lsD (fl n R a)) h:=amr (by rw [aW,fG (by omega)];rfl)
theorem atp{f g:SE}{τ:Sd}{h:Hd}{l1 l2:List Nat}(e1:f τ h = .ok (lsD l1) h)(e2:g τ h = .ok (lsD l2) h)(ch:∀ u∈h,u5 0 u)(z:l1.length+l2.length<=1000000):sZ (s2 jb f g) τ h = .ok (lsD (l1++l2)) h:=by
 have:=EVT.aad e1 e2 rfl (xq l1) (xq l2) ch (by simpa using z)
 rw [this,<-bg]
theorem atq{f:SE}{τ:Sd}{h:Hd}{l:List Nat}{ts:List Nat}(e1:f τ h = .ok (lsD l) h)(ch:∀ u∈h,u5 0 u)(e:a6m (lsD l) h = .ok (.ref h.length) (h++[.lst (ts.map cu)])):sZ (s1 a6m f) τ h = .ok (lsD ts) h:=EVT.ait (ahj e1 e) rfl (xq ts) ch
end
theorem a3d(l:List Nat):(l.map λc=>[c]).flatten=l:=by
 induction l with
 | nil=>rfl
 | cons c l ih=>rw [aZ,bK,ih];rfl
end ENG
namespace DRW
open PySem PySem.Spec L2 MI AT HND EVX SHD
open PAP hiding j7 ad6 aex a2a aab aof
open SRC (Src)
open SRC (cst a2e ad8 a04 aac)
open ENG
local macro_rules | `(tactic| walk_at "c") => `(tactic| first | assumption | exact iy _ | (with_reducible exact EVT.a4u) | exact jc _ | exact a9q _ | exact a3r | exact j8 | ((with_reducible apply gf)<;>walk_at "c") | ((with_reducible apply nu);walk_at "c") | ((with_reducible apply xf);walk_at "c") | ((with_reducible apply EVT.a0f)<;>walk_at "c") | ((with_reducible apply EVT.a0y);walk_at "c") | ((with_reducible apply EVT.a0z);walk_at "c") | ((with_reducible apply EVT.a4s);walk_at "c") | ((with_reducible apply EVT.a4t);walk_at "c") | ((with_reducible apply EVT.a4v)<;>walk_at "c") | exact j4 fun _ _=>iy _ | exact j4 fun _ _=>jc _)
local macro_rules | `(tactic| walk_at "h") => `(tactic| first | assumption | exact EVT.a8u | exact EVT.a1a (by assumption))
local macro_rules | `(tactic| walk_at "z") => `(tactic| first | assumption | omega | (simp only [aS,c6,ap,aV,bq,am,ax,EVT.a8t,Int.reduceToNat]<;>omega))
local macro_rules | `(tactic| walk_at "l") => `(tactic| first
 | (with_reducible assumption)
 | (with_reducible exact aex) | (with_reducible exact ad6) | (with_reducible exact abg) | (with_reducible exact aut)
 | (with_reducible exact EVT.a69) | (with_reducible exact EVT.a3c)
 | ((with_reducible apply EVT.PuE);with_reducible assumption)
 | ((with_reducible apply EVT.a8q);with_reducible assumption)
 | (with_reducible exact EVT.ala _ _) | (with_reducible exact PAP.auv _ _ _) | (with_reducible exact PAP.ad7 _ _ _)
 | ((with_reducible apply PAP.al7);walk_at "z")
 | ((with_reducible apply EVT.al8);walk_at "z")
 | ((with_reducible apply EVT.al9);walk_at "z")
 | (with_reducible exact a1z _ _) | (with_reducible exact a8o _) | (with_reducible exact a0x _)
 | ((with_reducible apply ahm);walk_at "z") | ((with_reducible apply al3);walk_at "z")
 | ((with_reducible apply apw);walk_at "z") | ((with_reducible apply apx);walk_at "z")
 | ((with_reducible apply aaa);walk_at "z") | ((with_reducible apply abf);walk_at "z")
 | ((with_reducible apply al4);walk_at "z") | ((with_reducible apply ahn);walk_at "z")
 | exact rfl)
local macro_rules | `(tactic| walk_at "x") => `(tactic| first
 | (with_reducible assumption)
 | (with_reducible exact iw _ _ _)
 | ((with_reducible apply cj);exact rfl)
 | (with_reducible exact EVT.wj) | (with_reducible exact EVT.aht)
 | ((with_reducible apply EVT.uy);walk_at "x";exact rfl;walk_at "c";walk_at "h";walk_at "z")
 | ((with_reducible apply EVT.a8r);walk_at "x";exact rfl;walk_at "c";walk_at "h")
 | ((with_reducible apply EVT.a8s);walk_at "x";exact rfl;walk_at "h";walk_at "z")
 | ((with_reducible apply EVT.aad);walk_at "x";walk_at "x";exact rfl;walk_at "c";walk_at "c";walk_at "h";walk_at "z")
 | ((with_reducible apply EVT.aae);walk_at "x";walk_at "x";exact rfl;walk_at "c";walk_at "h";walk_at "z";walk_at "z")
 | ((with_reducible apply EVT.a2a);walk_at "h")
 | ((with_reducible apply ig);walk_at "x";walk_at "x";walk_at "l")
 | ((with_reducible apply ahj);walk_at "x";walk_at "l")
 | ((with_reducible apply PAP.aof);walk_at "x";walk_at "l")
 | ((with_reducible apply PAP.j7);walk_at "x";walk_at "x")
 | ((with_reducible apply ahs);walk_at "x";walk_at "x";walk_at "x";walk_at "l")
 | ((with_reducible apply ahr);walk_at "x")
 | ((with_reducible apply tof);walk_at "x")
 | ((with_reducible apply abe);walk_at "x";walk_at "l")
 | ((with_reducible apply ath);walk_at "x") | ((with_reducible apply aus);walk_at "x")
 | ((with_reducible apply aew);walk_at "x";walk_at "x") | ((with_reducible apply amq);walk_at "x")
 | ((with_reducible apply orT);walk_at "x") | ((with_reducible apply orF);walk_at "x";walk_at "x"))
local macro_rules | `(tactic| walk_at "l") => `(tactic| first | (with_reducible exact SHD.ix0) | (with_reducible exact SHD.ix1) | (with_reducible exact SHD.ix2) | (with_reducible exact SHD.ix3) | (with_reducible exact SHD.auz) | ((with_reducible apply SHD.av0);exact (by decide)) | (with_reducible exact SHD.av2) | ((with_reducible apply SHD.av1);exact (by decide)) | (with_reducible exact SHD.abj) | (with_reducible exact SHD.a8x))
theorem dw{o:O}{N:Nat}{m:Int}(P:Src o N)(hN:N<=1000000000)(m0:0<m)(m1:m<1073741824):∃ (r:Nat) (o':O),Dr SRC.ak 2 [.int m] o (cu r) o'/\(r:Int)<m/\Src o' (N+1):=by
 obtain ⟨r,o',e,r0,r1,P'⟩:=SRC.abh P hN m0 m1;obtain ⟨r,rfl⟩:=eI r0;exact ⟨r,o',e,r1,P'⟩
theorem amw{a b:Nat}{h:Hd}:jb (cu a) (cu b) h = .ok (cu (a+b)) h:=rfl
mutual
def wt:Sh->Nat
 | .one _=>1
 | .row ps=>wts ps
 | .eit ps=>wts ps
 | .many p=>wt p
 | .tim p _ hi=>hi*wt p
def wts:List Sh->Nat
 | []=>0
 | p::ps=>wt p+wts ps
end
theorem a8y:∀ (l:List Sh) (s:Sh),wts (l++[s])=wts l+wt s
 | [],s=>by rw [cI,wts,wts,wts];omega
 | p::l,s=>by rw [gV,wts,wts,a8y l s];omega
theorem aia:∀ l:List Sh,((l.map λs=>(wt s:Int)).sum)=(wts l:Nat)
 | []=>by rw [wts];rfl
 | p::l=>by rw [aZ,List.sum_cons,aia l,wts];omega
mutual
def pn:Sh->Nat
 | .one _=>1
 | .row ps=>1+pns ps
 | .eit ps=>1+pns ps
 | .many p=>1+pn p
 | .tim p _ _=>1+pn p
def pns:List Sh->Nat
 | []=>0
 | p::ps=>pn p+pns ps
end
theorem aib:∀ (l:List Sh) (s:Sh),pns (l++[s])=pns l+pn s
 | [],s=>by rw [cI,pns,pns,pns];omega
 | p::l,s=>by rw [gV,pns,pns,aib l s];omega
noncomputable def di:Nat->SF
 | 0=>λ_ _=>.no
 | n+1=>qj (vz (di n)) 1
theorem a8z(x:Str)(h:Hd):gIn false (.str x) (.tup [.str "row", .str "either"]) h = .ok (.bl (("row" : Str) == x || (("either" : Str) == x || false))) h:=rfl
theorem a6e{tg:List Nat}:∀ (d n:Nat),d<=n->∀ s,a1q tg d s->Pu (di n) 1 [sd s] (cu (wt s))
 | 0,_,_,_,k=>k.elim
 | d+1,0,h,_,_=>absurd h (by omega)
 | d+1,n+1,h,s,k=>by
  have ih:=a6e (tg:=tg) d n (by omega)
  refine Pu.of rfl (by simp [zg]) (r:=.ok (cu (wt s)) []) ?_ (xx (iy _) (by simp)) (iy _)
  show qj (vz (di n)) 1 [sd s] []=_;rw [jq];show toR (vz (di n) [some (sd s)] [])=_;unfold vz;have many:∀ (hd:Str) (ps:List Sh),(∀ p∈ps,a1q tg d p)->ps.length<=6->sA amd (aj (sZ (n6 (sIt (s2 gIx (sV 0) (sC (.int 1)))) MI.t1 (ur (di n)) [])) dq) [some (.tup [.str hd, .tup (sds ps)])] [] = .ok (cu (wts ps)) []:=λhd ps kp lp=>by
   have z:sZ (n6 (sIt (s2 gIx (sV 0) (sC (.int 1)))) MI.t1 (ur (di n)) []) [some (.tup [.str hd, .tup (sds ps)])] [] = .ok (.rol ((ps.map λs=>(wt s:Int)).map D.int)) []:=by
    refine a4k ?_ (j4 λ_ _=>iy _) (by simp)
    rw [cJ];refine qz sd (λs=>D.int (wt s:Int)) ps (a66 (ig (cj rfl) (iw _ _ _) rfl) (by rw [yx];rfl)) (dj (by omega)) λp hp=>?_
    rw [xm];unfold ur;exact uv (cj rfl) (ih p (kp p hp) [])
   refine uv z ?_;unfold amd;simp only [SRC.ints_map,aia]
  match s,k with
  | .one sg,k =>
   rw [sd,wt];exact af toR (uc (ag (ifT (by walk_at "x")) (jy (iw _ _ _))))
  | .row ps,k =>
   rw [sd,wt];refine ag (af toR (ifN (by walk_at "x"))) ?_
   exact af toR (uc (ag (ifT (tof (ig (ig (cj rfl) (iw _ _ _) SHD.ix0) (uw (iw _ _ _) (iw _ _ _) abg) (a8z _ _)))) (jy (many _ ps k.2 k.1))))
  | .eit ps,k =>
   rw [sd,wt];refine ag (af toR (ifN (by walk_at "x"))) ?_
   exact af toR (uc (ag (ifT (tof (ig (ig (cj rfl) (iw _ _ _) SHD.ix0) (uw (iw _ _ _) (iw _ _ _) abg) (a8z _ _)))) (jy (many _ ps k.2.2 k.2.1))))
  | .many p,k =>
   rw [sd,wt];have c1:=ih p k;refine ag (af toR (ifN (by walk_at "x"))) ?_
   refine ag (af toR (ifN (tof (ig (ig (cj rfl) (iw _ _ _) SHD.ix0) (uw (iw _ _ _) (iw _ _ _) abg) (a8z _ _))))) ?_;exact af toR (uc (ag (ifT (by walk_at "x")) (jy (by walk_at "x"))))
  | .tim p lo hi,k =>
   rw [sd,wt];have c1:=ih p k.2.2;have h4:=k.2.1;refine ag (af toR (ifN (by walk_at "x"))) ?_
   refine ag (af toR (ifN (tof (ig (ig (cj rfl) (iw _ _ _) SHD.ix0) (uw (iw _ _ _) (iw _ _ _) abg) (a8z _ _))))) ?_;refine ag (af toR (ifN (by walk_at "x"))) ?_
   have m:xu (cu hi) (cu (wt p)) [] = .ok (cu (hi*wt p)) []:=a3a.trans ((aA (.inl ⟨by omega,by omega⟩)).trans (by rw [<-Int.natCast_mul]))
   exact af toR (jy (ig (ig (cj rfl) (iw _ _ _) SHD.ix3) (uv (ig (cj rfl) (iw _ _ _) SHD.ix1) (c1 _)) m))
noncomputable def lz:SF:=qj (a1i SRC.ak) 7
theorem apm{tg:List Nat}(t1:1<=tg.length)(t6:tg.length<=6)(nd:tg.Nodup){o:O}{N:Nat}(P:Src o N)(hN:N<=999999000):∃ l o',1<=l.length/\l.length<=tg.length/\l.Nodup/\(∀ c∈l,c∈tg)/\Dr lz 2 [.str (S tg)] o (.str (S l)) o'/\Src o' (N+8):=by
 have lt:∀ h,rm [.str (S tg)] h = .ok (cu tg.length) h:=λh=>a3v (dj (by omega))
 obtain ⟨many,o1,m1,m6,P1,pre⟩:∃ (many:Nat) (o1:O),1<=many/\many<=tg.length/\Src o1 (N+2)/\∀ g:SS,jd (sIf (sT (s2 hEq (sA (kj false 2 SRC.ak) (aj (sV 0) (aj (sC (.int 2)) dq))) (sC (.int 0)))) (km 4 (s2 jb (sC (.int 1)) (sA (kj false 2 SRC.ak) (aj (sV 0) (aj (sA rm (aj (sV 1) dq)) dq))))) sNx) g [some (.ref 0),some (.str (S tg)),some (.str (S tg)),some (.str (S [])),some (.int 1),none,none] [o]=g [some (.ref 0),some (.str (S tg)),some (.str (S tg)),some (.str (S [])),some (cu many),none,none] [o1]:=by
  obtain ⟨q,u,e,_,Q⟩:=dw (m:=2) P (by omega) (by decide) (by decide)
  by_cases hq:q=0
  ·obtain ⟨r,u',e',r1,Q'⟩:=dw (m:=(tg.length:Int)) Q (by omega) (by omega) (by omega)
   refine ⟨1+r,u',by omega,by omega,Q',λg=>sy (ag (ifT (tof (ig (uw (cj rfl) (iw _ _ _) (e 0 _ rfl)) (iw _ _ _) (aaa (by omega))))) (a93 (ig (iw _ _ _) (uw (cj rfl) (uv (cj rfl) (lt _)) (e' 0 _ rfl)) amw)))⟩
  ·exact ⟨1,u,by omega,by omega,Q.up (by omega),λg=>ifN (tof (ig (uw (cj rfl) (iw _ _ _) (e 0 _ rfl)) (iw _ _ _) (abf (by omega))))⟩
 obtain ⟨τ',h',e2,rest,told,u,t5,t6',rfl,rfl,P2,l1,l2,nd',sb⟩:=um (g:=kN 5) (b:=a0c SRC.ak) cu
  (λpre τ h=>∃ (rest told:List Nat) (u:O) (t5 t6:Option D),τ=[some (.ref 0),some (.str (S tg)),some (.str (S rest)),some (.str (S told)),some (cu many),t5,t6]/\h=[u]/\Src u (N+2+pre.length)/\told.length=pre.length/\(told++rest).length=tg.length/\(told++rest).Nodup/\∀ c∈told++rest,c∈tg)
  (List.range many) [some (.ref 0),some (.str (S tg)),some (.str (S tg)),some (.str (S [])),some (cu many),none,none] [o1] (by
   rintro pre i post τ h al ⟨rest,told,u,t5,t6',rfl,rfl,P2,l1,l2,nd',sb⟩
   have hlen:pre.length<many:=by
    have:=af List.length al
    simp at this;omega
   rw [ap] at l2;obtain ⟨j,u',e2,rb,P3⟩:=dw (m:=(rest.length:Int)) P2 (by omega) (by omega) (by omega)
   have hj:j<rest.length:=by omega
   have gx:rest[j]? = some rest[j]:=ad hj;have pp:=aa5 told rest j rest[j] gx;refine ⟨_,_,rfl,_,_,?_,rest.take j++rest.drop (j+1),told++[rest[j]],u',some (cu i),some (cu j),rfl,rfl,by simpa [hZ] using P3,by simp [l1],?_,pp.nodup_iff.mp nd',λc hc=>sb c (pp.mem_iff.mpr hc)⟩
   ·unfold a0c;refine ag (jm (uw (cj rfl) (uv (cj rfl) (a3v (dj (by omega)))) (e2 0 [u] rfl))) ?_
    refine ag (sy (aa9 rfl (ig (cj rfl) (cj rfl) (ais (dj (by omega)) gx)) (SRC.ams (dj (by simp;omega))))) ?_
    exact a93 (ig (SRC.al6 (cj rfl) rfl (SRC.al5 (cj rfl)) (atc j (dj (by omega)))) (SRC.al6 (cj rfl) (SRC.al5 (ig (cj rfl) (iw _ _ _) a0k)) rfl (aa2 (j+1) (dj (by omega)))) (a8h (dj (by simp;omega))))
   ·rw [<-pp.length_eq];simpa using l2) ⟨tg,[],o1,none,none,rfl,rfl,P1,rfl,rfl,nd,λc hc=>hc⟩
 rw [aG] at P2 l1;refine ⟨told,u,by omega,by omega,(bA.mp nd').1,λc hc=>sb c (cr _ hc),Dr.of rfl (by simp [jc]) P.clo (r:=.ok (.str (S told)) [u]) ?_ (xx (jc _) (by simpa using a0t (by omega) P2.clo)) (jc _) P2.clo,P2.up (by omega)⟩
 unfold lz;rw [jq];show toR (a1i SRC.ak [some (.ref 0),some (.str (S tg)),none,none,none,none,none] [o])=_;unfold a1i;refine ag (af toR (jm (cj rfl))) ?_;refine ag (af toR (jm (iw _ _ _))) ?_;refine ag (af toR (jm (iw _ _ _))) ?_;refine ag (af toR (pre _)) ?_;refine ag (af toR (a4l (a3y (n:=many) (cj rfl) (dj (by omega))))) ?_
 refine ag (af (λz=>toR (MI.thn z _)) e2) ?_;exact af toR (jy (cj rfl))
mutual
def Nd:Sh->Prop
 | .one s=>s.Nodup
 | .row ps=>Nds ps
 | .eit ps=>Nds ps
 | .many p=>Nd p
 | .tim p _ _=>Nd p
def Nds:List Sh->Prop
 | []=>True
 | p::ps=>Nd p/\Nds ps
end
theorem aic:∀ {l:List Sh} {s:Sh},Nds l->Nd s->Nds (l++[s])
 | [],s,_,h=>by rw [cI,Nds,Nds];exact ⟨h,trivial⟩
 | p::l,s,a,h=>by rw [Nds] at a;rw [gV,Nds];exact ⟨a.1,aic a.2 h⟩
def Dr5(F:SF)(a b c:D)(o q:O)(d:D)(o' q':O):Prop:=∀ i j h,i≠j->h[i]? = some o->h[j]? = some q->kj false 5 F [.ref i,a,b,c, .ref j] h = .ok d ((h.set i o').set j q')
theorem Dr5.of{F:SF}{x:Str}{y z:Int}{o o' q q':O}{r:R D}{d:D}(co:u5 0 o)(cq:u5 0 q)(e:F [.ref 0, .str x, .int y, .int z, .ref 1] [o,q]=r)(zz:a6x 2 r = .ok d [o',q'])(c:clo 0 d)(co':u5 0 o')(cq':u5 0 q'):Dr5 F (.str x) (.int y) (.int z) o q d o' q':=λi j h ne hi hj=>by
 have e1:a08 [.ref i, .str x, .int y, .int z, .ref j]=[i,j]:=rfl;have e2:zm 0 [.ref i, .str x, .int y, .int z, .ref j]=[.ref 0, .str x, .int y, .int z, .ref 1]:=rfl;unfold kj;rw [aA (by rfl:([D.ref i,D.str x,D.int y,D.int z,D.ref j]:List D).length=5)]
 unfold ao9;rw [e1];simp only [a1f,hi,hj,aS,c6,bY,dW,eS,Nat.reduceAdd];have all:∀ v∈[D.ref i, .str x, .int y, .int z, .ref j],clo 0 v\/isRef v:=λv hv=>by
  simp only [aD,aN,cn] at hv
  rcases hv with rfl | rfl | rfl | rfl | rfl
  ·exact .inr ⟨i,rfl⟩
  ·exact .inl (jc _)
  ·exact .inl (iy _)
  ·exact .inl (iy _)
  ·exact .inr ⟨j,rfl⟩
 rw [aA ⟨by simp [ne],all,λu hu=>by simp only [aD,aN,cn] at hu;rcases hu with rfl | rfl;exact co;exact cq⟩,e2,e,zz]
 simp [c,co',cq',u6]
theorem axa{F:SF}{a b c:D}{o o' p p':O}{d:D}{h:Hd}(q:Dr5 F a b c o p d o' p'):kj false 5 F [.ref 0,a,b,c, .ref 1] (o::p::h) = .ok d (o'::p'::h):=q 0 1 (o::p::h) (by decide) rfl rfl
noncomputable def iu:Nat->SF
 | 0=>λ_ _=>.no
 | n+1=>qj (yu SRC.ak lz (iu n) (di 5)) 11
def Drawn(tg:List Nat)(n d:Nat):Prop:=∀ (o:O) (N p:Nat) (x:Int),Src o N->N+bnd d<=900000000->p<=1000->∃ s o',a1q tg d s/\wt s<=p/\Nd s/\Dr5 (iu n) (.str (S tg)) (cu d) (cu p) o (.lst [.int x]) (sd s) o' (.lst [.int (x - pn s)])/\Src o' (N+bnd d)
def Res(tg:List Nat)(d N p:Nat)(x:Int)(r:R D):Prop:=∃ s o' hs,r = .ok (sd s) (o'::.lst [.int (x - pn s)]::hs)/\a1q tg d s/\wt s<=p/\Nd s/\Src o' N
theorem Res.tr{tg:List Nat}{d N p:Nat}{x:Int}{r r':R D}(e:r=r')(q:Res tg d N p x r'):Res tg d N p x r:=e ▸ q
theorem Res.to{tg:List Nat}{d N p n:Nat}{o:O}{x:Int}{r:R D}(co:u5 0 o)(e:iu n [.ref 0, .str (S tg),cu d,cu p, .ref 1] [o, .lst [.int x]]=r)(q:Res tg d N p x r):∃ s o',a1q tg d s/\wt s<=p/\Nd s/\Dr5 (iu n) (.str (S tg)) (cu d) (cu p) o (.lst [.int x]) (sd s) o' (.lst [.int (x - pn s)])/\Src o' N:=by
 obtain ⟨s,o',hs,e',k,w,nd,P⟩:=q;exact ⟨s,o',k,w,nd,Dr5.of co (a8w _) (e.trans e') (ax9 (zg s) P.clo (a8w _)) (zg s) P.clo (a8w _),P⟩
theorem alk{tg:List Nat}{n d p:Nat}{o:O}{x:Int}:iu (n+1) [.ref 0, .str (S tg),cu d,cu p, .ref 1] [o, .lst [.int x]]=toR (yu SRC.ak lz (iu n) (di 5) [some (.ref 0),some (.str (S tg)),some (cu d),some (cu p),some (.ref 1),none,none,none,none,none,none] [o, .lst [.int x]]):=by
 show qj (yu SRC.ak lz (iu n) (di 5)) 11 [.ref 0, .str (S tg),cu d,cu p, .ref 1] [o, .lst [.int x]]=_;rw [jq];rfl
theorem ix8(r:Nat)(h:r<8)(h':Hd):∃ m:Nat,1<=m/\m<=6/\gIx (.tup [.int 1, .int 2, .int 2, .int 3, .int 3, .int 4, .int 5, .int 6]) (cu r) h' = .ok (cu m) h':=by
 rcases r with _ | _ | _ | _ | _ | _ | _ | _ | r
 ·exact ⟨1,by decide,by decide,rfl⟩
 ·exact ⟨2,by decide,by decide,rfl⟩
 ·exact ⟨2,by decide,by decide,rfl⟩
 ·exact ⟨3,by decide,by decide,rfl⟩
 ·exact ⟨3,by decide,by decide,rfl⟩
 ·exact ⟨4,by decide,by decide,rfl⟩
 ·exact ⟨5,by decide,by decide,rfl⟩
 ·exact ⟨6,by decide,by decide,rfl⟩
 ·omega
theorem ixq{o:O}{v:D}{h:Hd}:gIx (.ref 1) (.int 0) (o::.lst [v]::h) = .ok v (o::.lst [v]::h):=rfl
local macro_rules | `(tactic| walk_at "l") => `(tactic| first | ((with_reducible apply axa);with_reducible assumption) | (with_reducible exact ixq) | (with_reducible exact subn) | (with_reducible exact abj))
theorem a7a{tg:List Nat}(t1:1<=tg.length)(t6:tg.length<=6)(nd:tg.Nodup){n d:Nat}(hd:d<=4)(ih:0<d->Drawn tg n d):Drawn tg (n+1) (d+1):=by
 intro o N p x P hN hp
 have bl:=ai1 d;have be:bnd (d+1)=7*bnd d:=rfl;refine Res.to P.clo alk ?_;unfold yu;obtain ⟨r,o1,e1,r1,P1⟩:=dw (m:=9) P (by omega) (by decide) (by decide)
 have pu:put (.ref 1) (.int 0) (.int (x - 1)) [o, .lst [.int x]]=some [o, .lst [.int (x - 1)]]:=rfl;refine Res.tr (af toR (sy (SRC.auu (cj rfl) (iw _ _ _) (SRC.ad5 (i:=1) (j:=0) rfl rfl) (iw _ _ _) (a1z _ _) pu))) ?_;refine Res.tr (af toR (jm (by walk_at "x"))) ?_
 by_cases leaf:d=0\/x - 1<1\/r=0
 ·have c:sOr (sT (s2 hEq (sV 2) (sC (.int 1)))) (sOr (sT (s2 gLt (s2 gIx (sV 4) (sC (.int 0))) (sC (.int 1)))) (sT (s2 hEq (sV 5) (sC (.int 0))))) [some (.ref 0),some (.str (S tg)),some (cu (d+1)),some (cu p),some (.ref 1),some (cu r),none,none,none,none,none] [o1, .lst [.int (x - 1)]] = .ok true [o1, .lst [.int (x - 1)]]:=by
   by_cases a:d=0
   ·exact orT (by walk_at "x")
   ·by_cases b:x - 1<1
    ·exact orF (by walk_at "x") (orT (by walk_at "x"))
    ·have:r=0:=by omega
     exact orF (by walk_at "x") (orF (by walk_at "x") (by walk_at "x"))
  have emp:∀ u:O,Src u (N+2)->Res tg (d+1) (N+bnd (d+1)) p x (.ok (sd (.row [])) [u, .lst [.int (x - 1)]]):=λu Q=>⟨.row [],u,[],by rw [pn,pns];simp,⟨by simp,by simp⟩,by rw [wt,wts];omega,by rw [Nd,Nds];trivial,Q.up (by omega)⟩
  by_cases p0:p=0
  ·refine Res.tr (af toR (uc (ag (ifT c) (uc (ag (ifT (orT (by walk_at "x"))) (jy (by walk_at "x"))))))) (emp o1 (P1.up (by omega)))
  ·obtain ⟨q,o2,e2,q1,P2⟩:=dw (m:=8) P1 (by omega) (by decide) (by decide)
   by_cases q0:q=0
   ·refine Res.tr (af toR (uc (ag (ifT c) (uc (ag (ifT (orF (by walk_at "x") (by walk_at "x"))) (jy (by walk_at "x"))))))) (emp o2 P2)
   ·obtain ⟨l,o3,l1,l2,l3,l4,e3,P3⟩:=apm t1 t6 nd P2 (by omega)
    refine Res.tr (af toR (uc (ag (ifT c) (ag (ifN (orF (by walk_at "x") (by walk_at "x"))) (jy (by walk_at "x")))))) ?_
    exact ⟨.one l,o3,[],by rw [pn];rfl,⟨l1,by omega,l4⟩,by rw [wt];omega,by rw [Nd];exact l3,P3.up (by omega)⟩
 ·have d0:¬ d=0:=λz=>leaf (.inl z);have xp:¬ x - 1<1:=λz=>leaf (.inr (.inl z));have rp:¬ r=0:=λz=>leaf (.inr (.inr z));refine Res.tr (af toR (ifN (orF (by walk_at "x") (orF (by walk_at "x") (by walk_at "x"))))) ?_
  have ih:=ih (by omega)
  obtain ⟨d,rfl⟩:∃ d',d=d'+1:=⟨d - 1,by omega⟩
  by_cases h3:r<3
  ·obtain ⟨s,o3,k3,w3,n3,e3,P3⟩:=ih o1 (N+1) p (x - 1) P1 (by omega) hp
   refine Res.tr (af toR (uc (ag (ifT (by walk_at "x")) (jy (by walk_at "x"))))) ?_
   exact ⟨.many s,o3,[],by rw [sd,pn,show x - 1 - (pn s:Int)=x - ((1+pn s:Nat):Int) by omega];rfl,k3,by rw [wt];exact w3,by rw [Nd];exact n3,P3.up (by omega)⟩
  ·refine Res.tr (af toR (ifN (by walk_at "x"))) ?_
   by_cases h5:r<5
   ·obtain ⟨hi,o2,e2,b1,P2⟩:=dw (m:=5) P1 (by omega) (by decide) (by decide)
    obtain ⟨lo,o3,e3,c1,P3⟩:=dw (m:=(hi:Int)+1) P2 (by omega) (by omega) (by omega)
    obtain ⟨m,hm,m1,mw⟩:∃ m:Nat,a9k [.int 1,cu hi] [o3, .lst [.int (x - 1)]] = .ok (cu m) [o3, .lst [.int (x - 1)]]/\1<=m/\m<=4/\hi<=m:=by
     refine ⟨(if (hi:Int) > 1 then (hi:Int) else 1).toNat,?_,?_⟩
     ·show R.ok (D.int (if (hi:Int) > 1 then (hi:Int) else 1)) _=_
      rw [show cu (if (hi:Int) > 1 then (hi:Int) else 1).toNat=D.int (if (hi:Int) > 1 then (hi:Int) else 1) from af D.int (by split<;>omega)]
     ·split<;>omega
    obtain ⟨s,o4,k4,w4,n4,e4,P4⟩:=ih o3 (N+1+1+1) (p / m) (x - 1) P3 (by omega) (bL (Nat.div_le_self _ _) hp)
    have dv:a6k (cu p) (cu m) [o3, .lst [.int (x - 1)]] = .ok (cu (p / m)) [o3, .lst [.int (x - 1)]]:=(div_ii ⟨by omega,by omega⟩).trans (by rw [<-Int.natCast_ediv])
    refine Res.tr (af toR (uc (ag (ifT (by walk_at "x")) (ag (jm (by walk_at "x")) (ag (jm (uw (cj rfl) (ig (cj rfl) (iw _ _ _) abj) (EVT.a8q e3))) (jy (PAP.aof (PAP.j7 (iw _ _ _) (PAP.j7 (PAP.aof (PAP.j7 (cj rfl) (PAP.j7 (cj rfl) (PAP.j7 (ig (cj rfl) (iw _ _ _) subn) (PAP.j7 (ig (cj rfl) (uw (iw _ _ _) (cj rfl) hm) dv) (PAP.j7 (cj rfl) EVT.wj))))) (axa e4)) (PAP.j7 (cj rfl) (PAP.j7 (cj rfl) EVT.wj)))) ayp))))))) ?_
    refine ⟨.tim s lo hi,o4,[],by rw [sd,pn,show x - 1 - (pn s:Int)=x - ((1+pn s:Nat):Int) by omega];rfl,⟨by omega,by omega,k4⟩,?_,by rw [Nd];exact n4,P4.up (by omega)⟩
    rw [wt];exact bL (Nat.mul_le_mul mw.2 w4) (Nat.mul_div_le p m)
   ·refine Res.tr (af toR (ifN (by walk_at "x"))) ?_
    obtain ⟨q,o2,e2,q1,P2⟩:=dw (m:=8) P1 (by omega) (by decide) (by decide)
    obtain ⟨k,k1,k6,hk⟩:=ix8 q (by omega) [o2, .lst [.int (x - 1)], .lst []]
    have nl:MI.vy [] [o1, .lst [.int (x - 1)]] = .ok (.ref 2) [o1, .lst [.int (x - 1)], .lst []]:=aA (dj (by simp))
    refine Res.tr (af toR (jm (PAP.aof EVT.wj nl))) ?_;have t8:MI.wk [.int 1, .int 2, .int 2, .int 3, .int 3, .int 4, .int 5, .int 6] [o1, .lst [.int (x - 1)], .lst []] = .ok (.tup [.int 1, .int 2, .int 2, .int 3, .int 3, .int 4, .int 5, .int 6]) [o1, .lst [.int (x - 1)], .lst []]:=by unfold MI.wk;rw [aA (dj (by simp))]
    have it:sRg v6 (aj (s2 gIx (sA MI.wk (aj (sC (.int 1)) (aj (sC (.int 2)) (aj (sC (.int 2)) (aj (sC (.int 3)) (aj (sC (.int 3)) (aj (sC (.int 4)) (aj (sC (.int 5)) (aj (sC (.int 6)) dq))))))))) (sA (kj false 2 SRC.ak) (aj (sV 0) (aj (sC (.int 8)) dq)))) dq) [some (.ref 0),some (.str (S tg)),some (cu (d+1+1)),some (cu p),some (.ref 1),some (cu r),none,none,some (.ref 2),none,none] [o1, .lst [.int (x - 1)], .lst []] = .ok ⟨(List.range k).map cu,λ_=>True⟩ [o2, .lst [.int (x - 1)], .lst []]:=by
     unfold sRg;rw [arg1 (ig (PAP.aof (PAP.j7 (iw _ _ _) (PAP.j7 (iw _ _ _) (PAP.j7 (iw _ _ _) (PAP.j7 (iw _ _ _) (PAP.j7 (iw _ _ _) (PAP.j7 (iw _ _ _) (PAP.j7 (iw _ _ _) (PAP.j7 (iw _ _ _) EVT.wj)))))))) t8) (uw (cj rfl) (iw _ _ _) (EVT.a8q e2)) hk),du];exact aa6 _ (dj (by omega))
    refine Res.tr (af toR (a4l it)) ?_;obtain ⟨τ',h',e3,ss,o3,t9,t10,rfl,rfl,P3,ks,ws,ns,sl,s1⟩:=um (g:=kN 9) (b:=vp SRC.ak lz (iu n) (di 5)) cu
     (λpre τ h=>∃ (ss:List Sh) (o':O) (t9 t10:Option D),τ=[some (.ref 0),some (.str (S tg)),some (cu (d+1+1)),some (cu (p - wts ss)),some (.ref 1),some (cu r),none,none,some (.ref 2),t9,t10]/\h=[o', .lst [.int (x - 1 - pns ss)], .lst (ss.map sd)]/\Src o' (N+2+pre.length*bnd (d+1))/\(∀ s∈ss,a1q tg (d+1) s)/\wts ss<=p/\Nds ss/\ss.length<=pre.length/\(1<=pre.length->1<=ss.length))
     (List.range k) [some (.ref 0),some (.str (S tg)),some (cu (d+1+1)),some (cu p),some (.ref 1),some (cu r),none,none,some (.ref 2),none,none] [o2, .lst [.int (x - 1)], .lst []] (by
      rintro pre i post τ h al ⟨ss,o',t9,t10,rfl,rfl,P',ks,ws,ns,sl,s1⟩
      have hl:pre.length<k:=by
       have:=af List.length al
       simp at this;omega
      have kb:(pre.length+1)*bnd (d+1)<=6*bnd (d+1):=bX _ (by omega)
      rw [dF] at kb;refine ⟨_,_,rfl,?_⟩;show ∃ τ2 h2,vp SRC.ak lz (iu n) (di 5) [some (.ref 0),some (.str (S tg)),some (cu (d+1+1)),some (cu (p - wts ss)),some (.ref 1),some (cu r),none,none,some (.ref 2),some (cu i),t10] [o', .lst [.int (x - 1 - pns ss)], .lst (ss.map sd)] = .nx τ2 h2/\_;unfold vp
      by_cases room:0<x - 1 - (pns ss:Int)
      ·obtain ⟨s,o5,k5,w5,n5,e5,P5⟩:=ih o' _ (p - wts ss) (x - 1 - pns ss) P' (by omega) (by omega)
       have c1:=a6e (d+1) 5 (by omega) s k5
       have sb:MI.a6i (cu (p - wts ss)) (cu (wt s)) [o5, .lst [.int (x - 1 - pns ss - pn s)], .lst (ss.map sd)] = .ok (cu (p - wts (ss++[s]))) [o5, .lst [.int (x - 1 - pns ss - pn s)], .lst (ss.map sd)]:=by
        rw [a1z,a8y,show ((p - wts ss:Nat):Int) - (wt s:Nat)=((p - (wts ss+wt s):Nat):Int) by omega]
       refine ⟨_,_,ag (ifT (by walk_at "x")) (ag (jm (by walk_at "x")) (ag (sy (aa9 rfl (uv (cj rfl) (c1 _)) sb)) (aa8 (cj rfl) rfl (PAP.j7 (cj rfl) EVT.wj) (ad3 (i:=2) rfl (ad4 (by simp;omega)))))),ss++[s],o5,some (cu i),some (sd s),rfl,?_,?_,?_,?_,?_,?_,?_⟩
       ·rw [bg,aib];show [o5,O.lst [.int (x - 1 - pns ss - pn s)], .lst (ss.map sd++[sd s])]=_;rw [show x - 1 - (pns ss:Int) - (pn s:Int)=x - 1 - ((pns ss+pn s:Nat):Int) by omega]
        rfl
       ·rw [ap,ax,dF,<-hZ];exact P5
       ·intro u hu
        rcases aQ.mp hu with hu | hu
        ·exact ks u hu
        ·rw [av.mp hu];exact k5
       ·rw [a8y];omega
       ·exact aic ns n5
       ·rw [ap,ap,ax,ax];omega
       ·intro _;rw [ap,ax];omega
      ·refine ⟨_,_,ifF (by walk_at "x"),ss,o',some (cu i),t10,rfl,rfl,P'.up ?_,ks,ws,ns,?_,?_⟩
       ·rw [ap,ax,dF];omega
       ·rw [ap];omega
       ·intro _
        by_cases z:1<=pre.length
        ·exact s1 z
        ·exfalso
         have:ss.length=0:=by omega
         rw [eG.mp this,pns] at room;omega) ⟨[],o2,none,none,by rw [wts];rfl,by rw [pns];simp,by simpa using P2,by simp,by rw [wts];omega,by rw [Nds];trivial,by simp,by simp⟩
    rw [aG] at P3 sl s1;have kb:k*bnd (d+1)<=6*bnd (d+1):=bX _ k6;refine Res.tr (af (λz=>toR (MI.thn z _)) e3) ?_;rw [a1s];have tp:xn [.ref 2] [o3, .lst [.int (x - 1 - pns ss)], .lst (ss.map sd)] = .ok (.tup (ss.map sd)) [o3, .lst [.int (x - 1 - pns ss)], .lst (ss.map sd)]:=ahl rfl;have xe:x - 1 - (pns ss:Int)=x - ((1+pns ss:Nat):Int):=by omega
    by_cases h7:r<7
    ·have g1:a6k (cu r) (.int 7) [o3, .lst [.int (x - 1 - pns ss)], .lst (ss.map sd)] = .ok (cu 0) [o3, .lst [.int (x - 1 - pns ss)], .lst (ss.map sd)]:=(div_ii ⟨by decide,by decide⟩).trans (by rw [show (r:Int) / 7=((0:Nat):Int) by omega])
     refine Res.tr (af toR (jy (uw (ig (uw (iw _ _ _) (iw _ _ _) abg) (ig (cj rfl) (iw _ _ _) g1) (ahk (j:=0) rfl)) (uv (cj rfl) tp) abg))) ?_;exact ⟨.row ss,o3,[.lst (ss.map sd)],by rw [sd,yx,pn,xe];rfl,⟨by omega,ks⟩,by rw [wt];exact ws,by rw [Nd];exact ns,P3.up (by omega)⟩
    ·have g1:a6k (cu r) (.int 7) [o3, .lst [.int (x - 1 - pns ss)], .lst (ss.map sd)] = .ok (cu 1) [o3, .lst [.int (x - 1 - pns ss)], .lst (ss.map sd)]:=(div_ii ⟨by decide,by decide⟩).trans (by rw [show (r:Int) / 7=((1:Nat):Int) by omega])
     refine Res.tr (af toR (jy (uw (ig (uw (iw _ _ _) (iw _ _ _) abg) (ig (cj rfl) (iw _ _ _) g1) (ahk (j:=1) rfl)) (uv (cj rfl) tp) abg))) ?_;exact ⟨.eit ss,o3,[.lst (ss.map sd)],by rw [sd,yx,pn,xe];rfl,⟨s1 (by omega),by omega,ks⟩,by rw [wt];exact ws,by rw [Nd];exact ns,P3.up (by omega)⟩
theorem adb{tg:List Nat}(t1:1<=tg.length)(t6:tg.length<=6)(nd:tg.Nodup):∀ (d n:Nat),d<=4->d<=n->Drawn tg (n+1) (d+1)
 | 0,n,_,_=>a7a t1 t6 nd (by omega) λz=>absurd z (by omega)
 | d+1,0,_,h=>absurd h (by omega)
 | d+1,n+1,h,h'=>a7a t1 t6 nd h λ_=>adb t1 t6 nd d n (by omega) (by omega)
theorem aid{fi:SI}{τ:Sd}{h:Hd}{i j:Nat}{l xs:List Nat}(e:fi τ h = .ok ⟨xs.map cu,λ_=>True⟩ h)(hv:τ[j]? = some (some (.ref i)))(hi:h[i]? = some (.lst (l.map cu)))(z:xs.length<=100)(ch:∀ u∈h,u5 0 u):sZ (a1r fi MI.t1 (sT (s2 (gIn true) (sV 0) (sV 1))) (sV 0) [j]) τ h = .ok (lsD (xs.filter λx => !decide (x∈l))) h:=by
 have ff:∀ ys:List Nat,ys.filterMap (λx=>if x∈l then none else some (cu x))=(ys.filter λx => !decide (x∈l)).map cu:=λys=>by
  induction ys with
  | nil=>rfl
  | cons y ys ih=>by_cases q:y∈l<;>simp [q,ih]
 refine EVT.ait (h1:=h) ?_ rfl (xq _) ch;rw [<-ff];refine aa7 cu _ xs e (dj (by omega)) λx _=>?_
 rw [ahi,al2,apb,hv];have c:sT (s2 (gIn true) (sV 0) (sV 1)) [some (cu x),some (.ref i)] h = .ok (!decide (x∈l)) h:=tof (ig (cj rfl) (cj rfl) (ad8 hi));show (sT (s2 (gIn true) (sV 0) (sV 1)) [some (cu x),some (.ref i)] h).bind _=_;rw [c,du]
 by_cases q:x∈l
 ·simp [q]
 ·simp only [q,decide_false,Bool.not_false,dC,dW];show (sV 0 [some (cu x),some (.ref i)] h).bind _=_;rw [cj rfl,du]
theorem amx{l m:List Nat}(a:l.Nodup)(b:m.Nodup):(l++m.filter λx => !decide (x∈l)).Nodup:=by
 rw [bA];refine ⟨a,fq _ b,λx hx y hy e=>?_⟩;subst e;have:=(eA.mp hy).2;simp [hx] at this
theorem a90{l m:List Nat}{e:Nat}:e∈l++m.filter (λx => !decide (x∈l))↔e∈l\/e∈m:=by
 rw [aQ,eA]
 by_cases q:e∈l<;>simp [q]
theorem adc{n:Nat}{l:List Nat}(a:l.Nodup)(b:∀ x∈l,x<=n):l.length<=n+1:=BF.a8p (n+1) l a λx hx=>Nat.lt_succ_of_le (b x hx)
section
variable{n:Nat}{R:Rl}
noncomputable def bw:SF:=qj rn 4
theorem alm(hn:n+1<=60){l:List Nat}(hl:∀ x∈l,x<=n):∃ l',Pu bw 2 [rwL n R,lsD l] (lsD l')/\l'.Nodup/\∀ e,e∈l'↔∃ b∈l,e∈fl n R b:=by
 obtain ⟨τ',h',e,td,t3,rfl,rfl,nd,tm⟩:=um (g:=kN 3) (b:=yw) cu (λpre τ h=>∃ (td:List Nat) (t3:Option D),τ=[some (rwL n R),some (lsD l),some (.ref 0),t3]/\h=[.lst (td.map cu)]/\td.Nodup/\∀ e,e∈td↔∃ b∈pre,e∈fl n R b) l [some (rwL n R),some (lsD l),some (.ref 0),none] [.lst []]
  (by
   rintro pre x post τ h al ⟨td,t3,rfl,rfl,nd,tm⟩
   have hx:x<=n:=hl x (by rw [al];simp)
   have lx:=a4i (n:=n) (a:=x) (R:=R);have lt:td.length<=n+1:=adc nd λy hy=>by obtain ⟨b,_,h⟩:=(tm y).mp hy;exact (p6.mp h).1
   have lf:((fl n R x).filter λy => !decide (y∈td)).length<=n+1:=bL (eX _ _) lx;refine ⟨_,_,rfl,_,_,aa9 rfl (aid (i:=0) (j:=2) (l:=td) (a66 (ig (cj rfl) (cj rfl) (a79 _ hx)) rfl) rfl rfl (by omega) (EVT.a1a (xq td))) (ad0 rfl rfl (dj (by rw [am,am];omega))),td++(fl n R x).filter λy => !decide (y∈td),some (cu x),rfl,?_,amx nd ale,λe=>?_⟩
   ·rw [bg];rfl
   ·rw [a90,tm]
    constructor
    ·rintro (⟨b,h1,h2⟩ | h1)
     ·exact ⟨b,by simp [h1],h2⟩
     ·exact ⟨x,by simp,h1⟩
    ·rintro ⟨b,h1,h2⟩
     rcases aQ.mp h1 with h1 | h1
     ·exact .inl ⟨b,h1,h2⟩
     ·rw [av.mp h1] at h2;exact .inr h2) ⟨[],none,rfl,rfl,by simp,λe=>by simp⟩
 refine ⟨td,puL rfl (a0l (v7 _ _) (yz _)) (h1:=[.lst (td.map cu)]) (i:=0) ?_ rfl,nd,tm⟩;unfold bw;rw [jq];show toR (rn [some (rwL n R),some (lsD l),none,none] [])=_;unfold rn;have nl:MI.vy [] [] = .ok (.ref 0) [.lst []]:=aA (dj (by simp))
 refine ag (af toR (jm (PAP.aof EVT.wj nl))) ?_;refine ag (af toR (a4l (a66 (cj rfl) rfl))) ?_;exact ag (af toR (af (λz=>MI.thn z _) e)) (af toR (jy (cj rfl)))
theorem abl{h:Hd}{i:Nat}{o:O}(c:∀ u∈h,u5 0 u)(co:u5 0 o):∀ u∈h.set i o,u5 0 u:=λu hu=>by
 rcases fX hu with h | rfl
 ·exact c u h
 ·exact co
theorem abm(hn:n+1<=60)(r:Bd n R){k:Nat}(hk:k<=n){t1 t2:Option D}{h0:Hd}{i:Nat}(hi:h0[i]? = some (.lst [cu k]))(ch:∀ u∈h0,u5 0 u) :
  ∃ fd:List Nat,sWh qp qt 100000 [some (rwL n R),t1,t2,some (.ref i),some (.int 0)] h0 = .nx [some (rwL n R),t1,t2,some (.ref i),some (cu fd.length)] (h0.set i (.lst (fd.map cu)))/\fd.Nodup/\∀ e,e∈fd↔e<=n/\star R k e:=by
 have il:i<h0.length:=(ah.mp hi).1;have self:h0.set i (.lst ([k].map cu))=h0:=by
  refine gE λj=>?_;rw [List.getElem?_set]
  by_cases q:i=j
  ·subst q;rw [aA rfl,aA il,hi];rfl
  ·rw [aL q]
 rcases aoo (c:=qp) (f:=qt)
  (λm τ h=>∃ (fd:List Nat) (at_:Nat),τ=[some (rwL n R),t1,t2,some (.ref i),some (cu at_)]/\h=h0.set i (.lst (fd.map cu))/\m=n+1 - at_/\at_<=fd.length/\fd.Nodup/\k∈fd/\(∀ e∈fd,e<=n/\star R k e)/\∀ j b e,j<at_->fd[j]? = some b->R b e->e∈fd)
  (λτ h=>∃ fd:List Nat,τ=[some (rwL n R),t1,t2,some (.ref i),some (cu fd.length)]/\h=h0.set i (.lst (fd.map cu))/\fd.Nodup/\∀ e,e∈fd↔e<=n/\star R k e) (λ_ _=>False)
  (by
   rintro m τ h ⟨fd,at_,rfl,rfl,rfl,hat,nd,kin,all,clo⟩
   have lf:fd.length<=n+1:=adc nd λx hx=>(all x hx).1;have g:(h0.set i (.lst (fd.map cu)))[i]? = some (.lst (fd.map cu)):=bC il;have ln:rm [.ref i] (h0.set i (.lst (fd.map cu))) = .ok (cu fd.length) (h0.set i (.lst (fd.map cu))):=by rw [apc g,am]
   by_cases q:at_<fd.length
   ·right
    refine ⟨_,tof (ig (cj rfl) (uv (cj rfl) ln) (ahm (by omega))), .inl ?_⟩
    have gb:fd[at_]? = some fd[at_]:=ad q;obtain ⟨bn,bs⟩:=all _ (aX q);have lx:=a4i (n:=n) (a:=fd[at_]) (R:=R);have lf':((fl n R fd[at_]).filter λy => !decide (y∈fd)).length<=n+1:=bL (eX _ _) lx;have gx:gIx (.ref i) (cu at_) (h0.set i (.lst (fd.map cu))) = .ok (cu fd[at_]) (h0.set i (.lst (fd.map cu))):=a77 (xs:=fd.map cu) g (by rw [aW,gb];rfl)
    refine ⟨_,_,n+1 - (at_+1),ag (sy (aa9 rfl (aid (i:=i) (j:=3) (l:=fd) (a66 (ig (cj rfl) (ig (cj rfl) (cj rfl) gx) (a79 _ bn)) rfl) rfl g (by omega) (abl ch (xq fd))) (ad0 g rfl (dj (by rw [am,am];omega))))) (aa9 rfl (iw _ _ _) rfl),by omega,fd++(fl n R fd[at_]).filter λy => !decide (y∈fd),at_+1,rfl,?_,rfl,?_,amx nd ale,a90.mpr (.inl kin),λe he=>?_,λj b e hj gj re=>?_⟩
    ·rw [List.set_set,bg]
    ·rw [ap];omega
    ·rcases a90.mp he with he | he
     ·exact all e he
     ·obtain ⟨j,hj⟩:=bs;exact ⟨(p6.mp he).1,j+1,_,hj,(p6.mp he).2⟩
    ·refine a90.mpr ?_;have jl:j<fd.length:=by omega
     rw [aI jl] at gj
     by_cases z:j<at_
     ·exact .inl (clo j b e z gj re)
     ·have:j=at_:=by omega
      subst this;rw [gb] at gj;cases gj
      exact .inr (p6.mpr ⟨(r _ _ re bn).2,re⟩)
   ·left
    have:at_=fd.length:=by omega
    subst this;refine ⟨_,tof (ig (cj rfl) (uv (cj rfl) ln) (al3 (by omega))),fd,rfl,rfl,nd,λe=>⟨all e,λ⟨_,j,hj⟩=>?_⟩⟩
    have go:∀ j e,pw R j k e->e∈fd:=λj=>by
     induction j with
     | zero=>rintro e rfl;exact kin
     | succ j ih =>
      rintro e ⟨b,h1,h2⟩
      obtain ⟨x,hx⟩:=bI (ih b h1);exact clo x b e (ah.mp hx).1 hx h2
    exact go j e hj)
  (n+1) 100000 [some (rwL n R),t1,t2,some (.ref i),some (.int 0)] h0 (by omega) ⟨[k],0,rfl,self.symm,by omega,by simp,by simp,by simp,λe he=>by rw [av.mp he];exact ⟨hk,0,rfl⟩,λj b e hj=>absurd hj (by omega)⟩ with ⟨τ',h',e,fd,rfl,rfl,nd,mem⟩ | ⟨_,_,_,z⟩
 ·exact ⟨fd,e,nd,mem⟩
 ·exact z.elim
noncomputable abbrev rwS(n:Nat)(R:Rl):List D:=(List.range (n+1)).map λa=>lsD (fl n R a)
noncomputable def bf:SF:=qj qm 5
theorem aln(hn:n+1<=60)(r:Bd n R):∃ h1,bf [rwL n R] [] = .ok (.ref 0) h1/\h1[0]? = some (.lst (rwS n (star R))):=by
 have ln:∀ h,rm [rwL n R] h = .ok (cu (n+1)) h:=λh=>by rw [EVT.a3c,am,aG]
 obtain ⟨τ',h',e,t2,t3,t4,rfl,g0,cl⟩:=um (g:=kN 2) (b:=qu) cu (λpre τ h=>∃ t2 t3 t4:Option D,τ=[some (rwL n R),some (.ref 0),t2,t3,t4]/\h[0]? = some (.lst (pre.map λa=>lsD (fl n (star R) a)))/\∀ u∈h,u5 0 u) (List.range (n+1)) [some (rwL n R),some (.ref 0),none,none,none] [.lst []]
  (by
   rintro pre k post τ h al ⟨t2,t3,t4,rfl,g0,cl⟩
   have hk:k<=n:=by
    have:k∈List.range (n+1):=by rw [al];simp
    have:=bb.mp this
    omega
   have pl:pre.length<=n+1:=by
    have:=af List.length al
    rw [ap,aG] at this;omega
   have h0:0<h.length:=(ah.mp g0).1;have nl:MI.vy [cu k] h = .ok (.ref h.length) (h++[.lst [cu k]]):=aA (dj (by simp))
   have cl':∀ u∈h++[.lst [cu k]],u5 0 u:=λu hu=>by
    rcases aQ.mp hu with hu | hu
    ·exact cl u hu
    ·rw [av.mp hu];exact xq [k]
   have gi:(h++[O.lst [cu k]])[h.length]? = some (.lst [cu k]):=by rw [aB (ar _),fP];rfl
   obtain ⟨fd,ew,nd,mem⟩:=abm (t1:=some (.ref 0)) (t2:=some (cu k)) hn r hk gi cl';obtain ⟨m,em,pm,sm⟩:=a04 fd;have et:m=fl n (star R) k:=a1p (pm.nodup_iff.mpr nd) sm λy=>by rw [pm.mem_iff,mem]
   subst et;have lf:fd.length<=n+1:=adc nd λx hx=>((mem x).mp hx).1;have gs:((h++[O.lst [cu k]]).set h.length (.lst (fd.map cu)))[h.length]? = some (.lst (fd.map cu)):=bC (by rw [ap];simp)
   have cs:=abl (i:=h.length) (o:=.lst (fd.map cu)) cl' (xq fd);have gz:((h++[O.lst [cu k]]).set h.length (.lst (fd.map cu)))[0]? = some (.lst (pre.map λa=>lsD (fl n (star R) a))):=by
    rw [cK (by omega),aI h0,g0]
   refine ⟨_,_,rfl,_,_,?_,some (cu k),some (.ref h.length),some (cu fd.length),rfl,?_,abl (i:=0) (o:=.lst ((pre++[k]).map λa=>lsD (fl n (star R) a))) cs (j4 λ_ _=>yz _)⟩
   ·unfold qu;refine ag (jm (PAP.aof (arg1 (cj rfl)) nl)) ?_;refine ag (jm (iw _ _ _)) ?_;refine ag (sy ew) ?_;have zs:sZ (sA a3q (aj (sV 3) dq)) [some (rwL n R),some (.ref 0),some (cu k),some (.ref h.length),some (cu fd.length)] ((h++[O.lst [cu k]]).set h.length (.lst (fd.map cu))) = .ok (lsD (fl n (star R) k)) ((h++[O.lst [cu k]]).set h.length (.lst (fd.map cu))):=EVT.ait (PAP.aof (arg1 (cj rfl)) (aac gs (by omega) em)) rfl (xq _) cs
    refine ag (aa8 (cj rfl) (by unfold isL;dsimp only;rw [gz]) (arg1 zs) (ad3 gz (ad4 (by rw [am];omega)))) ?_
    rw [bg];rfl
   ·exact bC (by rw [cZ,ap];omega)) ⟨none,none,none,rfl,rfl,EVT.a1a (xq [])⟩
 refine ⟨h',?_,g0⟩;unfold bf;rw [jq];show toR (qm [some (rwL n R),none,none,none,none] [])=_;unfold qm;have nl:MI.vy [] [] = .ok (.ref 0) [.lst []]:=aA (dj (by simp))
 refine ag (af toR (jm (PAP.aof EVT.wj nl))) ?_;refine ag (af toR (a4l (a3y (n:=n+1) (uv (cj rfl) (ln _)) (dj (by omega))))) ?_
 exact ag (af toR (af (λz=>MI.thn z _) e)) (af toR (jy (cj rfl)))
end
section
variable{n:Nat}
theorem ade(hn:n+1<=60){P R:Rl}{a:Nat}{l m:List Nat}(hl:∀ e,e∈l↔e<=n/\P a e)(hm:∀ e,e∈m↔e<=n/\R a e)(z:l.length+m.length<=4000){f g:SE}{τ:Sd}(e1:f τ [] = .ok (lsD l) [])(e2:g τ [] = .ok (lsD m) []):sZ (s1 a6m (sZ (s2 jb f g))) τ [] = .ok (lsD (fl n (λa e=>P a e\/R a e) a)) []:=by
 obtain ⟨ts,fw,srt,mem,es⟩:=ada (l:=l++m) (d:=lsD (l++m)) (h:=[]) hn (λy hy=>by
  rcases aQ.mp hy with h | h
  ·have:=((hl y).mp h).1;omega
  ·have:=((hm y).mp h).1;omega) (by rw [ap];omega) (a6c _ [])
 have et:ts=fl n (λa e=>P a e\/R a e) a:=a1p fw.nd srt λy=>by
  rw [mem,aQ,hl,hm]
  constructor
  ·rintro (⟨h1,h2⟩ | ⟨h1,h2⟩)
   ·exact ⟨h1, .inl h2⟩
   ·exact ⟨h1, .inr h2⟩
  ·rintro ⟨h1,h2 | h2⟩
   ·exact .inl ⟨h1,h2⟩
   ·exact .inr ⟨h1,h2⟩
 rw [et] at es;exact atq (atp e1 e2 (by simp) (by omega)) (by simp) es
theorem a2f{P R:Rl}(h:∀ a e,a<=n->e<=n->(P a e↔R a e)):rwL n P=rwL n R:=by
 unfold rwL
 congr 1
 refine ee λa ha=>?_;rw [ahx (T:=R) (b:=a) λe he=>h a e (by have:=bb.mp ha;omega) he]
theorem aie(hn:n+1<=60){P:Rl}{f:SI}{C:SE}{ix:List Nat}{τ:Sd}(e:f τ [] = .ok ⟨(List.range (n+1)).map cu,λ_=>True⟩ [])(st:∀ a,a<=n->C (some (cu a)::frs' ix τ) [] = .ok (lsD (fl n P a)) []):sZ (n6 f MI.t1 C ix) τ [] = .ok (rwL n P) []:=by
 refine a4k (qz cu _ (List.range (n+1)) e (dj (by rw [aG];omega)) λa ha=>?_) (j4 λ_ _=>yz _) (by simp)
 rw [xm];exact st a (by have:=bb.mp ha;omega)
theorem aif(hn:n+1<=60){P:Rl}(no:∀ a e,¬ P a e){f:SI}{C:SE}{ix:List Nat}{τ:Sd}(e:f τ [] = .ok ⟨(List.range (n+1)).map cu,λ_=>True⟩ [])(st:∀ a,C (some (cu a)::frs' ix τ) []=sZ (sA MI.vy dq) (some (cu a)::frs' ix τ) []):sZ (n6 f MI.t1 C ix) τ [] = .ok (rwL n P) []:=aie hn e λa _=>by
 rw [st,<-(a1p (ts:=[]) (by simp) (by simp) λe=>⟨λh=>(by cases h),λ⟨_,h⟩=>(no a e h).elim⟩:[]=fl n P a)]
 exact EVT.uy EVT.wj rfl j8 (by simp) (by simp)
noncomputable abbrev plD(n:Nat):D:=.rol ((List.range (n+1)).map cu)
theorem atr(n:Nat):MI.clo 0 (plD n):=xf (xq _)
noncomputable def bc:SF:=qj qd 4
theorem aes(hn:n+1<=60){Rs:List Rl}:bc [.rol (Rs.map (rwL n)),plD n] [] = .ok (rwL n λa e=>∃ R∈Rs,R a e) []:=by
 unfold bc;rw [jq];show toR (qd [some (.rol (Rs.map (rwL n))),some (plD n),none,none] [])=_;unfold qd;refine ag (af toR (jm (aif (P:=λa e=>∃ R∈([]:List Rl),R a e) hn (by simp) (a66 (cj rfl) rfl) λa=>rfl))) ?_
 refine ag (af toR (a4l (a66 (cj rfl) rfl))) ?_;obtain ⟨τ',h',e,t3,rfl,rfl⟩:=um (g:=kN 3) (b:=wg) (rwL n) (λpre τ h=>∃ t3:Option D,τ=[some (.rol (Rs.map (rwL n))),some (plD n),some (rwL n λa e=>∃ R∈pre,R a e),t3]/\h=[]) Rs [some (.rol (Rs.map (rwL n))),some (plD n),some (rwL n λa e=>∃ R∈([]:List Rl),R a e),none] []
  (by
   rintro pre R post τ h al ⟨t3,rfl,rfl⟩
   refine ⟨_,_,rfl,_,_,a93 (aie (P:=λa e=>(∃ R∈pre,R a e)\/R a e) hn (a66 (cj rfl) rfl) λa ha=>ade (l:=fl n (λa e=>∃ R∈pre,R a e) a) (m:=fl n R a) hn (λ_=>p6) (λ_=>p6) (by have:=a4i (n:=n) (a:=a) (R:=R);have:=a4i (n:=n) (a:=a) (R:=λa e=>∃ R∈pre,R a e);omega) (ig (cj rfl) (cj rfl) (a79 _ ha)) (ig (cj rfl) (cj rfl) (a79 _ ha))),some (rwL n R),?_,rfl⟩
   rw [a2f (P:=λa e=>(∃ R∈pre,R a e)\/R a e) (R:=λa e=>∃ T∈pre++[R],T a e) λa e _ _=>by
    constructor
    ·rintro (⟨T,h1,h2⟩ | h1)
     ·exact ⟨T,by simp [h1],h2⟩
     ·exact ⟨R,by simp,h1⟩
    ·rintro ⟨T,h1,h2⟩
     rcases aQ.mp h1 with h1 | h1
     ·exact .inl ⟨T,h1,h2⟩
     ·rw [av.mp h1] at h2;exact .inr h2]
   rfl) ⟨none,rfl,rfl⟩
 exact ag (af toR (af (λz=>MI.thn z _) e)) (af toR (jy (cj rfl)))
theorem abn(R:Rl):∀ j,chn (List.replicate j R)=pw R j
 | 0=>rfl
 | j+1=>by rw [List.replicate_succ',a8v,abn R j,pw]
noncomputable abbrev hrD(n:Nat)(H:Nat->List Nat):D:=.rol ((List.range (n+1)).map λa=>lsD (H a))
theorem atu{H:Nat->List Nat}{a:Nat}(h:Hd)(ha:a<=n):gIx (hrD n H) (cu a) h = .ok (lsD (H a)) h:=amr (by rw [aW,fG (by omega)];rfl)
noncomputable def bz:Nat->SF
 | 0=>λ_ _=>.no
 | k+1=>qj (qi (bz k) bc bw bf) 8
theorem a6f(hn:n+1<=60)(F:SF){s x:D}{Rs:List Rl}(bs:∀ R∈Rs,Bd n R)(rl:Rs.length<=10){low:Nat} :
  jd (km 5 (sZ (n6 (sIt (sV 2)) MI.t1 (a1w F bc bw bf) []))) (jd (km 6 (sZ (n6 (sIt (sV 2)) MI.t1 (zu F bc bw bf) []))) (jd (a7q (sRg v6 (aj (s2 jb (sA rm (aj (sV 3) dq)) (sC (.int 1))) dq)) (kN 7) (qx F bc bw bf)) (qg (sV 5)))) [some s,some x,some (plD n),some (.rol (Rs.map (rwL n))),some (cu low),none,none,none] [] = .rt (rwL n λa e=>∃ j,low<=j/\j<=Rs.length/\chn (Rs.take j) a e) []:=by
 let T (c:Nat):Rl:=λa e=>∃ j,low<=j/\j<c/\chn (Rs.take j) a e
 obtain ⟨τ',h',e,H,t7,rfl,rfl,_⟩:=um (g:=kN 7) (b:=qx F bc bw bf) cu (λpre τ h=>∃ (H:Nat->List Nat) (t7:Option D),τ=[some s,some x,some (plD n),some (.rol (Rs.map (rwL n))),some (cu low),some (rwL n (T pre.length)),some (hrD n H),t7]/\h=[]/\(pre.length<=Rs.length->∀ a,a<=n->(H a).Nodup/\∀ e,e∈H a↔chn (Rs.take pre.length) a e)) (List.range (Rs.length+1)) [some s,some x,some (plD n),some (.rol (Rs.map (rwL n))),some (cu low),some (rwL n (T 0)),some (hrD n λa=>[a]),none] []
  (by
   rintro pre i post τ h al ⟨H,t7,rfl,rfl,hH⟩
   have hi':i=pre.length/\pre.length<=Rs.length:=by
    have h1:(List.range (Rs.length+1))[pre.length]? = some i:=by rw [al,aB (ar _),fP];rfl
    obtain ⟨h2,h3⟩:=ah.mp h1;rw [aG] at h2;rw [fQ] at h3;omega
   obtain ⟨rfl,hp⟩:=hi';have hH:=hH hp;have bt:Bd n (chn (Rs.take pre.length)):=ahz λR hR=>bs R (dQ hR);refine ⟨_,_,rfl,?_⟩;show ∃ τ2 h2,qx F bc bw bf [some s,some x,some (plD n),some (.rol (Rs.map (rwL n))),some (cu low),some (rwL n (T pre.length)),some (hrD n H),some (cu pre.length)] [] = .nx τ2 h2/\_;unfold qx;have first:sIf (sT (s2 gGe (sV 7) (sV 4))) (km 5 (sZ (n6 (sIt (sV 2)) MI.t1 (a1x F bc bw bf) [5,6]))) sNx [some s,some x,some (plD n),some (.rol (Rs.map (rwL n))),some (cu low),some (rwL n (T pre.length)),some (hrD n H),some (cu pre.length)] [] = .nx [some s,some x,some (plD n),some (.rol (Rs.map (rwL n))),some (cu low),some (rwL n (T (pre.length+1))),some (hrD n H),some (cu pre.length)] []:=by
    by_cases q:low<=pre.length
    ·refine ag (ifT (tof (ig (cj rfl) (cj rfl) (geT (by omega))))) ?_
     refine ag (a93 (aie (P:=λa e=>T pre.length a e\/chn (Rs.take pre.length) a e) hn (a66 (cj rfl) rfl) λa ha=>ade (l:=fl n (T pre.length) a) (m:=H a) hn (λ_=>p6) (λe=>?_) ?_ (ig (cj rfl) (cj rfl) (a79 _ ha)) (ig (cj rfl) (cj rfl) (atu _ ha)))) ?_
     ·rw [(hH a ha).2];exact ⟨λh=>⟨(bt a e h ha).2,h⟩,λh=>h.2⟩
     ·have:=a4i (n:=n) (a:=a) (R:=T pre.length)
      have:=adc (n:=n) (hH a ha).1 λy hy=>(bt a y (((hH a ha).2 y).mp hy) ha).2
      omega
     ·rw [a2f (P:=λa e=>T pre.length a e\/chn (Rs.take pre.length) a e) (R:=T (pre.length+1)) λa e _ _=>by
       constructor
       ·rintro (⟨j,h1,h2,h3⟩ | h)
        ·exact ⟨j,h1,by omega,h3⟩
        ·exact ⟨pre.length,q,by omega,h⟩
       ·rintro ⟨j,h1,h2,h3⟩
        by_cases z:j<pre.length
        ·exact .inl ⟨j,h1,z,h3⟩
        ·have:j=pre.length:=by omega
         subst this;exact .inr h3]
      rfl
    ·refine ag (ifF (tof (ig (cj rfl) (cj rfl) (geF (by omega))))) ?_
     rw [a2f (P:=T pre.length) (R:=T (pre.length+1)) λa e _ _=>⟨λ⟨j,h1,h2,h3⟩=>⟨j,h1,by omega,h3⟩,λ⟨j,h1,h2,h3⟩=>⟨j,h1,by omega,h3⟩⟩]
     rfl
   have ln:rm [.rol (Rs.map (rwL n))] [] = .ok (cu Rs.length) []:=by rw [EVT.a3c,am]
   by_cases q:pre.length<Rs.length
   ·have gR:Rs[pre.length]? = some Rs[pre.length]:=ad q;have ch:∀ a,∃ l',a<=n->Pu bw 2 [rwL n Rs[pre.length],lsD (H a)] (lsD l')/\l'.Nodup/\∀ e,e∈l'↔∃ b∈H a,e∈fl n Rs[pre.length] b:=λa=>by
     by_cases ha:a<=n
     ·obtain ⟨l',h⟩:=alm (R:=Rs[pre.length]) hn (l:=H a) λy hy=>(bt a y (((hH a ha).2 y).mp hy) ha).2;exact ⟨l',λ_=>h⟩
     ·exact ⟨[],λh=>absurd h ha⟩
    let H':Nat->List Nat:=λa=>Classical.choose (ch a)
    have hH':∀ a,a<=n->_:=λa ha=>Classical.choose_spec (ch a) ha;have z:sZ (n6 (sIt (sV 2)) MI.t1 (a1y F bc bw bf) [3,6,7]) [some s,some x,some (plD n),some (.rol (Rs.map (rwL n))),some (cu low),some (rwL n (T (pre.length+1))),some (hrD n H),some (cu pre.length)] [] = .ok (hrD n H') []:=by
     refine a4k (qz cu _ (List.range (n+1)) (a66 (cj rfl) rfl) (dj (by rw [aG];omega)) λa ha=>?_) (j4 λ_ _=>yz _) (by simp)
     rw [xm];have ha:a<=n:=by have:=bb.mp ha;omega
     exact uw (ig (cj rfl) (cj rfl) (amr (by rw [aW,gR];rfl))) (ig (cj rfl) (cj rfl) (atu _ ha)) ((hH' a ha).1 _)
    refine ⟨_,_,ag (sy first) (ag (ifT (tof (ig (cj rfl) (uv (cj rfl) ln) (ahm (by omega))))) (a93 z)),H',some (cu pre.length),?_,rfl,λ_ a ha=>⟨(hH' a ha).2.1,λe=>?_⟩⟩
    ·rw [ap,ax];rfl
    ·rw [(hH' a ha).2.2,ap,ax,List.take_succ_eq_append_getElem q,a8v]
     constructor
     ·rintro ⟨b,h1,h2⟩
      exact ⟨b,((hH a ha).2 b).mp h1,(p6.mp h2).2⟩
     ·rintro ⟨b,h1,h2⟩
      have hb:=(bt a b h1 ha).2;exact ⟨b,((hH a ha).2 b).mpr h1,p6.mpr ⟨(bs _ (aX q) b e h2 hb).2,h2⟩⟩
   ·refine ⟨_,_,ag (sy first) (ifF (tof (ig (cj rfl) (uv (cj rfl) ln) (al3 (by omega))))),H,some (cu pre.length),?_,rfl,λh=>?_⟩
    ·rw [ap,ax]
    ·rw [ap,ax] at h;omega) ⟨λa=>[a],none,rfl,rfl,λ_ a _=>⟨by simp,λe=>by rw [av];exact ⟨λh=>h.symm,λh=>Eq.symm h⟩⟩⟩
 refine ag (jm (aif (P:=T 0) hn (λa e ⟨j,_,h,_⟩=>by omega) (a66 (cj rfl) rfl) λa=>rfl)) ?_
 have st:sZ (n6 (sIt (sV 2)) MI.t1 (zu F bc bw bf) []) [some s,some x,some (plD n),some (.rol (Rs.map (rwL n))),some (cu low),some (rwL n (T 0)),none,none] [] = .ok (hrD n λa=>[a]) []:=by
  refine a4k (qz cu _ (List.range (n+1)) (a66 (cj rfl) rfl) (dj (by rw [aG];omega)) λa ha=>?_) (j4 λ_ _=>yz _) (by simp)
  rw [xm];exact EVT.uy (arg1 (cj rfl)) rfl (gf (iy _) j8) (by simp) (by simp)
 refine ag (jm st) ?_;refine ag (a4l (a3y (n:=Rs.length+1) (ig (uv (cj rfl) (by rw [EVT.a3c,am])) (iw _ _ _) abj) (dj (by omega)))) ?_
 refine ag (af (λz=>MI.thn z _) e) ?_;rw [a1s];refine ag (jy (cj rfl)) ?_;rw [aG,a2f (P:=T (Rs.length+1)) (R:=λa e=>∃ j,low<=j/\j<=Rs.length/\chn (Rs.take j) a e) λa e _ _=>⟨λ⟨j,h1,h2,h3⟩=>⟨j,h1,by omega,h3⟩,λ⟨j,h1,h2,h3⟩=>⟨j,h1,by omega,h3⟩⟩]
end
theorem awb{n:Nat}{h:Hd}(z:n<=LINE):a70 [.int (n:Nat)] h = .ok (.ref h.length) (h++[.lst ((List.range n).map cu)]):=by
 unfold a70;simp only [ahh z,z,and_self,dC,cC,atf]
section
variable{w:List Nat}{tg:List Nat}
theorem atv{n:Nat}{R:Rl}(hn:n+1<=60)(r:Bd n R):Pu bf 1 [rwL n R] (rwL n (star R)):=by
 obtain ⟨h1,e,g⟩:=aln hn r;exact Pu.of rfl (ape (v7 _ _)) e (a2t (bE _) g (j4 λ_ _=>yz _) (by simp)) (v7 _ _)
theorem atw{n:Nat}{Rs:List Rl}(hn:n+1<=60):Pu bc 2 [.rol (Rs.map (rwL n)),plD n] (rwL n λa e=>∃ R∈Rs,R a e):=pu1 rfl (a0l (xf (j4 λ_ _=>v7 _ _)) (atr n)) (v7 _ _) (aes hn)
theorem a3e{k:Nat}{s x:D}:bz (k+1) [s,x] []=toR (qi (bz k) bc bw bf [some s,some x,none,none,none,none,none,none] []):=by
 rw [bz,jq];rfl
theorem atx{k:Nat}{s x:D}{n:Nat}{R:Rl}{h1:Hd}{i:Nat}(cl:∀ y∈[s,x],MI.clo 0 y)(e:bz k [s,x] [] = .ok (.ref i) h1)(g:h1[i]? = some (.lst (rwS n R))):Pu (bz k) 2 [s,x] (rwL n R) :=
 Pu.of rfl cl e (a2t (bE _) g (j4 λ_ _=>yz _) (by simp)) (v7 _ _)
theorem adf(hw:w.length+1<=60):∀ (d k:Nat),d<=k->∀ s,a1q tg d s->Pu (bz k) 2 [sd s, .str (S w)] (rwL w.length (En w d s))
 | 0,_,_,_,k=>k.elim
 | d+1,0,h,_,_=>absurd h (by omega)
 | d+1,k+1,h,s,ks=>by
  have ih:=adf hw d k (by omega)
  have cl:∀ y∈[sd s, .str (S w)],MI.clo 0 y:=a0l (zg s) (jc _);have lw:∀ hh,rm [.str (S w)] hh = .ok (cu w.length) hh:=λhh=>a3v (dj (by omega))
  have pl:∀ t,sZ (sA a70 (aj (s2 jb (sA rm (aj (sV 1) dq)) (sC (.int 1))) dq)) (some t::some (.str (S w))::[none,none,none,none,none,none]) [] = .ok (plD w.length) []:=λt=>by
   refine a4k (PAP.aof (arg1 (ig (uv (cj rfl) (lw _)) (iw _ _ _) (abj (y:=1)))) ?_) (xq _) (by simp)
   rw [show ((w.length:Int)+1)=((w.length+1:Nat):Int) by omega]
   exact awb (dj (by omega))
  have many:∀ ps:List Sh,(∀ p∈ps,a1q tg d p)->ps.length<=6->∀ (C:SE),C=sA (kj false 2 (bz k)) (aj (sV 0) (aj (sV 1) dq))->∀ hd:Str,sZ (n6 (sIt (s2 gIx (sV 0) (sC (.int 1)))) MI.t1 C [1]) [some (.tup [.str hd, .tup (sds ps)]),some (.str (S w)),some (plD w.length),none,none,none,none,none] [] = .ok (.rol ((ps.map (En w d)).map (rwL w.length))) []/\∀ t3 t4,sZ (n6 (sIt (s2 gIx (sV 0) (sC (.int 1)))) MI.t1 C [1]) [some (.tup [.str hd, .tup (sds ps)]),some (.str (S w)),some (plD w.length),t3,t4,none,none,none] [] = .ok (.rol ((ps.map (En w d)).map (rwL w.length))) []:=λps kp lp C hC hd=>by
   have go:∀ t3 t4,sZ (n6 (sIt (s2 gIx (sV 0) (sC (.int 1)))) MI.t1 C [1]) [some (.tup [.str hd, .tup (sds ps)]),some (.str (S w)),some (plD w.length),t3,t4,none,none,none] [] = .ok (.rol ((ps.map (En w d)).map (rwL w.length))) []:=λt3 t4=>by
    rw [cJ];refine a4k (qz sd _ ps (a66 (ig (cj rfl) (iw _ _ _) ix1) (by rw [yx];rfl)) (dj (by omega)) λp hp=>?_) (j4 λp _=>v7 _ _) (by simp)
    rw [xm,hC];exact uw (cj rfl) (cj rfl) (ih p (kp p hp) _)
   exact ⟨go none none,go⟩
  have bps:∀ ps:List Sh,∀ R∈ps.map (En w d),Bd w.length R:=λps R hR=>by
   obtain ⟨p,_,rfl⟩:=bD.mp hR;exact a6n w d p
  match s,ks with
  | .one sg,ks =>
   refine atx cl (i:=0) (h1:=[.lst (rwS w.length (En w (d+1) (.one sg)))]) ?_ rfl;rw [a3e];unfold qi;rw [sd];refine ag (af toR (jm (pl _))) ?_;refine af toR (uc (ag (ifT (by walk_at "x")) (jy ?_)))
   refine qz cu _ (List.range (w.length+1)) (a66 (cj rfl) rfl) (dj (by rw [aG];omega)) λa ha=>?_
   rw [xm];show zr _ _ _ _ [some (cu a),some (.tup [.str "one", .str (S sg)]),some (.str (S w))] []=_;unfold zr
   by_cases h1:a<w.length
   ·have gx:gIx (.str (S w)) (cu a) [] = .ok (.str (S [w[a]])) []:=ais (dj (by omega)) (ad h1)
    by_cases h2:w[a]∈sg
    ·have c:a6u (sT (s2 gLt (sV 0) (sA rm (aj (sV 2) dq)))) (sT (s2 (gIn false) (s2 gIx (sV 2) (sV 0)) (s2 gIx (sV 1) (sC (.int 1))))) [some (cu a),some (.tup [.str "one", .str (S sg)]),some (.str (S w))] [] = .ok true []:=aew (tof (ig (cj rfl) (uv (cj rfl) (lw _)) (ahm (by omega)))) (tof (ig (ig (cj rfl) (cj rfl) gx) (ig (cj rfl) (iw _ _ _) ix1) ((alg _ _ []).trans (by rw [cF h2]))))
     rw [<-(a1p (ts:=[a+1]) (by simp) (by simp) λe=>by
      rw [av]
      constructor
      ·rintro rfl;exact ⟨by omega,w[a],ad h1,h2,rfl⟩
      ·rintro ⟨_,c,_,_,h⟩;exact h:[a+1]=fl w.length (En w (d+1) (.one sg)) a)]
     exact EVT.ax8 c (EVT.uy (arg1 (ig (cj rfl) (iw _ _ _) abj)) rfl (gf (iy _) j8) (by simp) (by simp))
    ·have c:a6u (sT (s2 gLt (sV 0) (sA rm (aj (sV 2) dq)))) (sT (s2 (gIn false) (s2 gIx (sV 2) (sV 0)) (s2 gIx (sV 1) (sC (.int 1))))) [some (cu a),some (.tup [.str "one", .str (S sg)]),some (.str (S w))] [] = .ok false []:=aew (tof (ig (cj rfl) (uv (cj rfl) (lw _)) (ahm (by omega)))) (tof (ig (ig (cj rfl) (cj rfl) gx) (ig (cj rfl) (iw _ _ _) ix1) ((alg _ _ []).trans (by rw [aY h2]))))
     rw [<-(a1p (ts:=[]) (by simp) (by simp) λe=>by
      constructor
      ·intro h;cases h
      ·rintro ⟨_,c,hc,h,_⟩
       rw [ad h1] at hc;cases hc
       exact absurd h h2:[]=fl w.length (En w (d+1) (.one sg)) a)]
     exact EVT.auw c (EVT.uy EVT.wj rfl j8 (by simp) (by simp))
   ·have c:a6u (sT (s2 gLt (sV 0) (sA rm (aj (sV 2) dq)))) (sT (s2 (gIn false) (s2 gIx (sV 2) (sV 0)) (s2 gIx (sV 1) (sC (.int 1))))) [some (cu a),some (.tup [.str "one", .str (S sg)]),some (.str (S w))] [] = .ok false []:=amq (tof (ig (cj rfl) (uv (cj rfl) (lw _)) (al3 (by omega))))
    rw [<-(a1p (ts:=[]) (by simp) (by simp) λe=>by
     constructor
     ·intro h;cases h
     ·rintro ⟨_,c,hc,h,_⟩
      exact absurd (ah.mp hc).1 h1:[]=fl w.length (En w (d+1) (.one sg)) a)]
    exact EVT.auw c (EVT.uy EVT.wj rfl j8 (by simp) (by simp))
  | .many p,ks =>
   refine pu1 rfl cl (v7 _ _) ?_;rw [a3e];unfold qi;rw [sd];refine ag (af toR (jm (pl _))) ?_;refine ag (af toR (ifN (by walk_at "x"))) ?_
   exact af toR (uc (ag (ifT (by walk_at "x")) (jy (uv (uw (ig (cj rfl) (iw _ _ _) ix1) (cj rfl) (ih p ks _)) (atv hw (a6n w d p) _)))))
  | .eit ps,ks =>
   refine pu1 rfl cl (v7 _ _) ?_;rw [a3e];unfold qi;rw [sd];refine ag (af toR (jm (pl _))) ?_;refine ag (af toR (ifN (by walk_at "x"))) ?_
   refine ag (af toR (ifN (by walk_at "x"))) ?_
   have q:=(many ps ks.2.2 ks.2.1 (a1u (bz k) bc bw bf) rfl "either").1;refine ag (af toR (uc (ag (ifT (by walk_at "x")) (jy (uw q (cj rfl) (atw hw _)))))) ?_
   show MI.R.ok (rwL _ _) []=_;rw [a2f (R:=En w (d+1) (.eit ps)) λa e _ _=>by
    constructor
    ·rintro ⟨R,h1,h2⟩
     obtain ⟨p,h3,rfl⟩:=bD.mp h1;exact ⟨p,h3,h2⟩
    ·rintro ⟨p,h1,h2⟩
     exact ⟨_,bD.mpr ⟨p,h1,rfl⟩,h2⟩]
  | .row ps,ks =>
   refine pu1 rfl cl (v7 _ _) ?_;rw [a3e];unfold qi;rw [sd];refine ag (af toR (jm (pl _))) ?_;refine ag (af toR (ifN (by walk_at "x"))) ?_
   refine ag (af toR (ifN (by walk_at "x"))) ?_
   refine ag (af toR (ifN (by walk_at "x"))) ?_
   refine ag (af toR (jm (EVT.uy EVT.wj rfl j8 (by simp) (by simp)))) ?_
   refine ag (af toR (jm (iw _ _ _))) ?_;have q:=(many ps ks.2 ks.1 (a1v (bz k) bc bw bf) rfl "row").2;refine ag (af toR (sy (ag (ifT (by walk_at "x")) (ag (jm (q _ _)) (a93 (uv (cj rfl) EVT.a3c)))))) ?_
   have e:=a6f (s:=.tup [.str "row", .tup (sds ps)]) (x:=.str (S w)) (low:=ps.length) hw (bz k) (bps ps) (by rw [am];have:=ks.1;omega)
   rw [am,am];refine ag (af toR e) ?_;show MI.R.ok (rwL _ _) []=_;rw [a2f (R:=En w (d+1) (.row ps)) λa e _ _=>by
    constructor
    ·rintro ⟨j,h1,h2,h3⟩
     rw [bG (by rw [am];exact h1)] at h3
     exact h3
    ·intro h
     exact ⟨ps.length,ar _,by rw [am];exact ar _,by rw [bG (by rw [am];exact ar _)];exact h⟩]
  | .tim p lo hi,ks =>
   refine pu1 rfl cl (v7 _ _) ?_;rw [a3e];unfold qi;rw [sd];refine ag (af toR (jm (pl _))) ?_;refine ag (af toR (ifN (by walk_at "x"))) ?_
   refine ag (af toR (ifN (by walk_at "x"))) ?_
   refine ag (af toR (ifN (by walk_at "x"))) ?_
   refine ag (af toR (jm (EVT.uy EVT.wj rfl j8 (by simp) (by simp)))) ?_
   refine ag (af toR (jm (iw _ _ _))) ?_;obtain ⟨k1,k2,kp⟩:=ks;have fin:∀ low,low=lo->toR (MI.Fl.rt (rwL w.length λa e=>∃ j,low<=j/\j<=(List.replicate hi (En w d p)).length/\chn ((List.replicate hi (En w d p)).take j) a e) []) = .ok (rwL w.length (En w (d+1) (.tim p lo hi))) []:=λlow hl=>by
    show MI.R.ok (rwL _ _) []=_;rw [a2f (R:=En w (d+1) (.tim p lo hi)) λa e _ _=>by
     rw [bT]
     constructor
     ·rintro ⟨j,h1,h2,h3⟩
      rw [List.take_replicate,fB h2,abn] at h3;exact ⟨j,by omega,h2,h3⟩
     ·rintro ⟨j,h1,h2,h3⟩
      refine ⟨j,?_,h2,?_⟩
      ·omega
      ·rw [List.take_replicate,fB h2,abn];exact h3]
   by_cases h0:hi=0
   ·subst h0;have e:=a6f (s:=.tup [.str "times",sd p,cu lo,cu 0]) (x:=.str (S w)) (low:=0) (Rs:=[]) hw (bz k) (by simp) (by simp)
    refine ag (af toR (sy (ag (ifF (by walk_at "x")) (ifF (by walk_at "x"))))) (ag (af toR e) ?_)
    have:lo=0:=by omega
    subst this;exact fin 0 rfl
   ·have e:=a6f (s:=.tup [.str "times",sd p,cu lo,cu hi]) (x:=.str (S w)) (low:=lo) (Rs:=List.replicate hi (En w d p)) hw (bz k) (λR hR=>by rw [ei hR];exact a6n w d p) (by rw [bT];omega)
    have z:sZ (s2 xu (sZ (sA MI.vy (aj (sA (kj false 2 (bz k)) (aj (s2 gIx (sV 0) (sC (.int 1))) (aj (sV 1) dq))) dq))) (s2 gIx (sV 0) (sC (.int 3)))) [some (.tup [.str "times",sd p,cu lo,cu hi]),some (.str (S w)),some (plD w.length),some (.rol []),some (.int 0),none,none,none] [] = .ok (.rol ((List.replicate hi (En w d p)).map (rwL w.length))) []:=by
     refine ag (EVT.aae (xs:=[rwL w.length (En w d p)]) (k:=(hi:Int)) (EVT.uy (arg1 (uw (ig (cj rfl) (iw _ _ _) ix1) (cj rfl) (ih p kp _))) rfl (gf (v7 _ _) j8) (by simp) (by simp)) (ig (cj rfl) (iw _ _ _) ix3) rfl (gf (v7 _ _) j8) (by simp) (by simp;omega) (by omega)) ?_
     rw [cC,fR]
     congr 2
     exact gE λi=>by simp [List.flatten_replicate_singleton]
    refine ag (af toR (sy (ag (ifF (by walk_at "x")) (ag (ifT (by walk_at "x")) (ag (jm z) (a93 (ig (cj rfl) (iw _ _ _) ix2))))))) (ag (af toR e) (fin lo rfl))
end
theorem a91{α β:Type}{fi:SI}{t:D->Option Sd}{fe:SE}{ix:List Nat}{τ:Sd}{o0 o:O}{hs:Hd}(xs:List α)(g:α->D)(k:β->D)(Q:α->β->Prop){N B M:Nat}(P:Src o N)(hM:N+xs.length*B<=M)(z:xs.length<=1000000)(ch:∀ u∈hs,u5 0 u)
  (e:fi τ (o0::hs) = .ok ⟨xs.map g,λ_=>True⟩ (o::hs)) (st:∀ x∈xs,∀ o N,Src o N->N+B<=M->∃ y o',a7r t fe (frs' ix τ) (g x) (o::hs) = .ok (k y) (o'::hs)/\MI.clo 0 (k y)/\Q x y/\Src o' (N+B)) :
  ∃ ys o',sZ (n6 fi t fe ix) τ (o0::hs) = .ok (.rol (ys.map k)) (o'::hs)/\All2 Q xs ys/\Src o' (N+xs.length*B)/\clos 0 (ys.map k):=by
 have mp:=acj (f:=a7r t fe (frs' ix τ)) g (λpre zs h=>∃ (ys:List β) (o':O),zs=ys.map k/\h=o'::hs/\Src o' (N+pre.length*B)/\All2 Q pre ys/\clos 0 (ys.map k)) xs [] [] (o::hs) ?_ ⟨[],o,rfl,rfl,by simpa using P, .nil,j8⟩
 ·obtain ⟨zs,h',mp,ys,o',zq,rfl,P',q,cl⟩:=mp;simp only [cI] at zq P' q;subst zq;refine ⟨ys,o',EVT.ait ?_ rfl cl (λu hu=>?_),q,P',cl⟩
  ·unfold n6;rw [e,du];dsimp only;rw [aA (dj (by rw [am];exact z)),mp]
   rfl
  ·rcases aD.mp hu with rfl | hu
   ·exact P'.clo
   ·exact ch u hu
 ·rintro pre x post zs h al ⟨ys,o',rfl,rfl,P',q,cl⟩
  have al:xs=pre++x::post:=al;have hl:pre.length+1<=xs.length:=by rw [al];simp
  have kb:(pre.length+1)*B<=xs.length*B:=bX _ hl;rw [dF] at kb;obtain ⟨y,o'',e',cy,qy,P''⟩:=st x (by rw [al];simp) o' _ P' (by omega)
  refine ⟨k y,o''::hs,e',ys++[y],o'',by simp,rfl,?_,q.snoc qy,?_⟩
  ·rw [ap,ax,dF];exact P''.up (by omega)
  ·rw [bg];exact EVT.a0f cl (gf cy j8)
theorem adg{b:Nat}:∀ {l:List (List Nat)},(∀ x∈l,x.length<=b)->l.flatten.length<=b*l.length
 | [],_=>by simp
 | x::l,h=>by
  have:=adg (l:=l) λy hy=>h y (aC _ hy)
  have:=h x aF
  rw [bK,ap,aS,Nat.mul_succ];omega
noncomputable def iz:Nat->SF
 | 0=>λ_ _=>.no
 | k+1=>qj (u9 SRC.ak (iz k)) 3
theorem a6g{k:Nat}{s:D}{o:O}:iz (k+1) [.ref 0,s] [o]=toR (u9 SRC.ak (iz k) [some (.ref 0),some s,none] [o]):=by
 rw [iz,jq];rfl
def aig(tg:List Nat)(k d:Nat):Prop:=∀ s,a1q tg d s->∀ (o:O) (N:Nat),Src o N->N+bnd d<=900000000->∃ x o',Dr (iz k) 2 [sd s] o (.str (S x)) o'/\x.length<=6 ^ d/\(∀ c∈x,c∈tg)/\Src o' (N+bnd d)
theorem aih{tg:List Nat}{k d:Nat}(hd:d<=4)(ih:aig tg k d):aig tg (k+1) (d+1):=by
 intro s ks o N P hN
 rw [bnd] at hN;have b0:=ai1 d;have join:∀ (ps:List Sh) (u:O) (M:Nat),Src u M->M<=N+1->ps.length<=6->(∀ p∈ps,a1q tg d p)->∃ x o',(∀ s:D,qg (sMS a6l (sC (.str "")) (aj (sZ (n6 (sIt (sV 2)) MI.t1 (a0e SRC.ak (iz k)) [0])) dq)) [some (.ref 0),some s,some (.tup (ps.map sd))] [u] = .rt (.str (S x)) [o'])/\x.length<=6 ^ (d+1)/\(∀ c∈x,c∈tg)/\Src o' (N+bnd (d+1)):=λps u M Pu hM hl kp=>by
  have kb:ps.length*bnd d<=6*bnd d:=bX _ hl;obtain ⟨ys,o',e,q,P',cl⟩:=a91 (fi:=sIt (sV 2)) (t:=MI.t1) (fe:=a0e SRC.ak (iz k)) (ix:=[0]) (τ:=[some (.ref 0),some (sd s),some (.tup (ps.map sd))]) (hs:=[]) ps sd (λx=>D.str (S x)) (λ_ x=>x.length<=6 ^ d/\∀ c∈x,c∈tg) (B:=bnd d) (M:=M+6*bnd d) Pu (by omega) (by omega) (by simp) (a66 (cj rfl) rfl) (λp hp o N Po ho=>by
   obtain ⟨x,o',ex,l1,l2,P'⟩:=ih p (kp p hp) o N Po (by omega)
   refine ⟨x,o',?_,jc _,⟨l1,l2⟩,P'⟩;rw [xm];exact uw (cj rfl) (cj rfl) (ex 0 _ rfl))
  have ln:=q.len;have qy:∀ y∈ys,y.length<=6 ^ d/\∀ c∈y,c∈tg:=λy hy=>by obtain ⟨_,_,h⟩:=q.rt y hy;exact h
  have fl:=adg λy hy=>(qy y hy).1;have f6:6 ^ d*ys.length<=6 ^ d*6:=Nat.mul_le_mul_left _ (by omega)
  have f7:6 ^ d<=6 ^ 4:=fk (by decide) hd
  refine ⟨ys.flatten,o',λs'=>jy (K76.auy (z:=S []) (iw _ _ _) (arg1 e) (K76.ahu (by omega))),by rw [hG];omega,λc hc=>?_,P'.up (by rw [bnd];omega)⟩
  obtain ⟨y,hy,hc⟩:=gU.mp hc;exact (qy y hy).2 c hc
 have fin:∀ (x:List Nat) (o':O),iz (k+1) [.ref 0,sd s] [o] = .ok (.str (S x)) [o']->x.length<=6 ^ (d+1)/\(∀ c∈x,c∈tg)/\Src o' (N+bnd (d+1))->∃ x o',Dr (iz (k+1)) 2 [sd s] o (.str (S x)) o'/\x.length<=6 ^ (d+1)/\(∀ c∈x,c∈tg)/\Src o' (N+bnd (d+1)):=λx o' e ⟨a,b,c⟩=>⟨x,o',dr1 rfl (ape (zg s)) P.clo e (jc _) c.clo,a,b,c⟩
 match s,ks,fin with
 | .one sg,ks,fin =>
  obtain ⟨l1,l6,sub⟩:=ks;have l6:sg.length<=6:=l6;have l1:1<=sg.length:=l1;obtain ⟨r,o1,e1,r1,P1⟩:=dw (m:=(sg.length:Int)) P (by omega) (by omega) (by omega)
  have hr:r<sg.length:=by omega
  refine fin [sg[r]] o1 ?_ ⟨by simp;exact Nat.pow_pos (by decide),λc hc=>by rw [av.mp hc];exact sub _ (aX hr),P1.up (by rw [bnd];omega)⟩
  rw [a6g,sd];unfold u9;refine af toR (uc (ag (ifT (h1:=[o]) (by walk_at "x")) (jy ?_)))
  exact (ig (ig (cj rfl) (iw _ _ _) ix1) (uw (cj rfl) (uv (ig (cj rfl) (iw _ _ _) ix1) (a3v (dj (by omega)))) (e1 0 _ rfl)) (ais (dj (by omega)) (ad hr)))
 | .row ps,ks,fin =>
  obtain ⟨x,o',e,r⟩:=join ps o N P (by omega) ks.1 ks.2
  refine fin x o' ?_ r;rw [a6g,sd,yx];unfold u9;refine ag (af toR (ifN (by walk_at "x"))) ?_
  refine ag (af toR (jm (by walk_at "x"))) ?_
  refine ag (af toR (ifN (by walk_at "x"))) ?_
  refine ag (af toR (ifN (by walk_at "x"))) ?_
  refine ag (af toR (ifN (by walk_at "x"))) ?_
  exact af toR (e _)
 | .eit ps,ks,fin =>
  obtain ⟨l1,l6,kp⟩:=ks;have l6:ps.length<=6:=l6;have l1:1<=ps.length:=l1;obtain ⟨r,o1,e1,r1,P1⟩:=dw (m:=(ps.length:Int)) P (by omega) (by omega) (by omega)
  have hr:r<ps.length:=by omega
  obtain ⟨x,o',e,q⟩:=join [ps[r]] o1 (N+1) P1 (by omega) (by simp) (λp hp=>by rw [av.mp hp];exact kp _ (aX hr))
  refine fin x o' ?_ q;rw [a6g,sd,yx];unfold u9;refine ag (af toR (ifN (by walk_at "x"))) ?_
  refine ag (af toR (jm (by walk_at "x"))) ?_
  refine ag (af toR (ifN (by walk_at "x"))) ?_
  refine ag (af toR (ifN (by walk_at "x"))) ?_
  have ln:rm [.tup (ps.map sd)] [o] = .ok (cu ps.length) [o]:=by rw [EVT.a69,am]
  have gx:gIx (.tup (ps.map sd)) (cu r) [o1] = .ok (sd ps[r]) [o1]:=ahk (by rw [aW,ad hr];rfl)
  refine ag (af toR (sy (ag (ifT (h1:=[o]) (by walk_at "x")) (a93 (uv (ig (ig (cj rfl) (iw _ _ _) ix1) (uw (cj rfl) (uv (ig (cj rfl) (iw _ _ _) ix1) ln) (e1 0 _ rfl)) gx) ad6))))) ?_
  exact af toR (e _)
 | .many p,ks,fin =>
  obtain ⟨r,o1,e1,r1,P1⟩:=dw (m:=3) P (by omega) (by omega) (by omega)
  obtain ⟨x,o',e,q⟩:=join (List.replicate r p) o1 (N+1) P1 (by omega) (by rw [bT];omega) (λq hq=>by rw [ei hq];exact ks)
  rw [fR] at e;refine fin x o' ?_ q;rw [a6g,sd];unfold u9;refine ag (af toR (ifN (by walk_at "x"))) ?_
  refine ag (af toR (jm (by walk_at "x"))) ?_
  refine ag (af toR (sy (ag (ifT (h1:=[o]) (by walk_at "x")) (a93 (ig (uv (ig (cj rfl) (iw _ _ _) ix1) ad6) (uw (cj rfl) (iw _ _ _) (e1 0 _ rfl)) (aww (by omega))))))) ?_
  refine ag (af toR (ifN (by walk_at "x"))) ?_
  refine ag (af toR (ifN (by walk_at "x"))) ?_
  exact af toR (e _)
 | .tim p lo hi,ks,fin =>
  obtain ⟨k1,k2,kp⟩:=ks;have k2:hi<=4:=k2;obtain ⟨r,o1,e1,r1,P1⟩:=dw (m:=(hi:Int) - lo+1) P (by omega) (by omega) (by omega)
  obtain ⟨x,o',e,q⟩:=join (List.replicate (lo+r) p) o1 (N+1) P1 (by omega) (by rw [bT];omega) (λq hq=>by rw [ei hq];exact kp)
  rw [fR] at e;refine fin x o' ?_ q;rw [a6g,sd];unfold u9;refine ag (af toR (ifN (by walk_at "x"))) ?_
  refine ag (af toR (jm (by walk_at "x"))) ?_
  refine ag (af toR (ifN (by walk_at "x"))) ?_
  refine ag (af toR (sy (ag (ifT (h1:=[o]) (by walk_at "x")) (a93 (ig (uv (ig (cj rfl) (iw _ _ _) ix1) ad6) (ig (ig (cj rfl) (iw _ _ _) ix2) (uw (cj rfl) (ig (ig (ig (cj rfl) (iw _ _ _) ix3) (ig (cj rfl) (iw _ _ _) ix2) (a1z _ _)) (iw _ _ _) abj) (e1 0 _ rfl)) amw) (aww (by omega))))))) ?_
  refine ag (af toR (ifN (by walk_at "x"))) ?_
  exact af toR (e _)
theorem aii{tg:List Nat}:∀ (d k:Nat),d<=5->d<=k->aig tg k d
 | 0,_,_,_=>λ_ ks=>ks.elim
 | d+1,0,_,h=>absurd h (by omega)
 | d+1,k+1,h,h'=>aih (by omega) (aii d k (by omega) (by omega))
noncomputable def gw:SF:=qj (ut SRC.ak) 6
theorem apn{tg w:List Nat}{o:O}{N:Nat}(t1:1<=tg.length)(t6:tg.length<=6)(hw:w.length<=1000)(P:Src o N)(hN:N<=900000000):∃ x o',Dr gw 3 [.str (S w), .str (S tg)] o (.str (S x)) o'/\x.length<=w.length+1/\((∀ c∈w,c∈tg)->∀ c∈x,c∈tg)/\Src o' (N+3):=by
 obtain ⟨a,o1,e1,a1,P1⟩:=dw (m:=(w.length:Int)+1) P (by omega) (by omega) (by omega)
 obtain ⟨j,o2,e2,j1,P2⟩:=dw (m:=(tg.length:Int)) P1 (by omega) (by omega) (by omega)
 obtain ⟨b,o3,e3,b1,P3⟩:=dw (m:=4) P2 (by omega) (by omega) (by omega)
 have hj:j<tg.length:=by omega
 have fin:∀ {x:List Nat},gw [.ref 0, .str (S w), .str (S tg)] [o] = .ok (.str (S x)) [o3]->x.length<=w.length+1->(∀ c∈x,c∈w\/c∈tg)->∃ x o',Dr gw 3 [.str (S w), .str (S tg)] o (.str (S x)) o'/\x.length<=w.length+1/\((∀ c∈w,c∈tg)->∀ c∈x,c∈tg)/\Src o' (N+3):=λ{x} e l m=>⟨x,o3,dr1 rfl (λy hy=>by simp only [aD,aN,cn] at hy;rcases hy with rfl | rfl<;>exact jc _) P.clo e (jc _) P3.clo,l,λh c hc=>(m c hc).elim (h c) id,P3⟩
 have go:gw [.ref 0, .str (S w), .str (S tg)] [o]=toR (jd (sIf (sT (s2 hEq (sV 5) (sC (.int 0)))) (qg (sV 1)) sNx) (jd (sIf (sT (s2 hEq (sV 5) (sC (.int 1)))) (qg (s2 jb (a2h (sV 1) oN (oS (sV 3))) (a2h (sV 1) (oS (s2 jb (sV 3) (sC (.int 1)))) oN))) sNx) (qg (s2 jb (s2 jb (a2h (sV 1) oN (oS (sV 3))) (sV 4)) (a2h (sV 1) (oS (s2 MI.a6i (s2 jb (sV 3) (sV 5)) (sC (.int 2)))) oN)))) [some (.ref 0),some (.str (S w)),some (.str (S tg)),some (cu a),some (.str (S [tg[j]])),some (cu b)] [o3]):=by
  unfold gw;rw [jq];show toR (ut SRC.ak [some (.ref 0),some (.str (S w)),some (.str (S tg)),none,none,none] [o])=_;unfold ut;refine ag (af toR (jm (uw (cj rfl) (ig (uv (cj rfl) (a3v (dj (by omega)))) (iw _ _ _) abj) (e1 0 _ rfl)))) ?_
  refine ag (af toR (jm (ig (cj rfl) (uw (cj rfl) (uv (cj rfl) (a3v (dj (by omega)))) (e2 0 _ rfl)) (ais (dj (by omega)) (ad hj))))) ?_
  exact af toR (jm (uw (cj rfl) (iw _ _ _) (e3 0 _ rfl)))
 have to:aal (.str (S w)) none (some (a:Int)) [o3] = .ok (.str (S (w.take a))) [o3]:=atc a (dj (by omega))
 have tk:∀ c∈w.take a,c∈w:=λc hc=>dQ hc;have dp:∀ k,∀ c∈w.drop k,c∈w:=λk c hc=>List.mem_of_mem_drop hc
 by_cases b0:b=0
 ·refine fin (x:=w) (go.trans ?_) (by omega) (λc hc=>.inl hc)
  exact af toR (uc (ag (ifT (by walk_at "x")) (jy (cj rfl))))
 ·by_cases b1':b=1
  ·refine fin (x:=w.take a++w.drop (a+1)) (go.trans ?_) (by simp only [ap,aV,bq];omega) (λc hc=>.inl ((aQ.mp hc).elim (tk c) (dp _ c)))
   refine ag (af toR (ifN (by walk_at "x"))) ?_
   refine af toR (uc (ag (ifT (h1:=[o3]) (by walk_at "x")) (jy (ig (ahs (cj rfl) EVT.aht (ahr (cj rfl)) to) (ahs (cj rfl) (ahr (ig (cj rfl) (iw _ _ _) (amw (b:=1)))) EVT.aht (aa2 (a+1) (dj (by omega)))) (a8h (dj (by simp only [aV,bq];omega)))))))
  ·refine fin (x:=w.take a++[tg[j]]++w.drop (a+b - 2)) (go.trans ?_) (by simp only [ap,aV,bq,ax];omega) (λc hc=>?_)
   ·refine ag (af toR (ifN (by walk_at "x"))) ?_
    refine ag (af toR (ifN (by walk_at "x"))) ?_
    have sb:MI.a6i (cu (a+b)) (.int 2) [o3] = .ok (cu (a+b - 2)) [o3]:=by rw [a1z,show ((a+b:Nat):Int) - 2=((a+b - 2:Nat):Int) by omega]
    refine af toR (jy (ig (ig (ahs (cj rfl) EVT.aht (ahr (cj rfl)) to) (cj rfl) (a8h (dj (by simp only [aV,ax];omega)))) (ahs (cj rfl) (ahr (ig (ig (cj rfl) (cj rfl) amw) (iw _ _ _) sb)) EVT.aht (aa2 _ (dj (by omega)))) (a8h (dj (by simp only [ap,aV,bq,ax];omega)))))
   ·rcases aQ.mp hc with hc | hc
    ·rcases aQ.mp hc with hc | hc
     ·exact .inl (tk c hc)
     ·rw [av.mp hc];exact .inr (aX hj)
    ·exact .inl (dp _ c hc)
def az:List Nat:=("abcdefghijklmnopqrstuvwxyz" : Str).cps.toList
theorem a7b:az.length=26:=by decide +kernel
theorem awc:az.Nodup:=by decide +kernel
theorem ayr:("abcdefghijklmnopqrstuvwxyz" : Str)=S az:=by
 unfold az
 generalize ("abcdefghijklmnopqrstuvwxyz" : Str)=z
 obtain ⟨cps⟩:=z;rfl
theorem awd{c:Nat}(hc:c∈az)(h:Hd):∃ j,j<26/\az[j]? = some c/\ac8 (.str (S az)) [.str (S [c])] h = .ok (cu j) h:=by
 obtain ⟨i,e1,e2,_⟩:=abv (T:=S az) (c:=c) (by rw [a8g];exact hc)
 rw [a8g] at e2;have hi:=(ah.mp e2).1;rw [a7b] at hi;refine ⟨i,hi,e2,?_⟩;show (if c∈(S az).cps.toList then MI.R.ok (D.int (a9e (S az) c)) h else .no)=_
 rw [aA (by rw [a8g];exact hc),e1]
abbrev nmD(x:List Nat):D:=.str (S x)
theorem a6h(l:List (List Nat)):clos 0 (l.map nmD):=j4 λ_ _=>jc _
theorem aty{x:List Nat}{l:List (List Nat)}{h:Hd}{i:Nat}(e:h[i]? = some (.lst (l.map nmD))):gIn false (nmD x) (.ref i) h = .ok (.bl (decide (x∈l))) h:=by
 have go:∀ l:List (List Nat),inD (nmD x) (l.map nmD)=decide (x∈l):=λl=>by
  induction l with
  | nil=>simp [inD]
  | cons y l ih =>
   show (eqF (nmD y) (nmD x) || inD (nmD x) (l.map nmD))=_
   rw [ih];show ((S y == S x) || decide (x∈l))=_
   rw [atb]
   by_cases q:y=x
   ·subst q;simp
   ·simp [q,cX q]
 have fl:(l.map nmD).all zj=true:=by
  rw [br]
  intro y hy
  obtain ⟨z,_,rfl⟩:=bD.mp hy;rfl
 unfold gIn;dsimp only;have sq:a07 (.ref i) h=some (l.map nmD):=by unfold a07;simp only [e]
 simp only [sq];rw [aA ⟨rfl,fl⟩,aL (by decide),go]
theorem apo{l:List (List Nat)}{h:Hd}{i:Nat}(e:h[i]? = some (.lst (l.map nmD))):aeu true (.ref i) (.rol []) h = .ok (.bl (!l.isEmpty)) h:=by
 have a:wz (.ref i) h=some (l.map nmD):=by unfold wz;simp only [e]
 unfold aeu;rw [a];show (if (l.map nmD).all (pur 59)=true/\([]:List D).all (pur 59)=true then R.ok (D.bl (if true=true then !aak (l.map nmD) [] else aak (l.map nmD) [])) h else .no)=_
 rw [aA ⟨by rw [br];intro x hx;obtain ⟨y,_,rfl⟩:=bD.mp hx;rfl,rfl⟩]
 cases l<;>rfl
theorem apq{xs:List D}{h:Hd}{i:Nat}{d:D}(e:h[i]? = some (.lst xs))(hx:xs[xs.length - 1]? = some d):gIx (.ref i) (.int (-1)) h = .ok d h:=by
 have lt:xs.length - 1<xs.length:=(ah.mp hx).1;have n:ixN xs.length (-1)=some (xs.length - 1):=by
  unfold ixN;rw [aL (by omega),aA (by omega)]
  congr 1
  omega
 have sq:a07 (.ref i) h=some xs:=by unfold a07;simp only [e]
 unfold gIx;simp only [sq,atI,n,gO,hx]
theorem aij{α:Type}[DecidableEq α]:∀ {l m:List α},l.Nodup->(∀ x∈l,x∈m)->l.length<=m.length
 | [],_,_,_=>bE _
 | a::l,m,nd,s=>by
  have ha:=s a aF;have:=aij (l:=l) (m:=m.erase a) (cO.mp nd).2 λx hx=>(List.mem_erase_of_ne (λe:x=a=>(cO.mp nd).1 (e ▸ hx))).mpr (s x (aC _ hx));rw [List.length_erase_of_mem ha] at this;have:0<m.length:=List.length_pos_of_mem ha;rw [aS];omega
structure Nm (x:List Nat):Prop where
 lo:1<=x.length
 hi:x.length<=8
 az:∀ c∈x,c∈az
def nx(x:List Nat)(a f j:Nat):List Nat:=x.set a (az[(f+j) % 26]?.getD 0)
theorem alo(k:Nat):az[k % 26]? = some (az[k % 26]?.getD 0):=by
 rw [ad (by rw [a7b];omega)]
 rfl
theorem atz{x:List Nat}{a f i j:Nat}(ha:a<x.length)(hi:i<26)(hj:j<26)(e:nx x a f i=nx x a f j):i=j:=by
 have h:=af (λl:List Nat=>l[a]?) e;simp only [nx,bC ha,eM] at h;have h1:=alo (f+i);have h2:=alo (f+j);rw [h,<-h2] at h1;have:=(List.getElem?_inj (by rw [a7b];omega) awc).mp h1
 omega
theorem awe{x:List Nat}{a f j:Nat}(n:Nm x):Nm (nx x a f j):=by
 refine ⟨by unfold nx;rw [cZ];exact n.lo,by unfold nx;rw [cZ];exact n.hi,λc hc=>?_⟩
 rcases fX hc with h | rfl
 ·exact n.az c h
 ·exact aT (alo (f+j))
theorem au0{x:List Nat}{a f j:Nat}(ha:a<x.length)(c:Nat):(nx x a f j).take a++[c]++(nx x a f j).drop (a+1)=x.set a c:=by
 unfold nx;rw [List.take_set_of_le (ar _),List.drop_set_of_lt (by omega),List.set_eq_take_append_cons_drop,aA ha]
 simp
noncomputable def m8:SF:=qj (a1j SRC.ak) 8
theorem apr{ns:List (List Nat)}(hn:ns.length<=6)(ok:∀ x∈ns,Nm x){o:O}{N:Nat}(P:Src o N)(hN:N<=900000000):∃ x o',Dr2 m8 2 [] o (.lst (ns.map nmD)) (nmD x) o' (.lst (ns.map nmD))/\Nm x/\x ∉ ns/\Src o' (N+11):=by
 obtain ⟨r0,o1,e1,r0b,P1⟩:=dw (m:=8) P (by omega) (by decide) (by decide)
 have lett:∀ r:Nat,r<26->∀ hh:Hd,∃ c,c∈az/\gIx (.str (S az)) (cu r) hh = .ok (.str (S [c])) hh:=λr hr hh=>by
  have hl:r<az.length:=by rw [a7b];exact hr
  exact ⟨az[r],aX hl,ais (dj (by rw [a7b];omega)) (ad hl)⟩
 obtain ⟨ys,o2,e2,q,P2,_⟩:=a91 (fi:=sRg v6 (aj (s2 jb (sC (.int 1)) (sA (kj false 2 SRC.ak) (aj (sV 0) (aj (sC (.int 8)) dq)))) dq)) (t:=MI.t1) (fe:=a2x SRC.ak) (ix:=[0,2]) (τ:=[some (.ref 0),some (.ref 1),some (.str (S az)),none,none,none,none,none]) (o0:=o) (hs:=[.lst (ns.map nmD)]) (List.range (1+r0)) cu (λc:Nat=>nmD [c]) (λ_ c=>c∈az) (B:=1) (M:=900000100) P1 (by rw [aG];omega) (by rw [aG];omega) (EVT.a1a (a6h ns)) (by
   have a1:aj (s2 jb (sC (.int 1)) (sA (kj false 2 SRC.ak) (aj (sV 0) (aj (sC (.int 8)) dq)))) dq [some (.ref 0),some (.ref 1),some (.str (S az)),none,none,none,none,none] [o, .lst (ns.map nmD)] = .ok [cu (1+r0)] [o1, .lst (ns.map nmD)]:=arg1 (ig (iw _ _ _) (uw (cj rfl) (iw _ _ _) (EVT.a8q e1)) (amw (a:=1)));unfold sRg;rw [a1,du];exact aa6 _ (dj (by omega))) (λi _ u M Pu hM=>by
   obtain ⟨r,u',e,rb,Pu'⟩:=dw (m:=26) Pu (by omega) (by decide) (by decide)
   obtain ⟨c,hc,gx⟩:=lett r (by omega) [u', .lst (ns.map nmD)]
   refine ⟨c,u',?_,jc _,hc,Pu'⟩;rw [xm];exact ig (cj rfl) (uw (cj rfl) (iw _ _ _) (EVT.a8q e)) gx)
 have ql:=q.len;rw [aG] at ql P2;have jn:a6l (.str (S [])) [.rol (ys.map λc:Nat=>nmD [c])] [o2, .lst (ns.map nmD)] = .ok (nmD ys) [o2, .lst (ns.map nmD)]:=by
  have j:=K76.ahu (ls:=ys.map λc=>[c]) (h:=[o2, .lst (ns.map nmD)]) (by rw [ENG.a3d];omega)
  rw [cJ,ENG.a3d] at j;exact j
 have Y:Nm ys:=⟨by omega,by omega,λc hc=>by obtain ⟨_,_,h⟩:=q.rt c hc;exact h⟩
 obtain ⟨x0,o3,X,P3,e3⟩:∃ x0 o3,Nm x0/\Src o3 (N+10)/\∀ g:SS,jd (sIf (a6u (sT (s2 (aeu true) (sV 1) (sZ (sA MI.vy dq)))) (sT (s2 hEq (sA (kj false 2 SRC.ak) (aj (sV 0) (aj (sC (.int 2)) dq))) (sC (.int 0))))) (km 3 (s2 gIx (sV 1) (s1 aaw (sC (.int 1))))) sNx) g [some (.ref 0),some (.ref 1),some (.str (S az)),some (nmD ys),none,none,none,none] [o2, .lst (ns.map nmD)]=g [some (.ref 0),some (.ref 1),some (.str (S az)),some (nmD x0),none,none,none,none] [o3, .lst (ns.map nmD)]:=by
  have z0:sZ (sA MI.vy dq) [some (.ref 0),some (.ref 1),some (.str (S az)),some (nmD ys),none,none,none,none] [o2, .lst (ns.map nmD)] = .ok (.rol []) [o2, .lst (ns.map nmD)]:=EVT.uy EVT.wj rfl j8 (ai3 P2.clo (a6h ns)) (by simp)
  have c1:sT (s2 (aeu true) (sV 1) (sZ (sA MI.vy dq))) [some (.ref 0),some (.ref 1),some (.str (S az)),some (nmD ys),none,none,none,none] [o2, .lst (ns.map nmD)] = .ok (!ns.isEmpty) [o2, .lst (ns.map nmD)]:=tof (ig (cj rfl) z0 (apo rfl))
  by_cases em:ns.isEmpty=true
  ·rw [em] at c1;exact ⟨ys,o2,Y,P2.up (by omega),λg=>ifN (amq c1)⟩
  ·have em:ns.isEmpty=false:=by simpa using em
   rw [em] at c1;obtain ⟨b,o3,e,_,P3⟩:=dw (m:=2) P2 (by omega) (by decide) (by decide)
   have d1:sA (kj false 2 SRC.ak) (aj (sV 0) (aj (sC (.int 2)) dq)) [some (.ref 0),some (.ref 1),some (.str (S az)),some (nmD ys),none,none,none,none] [o2, .lst (ns.map nmD)] = .ok (cu b) [o3, .lst (ns.map nmD)]:=uw (cj rfl) (iw _ _ _) (EVT.a8q e)
   by_cases b0:b=0
   ·have nl:ns.length - 1<ns.length:=by
     have:0<ns.length:=by cases ns with | nil=>simp at em | cons=>simp
     omega
    have gl:gIx (.ref 1) (.int (-1)) [o3, .lst (ns.map nmD)] = .ok (nmD ns[ns.length - 1]) [o3, .lst (ns.map nmD)]:=apq (xs:=ns.map nmD) rfl (by rw [am,aW,ad nl];rfl)
    refine ⟨ns[ns.length - 1],o3,ok _ (aX nl),P3.up (by omega),λg=>sy (ag (ifT (h1:=[o3, .lst (ns.map nmD)]) (aew c1 (tof (ig d1 (iw _ _ _) (aaa (by omega)))))) (a93 (ig (cj rfl) (ahj (iw _ _ _) (a8o _)) gl)))⟩
   ·exact ⟨ys,o3,Y,P3.up (by omega),λg=>ifN (h1:=[o3, .lst (ns.map nmD)]) (aew c1 (tof (ig d1 (iw _ _ _) (abf (by omega)))))⟩
 obtain ⟨a,o4,e4,ab,P4⟩:=dw (m:=(x0.length:Int)) P3 (by omega) (by have:=X.lo;omega) (by have:=X.hi;omega)
 have ha:a<x0.length:=by omega
 obtain ⟨f,hf,fa,fx⟩:=awd (X.az _ (aX ha)) [o4, .lst (ns.map nmD)];have start:nx x0 a f 0=x0:=by
  unfold nx;have:az[(f+0) % 26]? = some x0[a]:=by rw [Nat.add_zero,gP hf];exact fa
  rw [this];exact List.set_getElem_self ha
 have X8:=X.hi
 rcases aoo (c:=a0d SRC.ak) (f:=a2y SRC.ak)
  (λm τ h=>∃ (j:Nat) (t7:Option D),τ=[some (.ref 0),some (.ref 1),some (.str (S az)),some (nmD (nx x0 a f j)),some (cu a),some (cu f),some (cu j),t7]/\h=[o4, .lst (ns.map nmD)]/\m=26 - j/\j<=6/\∀ i<j,nx x0 a f i∈ns)
  (λτ h=>∃ (j:Nat) (t7:Option D),τ=[some (.ref 0),some (.ref 1),some (.str (S az)),some (nmD (nx x0 a f j)),some (cu a),some (cu f),some (cu j),t7]/\h=[o4, .lst (ns.map nmD)]/\nx x0 a f j ∉ ns) (λ_ _=>False)
  (by
   rintro m τ h ⟨j,t7,rfl,rfl,rfl,j6,all⟩
   have c:a0d SRC.ak [some (.ref 0),some (.ref 1),some (.str (S az)),some (nmD (nx x0 a f j)),some (cu a),some (cu f),some (cu j),t7] [o4, .lst (ns.map nmD)] = .ok (decide (nx x0 a f j∈ns)) [o4, .lst (ns.map nmD)]:=tof (ig (cj rfl) (cj rfl) (aty rfl))
   by_cases q:nx x0 a f j∈ns
   ·right
    rw [cF q] at c;refine ⟨_,c, .inl ?_⟩;have few:j+1<=6:=by
     have:=aij (l:=(List.range (j+1)).map (nx x0 a f)) (m:=ns) (by
      rw [List.nodup_iff_pairwise_ne,List.pairwise_map];refine List.Pairwise.imp_of_mem ?_ (List.nodup_range (n:=j+1))
      intro u v hu hv ne e
      exact ne (atz ha (by have:=bb.mp hu;omega) (by have:=bb.mp hv;omega) e)) (λy hy=>by
      obtain ⟨i,hi,rfl⟩:=bD.mp hy;have:=bb.mp hi
      by_cases z:i=j
      ·subst z;exact q
      ·exact all i (by omega))
     rw [am,aG] at this;omega
    have l1:(nx x0 a f j).length=x0.length:=by unfold nx;rw [cZ]
    have md:a3f (cu (f+(j+1))) (.int 26) [o4, .lst (ns.map nmD)] = .ok (cu ((f+(j+1)) % 26)) [o4, .lst (ns.map nmD)]:=(a67 (by decide)).trans (by show R.ok (D.int (((f+(j+1):Nat):Int) % ((26:Nat):Int))) _=_;rw [<-Int.natCast_emod])
    have gx:gIx (.str (S az)) (cu ((f+(j+1)) % 26)) [o4, .lst (ns.map nmD)] = .ok (.str (S [az[(f+(j+1)) % 26]?.getD 0])) [o4, .lst (ns.map nmD)]:=ais (dj (by rw [a7b];omega)) (alo _)
    have cut:s2 jb (s2 jb (a2h (sV 3) oN (oS (sV 4))) (sV 7)) (a2h (sV 3) (oS (s2 jb (sV 4) (sC (.int 1)))) oN) [some (.ref 0),some (.ref 1),some (.str (S az)),some (nmD (nx x0 a f j)),some (cu a),some (cu f),some (cu (j+1)),some (.str (S [az[(f+(j+1)) % 26]?.getD 0]))] [o4, .lst (ns.map nmD)] = .ok (nmD (nx x0 a f (j+1))) [o4, .lst (ns.map nmD)]:=by
     refine ag (ig (ig (ahs (cj rfl) EVT.aht (ahr (cj rfl)) (atc a (dj (by omega)))) (cj rfl) (a8h (dj (by simp only [aV,ax];omega)))) (ahs (cj rfl) (ahr (ig (cj rfl) (iw _ _ _) (amw (b:=1)))) EVT.aht (aa2 (a+1) (dj (by omega)))) (a8h (dj (by simp only [ap,aV,bq,ax];omega)))) ?_
     rw [au0 ha];rfl
    refine ⟨_,_,26 - (j+1),ag (sy (aa9 rfl (iw _ _ _) rfl)) (ag (jm (ig (cj rfl) (ig (ig (cj rfl) (cj rfl) (amw (b:=j+1))) (iw _ _ _) md) gx)) (a93 cut)),by omega,j+1,_,rfl,rfl,rfl,few,λi hi=>?_⟩
    by_cases z:i=j
    ·subst z;exact q
    ·exact all i (by omega)
   ·left
    rw [aY q] at c;exact ⟨_,c,j,t7,rfl,rfl,q⟩)
  26 100000 [some (.ref 0),some (.ref 1),some (.str (S az)),some (nmD (nx x0 a f 0)),some (cu a),some (cu f),some (cu 0),none] [o4, .lst (ns.map nmD)] (by omega) ⟨0,none,rfl,rfl,rfl,by omega,λi hi=>absurd hi (by omega)⟩ with ⟨τ',h',ew,j,t7,rfl,rfl,nin⟩ | ⟨_,_,_,z⟩
 ·refine ⟨nx x0 a f j,o4,Dr2.of rfl (by simp) P.clo (a6h ns) ?_ (ax9 (h:=[]) (jc _) P4.clo (a6h ns)) (jc _) P4.clo (a6h ns),awe X,nin,P4⟩
  unfold m8;rw [jq];show toR (a1j SRC.ak [some (.ref 0),some (.ref 1),none,none,none,none,none,none] [o, .lst (ns.map nmD)])=_;unfold a1j;rw [ayr];refine ag (af toR (jm (iw _ _ _))) ?_;refine ag (af toR (jm (K76.auy (z:=S []) (iw _ _ _) (arg1 e2) jn))) ?_;refine ag (af toR (e3 _)) ?_;refine ag (af toR (jm (uw (cj rfl) (uv (cj rfl) (a3v (dj (by omega)))) (EVT.a8q e4)))) ?_
  refine ag (af toR (jm (K76.auy (cj rfl) (arg1 (ig (cj rfl) (cj rfl) (ais (dj (by omega)) (ad ha)))) fx))) ?_
  refine ag (af toR (jm (iw _ _ _))) ?_;rw [start] at ew;refine ag (af toR (sy ew)) ?_;exact af toR (jy (cj rfl))
 ·exact z.elim
abbrev Rule:=List Nat × Sh
abbrev rlD(r:Rule):D:=.tup [nmD r.1,sd r.2]
abbrev bkD(tg:List Nat)(rs:List Rule):D:=.tup [.str (S tg), .tup (rs.map rlD)]
theorem au1(r:Rule):MI.clo 0 (rlD r):=nu (gf (jc _) (gf (zg _) j8))
theorem adh(tg:List Nat)(rs:List Rule):MI.clo 0 (bkD tg rs):=nu (gf (jc _) (gf (nu (j4 λr _=>au1 r)) j8))
def rw8(rs:List Rule):Nat:=wts (rs.map Prod.snd)
structure Bk (tg:List Nat) (p:Nat) (rs:List Rule):Prop where
 few:rs.length<=6
 nm:∀ r∈rs,Nm r.1
 sh:∀ r∈rs,a1q tg 5 r.2
 nd:∀ r∈rs,Nd r.2
 un:(rs.map Prod.fst).Nodup
 wt:rw8 rs<=p
theorem ays(r:Nat)(h:r<8)(h':Hd):∃ m:Nat,m<=6/\gIx (.tup [.int 0, .int 1, .int 1, .int 2, .int 2, .int 3, .int 4, .int 6]) (cu r) h' = .ok (cu m) h':=by
 rcases r with _ | _ | _ | _ | _ | _ | _ | _ | r
 ·exact ⟨0,by decide,rfl⟩
 ·exact ⟨1,by decide,rfl⟩
 ·exact ⟨1,by decide,rfl⟩
 ·exact ⟨2,by decide,rfl⟩
 ·exact ⟨2,by decide,rfl⟩
 ·exact ⟨3,by decide,rfl⟩
 ·exact ⟨4,by decide,rfl⟩
 ·exact ⟨6,by decide,rfl⟩
 ·omega
theorem amy{tg:List Nat}{s:Sh}:∀ {d e:Nat},d<=e->a1q tg d s->a1q tg e s
 | d,0,h,k=>by cases Nat.le_zero.mp h;exact k
 | d,e+1,h,k=>by
  by_cases q:d=e+1
  ·subst q;exact k
  ·exact ai2 (amy (d:=d) (e:=e) (by omega) k)
theorem ayt{u u' A B p q:O}{gs:Hd}:((u::A::B::(gs++[p])).set 0 u').set (gs.length+3) q=u'::A::B::(gs++[q]):=by simp
noncomputable def lq:SF:=qj (a1k SRC.ak m8 (iu 5) (di 5)) 9
theorem aps{tg:List Nat}(t1:1<=tg.length)(t6:tg.length<=6)(nd:tg.Nodup){p:Nat}(hp:p<=1000){o:O}{N:Nat}(P:Src o N)(hN:N<=100000000):∃ rs o',Dr lq 3 [.str (S tg),cu p] o (bkD tg rs) o'/\Bk tg p rs/\Src o' (N+30000000):=by
 obtain ⟨r,o1,e1,rb,P1⟩:=dw (m:=8) P (by omega) (by decide) (by decide)
 obtain ⟨k,k6,hk⟩:=ays r (by omega) [o1, .lst [], .lst []]
 have b5:bnd 5=3361400:=by decide
 obtain ⟨τ',h',e2,rs,u,gs,t5,t6',t7,t8,rfl,rfl,P2,ln,nm,sh,nds,un,wt,cg⟩:=um (g:=kN 5) (b:=ye SRC.ak m8 (iu 5) (di 5)) cu
  (λpre τ h=>∃ (rs:List Rule) (u:O) (gs:Hd) (t5 t6 t7 t8:Option D),τ=[some (.ref 0),some (.str (S tg)),some (cu (p - rw8 rs)),some (.ref 1),some (.ref 2),t5,t6,t7,t8]/\h=u::.lst ((rs.map Prod.fst).map nmD)::.lst (rs.map rlD)::gs/\Src u (N+1+pre.length*4000000)/\rs.length=pre.length/\(∀ r∈rs,Nm r.1)/\(∀ r∈rs,a1q tg 5 r.2)/\(∀ r∈rs,Nd r.2)/\(rs.map Prod.fst).Nodup/\rw8 rs<=p/\∀ v∈gs,u5 0 v)
  (List.range k) [some (.ref 0),some (.str (S tg)),some (cu p),some (.ref 1),some (.ref 2),none,none,none,none] [o1, .lst [], .lst []] (by
   rintro pre i post τ h al ⟨rs,u,gs,t5,t6',t7,t8,rfl,rfl,P2,ln,nm,sh,nds,un,wt,cg⟩
   have hl:pre.length<k:=by
    have:=af List.length al
    simp at this;omega
   have kb:pre.length*4000000<=5*4000000:=bX _ (by omega)
   obtain ⟨d,u1,ed,db,P3⟩:=dw (m:=4) P2 (by omega) (by decide) (by decide)
   have bd:=amv (d:=d+2) (e:=5) (by omega)
   rw [b5] at bd;obtain ⟨s,u2,ks,ws,ns,es,P4⟩:=adb t1 t6 nd (d+1) 4 (by omega) (by omega) u1 _ (p - rw8 rs) 24 P3 (by rw [show d+1+1=d+2 from rfl];omega) (by omega)
   obtain ⟨x,u3,ex,X,nin,P5⟩:=apr (ns:=rs.map Prod.fst) (by rw [am];omega) (λy hy=>by obtain ⟨q,hq,rfl⟩:=bD.mp hy;exact nm q hq) P4 (by rw [show d+1+1=d+2 from rfl];omega)
   have ks5:a1q tg 5 s:=amy (by omega) ks
   have c1:=a6e (tg:=tg) 5 5 (by omega) s ks5
   have wa:rw8 (rs++[(x,s)])=rw8 rs+DRW.wt s:=by unfold rw8;rw [bg];exact a8y _ _
   let A:O:=.lst ((rs.map Prod.fst).map nmD)
   let B:O:=.lst (rs.map rlD)
   have nl:MI.vy [.int 24] (u1::A::B::gs) = .ok (.ref (gs.length+3)) (u1::A::B::(gs++[.lst [.int 24]])):=aA (dj (by simp))
   have ea:=es 0 (gs.length+3) (u1::A::B::(gs++[.lst [.int 24]])) (by omega) rfl (by simp)
   rw [ayt] at ea;have en:kj false 2 m8 [.ref 0, .ref 1] (u2::A::B::(gs++[.lst [.int (24 - pn s)]])) = .ok (nmD x) (u3::A::B::(gs++[.lst [.int (24 - pn s)]])):=ex 0 1 _ (by decide) rfl rfl
   have a2:jb (.int 2) (cu d) (u1::A::B::gs) = .ok (cu (d+1+1)) (u1::A::B::gs):=(amw (a:=2)).trans (by rw [show 2+d=d+1+1 by omega])
   have sb:MI.a6i (cu (p - rw8 rs)) (cu (DRW.wt s)) (u3::A::B::(gs++[.lst [.int (24 - pn s)]])) = .ok (cu (p - rw8 (rs++[(x,s)]))) (u3::A::B::(gs++[.lst [.int (24 - pn s)]])):=by
    rw [a1z,wa,show ((p - rw8 rs:Nat):Int) - (DRW.wt s:Nat)=((p - (rw8 rs+DRW.wt s):Nat):Int) by omega]
   refine ⟨_,_,rfl,?_⟩;show ∃ τ2 h2,ye SRC.ak m8 (iu 5) (di 5) [some (.ref 0),some (.str (S tg)),some (cu (p - rw8 rs)),some (.ref 1),some (.ref 2),some (cu i),t6',t7,t8] (u::A::B::gs) = .nx τ2 h2/\_;unfold ye;refine ⟨_,_,ag (jm (ig (iw _ _ _) (uw (cj rfl) (iw _ _ _) (EVT.a8q ed)) a2)) (ag (jm (PAP.aof (PAP.j7 (cj rfl) (PAP.j7 (cj rfl) (PAP.j7 (cj rfl) (PAP.j7 (cj rfl) (PAP.j7 (PAP.aof (arg1 (iw _ _ _)) nl) EVT.wj))))) ea)) (ag (jm (uw (cj rfl) (cj rfl) en)) (ag (sy (aa9 rfl (uv (cj rfl) (c1 _)) sb)) (ag (sy (aa8 (cj rfl) rfl (arg1 (cj rfl)) (ad3 (i:=1) rfl (ad4 (by simp;omega))))) (aa8 (cj rfl) rfl (arg1 (uw (cj rfl) (cj rfl) abg)) (ad3 (i:=2) rfl (ad4 (by simp;omega)))))))),rs++[(x,s)],u3,gs++[.lst [.int (24 - pn s)]],some (cu i),some (cu (d+1+1)),some (sd s),some (nmD x),rfl,?_,?_,?_,?_,?_,?_,?_,?_,?_⟩
   ·rw [bg,bg,bg];rfl
   ·rw [ap,ax];exact P5.up (by rw [show d+1+1=d+2 from rfl];omega)
   ·rw [ap,ap,ln];rfl
   ·intro q hq
    rcases aQ.mp hq with hq | hq
    ·exact nm q hq
    ·rw [av.mp hq];exact X
   ·intro q hq
    rcases aQ.mp hq with hq | hq
    ·exact sh q hq
    ·rw [av.mp hq];exact ks5
   ·intro q hq
    rcases aQ.mp hq with hq | hq
    ·exact nds q hq
    ·rw [av.mp hq];exact ns
   ·rw [bg,bA];refine ⟨un,by simp,λy hy z hz e=>?_⟩
    rw [List.map_singleton,av] at hz;subst hz e;exact nin hy
   ·rw [wa];omega
   ·intro v hv
    rcases aQ.mp hv with hv | hv
    ·exact cg v hv
    ·rw [av.mp hv];exact a8w _) ⟨[],o1,[],none,none,none,none,by rw [show rw8 []=0 by unfold rw8;rw [cL,wts]];rfl,rfl,by simpa using P1,rfl,by simp,by simp,by simp,by simp,by unfold rw8;rw [cL,wts];omega,by simp⟩
 rw [aG] at P2 ln;have kb:k*4000000<=6*4000000:=bX _ k6;refine ⟨rs,u,Dr.of rfl (λy hy=>by simp only [aD,aN,cn] at hy;rcases hy with rfl | rfl;exact jc _;exact iy _) P.clo (r:=.ok (bkD tg rs) (u::.lst ((rs.map Prod.fst).map nmD)::.lst (rs.map rlD)::gs)) ?_ (xx (ach (by omega) (adh tg rs)) (by simpa using a0t (by omega) P2.clo)) (adh tg rs) P2.clo,⟨by omega,nm,sh,nds,un,wt⟩,P2.up (by omega)⟩
 unfold lq;rw [jq];show toR (a1k SRC.ak m8 (iu 5) (di 5) [some (.ref 0),some (.str (S tg)),some (cu p),none,none,none,none,none,none] [o])=_;unfold a1k;have n1:MI.vy [] [o] = .ok (.ref 1) [o, .lst []]:=aA (dj (by simp))
 have n2:MI.vy [] [o, .lst []] = .ok (.ref 2) [o, .lst [], .lst []]:=aA (dj (by simp))
 refine ag (af toR (jm (PAP.aof EVT.wj n1))) ?_;refine ag (af toR (jm (PAP.aof EVT.wj n2))) ?_;have t8:MI.wk [.int 0, .int 1, .int 1, .int 2, .int 2, .int 3, .int 4, .int 6] [o, .lst [], .lst []] = .ok (.tup [.int 0, .int 1, .int 1, .int 2, .int 2, .int 3, .int 4, .int 6]) [o, .lst [], .lst []]:=by unfold MI.wk;rw [aA (dj (by simp))]
 have it:sRg v6 (aj (s2 gIx (sA MI.wk (aj (sC (.int 0)) (aj (sC (.int 1)) (aj (sC (.int 1)) (aj (sC (.int 2)) (aj (sC (.int 2)) (aj (sC (.int 3)) (aj (sC (.int 4)) (aj (sC (.int 6)) dq))))))))) (sA (kj false 2 SRC.ak) (aj (sV 0) (aj (sC (.int 8)) dq)))) dq) [some (.ref 0),some (.str (S tg)),some (cu p),some (.ref 1),some (.ref 2),none,none,none,none] [o, .lst [], .lst []] = .ok ⟨(List.range k).map cu,λ_=>True⟩ [o1, .lst [], .lst []]:=by
  unfold sRg;rw [arg1 (ig (PAP.aof (PAP.j7 (iw _ _ _) (PAP.j7 (iw _ _ _) (PAP.j7 (iw _ _ _) (PAP.j7 (iw _ _ _) (PAP.j7 (iw _ _ _) (PAP.j7 (iw _ _ _) (PAP.j7 (iw _ _ _) (PAP.j7 (iw _ _ _) EVT.wj)))))))) t8) (uw (cj rfl) (iw _ _ _) (EVT.a8q e1)) hk),du];exact aa6 _ (dj (by omega))
 refine ag (af toR (a4l it)) ?_;refine ag (af (λz=>toR (MI.thn z _)) e2) ?_;rw [a1s];exact af toR (jy (uw (cj rfl) (uv (cj rfl) (ahl (xs:=rs.map rlD) rfl)) abg))
theorem a68(x:Nat):∀ l:List Nat,inD (cu x) (l.map cu)=decide (x∈l)
 | []=>by simp [inD]
 | y::l=>by
  show (eqF (cu y) (cu x) || inD (cu x) (l.map cu))=_
  rw [a68 x l];show (((y:Int) == (x:Int)) || decide (x∈l))=_
  by_cases h:y=x
  ·subst h;simp
  ·have:((y:Int) == (x:Int))=false:=cB.mpr (by omega)
   rw [this,Bool.false_or];exact decide_eq_decide.mpr (by simp [cX h])
theorem adi(l:List Nat):(l.map cu).all zj=true:=by
 rw [br]
 intro x hx
 obtain ⟨y,_,rfl⟩:=bD.mp hx;rfl
theorem au2(x:Nat)(l:List Nat)(h:Hd):gIn false (cu x) (.tup (l.map cu)) h = .ok (.bl (decide (x∈l))) h:=by
 show (if zj (cu x)=true/\(l.map cu).all zj=true then R.ok (D.bl (if false=true then !inD (cu x) (l.map cu) else inD (cu x) (l.map cu))) h else .no)=_
 rw [aA ⟨rfl,adi l⟩,aL (by decide),a68]
theorem au3(x:Nat)(l:List Nat)(h:Hd):gIn false (cu x) (lsD l) h = .ok (.bl (decide (x∈l))) h:=by
 show (if zj (cu x)=true/\(l.map cu).all zj=true then R.ok (D.bl (if false=true then !inD (cu x) (l.map cu) else inD (cu x) (l.map cu))) h else .no)=_
 rw [aA ⟨rfl,adi l⟩,aL (by decide),a68]
open Classical in
noncomputable def tk(w:List Nat)(s:Sh):Bool:=decide (En w 5 s 0 w.length)
theorem au4(w:List Nat)(s:Sh):decide (w.length∈fl w.length (En w 5 s) 0)=tk w s:=by
 unfold tk;refine decide_eq_decide.mpr ?_;rw [p6];exact ⟨λh=>h.2,λh=>⟨ar _,h⟩⟩
noncomputable def vf:SF:=qj (a8f (ie 5)) 4
section
variable{tg w:List Nat}{s:Sh}
theorem alp(hw:w.length+1<=60)(k:a1q tg 5 s):Pu vf 2 [sd s, .str (S w)] (.bl (tk w s)):=by
 refine pu1 rfl (a0l (zg s) (jc _)) (a9q _) ?_;unfold vf;rw [jq];show toR (a8f (ie 5) [some (sd s),some (.str (S w)),none,none] [])=_;unfold a8f;refine ag (af toR (sy (ati (uw (cj rfl) (cj rfl) (ai9 hw 5 5 (by decide) s k _)) (show a9g 2 (ug (kN 2) (ug (kN 3) aaj)) (tr w 5 s) [some (sd s),some (.str (S w)),none,none] [] = .nx [some (sd s),some (.str (S w)),some (rwE w 5 s),some (.rol ((kids s).map (tr w 4)))] [] from rfl)))) ?_
 have x0:gIx (rwE w 5 s) (.int 0) [] = .ok (.tup ((fl w.length (En w 5 s) 0).map cu)) []:=apf (a:=0) _ (bE _);refine af toR (jy (ig (uv (cj rfl) (a3v (dj (by omega)))) (ig (cj rfl) (iw _ _ _) x0) ((au2 _ _ _).trans ?_)))
 rw [au4]
theorem aik(hw:w.length+1<=60)(k:a1q tg 5 s){fl' fs fw:SE}{τ:Sd}{h:Hd}(e0:fl' τ h = .ok (cu w.length) h)(e1:fs τ h = .ok (sd s) h)(e2:fw τ h = .ok (.str (S w)) h):s2 (gIn false) fl' (s2 gIx (sA (kj false 2 (bz 5)) (aj fs (aj fw dq))) (sC (.int 0))) τ h = .ok (.bl (tk w s)) h:=by
 have x1:gIx (rwL w.length (En w 5 s)) (.int 0) h = .ok (lsD (fl w.length (En w 5 s) 0)) h:=a79 (a:=0) _ (bE _);refine ig e0 (ig (uw e1 e2 (adf hw 5 5 (by decide) s k _)) (iw _ _ _) x1) ((au3 _ _ _).trans ?_)
 rw [au4]
end
mutual
theorem adk{tg:List Nat}:∀ {d:Nat} {s:Sh},a1q tg d s->pur (2*d) (sd s)=true
 | 0,_,k=>k.elim
 | d+1, .one sg,_=>by rw [sd,show 2*(d+1)=2*d+1+1 by omega];rfl
 | d+1, .row ps,k=>by
  rw [sd,show 2*(d+1)=2*d+1+1 by omega]
  show ((true && ((sds ps).all (pur (2*d)) && true))=true);rw [abo k.2];rfl
 | d+1, .eit ps,k=>by
  rw [sd,show 2*(d+1)=2*d+1+1 by omega]
  show ((true && ((sds ps).all (pur (2*d)) && true))=true);rw [abo k.2.2];rfl
 | d+1, .many p,k=>by
  rw [sd,show 2*(d+1)=2*d+1+1 by omega]
  show ((true && (pur (2*d+1) (sd p) && true))=true);rw [ag6 (by omega) (adk (d:=d) (s:=p) k)];rfl
 | d+1, .tim p lo hi,k=>by
  rw [sd,show 2*(d+1)=2*d+1+1 by omega]
  show ((true && (pur (2*d+1) (sd p) && (pur (2*d+1) (cu lo) && (pur (2*d+1) (cu hi) && true))))=true);rw [ag6 (by omega) (adk (d:=d) (s:=p) k.2.2)];rfl
theorem abo{tg:List Nat}:∀ {d:Nat} {ps:List Sh},(∀ p∈ps,a1q tg d p)->(sds ps).all (pur (2*d))=true
 | _,[],_=>by rw [sds];rfl
 | d,p::ps,k=>by
  rw [sds,eC,adk (k p aF),abo λq hq=>k q (aC _ hq)];rfl
end
theorem au5{tg:List Nat}{rs:List Rule}(sh:∀ r∈rs,a1q tg 5 r.2):(rs.map rlD).all (pur 59)=true:=by
 rw [br]
 intro x hx
 obtain ⟨r,hr,rfl⟩:=bD.mp hx;show ((true && (pur 58 (sd r.2) && true))=true);rw [ag6 (by omega) (adk (sh r hr))]
 rfl
theorem ail{tg:List Nat}{rs:List Rule}(sh:∀ r∈rs,a1q tg 5 r.2)(h:Hd):hNe (.tup (rs.map rlD)) (.tup []) h = .ok (.bl (!rs.isEmpty)) h:=by
 unfold hNe;rw [aA ⟨au5 sh,rfl⟩]
 cases rs<;>rfl
end DRW
namespace K17
open PySem PySem.Spec L2 MI AT HND EVX SHD
open PAP hiding j7 ad6 aex a2a aab aof
open ENG (a0l)
open DRW
open SRC (Src)
local macro_rules | `(tactic| walk_at "c") => `(tactic| first | assumption | exact iy _ | (with_reducible exact EVT.a4u) | exact jc _ | exact a9q _ | exact a3r | exact j8 | ((with_reducible apply gf)<;>walk_at "c") | ((with_reducible apply nu);walk_at "c") | ((with_reducible apply xf);walk_at "c") | ((with_reducible apply EVT.a0f)<;>walk_at "c") | ((with_reducible apply EVT.a0y);walk_at "c") | ((with_reducible apply EVT.a0z);walk_at "c") | ((with_reducible apply EVT.a4s);walk_at "c") | ((with_reducible apply EVT.a4t);walk_at "c") | ((with_reducible apply EVT.a4v)<;>walk_at "c") | exact j4 fun _ _=>iy _ | exact j4 fun _ _=>jc _)
local macro_rules | `(tactic| walk_at "h") => `(tactic| first | assumption | exact EVT.a8u | exact EVT.a1a (by assumption))
local macro_rules | `(tactic| walk_at "z") => `(tactic| first | assumption | omega | (simp only [aS,c6,ap,aV,bq,am,ax,EVT.a8t,Int.reduceToNat]<;>omega))
local macro_rules | `(tactic| walk_at "l") => `(tactic| first
 | (with_reducible assumption)
 | (with_reducible exact aex) | (with_reducible exact ad6) | (with_reducible exact abg) | (with_reducible exact aut)
 | (with_reducible exact EVT.a69) | (with_reducible exact EVT.a3c)
 | ((with_reducible apply EVT.PuE);with_reducible assumption)
 | ((with_reducible apply EVT.a8q);with_reducible assumption)
 | (with_reducible exact EVT.ala _ _) | (with_reducible exact PAP.auv _ _ _) | (with_reducible exact PAP.ad7 _ _ _)
 | ((with_reducible apply PAP.al7);walk_at "z")
 | ((with_reducible apply EVT.al8);walk_at "z")
 | ((with_reducible apply EVT.al9);walk_at "z")
 | (with_reducible exact a1z _ _) | (with_reducible exact a8o _) | (with_reducible exact a0x _)
 | ((with_reducible apply ahm);walk_at "z") | ((with_reducible apply al3);walk_at "z")
 | ((with_reducible apply apw);walk_at "z") | ((with_reducible apply apx);walk_at "z")
 | ((with_reducible apply aaa);walk_at "z") | ((with_reducible apply abf);walk_at "z")
 | ((with_reducible apply al4);walk_at "z") | ((with_reducible apply ahn);walk_at "z")
 | exact rfl)
local macro_rules | `(tactic| walk_at "x") => `(tactic| first
 | (with_reducible assumption)
 | (with_reducible exact iw _ _ _)
 | ((with_reducible apply cj);exact rfl)
 | (with_reducible exact EVT.wj) | (with_reducible exact EVT.aht)
 | ((with_reducible apply EVT.uy);walk_at "x";exact rfl;walk_at "c";walk_at "h";walk_at "z")
 | ((with_reducible apply EVT.a8r);walk_at "x";exact rfl;walk_at "c";walk_at "h")
 | ((with_reducible apply EVT.a8s);walk_at "x";exact rfl;walk_at "h";walk_at "z")
 | ((with_reducible apply EVT.aad);walk_at "x";walk_at "x";exact rfl;walk_at "c";walk_at "c";walk_at "h";walk_at "z")
 | ((with_reducible apply EVT.aae);walk_at "x";walk_at "x";exact rfl;walk_at "c";walk_at "h";walk_at "z";walk_at "z")
 | ((with_reducible apply EVT.a2a);walk_at "h")
 | ((with_reducible apply ig);walk_at "x";walk_at "x";walk_at "l")
 | ((with_reducible apply ahj);walk_at "x";walk_at "l")
 | ((with_reducible apply PAP.aof);walk_at "x";walk_at "l")
 | ((with_reducible apply PAP.j7);walk_at "x";walk_at "x")
 | ((with_reducible apply ahs);walk_at "x";walk_at "x";walk_at "x";walk_at "l")
 | ((with_reducible apply ahr);walk_at "x")
 | ((with_reducible apply tof);walk_at "x")
 | ((with_reducible apply abe);walk_at "x";walk_at "l")
 | ((with_reducible apply ath);walk_at "x") | ((with_reducible apply aus);walk_at "x")
 | ((with_reducible apply aew);walk_at "x";walk_at "x") | ((with_reducible apply amq);walk_at "x")
 | ((with_reducible apply orT);walk_at "x") | ((with_reducible apply orF);walk_at "x";walk_at "x"))
local macro_rules | `(tactic| walk_at "l") => `(tactic| first | (with_reducible exact SHD.ix0) | (with_reducible exact SHD.ix1) | (with_reducible exact SHD.ix2) | (with_reducible exact SHD.ix3) | (with_reducible exact SHD.auz) | ((with_reducible apply SHD.av0);exact (by decide)) | (with_reducible exact SHD.av2) | ((with_reducible apply SHD.av1);exact (by decide)) | (with_reducible exact SHD.abj) | (with_reducible exact SHD.a8x))
def Fst(p:Rule->Bool)(rs:List Rule)(d:D):Prop:=(∃ i r,d=cu i/\rs[i]? = some r/\p r=true/\∀ j r',j<i->rs[j]? = some r'->p r'=false)\/(d = .int (-1)/\∀ r∈rs,p r=false)
theorem Fst.uni{p:Rule->Bool}{rs:List Rule}{d d':D}:Fst p rs d->Fst p rs d'->d=d'
 | .inl ⟨i,r,e,g,t,l⟩, .inl ⟨i',r',e',g',t',l'⟩=>by
  rcases Nat.lt_trichotomy i i' with h | h | h
  ·rw [l' i r h g] at t;cases t
  ·rw [e,e',h]
  ·rw [l i' r' h g'] at t';cases t'
 | .inl ⟨i,r,_,g,t,_⟩, .inr ⟨_,a⟩=>by rw [a r (aT g)] at t;cases t
 | .inr ⟨_,a⟩, .inl ⟨i,r,_,g,t,_⟩=>by rw [a r (aT g)] at t;cases t
 | .inr ⟨e,_⟩, .inr ⟨e',_⟩=>by rw [e,e']
theorem Fst.int{p:Rule->Bool}{rs:List Rule}{d:D}:Fst p rs d->∃ x:Int,d = .int x
 | .inl ⟨i,_,e,_⟩=>⟨i,e⟩
 | .inr ⟨e,_⟩=>⟨-1,e⟩
def Knd(w:List Nat)(rs:List Rule)(d:D):Prop:=(w=[]/\d = .int (-1))\/(w≠[]/\Fst (λr=>tk w r.2) rs d)
theorem Knd.uni{w:List Nat}{rs:List Rule}{d d':D}:Knd w rs d->Knd w rs d'->d=d'
 | .inl ⟨_,e⟩, .inl ⟨_,e'⟩=>by rw [e,e']
 | .inl ⟨z,_⟩, .inr ⟨n,_⟩=>absurd z n
 | .inr ⟨n,_⟩, .inl ⟨z,_⟩=>absurd z n
 | .inr ⟨_,a⟩, .inr ⟨_,b⟩=>a.uni b
theorem Knd.int{w:List Nat}{rs:List Rule}{d:D}:Knd w rs d->∃ x:Int,d = .int x
 | .inl ⟨_,e⟩=>⟨-1,e⟩
 | .inr ⟨_,a⟩=>a.int
theorem a92(w:List Nat)(h:Hd):hEq (.str (S w)) (.str "") h = .ok (.bl (decide (w=[]))) h:=by
 rw [ap9];have:=atb w [];rw [show (S w == ("" : Str))=decide (w=[]) from this]
noncomputable def gm:SF:=qj (sr vf) 7
theorem aim{tg w:List Nat}{rs:List Rule}(hw:w.length<=16)(sh:∀ r∈rs,a1q tg 5 r.2):∃ d,Pu gm 2 [bkD tg rs, .str (S w)] d/\Knd w rs d:=by
 have cl:∀ x∈[bkD tg rs, .str (S w)],MI.clo 0 x:=a0l (adh _ _) (jc _);have go:gm [bkD tg rs, .str (S w)] []=toR (jd (sIf (sT (s2 hEq (sV 1) (sC (.str "")))) (qg (s1 aaw (sC (.int 1)))) sNx) (jd (a7q (aaz (sV 3)) (a9g 2 (ug (kN 4) (ug (a9g 2 (ug (kN 5) (ug (kN 6) aaj))) aaj))) (o7 vf)) (qg (s1 aaw (sC (.int 1))))) [some (bkD tg rs),some (.str (S w)),some (.str (S tg)),some (.tup (rs.map rlD)),none,none,none] []):=by
  unfold gm;rw [jq];show toR (sr vf [some (bkD tg rs),some (.str (S w)),none,none,none,none,none] [])=_;unfold sr;exact af toR (sy (ati (cj rfl) rfl))
 by_cases w0:w=[]
 ·refine ⟨.int (-1),pu1 rfl cl (iy _) (go.trans ?_), .inl ⟨w0,rfl⟩⟩;exact af toR (uc (ag (ifT (h1:=[]) (tof (ig (cj rfl) (iw _ _ _) ((a92 w _).trans (by rw [cF w0]))))) (jy (ahj (iw _ _ _) (a8o _)))))
 have en:aaz (sV 3) [some (bkD tg rs),some (.str (S w)),some (.str (S tg)),some (.tup (rs.map rlD)),none,none,none] [] = .ok ⟨((List.range rs.length).zip rs).map λp=>.tup [cu p.1,rlD p.2],λ_=>True⟩ []:=by
  unfold aaz;rw [cj rfl,du];show R.ok (⟨((List.range (rs.map rlD).length).zip (rs.map rlD)).map λp=>.tup [.int (p.1:Nat),p.2],λ_=>True⟩:Itm) []=_;rw [am,List.zip_map_right,cJ];rfl
 have lp:=a85 (g:=a9g 2 (ug (kN 4) (ug (a9g 2 (ug (kN 5) (ug (kN 6) aaj))) aaj))) (b:=o7 vf) (λp:Nat × Rule=>D.tup [cu p.1,rlD p.2]) (λpre τ h=>(∃ t4 t5 t6:Option D,τ=[some (bkD tg rs),some (.str (S w)),some (.str (S tg)),some (.tup (rs.map rlD)),t4,t5,t6])/\h=[]/\∀ p∈pre,tk w p.2.2=false) (λd h=>h=[]/\Fst (λr=>tk w r.2) rs d) ((List.range rs.length).zip rs) [] [some (bkD tg rs),some (.str (S w)),some (.str (S tg)),some (.tup (rs.map rlD)),none,none,none] []
  (by
   rintro pre ⟨i,r⟩ post τ h al ⟨⟨t4,t5,t6,rfl⟩,rfl,no⟩
   rw [cI] at al;have a2:=af (List.map Prod.snd) al;rw [gN (by rw [aG];exact ar _),bg,aZ] at a2
   have a1:=af (List.map Prod.fst) al;rw [List.map_fst_zip (by rw [aG];exact ar _),bg,aZ] at a1
   have hi:i=pre.length:=by
    have h1:(List.range rs.length)[pre.length]? = some i:=by rw [a1,aB (by rw [am];exact ar _),am,fP];rfl
    obtain ⟨h2,h3⟩:=ah.mp h1;rw [fQ] at h3;exact h3.symm
   subst hi;have hr:r∈rs:=by rw [a2];simp
   refine ⟨_,_,rfl,?_⟩;have c:afp (sA (kj false 2 vf) (aj (sV 6) (aj (sV 1) dq))) [some (bkD tg rs),some (.str (S w)),some (.str (S tg)),some (.tup (rs.map rlD)),some (cu pre.length),some (nmD r.1),some (sd r.2)] [] = .ok (tk w r.2) []:=abe (uw (cj rfl) (cj rfl) (alp (by omega) (sh r hr) _)) (a0x _)
   by_cases q:tk w r.2=true
   ·right
    rw [q] at c;refine ⟨cu pre.length,[],ag (ifT c) (jy (cj rfl)),rfl, .inl ⟨pre.length,r,rfl,?_,q,λj r' hj gj=>?_⟩⟩
    ·rw [a2,aB (by rw [am];exact ar _),am,fP];rfl
    ·rw [a2,aI (by rw [am];exact hj)] at gj
     obtain ⟨p,hp,rfl⟩:=bD.mp (aT gj);exact no p hp
   ·left
    have q:tk w r.2=false:=by simpa using q
    rw [q] at c;refine ⟨_,_,ifF c,⟨_,_,_,rfl⟩,rfl,λp hp=>?_⟩
    rcases aQ.mp hp with hp | hp
    ·exact no p hp
    ·rw [av.mp hp];exact q) ⟨⟨_,_,_,rfl⟩,rfl,by simp⟩
 have st:∀ r,MI.thn (forL (λ_=>True) (a9g 2 (ug (kN 4) (ug (a9g 2 (ug (kN 5) (ug (kN 6) aaj))) aaj))) (o7 vf) (((List.range rs.length).zip rs).map λp=>.tup [cu p.1,rlD p.2]) [some (bkD tg rs),some (.str (S w)),some (.str (S tg)),some (.tup (rs.map rlD)),none,none,none] []) (qg (s1 aaw (sC (.int 1))))=r->gm [bkD tg rs, .str (S w)] []=toR r:=λr e=>by
  refine go.trans ?_;refine ag (af toR (ifN (h1:=[]) (tof (ig (cj rfl) (iw _ _ _) ((a92 w _).trans (by rw [aY w0])))))) ?_
  refine ag (af toR (a4l en)) ?_;rw [e]
 rcases lp with ⟨τ',h',e,⟨t4,t5,t6,rfl⟩,rfl,no⟩ | ⟨d,h',e,rfl,f⟩
 ·refine ⟨.int (-1),pu1 rfl cl (iy _) (st (.rt (.int (-1)) []) (by rw [e,a1s];exact jy (ahj (iw _ _ _) (a8o _)))), .inr ⟨w0, .inr ⟨rfl,λr hr=>?_⟩⟩⟩
  have:r∈((List.range rs.length).zip rs).map Prod.snd:=by rw [gN (by rw [aG];exact ar _)];exact hr
  obtain ⟨p,hp,rfl⟩:=bD.mp this;exact no p (by simpa using hp)
 ·obtain ⟨x,rfl⟩:=f.int;exact ⟨_,pu1 rfl cl (iy _) (st (.rt (.int x) []) (by rw [e];rfl)), .inr ⟨w0,f⟩⟩
theorem alq{q:Nat->Bool}{n i:Nat}(hi:i<n)(h:q i=true)(l:∀ j<i,q j=false):∃ tl,(List.range n).filter q=i::tl:=by
 obtain ⟨c,rfl⟩:∃ c,n=i+(c+1):=⟨n - i - 1,by omega⟩
 rw [List.range_add,List.filter_append,cQ,aZ,bW (by simpa using h)]
 rw [List.filter_eq_nil_iff.mpr λx hx=>by rw [l x (bb.mp hx)];simp]
 exact ⟨_,rfl⟩
noncomputable def jz:SF:=qj (a1l (bz 5)) 3
theorem apt{tg w:List Nat}{rs:List Rule}(hw:w.length<=16)(few:rs.length<=6)(sh:∀ r∈rs,a1q tg 5 r.2):∃ d,Pu jz 2 [bkD tg rs, .str (S w)] d/\Knd w rs d:=by
 have cl:∀ x∈[bkD tg rs, .str (S w)],MI.clo 0 x:=a0l (adh _ _) (jc _)
 let q:Nat->Bool:=λk=>match rs[k]? with | some r=>tk w r.2 | none=>false
 have cz:sZ (a1r (sRg v6 (aj (sA rm (aj (s2 gIx (sV 0) (sC (.int 1))) dq)) dq)) MI.t1 (yf (bz 5)) (a2z (bz 5)) [0,1]) [some (bkD tg rs),some (.str (S w)),none] [] = .ok (.rol (((List.range rs.length).filter q).map cu)) []:=by
  have ff:∀ ys:List Nat,ys.filterMap (λk=>if q k=true then some (cu k) else none)=(ys.filter q).map cu:=λys=>by
   induction ys with
   | nil=>rfl
   | cons y ys ih=>by_cases z:q y=true<;>simp [z,ih]
  rw [<-ff];refine EVT.ait (h1:=[]) ?_ rfl (by rw [ff];exact ENG.xq _) (by simp)
  refine aa7 cu _ (List.range rs.length) (a3y (n:=rs.length) (uv (ig (cj rfl) (iw _ _ _) ix1) (by rw [EVT.a69,am])) (dj (by omega))) (dj (by rw [aG];omega)) λk hk=>?_
  have hk:=bb.mp hk;have gk:rs[k]? = some rs[k]:=ad hk;have qk:q k=tk w rs[k].2:=by show (match rs[k]? with | some r=>tk w r.2 | none=>false)=_;rw [gk]
  have gx:gIx (.tup (rs.map rlD)) (cu k) [] = .ok (rlD rs[k]) []:=ahk (by rw [aW,gk];rfl)
  rw [ahi];have c:yf (bz 5) [some (cu k),some (bkD tg rs),some (.str (S w))] [] = .ok (tk w rs[k].2) []:=tof (aik (by omega) (sh _ (aX hk)) (uv (cj rfl) (a3v (dj (by omega)))) (ig (ig (ig (cj rfl) (iw _ _ _) ix1) (cj rfl) gx) (iw _ _ _) ix1) (cj rfl))
  show (yf (bz 5) [some (cu k),some (bkD tg rs),some (.str (S w))] []).bind _=_;rw [c,du,<-qk]
  by_cases z:q k=true
  ·rw [aA z,aA z];show (sV 0 [some (cu k),some (bkD tg rs),some (.str (S w))] []).bind _=_;rw [cj rfl,du]
  ·rw [aL z,aL z]
 have go:jz [bkD tg rs, .str (S w)] []=toR (jd (sIf (sOr (sT (s2 hEq (sV 1) (sC (.str "")))) (sT (s2 (aeu false) (sV 2) (sZ (sA MI.vy dq))))) (qg (s1 aaw (sC (.int 1)))) sNx) (qg (s2 gIx (sV 2) (sC (.int 0)))) [some (bkD tg rs),some (.str (S w)),some (.rol (((List.range rs.length).filter q).map cu))] []):=by
  unfold jz;rw [jq];show toR (a1l (bz 5) [some (bkD tg rs),some (.str (S w)),none] [])=_;unfold a1l;exact af toR (jm cz)
 have z0:sZ (sA MI.vy dq) [some (bkD tg rs),some (.str (S w)),some (.rol (((List.range rs.length).filter q).map cu))] [] = .ok (.rol []) []:=EVT.uy EVT.wj rfl j8 (by simp) (by simp)
 have el:∀ l:List Nat,aeu false (.rol (l.map cu)) (.rol []) [] = .ok (.bl l.isEmpty) []:=λl=>by
  unfold aeu wz;dsimp only;rw [aA ⟨by rw [br];intro x hx;obtain ⟨y,_,rfl⟩:=bD.mp hx;rfl,rfl⟩]
  cases l<;>rfl
 by_cases w0:w=[]
 ·refine ⟨.int (-1),pu1 rfl cl (iy _) (go.trans ?_), .inl ⟨w0,rfl⟩⟩;exact af toR (uc (ag (ifT (h1:=[]) (orT (tof (ig (cj rfl) (iw _ _ _) ((a92 w _).trans (by rw [cF w0])))))) (jy (ahj (iw _ _ _) (a8o _)))))
 have c1:sT (s2 hEq (sV 1) (sC (.str ""))) [some (bkD tg rs),some (.str (S w)),some (.rol (((List.range rs.length).filter q).map cu))] [] = .ok false []:=tof (ig (cj rfl) (iw _ _ _) ((a92 w _).trans (by rw [aY w0])))
 have c2:sT (s2 (aeu false) (sV 2) (sZ (sA MI.vy dq))) [some (bkD tg rs),some (.str (S w)),some (.rol (((List.range rs.length).filter q).map cu))] [] = .ok ((List.range rs.length).filter q).isEmpty []:=tof (ig (cj rfl) z0 (el _))
 by_cases none_:∀ r∈rs,tk w r.2=false
 ·have e:(List.range rs.length).filter q=[]:=List.filter_eq_nil_iff.mpr λk hk=>by
   have hk:=bb.mp hk;have gk:rs[k]? = some rs[k]:=ad hk;have:q k=false:=by show (match rs[k]? with | some r=>tk w r.2 | none=>false)=_;rw [gk];exact none_ _ (aX hk)
   rw [this];simp
  refine ⟨.int (-1),pu1 rfl cl (iy _) (go.trans ?_), .inr ⟨w0, .inr ⟨rfl,none_⟩⟩⟩;rw [e] at c1 c2 ⊢;exact af toR (uc (ag (ifT (orF c1 c2)) (jy (ahj (iw _ _ _) (a8o _)))))
 ·have ex:∃ i,q i=true:=by
   refine c8 λz=>none_ λr hr=>?_;obtain ⟨i,gi⟩:=bI hr;have:¬ q i=true:=λh=>z ⟨i,h⟩;have e:q i=tk w r.2:=by show (match rs[i]? with | some r=>tk w r.2 | none=>false)=_;rw [gi]
   rw [e] at this;simpa using this
  obtain ⟨i,hi,lst⟩:∃ i,q i=true/\∀ j<i,q j=false:=by
   have fd:∀ n i,i<=n->q i=true->∃ i,q i=true/\∀ j<i,q j=false:=λn=>by
    induction n with
    | zero=>intro i h hq;exact ⟨i,hq,λj hj=>absurd hj (by omega)⟩
    | succ n ih =>
     intro i h hq
     by_cases z:∃ j,j<i/\q j=true
     ·obtain ⟨j,hj,hz⟩:=z;exact ih j (by omega) hz
     ·exact ⟨i,hq,λj hj=>by
       have:¬ q j=true:=λh=>z ⟨j,hj,h⟩
       simpa using this⟩
   obtain ⟨i,hq⟩:=ex;exact fd i i (ar _) hq
  have il:i<rs.length:=by
   refine c8 λz=>?_;have:rs[i]? = none:=eU (by omega)
   have:q i=false:=by show (match rs[i]? with | some r=>tk w r.2 | none=>false)=_;rw [this]
   rw [this] at hi;cases hi
  obtain ⟨tl,e⟩:=alq il hi lst;have qe:∀ j r,rs[j]? = some r->q j=tk w r.2:=λj r gj=>by show (match rs[j]? with | some r=>tk w r.2 | none=>false)=_;rw [gj]
  have gi:rs[i]? = some rs[i]:=ad il;refine ⟨cu i,pu1 rfl cl (iy _) (go.trans ?_), .inr ⟨w0, .inl ⟨i,rs[i],rfl,gi,(qe i _ gi).symm.trans hi,λj r' hj gj=>(qe j r' gj).symm.trans (lst j hj)⟩⟩⟩;rw [e] at c1 c2 ⊢;refine ag (af toR (ifN (orF c1 c2))) ?_;exact af toR (jy (ig (cj rfl) (iw _ _ _) (amr (j:=0) rfl)))
noncomputable def alr:SF:=qj (akx lq SRC.ak jz SRC.jk SRC.jr (iz 5) gw gm) 9
theorem au6(ns:List Int):∃ h',alr [.scr (ns.map D.int)] [] = .ok (.bl true) h':=by
 obtain ⟨o,P,es⟩:=SRC.ahp ns [];obtain ⟨tg,o1,T,e1,P1⟩:=SRC.ahq P (by omega)
 obtain ⟨t1,t6,nd⟩:1<=tg.length/\tg.length<=6/\tg.Nodup:=⟨T.lo,T.hi,T.nd⟩;obtain ⟨rs,o2,e2,B,P2⟩:=aps t1 t6 nd (p:=10) (by omega) P1 (by omega)
 have ln:∀ hh,rm [.tup (rs.map rlD)] hh = .ok (cu rs.length) hh:=λhh=>by rw [EVT.a69,am]
 obtain ⟨w,o3,hw,P3,e3⟩:∃ w o3,w.length<=15/\Src o3 60000000/\∀ (sc:D) (g:SS),jd (sIf (sT (s2 hNe (s2 gIx (sV 3) (sC (.int 1))) (sA MI.wk dq))) (km 4 (a2h (sA (kj false 2 (iz 5)) (aj (sV 1) (aj (s2 gIx (s2 gIx (s2 gIx (sV 3) (sC (.int 1))) (sA (kj false 2 SRC.ak) (aj (sV 1) (aj (sA rm (aj (s2 gIx (sV 3) (sC (.int 1))) dq)) dq)))) (sC (.int 1))) dq))) oN (oS (sC (.int 15))))) sNx) g [some sc,some (.ref 0),some (.str (S tg)),some (bkD tg rs),some (.str (S [])),none,none,none,none] [o2]=g [some sc,some (.ref 0),some (.str (S tg)),some (bkD tg rs),some (.str (S w)),none,none,none,none] [o3]:=by
  by_cases em:rs=[]
  ·subst em;refine ⟨[],o2,by simp,P2.up (by omega),λsc g=>ifN (h1:=[o2]) (tof (ig (ig (cj rfl) (iw _ _ _) ix1) (aur PAP.aex) ((ail (tg:=tg) B.sh _).trans rfl)))⟩
  ·have r0:0<rs.length:=List.length_pos_iff.mpr em;have few:=B.few;obtain ⟨r,u1,er,rb,Q1⟩:=dw (m:=(rs.length:Int)) P2 (by omega) (by omega) (by omega)
   have hr:r<rs.length:=by omega
   obtain ⟨x,u2,ex,lx,_,Q2⟩:=aii (tg:=tg) 5 5 (by omega) (by omega) rs[r].2 (B.sh _ (aX hr)) u1 _ Q1 (by rw [show bnd 5=3361400 by decide];omega)
   have gx:gIx (.tup (rs.map rlD)) (cu r) [u1] = .ok (rlD rs[r]) [u1]:=ahk (by rw [aW,ad hr];rfl)
   refine ⟨x.take 15,u2,by rw [aV];omega,Q2.up (by rw [show bnd 5=3361400 by decide];omega),λsc g=>sy (ag (ifT (h1:=[o2]) (tof (ig (ig (cj rfl) (iw _ _ _) ix1) (aur PAP.aex) ((ail (tg:=tg) B.sh _).trans (by rw [show rs.isEmpty=false by cases rs with | nil=>exact absurd rfl em | cons=>rfl];rfl))))) (a93 (ahs (uw (cj rfl) (ig (ig (ig (cj rfl) (iw _ _ _) ix1) (uw (cj rfl) (uv (ig (cj rfl) (iw _ _ _) ix1) (ln _)) (EVT.a8q er)) gx) (iw _ _ _) ix1) (EVT.a8q ex)) EVT.aht (ahr (iw _ _ _)) (atc 15 (dj (bL lx (by decide)))))))⟩
 obtain ⟨m,o4,e4,mb,P4⟩:=dw (m:=17) P3 (by omega) (by decide) (by decide)
 obtain ⟨ys,o5,e5,q,P5,_⟩:=a91 (fi:=sRg v6 (aj (sA (kj false 2 SRC.ak) (aj (sV 1) (aj (sC (.int 17)) dq))) dq)) (t:=MI.t1) (fe:=ad1 lq SRC.ak jz SRC.jk SRC.jr (iz 5) gw gm) (ix:=[1,2]) (τ:=[some (.scr (ns.map D.int)),some (.ref 0),some (.str (S tg)),some (bkD tg rs),some (.str (S w)),none,none,none,none]) (o0:=o3) (hs:=[]) (List.range m) cu (λc:Nat=>nmD [c]) (λ_ c=>c∈tg) (B:=1) (M:=60000100) P4 (by rw [aG];omega) (by rw [aG];omega) (by simp) (by
   unfold sRg;rw [arg1 (uw (cj rfl) (iw _ _ _) (EVT.a8q e4)),du];exact aa6 _ (dj (by omega))) (λi _ u M Pu hM=>by
   obtain ⟨r,u',e,rb,Pu'⟩:=dw (m:=(tg.length:Int)) Pu (by omega) (by omega) (by omega)
   have hr:r<tg.length:=by omega
   refine ⟨tg[r],u',?_,jc _,aX hr,Pu'⟩;rw [xm];exact ig (cj rfl) (uw (cj rfl) (uv (cj rfl) (a3v (dj (by omega)))) (EVT.a8q e)) (ais (dj (by omega)) (ad hr)))
 have ql:=q.len;rw [aG] at ql P5;have jn:a6l (.str (S [])) [.rol (ys.map λc:Nat=>nmD [c])] [o5] = .ok (nmD ys) [o5]:=by
  have j:=K76.ahu (ls:=ys.map λc=>[c]) (h:=[o5]) (by rw [ENG.a3d];omega)
  rw [cJ,ENG.a3d] at j;exact j
 obtain ⟨b,o6,e6,bl,_,P6⟩:=apn (w:=w) t1 t6 (by omega) P5 (by omega)
 let ws:List (List Nat):=[w,b,ys,[],w,ys]
 have wl:∀ x∈ws,x.length<=16:=λx hx=>by
  simp only [ws,aD,aN,cn] at hx
  rcases hx with rfl | rfl | rfl | rfl | rfl | rfl
  ·omega
  ·omega
  ·omega
  ·simp
  ·omega
  ·omega
 obtain ⟨τ',h',e7,_⟩:=um (g:=kN 7) (b:=a4q lq SRC.ak jz SRC.jk SRC.jr (iz 5) gw gm) nmD
  (λpre τ h=>∃ t7 t8:Option D,τ=[some (.scr (ns.map D.int)),some (.ref 0),some (.str (S tg)),some (bkD tg rs),some (.str (S w)),some (.str (S ys)),some (.str (S b)),t7,t8]/\h=[o6]) ws [some (.scr (ns.map D.int)),some (.ref 0),some (.str (S tg)),some (bkD tg rs),some (.str (S w)),some (.str (S ys)),some (.str (S b)),none,none] [o6]
  (by
   rintro pre x post τ h al ⟨t7,t8,rfl,rfl⟩
   have hx:=wl x (by rw [al];simp)
   obtain ⟨d,f1,k1⟩:=aim (tg:=tg) hx B.sh;obtain ⟨d',f2,k2⟩:=apt (tg:=tg) hx B.few B.sh;have:=k1.uni k2;subst this;obtain ⟨y,rfl⟩:=k1.int;refine ⟨_,_,rfl,?_⟩;show ∃ τ2 h2,a4q lq SRC.ak jz SRC.jk SRC.jr (iz 5) gw gm [some (.scr (ns.map D.int)),some (.ref 0),some (.str (S tg)),some (bkD tg rs),some (.str (S w)),some (.str (S ys)),some (.str (S b)),some (nmD x),t8] [o6] = .nx τ2 h2/\_;unfold a4q;have i1:a9t [.int y, .ty "int"] [o6] = .ok (.bl true) [o6]:=by simp [a9t,arp,tyD,ao2]
   have i2:a9t [.int y, .ty "bool"] [o6] = .ok (.bl false) [o6]:=by simp [a9t,arp,tyD,ao2]
   exact ⟨_,_,ag (jm (uw (cj rfl) (cj rfl) (f1 _))) (ifF (h1:=[o6]) (orF (ath (abe (uw (cj rfl) (iw _ _ _) i1) (a0x _))) (orF (abe (uw (cj rfl) (iw _ _ _) i2) (a0x _)) (tof (ig (cj rfl) (uw (cj rfl) (cj rfl) (f2 _)) (ahn rfl)))))),_,_,rfl,rfl⟩) ⟨none,none,rfl,rfl⟩
 refine ⟨h',?_⟩;unfold alr;rw [jq];show toR (akx lq SRC.ak jz SRC.jk SRC.jr (iz 5) gw gm [some (.scr (ns.map D.int)),none,none,none,none,none,none,none,none] [])=_;unfold akx;refine ag (af toR (jm (uv (cj rfl) es))) ?_;refine ag (af toR (jm (uv (cj rfl) (EVT.a8q e1)))) ?_;refine ag (af toR (jm (ax7 (cj rfl) (cj rfl) (iw _ _ _) (EVT.a8q e2)))) ?_;refine ag (af toR (jm (iw _ _ _))) ?_;refine ag (af toR (e3 _ _)) ?_;refine ag (af toR (jm (K76.auy (z:=S []) (iw _ _ _) (arg1 e5) jn))) ?_
 refine ag (af toR (jm (ax7 (cj rfl) (cj rfl) (cj rfl) (EVT.a8q e6)))) ?_;have t6':sA MI.wk (aj (sV 4) (aj (sV 6) (aj (sV 5) (aj (sC (.str "")) (aj (sV 4) (aj (sV 5) dq)))))) [some (.scr (ns.map D.int)),some (.ref 0),some (.str (S tg)),some (bkD tg rs),some (.str (S w)),some (.str (S ys)),some (.str (S b)),none,none] [o6] = .ok (.tup (ws.map nmD)) [o6]:=PAP.aof (PAP.j7 (cj rfl) (PAP.j7 (cj rfl) (PAP.j7 (cj rfl) (PAP.j7 (iw _ _ _) (PAP.j7 (cj rfl) (PAP.j7 (cj rfl) EVT.wj)))))) (by unfold MI.wk;rw [aA (dj (by simp))];rfl)
 refine ag (af toR (a4l (a66 t6' rfl))) ?_;refine ag (af (λz=>toR (MI.thn z _)) e7) ?_;rw [a1s];exact af toR (jy (iw _ _ _))
end K17
namespace L2
open PySem PySem.Spec PySem.W PyProof.Rows
end L2
namespace K17
open PySem PySem.Spec L2 MI
section
variable{P:Program}{w:World}{K:PySem.W.Frag}{mg:Str->Option Value}{base:Heap}{f:Addr}{fd:FuncData}
theorem d_2{f_2:Addr}{e_2:FuncData}(Fu_2:Fun K "ending_tree" "ending_tree" (top 4) f_2 e_2)(mk_2:mg "ending_tree" = some (.ref f_2))(kp_2:PySem.W.keepIn K (.ref f_2)=true)(bd_2:Binds K e_2 ["shape", "word"] [])(M:Nm mg){a_3:Addr}{d_3:FuncData}(D_3:Dn P w K mg base 3 "ends_from" ["shape", "rows", "word", "at"] (n8 K 4 (ENG.je)) a_3 d_3){a_0:Addr}{d_0:FuncData}(D_0:Dn P w K mg base 1 "inner" ["shape"] (n8 K 1 (ENG.ph)) a_0 d_0):∀ n:Nat,Dn P w K mg base (n+3) "ending_tree" ["shape", "word"] (n8 K 2 (ENG.ie n)) f_2 e_2:=by
 intro n
 induction n with
 | zero=>exact ⟨agc (ps:=["shape", "word"]),mk_2,kp_2,bd_2⟩
 | succ n ih =>
  have e:n+1+3=n+3+1:=by omega
  rw [e];have s_ending_tree:=ih;exact ⟨nj Fu_2 awz (m_2 M s_ending_tree (by omega) D_3 (by omega) D_0 (by omega)),mk_2,kp_2,bd_2⟩
theorem als{f_14:Addr}{e_14:FuncData}(Fu_14:Fun K "_law_weight" "_law_weight" (top 18) f_14 e_14)(mk_14:mg "_law_weight" = some (.ref f_14))(kp_14:PySem.W.keepIn K (.ref f_14)=true)(bd_14:Binds K e_14 ["_law_shape_here"] [])(M:Nm mg):∀ n:Nat,Dn P w K mg base (n+0) "_law_weight" ["_law_shape_here"] (n8 K 1 (DRW.di n)) f_14 e_14:=by
 intro n
 induction n with
 | zero=>exact ⟨agc (ps:=["_law_shape_here"]),mk_14,kp_14,bd_14⟩
 | succ n ih =>
  have e:n+1+0=n+0+1:=by omega
  rw [e];have s_law_weight:=ih;exact ⟨nj Fu_14 asw (ay8 M s_law_weight (by omega)),mk_14,kp_14,bd_14⟩
theorem au7{f_15:Addr}{e_15:FuncData}(Fu_15:Fun K "_law_shape" "_law_shape" (top 19) f_15 e_15)(mk_15:mg "_law_shape" = some (.ref f_15))(kp_15:PySem.W.keepIn K (.ref f_15)=true)(bd_15:Binds K e_15 ["_law_left", "_law_tongue_here", "_law_deep", "_law_purse", "_law_room"] [])(M:Nm mg){a_10:Addr}{d_10:FuncData}(D_10:Dn P w K mg base 1 "_law_draw" ["_law_left", "_law_many"] (n8 K 2 (SRC.ak)) a_10 d_10){a_13:Addr}{d_13:FuncData}(D_13:Dn P w K mg base 2 "_law_ones" ["_law_left", "_law_tongue_here"] (n8 K 2 (DRW.lz)) a_13 d_13){a_14:Addr}{als:FuncData}(D_14:Dn P w K mg base 5 "_law_weight" ["_law_shape_here"] (n8 K 1 (DRW.di 5)) a_14 als):∀ n:Nat,Dn P w K mg base (n+5) "_law_shape" ["_law_left", "_law_tongue_here", "_law_deep", "_law_purse", "_law_room"] (n8 K 5 (DRW.iu n)) f_15 e_15:=by
 intro n
 induction n with
 | zero=>exact ⟨agc (ps:=["_law_left", "_law_tongue_here", "_law_deep", "_law_purse", "_law_room"]),mk_15,kp_15,bd_15⟩
 | succ n ih =>
  have e:n+1+5=n+5+1:=by omega
  rw [e];have s_law_shape:=ih;exact ⟨nj Fu_15 asx (ay9 M D_10 (by omega) D_13 (by omega) s_law_shape (by omega) D_14 (by omega)),mk_15,kp_15,bd_15⟩
theorem au8{f_18:Addr}{e_18:FuncData}(Fu_18:Fun K "_law_reads" "_law_reads" (top 22) f_18 e_18)(mk_18:mg "_law_reads" = some (.ref f_18))(kp_18:PySem.W.keepIn K (.ref f_18)=true)(bd_18:Binds K e_18 ["_law_shape_here", "_law_word_here"] [])(M:Nm mg){a_20:Addr}{d_20:FuncData}(D_20:Dn P w K mg base 1 "_law_reads_either" ["_law_parts", "_law_places"] (n8 K 2 (DRW.bc)) a_20 d_20){a_21:Addr}{d_21:FuncData}(D_21:Dn P w K mg base 1 "_law_reads_from" ["_law_rows", "_law_here"] (n8 K 2 (DRW.bw)) a_21 d_21){a_19:Addr}{d_19:FuncData}(D_19:Dn P w K mg base 1 "_law_reads_often" ["_law_rows"] (n8 K 1 (DRW.bf)) a_19 d_19):∀ n:Nat,Dn P w K mg base (n+1) "_law_reads" ["_law_shape_here", "_law_word_here"] (n8 K 2 (DRW.bz n)) f_18 e_18:=by
 intro n
 induction n with
 | zero=>exact ⟨agc (ps:=["_law_shape_here", "_law_word_here"]),mk_18,kp_18,bd_18⟩
 | succ n ih =>
  have e:n+1+1=n+1+1:=by omega
  rw [e];have s_law_reads:=ih;exact ⟨nj Fu_18 at3 (ayc M s_law_reads (by omega) D_20 (by omega) D_21 (by omega) D_19 (by omega)),mk_18,kp_18,bd_18⟩
theorem au9{f_22:Addr}{e_22:FuncData}(Fu_22:Fun K "_law_word" "_law_word" (top 26) f_22 e_22)(mk_22:mg "_law_word" = some (.ref f_22))(kp_22:PySem.W.keepIn K (.ref f_22)=true)(bd_22:Binds K e_22 ["_law_left", "_law_shape_here"] [])(M:Nm mg){a_10:Addr}{d_10:FuncData}(D_10:Dn P w K mg base 1 "_law_draw" ["_law_left", "_law_many"] (n8 K 2 (SRC.ak)) a_10 d_10):∀ n:Nat,Dn P w K mg base (n+1) "_law_word" ["_law_left", "_law_shape_here"] (n8 K 2 (DRW.iz n)) f_22 e_22:=by
 intro n
 induction n with
 | zero=>exact ⟨agc (ps:=["_law_left", "_law_shape_here"]),mk_22,kp_22,bd_22⟩
 | succ n ih =>
  have e:n+1+1=n+1+1:=by omega
  rw [e];have s_law_word:=ih;exact ⟨nj Fu_22 at7 (ayg M D_10 (by omega) s_law_word (by omega)),mk_22,kp_22,bd_22⟩
end
def alu(K:PySem.W.Frag):Sp:=λvs H Q _=>∃ (a:Addr) (ns:List Int),vs=[.ref a]/\SqF K H a (ns.map V.int)/\ns.length<=63/\∀ H',Q (.bl true) H'
theorem yt{K:PySem.W.Frag}{ι:List Addr}{H:Hp}:∀ ns:List Int,Reps K ι H (ns.map V.int) (ns.map D.int)
 | []=>.nil
 | n::ns=>.cons (.int n) (yt ns)
theorem aua{K:PySem.W.Frag}(vs:List V)(H:Hp)(Q:VK)(E:XK)(h:alu K vs H Q E):n8 K 1 K17.alr vs H Q E:=by
 obtain ⟨a,ns,rfl,hS,hl,q⟩:=h;obtain ⟨h',e⟩:=K17.au6 ns;refine ⟨rfl,[],[.scr (ns.map D.int)],[], .cons (.scr hS (yt ns)) .nil,⟨dS,rfl,λi a o z=>by simp at z⟩,?_⟩
 rw [e]
 intro ι' H' b g r hr
 cases r
 exact q H'
theorem aub{K:PySem.W.Frag}{H:Hp}{a:Addr}{vs:List V}(hO:Only H)(hS:SqL K H a vs):SqF K H a vs:=by
 rcases hS with r | r
 ·rcases r with r | ⟨o,r⟩
  ·rcases hO a with z | ⟨o,xs,z⟩<;>rw [z] at r<;>cases r
  ·exact .inl ⟨o,r⟩
 ·exact .inr (.inr r)
abbrev fo(x:Str)(t:Stmt)(kV dc pm:Value)(an:Option Addr)(cd ct:Value):=PySem.W.fnOf x x (a3j t) (ji t) (bj t) .none kV dc pm an cd ct
def Df(K:PySem.W.Frag)(f:Addr)(nm:Str)(i:Nat):Prop:=∃ oc od kV dc pm an cd ct sl,PySem.W.nsIn K mainGlobals nm=some (some (.ref f))/\K.lookup f=some ⟨oc,od, .func (fo nm (top i) kV dc pm an cd ct),sl⟩/\PySem.W.codeIn K cd nm=true/\PySem.W.keepIn K (.ref f)=true
theorem df{K:PySem.W.Frag}{f:Addr}{nm:Str}{i:Nat}(d:Df K f nm i):∃ e,PySem.W.nsIn K mainGlobals nm=some (some (.ref f))/\Fun K nm nm (top i) f e:=by
 obtain ⟨_,_,_,_,_,_,_,_,_,a,l,c,k⟩:=d;exact ⟨_,a,ar0 l c k⟩
theorem auc{l:PySem.W.OpenLaw}{w:World}{K:PySem.W.Frag}{h:Heap}{mg:Str->Option Value}{fa f1 f2 f3 f4 f5 f6 f7 f8 f9 f10 f11 f12 f13 f14 f15 f16 f17 f18 f19 f20 f21 f22 f23 f24 f25 f26:Addr}(X:K.In h)(G:h.Ns mainGlobals mg)(hfa:mg "law" = some (.ref fa))
  (d1:Df K f1 "inner" 1)
  (d2:Df K f2 "takes" 3)
  (d3:Df K f3 "ending_tree" 4)
  (d4:Df K f4 "ends_from" 5)
  (d5:Df K f5 "stepped" 6)
  (d6:Df K f6 "ends_in_turn" 7)
  (d7:Df K f7 "ends_of_many" 8)
  (d8:Df K f8 "ends_of_times" 9)
  (d9:Df K f9 "kind_by_trying" 11)
  (d10:Df K f10 "_law_source" 13)
  (d11:Df K f11 "_law_draw" 14)
  (d12:Df K f12 "_law_signs" 15)
  (d13:Df K f13 "_law_tongue" 16)
  (d14:Df K f14 "_law_ones" 17)
  (d15:Df K f15 "_law_weight" 18)
  (d16:Df K f16 "_law_shape" 19)
  (d17:Df K f17 "_law_name" 20)
  (d18:Df K f18 "_law_book" 21)
  (d19:Df K f19 "_law_reads" 22)
  (d20:Df K f20 "_law_reads_often" 23)
  (d21:Df K f21 "_law_reads_either" 24)
  (d22:Df K f22 "_law_reads_from" 25)
  (d23:Df K f23 "_law_word" 26)
  (d24:Df K f24 "_law_word_bent" 27)
  (d25:Df K f25 "_law_kind" 28)
  (d26:Df K f26 "law" 29)
  (z1:PySem.W.nsIn K mainGlobals "abs" = some none) (z2:PySem.W.nsIn K mainGlobals "bool" = some none) (z3:PySem.W.nsIn K mainGlobals "enumerate" = some none) (z4:PySem.W.nsIn K mainGlobals "int" = some none) (z5:PySem.W.nsIn K mainGlobals "isinstance" = some none) (z6:PySem.W.nsIn K mainGlobals "len" = some none) (z7:PySem.W.nsIn K mainGlobals "list" = some none) (z8:PySem.W.nsIn K mainGlobals "max" = some none) (z9:PySem.W.nsIn K mainGlobals "range" = some none) (z10:PySem.W.nsIn K mainGlobals "set" = some none) (z11:PySem.W.nsIn K mainGlobals "sorted" = some none) (z12:PySem.W.nsIn K mainGlobals "sum" = some none) (z13:PySem.W.nsIn K mainGlobals "tuple" = some none)  :
  ∃ fd:FuncData,(∀ (s:Shared) (v:Value),BindsTo s fd ⟨[v],[]⟩ [("_law_script",v)])/\∀ base:Heap,K.In base->base.Ns mainGlobals mg->FnOk l.prog w K mg base CX0 12 fa fd ["_law_script"] (alu K):=by
 obtain ⟨_,a1,F1⟩:=df d1;have b1:=F1.binds (ps:=["shape"]) λ_ _ _ _ _ _ us hl=>match us,hl with | [_],_=>rfl
 obtain ⟨_,a2,F2⟩:=df d2;have b2:=F2.binds (ps:=["shape", "word"]) λ_ _ _ _ _ _ us hl=>match us,hl with | [_,_],_=>rfl
 obtain ⟨_,a3,F3⟩:=df d3;have b3:=F3.binds (ps:=["shape", "word"]) λ_ _ _ _ _ _ us hl=>match us,hl with | [_,_],_=>rfl
 obtain ⟨_,a4,F4⟩:=df d4;have b4:=F4.binds (ps:=["shape", "rows", "word", "at"]) λ_ _ _ _ _ _ us hl=>match us,hl with | [_,_,_,_],_=>rfl
 obtain ⟨_,a5,F5⟩:=df d5;have b5:=F5.binds (ps:=["row", "places"]) λ_ _ _ _ _ _ us hl=>match us,hl with | [_,_],_=>rfl
 obtain ⟨_,a6,F6⟩:=df d6;have b6:=F6.binds (ps:=["rows", "at"]) λ_ _ _ _ _ _ us hl=>match us,hl with | [_,_],_=>rfl
 obtain ⟨_,a7,F7⟩:=df d7;have b7:=F7.binds (ps:=["row", "at"]) λ_ _ _ _ _ _ us hl=>match us,hl with | [_,_],_=>rfl
 obtain ⟨_,a8,F8⟩:=df d8;have b8:=F8.binds (ps:=["row", "at", "low", "high"]) λ_ _ _ _ _ _ us hl=>match us,hl with | [_,_,_,_],_=>rfl
 obtain ⟨_,a9,F9⟩:=df d9;have b9:=F9.binds (ps:=["book", "word"]) λ_ _ _ _ _ _ us hl=>match us,hl with | [_,_],_=>rfl
 obtain ⟨_,a10,F10⟩:=df d10;have b10:=F10.binds (ps:=["_law_script"]) λ_ _ _ _ _ _ us hl=>match us,hl with | [_],_=>rfl
 obtain ⟨_,a11,F11⟩:=df d11;have b11:=F11.binds (ps:=["_law_left", "_law_many"]) λ_ _ _ _ _ _ us hl=>match us,hl with | [_,_],_=>rfl
 obtain ⟨_,a12,F12⟩:=df d12;have b12:=F12.binds (ps:=[]) λ_ _ _ _ _ _ us hl=>match us,hl with | [],_=>rfl
 obtain ⟨_,a13,F13⟩:=df d13;have b13:=F13.binds (ps:=["_law_left"]) λ_ _ _ _ _ _ us hl=>match us,hl with | [_],_=>rfl
 obtain ⟨_,a14,F14⟩:=df d14;have b14:=F14.binds (ps:=["_law_left", "_law_tongue_here"]) λ_ _ _ _ _ _ us hl=>match us,hl with | [_,_],_=>rfl
 obtain ⟨_,a15,F15⟩:=df d15;have b15:=F15.binds (ps:=["_law_shape_here"]) λ_ _ _ _ _ _ us hl=>match us,hl with | [_],_=>rfl
 obtain ⟨_,a16,F16⟩:=df d16;have b16:=F16.binds (ps:=["_law_left", "_law_tongue_here", "_law_deep", "_law_purse", "_law_room"]) λ_ _ _ _ _ _ us hl=>match us,hl with | [_,_,_,_,_],_=>rfl
 obtain ⟨_,a17,F17⟩:=df d17;have b17:=F17.binds (ps:=["_law_left", "_law_names"]) λ_ _ _ _ _ _ us hl=>match us,hl with | [_,_],_=>rfl
 obtain ⟨_,a18,F18⟩:=df d18;have b18:=F18.binds (ps:=["_law_left", "_law_tongue_here", "_law_purse"]) λ_ _ _ _ _ _ us hl=>match us,hl with | [_,_,_],_=>rfl
 obtain ⟨_,a19,F19⟩:=df d19;have b19:=F19.binds (ps:=["_law_shape_here", "_law_word_here"]) λ_ _ _ _ _ _ us hl=>match us,hl with | [_,_],_=>rfl
 obtain ⟨_,a20,F20⟩:=df d20;have b20:=F20.binds (ps:=["_law_rows"]) λ_ _ _ _ _ _ us hl=>match us,hl with | [_],_=>rfl
 obtain ⟨_,a21,F21⟩:=df d21;have b21:=F21.binds (ps:=["_law_parts", "_law_places"]) λ_ _ _ _ _ _ us hl=>match us,hl with | [_,_],_=>rfl
 obtain ⟨_,a22,F22⟩:=df d22;have b22:=F22.binds (ps:=["_law_rows", "_law_here"]) λ_ _ _ _ _ _ us hl=>match us,hl with | [_,_],_=>rfl
 obtain ⟨_,a23,F23⟩:=df d23;have b23:=F23.binds (ps:=["_law_left", "_law_shape_here"]) λ_ _ _ _ _ _ us hl=>match us,hl with | [_,_],_=>rfl
 obtain ⟨_,a24,F24⟩:=df d24;have b24:=F24.binds (ps:=["_law_left", "_law_word_here", "_law_tongue_here"]) λ_ _ _ _ _ _ us hl=>match us,hl with | [_,_,_],_=>rfl
 obtain ⟨_,a25,F25⟩:=df d25;have b25:=F25.binds (ps:=["_law_book_here", "_law_word_here"]) λ_ _ _ _ _ _ us hl=>match us,hl with | [_,_],_=>rfl
 obtain ⟨_,a26,F26⟩:=df d26;have e:=hfa.symm.trans (aU X G a26);cases e
 obtain ⟨oc,od,kV26,dc26,pm26,an26,cd26,ct26,sl,rfl,lk,hc⟩:=id F26.ex;have b26:=F26.binds (ps:=["_law_script"]) λ_ _ _ _ _ _ us hl=>match us,hl with | [_],_=>rfl
 have M:Nm mg:=⟨bB X G z1,bB X G z2,bB X G z3,bB X G z4,bB X G z5,bB X G z6,bB X G z7,bB X G z8,bB X G z9,bB X G z10,bB X G z11,bB X G z12,bB X G z13⟩;refine ⟨PySem.W.fnOf "law" "law" (a3j (top 29)) (ji (top 29)) (bj (top 29)) .none kV26 dc26 pm26 an26 cd26 ct26,λs v=>.of_eq rfl,λbase _ _=>?_⟩
 have D_0:Dn l.prog w K mg base 1 "inner" ["shape"] (n8 K 1 (ENG.ph)) _ _:=⟨nj F1 awx (m_0 ),aU X G a1,F1.kp,b1⟩;have D_4:Dn l.prog w K mg base 1 "stepped" ["row", "places"] (n8 K 2 (ENG.j9)) _ _:=⟨nj F5 ax1 (m_4 M),aU X G a5,F5.kp,b5⟩;have D_5:Dn l.prog w K mg base 2 "ends_in_turn" ["rows", "at"] (n8 K 2 (ENG.mj)) _ _:=⟨nj F6 ax2 (m_5 D_4 (by decide)),aU X G a6,F6.kp,b6⟩
 have D_6:Dn l.prog w K mg base 2 "ends_of_many" ["row", "at"] (n8 K 2 (ENG.mq)) _ _:=⟨nj F7 ax3 (m_6 M D_4 (by decide)),aU X G a7,F7.kp,b7⟩
 have D_7:Dn l.prog w K mg base 2 "ends_of_times" ["row", "at", "low", "high"] (n8 K 4 (ENG.m5)) _ _:=⟨nj F8 ax4 (m_7 M D_4 (by decide)),aU X G a8,F8.kp,b8⟩
 have D_3:Dn l.prog w K mg base 3 "ends_from" ["shape", "rows", "word", "at"] (n8 K 4 (ENG.je)) _ _:=⟨nj F4 ax0 (m_3 M D_5 (by decide) D_6 (by decide) D_7 (by decide)),aU X G a4,F4.kp,b4⟩
 have D_2:=d_2 (P:=l.prog) (w:=w) (base:=base) F3 (aU X G a3) F3.kp b3 M D_3 D_0 5;have D_1:Dn l.prog w K mg base 9 "takes" ["shape", "word"] (n8 K 2 (DRW.vf)) _ _:=⟨nj F2 awy (m_1 M D_2 (by decide)),aU X G a2,F2.kp,b2⟩
 have D_8:Dn l.prog w K mg base 10 "kind_by_trying" ["book", "word"] (n8 K 2 (K17.gm)) _ _:=⟨nj F9 ax5 (m_8 M D_1 (by decide)),aU X G a9,F9.kp,b9⟩
 have D_9:Dn l.prog w K mg base 1 "_law_source" ["_law_script"] (n8 K 1 (SRC.jk)) _ _:=⟨nj F10 ax6 (m_9 M),aU X G a10,F10.kp,b10⟩;have D_10:Dn l.prog w K mg base 1 "_law_draw" ["_law_left", "_law_many"] (n8 K 2 (SRC.ak)) _ _:=⟨nj F11 asr (ay4 M),aU X G a11,F11.kp,b11⟩;have D_11:Dn l.prog w K mg base 1 "_law_signs" [] (n8 K 0 (SRC.lu)) _ _:=⟨nj F12 ass (ay5 ),aU X G a12,F12.kp,b12⟩;have D_12:Dn l.prog w K mg base 2 "_law_tongue" ["_law_left"] (n8 K 1 (SRC.jr)) _ _:=⟨nj F13 asu (ay6 M D_10 (by decide) D_11 (by decide)),aU X G a13,F13.kp,b13⟩
 have D_13:Dn l.prog w K mg base 2 "_law_ones" ["_law_left", "_law_tongue_here"] (n8 K 2 (DRW.lz)) _ _:=⟨nj F14 asv (ay7 M D_10 (by decide)),aU X G a14,F14.kp,b14⟩
 have D_14:=als (P:=l.prog) (w:=w) (base:=base) F15 (aU X G a15) F15.kp b15 M 5;have D_15:=au7 (P:=l.prog) (w:=w) (base:=base) F16 (aU X G a16) F16.kp b16 M D_10 D_13 D_14 5;have D_16:Dn l.prog w K mg base 2 "_law_name" ["_law_left", "_law_names"] (n8 K 2 (DRW.m8)) _ _:=⟨nj F17 asy (aya M D_10 (by decide)),aU X G a17,F17.kp,b17⟩
 have D_17:Dn l.prog w K mg base 11 "_law_book" ["_law_left", "_law_tongue_here", "_law_purse"] (n8 K 3 (DRW.lq)) _ _:=⟨nj F18 asz (ayb M D_10 (by decide) D_16 (by decide) D_15 (by decide) D_14 (by decide)),aU X G a18,F18.kp,b18⟩
 have D_20:Dn l.prog w K mg base 1 "_law_reads_either" ["_law_parts", "_law_places"] (n8 K 2 (DRW.bc)) _ _:=⟨nj F21 at5 (aye M),aU X G a21,F21.kp,b21⟩;have D_21:Dn l.prog w K mg base 1 "_law_reads_from" ["_law_rows", "_law_here"] (n8 K 2 (DRW.bw)) _ _:=⟨nj F22 at6 (ayf ),aU X G a22,F22.kp,b22⟩;have D_19:Dn l.prog w K mg base 1 "_law_reads_often" ["_law_rows"] (n8 K 1 (DRW.bf)) _ _:=⟨nj F20 at4 (ayd M),aU X G a20,F20.kp,b20⟩;have D_18:=au8 (P:=l.prog) (w:=w) (base:=base) F19 (aU X G a19) F19.kp b19 M D_20 D_21 D_19 5
 have D_22:=au9 (P:=l.prog) (w:=w) (base:=base) F23 (aU X G a23) F23.kp b23 M D_10 5;have D_23:Dn l.prog w K mg base 2 "_law_word_bent" ["_law_left", "_law_word_here", "_law_tongue_here"] (n8 K 3 (DRW.gw)) _ _:=⟨nj F24 at8 (ayh M D_10 (by decide)),aU X G a24,F24.kp,b24⟩
 have D_24:Dn l.prog w K mg base 7 "_law_kind" ["_law_book_here", "_law_word_here"] (n8 K 2 (K17.jz)) _ _:=⟨nj F25 at9 (ayi M D_18 (by decide)),aU X G a25,F25.kp,b25⟩
 have D_25:Dn l.prog w K mg base 12 "law" ["_law_script"] (n8 K 1 (K17.alr)) _ _:=⟨nj F26 ata (ayj M D_17 (by decide) D_10 (by decide) D_24 (by decide) D_9 (by decide) D_12 (by decide) D_22 (by decide) D_23 (by decide) D_8 (by decide)),aU X G a26,F26.kp,b26⟩
 exact D_25.ok.imp aua
theorem walk{l:PySem.W.OpenLaw}{q:Program}{loose:List Str}{XP:(Str->Option Value)->Heap->Prop}{YP:World->Heap->Prop}{d:DefRec}{K:Params->PySem.W.Frag}(hn:l.most=some 63)(hdf:d.params.defaults=[])
  (hY:∀ (w:World) (h:Heap),YP w h->(K w.params).In h)
  (F:∀ (w:World) (mg:Str->Option Value) (fa:Addr) (h:Heap),(K w.params).In h->h.Ns mainGlobals mg->mg d.name=some (.ref fa)->
   ∃ fd:FuncData,(∀ (s:Shared) (u:Value),BindsTo s fd ⟨[u],[]⟩ [("_law_script",u)])/\∀ base:Heap,(K w.params).In base->base.Ns mainGlobals mg->FnOk l.prog w (K w.params) mg base CX0 12 fa fd ["_law_script"] (alu (K w.params))) :
  PySem.W.WalkO q loose XP YP l.row.toRowW d [] (λf vs=>PySem.call f vs) :=
 L2.anl (n:=63) (k:=12) (x := "_law_script") (CX:=λ_=>CX0) (sp:=λw=>alu (K w.params)) hn (by decide) hdf ⟨rfl,by decide,by decide,rfl⟩ hY F (λ_ _ a ns hl hO hS=>⟨a,ns,rfl,aub hO hS,hl,λ_=>rfl⟩) λ_ _ _ _ _ z=>z
end K17
open PySem PySem.W PyProof.Rows
theorem K17.said:PySem.Challenge.rw_nearreach_k17_kinds_by_trying.wellSaid=true:=by kernel_rfl
noncomputable def K17.hq:Program:=view PySem.Challenge.pw_nearreach_k17_kinds_by_trying [PySem.Challenge.pw_nearreach_k17_kinds_by_trying.main.body.length - 1]
noncomputable def K17.hl:List Str:=PySem.Challenge.pw_nearreach_k17_kinds_by_trying.boundNames
local macro_rules | `(tactic| o_head $H) => `(tactic| refine PySem.W.holds_open (q:=K17.hq) (loose:=K17.hl) (Xt:=fun _=>true) (XP:=fun _ _=>True) (Yf:=Hook.obs $H) (Ya:=Hook.val $H) (YP:=Hook.says $H) (N:=20000) ?hl (Hook.of $H) (Hook.keeps $H) (fun _ _=>trivial) (fun _ _ _ _ _=>trivial) (by rfl) (by rfl) (by rfl) (fun _ _=>recFacts_nil rfl) (by rfl) (by assumption) (by decide +kernel) ⟨rfl,rfl,rfl,rfl,rfl,by decide +kernel⟩ ?hw ?hc)
set_option maxRecDepth 100000 in
set_option maxHeartbeats 0 in
theorem PySem.Challenge.cw_nearreach_k17_kinds_by_trying_holds : PySem.Challenge.rw_nearreach_k17_kinds_by_trying.Holds := by
 w_on;refine holds_law K17.said fun said=>?_;k_head
 (case hw=>w_witness2)
 (case hl=>intro w;kernel_rfl)
 k_fill
 refine K17.walk (l:=PySem.Challenge.rw_nearreach_k17_kinds_by_trying) rfl rfl (fun w h Y=>PySem.W.kIn_of Y) ?F
 case F =>
  intro w mg fa h KX G hmg
  refine' K17.auc KX G hmg ?_ ?_ ?_ ?_ ?_ ?_ ?_ ?_ ?_ ?_ ?_ ?_ ?_ ?_ ?_ ?_ ?_ ?_ ?_ ?_ ?_ ?_ ?_ ?_ ?_ ?_ ?_ ?_ ?_ ?_ ?_ ?_ ?_ ?_ ?_ ?_ ?_ ?_ ?_
  all_goals first | k_is | exact ⟨_,_,_,_,_,_,_,_,_,by k_is,by k_is,by k_is,by k_is⟩ | skip
